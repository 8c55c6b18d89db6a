/- Primitives, plain: what the laws ask of what is made. -/
import Derived.Test.YtdeelpagoffdjaaPrAM
import Derived.Test.YtdeelpagoffdjaaDatPz

namespace Go.Proofs.Ytdeelpagoffdjaa.Dat
open Go.RowKit
open Go.Proofs.Ytdeelpagoffdjaa (addF subF mulF divF lessF)
open NumPlain
set_option linter.unusedVariables false

/-! ### What is known -/
theorem factOf_some {n : Int} {f : Fc} (h : factOf n = some f) : ∃ i : Nat, i < 31 ∧ n = (i : Int) ∧ table[i]? = some f := by
  unfold factOf at h
  split at h
  · rename_i hb
    refine ⟨n.toNat, by omega, by omega, h⟩
  · cases h
theorem factOf_none {n : Int} : factOf n = none ↔ n < 0 ∨ 30 < n := by
  unfold factOf
  split
  · rename_i hb
    constructor
    · intro h
      have : table.length ≤ n.toNat := by simpa using h
      rw [table_len] at this; omega
    · intro h; omega
  · rename_i hb
    constructor
    · intro _; omega
    · intro _; rfl
theorem factOf_nat {i : Nat} (h : i < 31) : factOf (i : Int) = table[i]? := by
  unfold factOf; rw [if_pos (by omega)]; simp
def nameChk : Bool := (List.range 31).all fun i => match table[i]? with
  | none => false
  | some f => decide (findB f.name = ((i : Int), true)) && (!f.folds || f.pure) && decide (0 ≤ f.least) && (decide (f.most = -1) || decide (f.least ≤ f.most)) && (List.range 31).all fun j => match table[j]? with
    | none => false
    | some g => decide (i = j) || !decide (f.name = g.name)
theorem nameChk_true : nameChk = true := by decide +kernel
theorem names_plain {n : Int} {f : Fc} (h : factOf n = some f) : findB f.name = (n, true) ∧ (!f.folds || f.pure) = true ∧ 0 ≤ f.least ∧ (f.most = -1 ∨ f.least ≤ f.most) ∧ ∀ (m : Int) (g : Fc), factOf m = some g → n = m ∨ f.name ≠ g.name := by
  obtain ⟨i, hi, rfl, ht⟩ := factOf_some h
  have hc := List.all_eq_true.1 nameChk_true i (List.mem_range.2 hi)
  rw [ht] at hc
  simp only [Bool.and_eq_true, decide_eq_true_eq, Bool.or_eq_true] at hc
  obtain ⟨⟨⟨⟨h1, h2⟩, h3⟩, h4⟩, h5⟩ := hc
  refine ⟨h1, by simpa using h2, h3, h4, fun m g hm => ?_⟩
  obtain ⟨j, hj, rfl, hu⟩ := factOf_some hm
  have := List.all_eq_true.1 h5 j (List.mem_range.2 hj)
  rw [hu] at this
  simp only [Bool.or_eq_true, decide_eq_true_eq, Bool.not_eq_true', decide_eq_false_iff_not] at this
  rcases this with h | h
  · exact Or.inl (by rw [h])
  · exact Or.inr h

/-! ### Ends -/
def okEnd (x : Int × Int × Int) : Prop := (x.2.2 = 0 ∧ rightB x.1 x.2.1 = true) ∨ x.2.2 = 3 ∨ x.2.2 = 4
theorem mk_okEnd (n d : Int) : okEnd (mk n d) := by
  unfold mk okEnd
  by_cases hd : d = 0
  · rw [if_pos hd]; right; right; rfl
  · rw [if_neg hd]
    cases hf : fits (Rat.divInt n d)
    · rw [fin_no hf]; right; left; rfl
    · rw [fin_yes hf]; left; exact ⟨rfl, right_of_fits hf⟩
theorem step_okEnd (k n d m e : Int) : okEnd (stepF k n d m e) := by
  unfold stepF
  split
  · unfold addF; split
    · exact mk_okEnd _ _
    · right; left; rfl
  split
  · unfold subF; split
    · exact mk_okEnd _ _
    · right; left; rfl
  split
  · unfold mulF; split
    · exact mk_okEnd _ _
    · right; left; rfl
  · unfold divF; split
    · exact mk_okEnd _ _
    · right; left; rfl
theorem thr_okEnd (k : Int) : ∀ (l : List Dt) (a b : Int), (l ≠ [] ∨ rightB a b = true) → okEnd (thr (stepF k) a b l)
  | [], a, b, h => by
    rcases h with h | h
    · exact absurd rfl h
    · exact Or.inl ⟨rfl, h⟩
  | t :: r, a, b, h => by
    have hs := step_okEnd k a b t.nm t.dn
    unfold thr
    split
    · rename_i h0
      rcases hs with hs | hs | hs
      · exact thr_okEnd k r _ _ (Or.inr hs.2)
      · omega
      · omega
    · rename_i h0
      rcases hs with hs | hs | hs
      · omega
      · right; left; exact hs
      · right; right; exact hs
theorem sum_okEnd (n : Int) (l : List Dt) : okEnd (sumB n l) := by
  have hu : rightB (unit n) 1 = true := by
    unfold unit; split <;> decide +kernel
  unfold sumB
  split
  · split
    · exact thr_okEnd n _ _ _ (Or.inr hu)
    · exact thr_okEnd n _ _ _ (Or.inr hu)
    · exact thr_okEnd n _ _ _ (Or.inl (by simp))
  · exact thr_okEnd n _ _ _ (Or.inr hu)
/-! ### Right -/
variable {Nm : ByteArray → Bool}
theorem mem_right {R : Int → Int → Bool} {deep : Nat} : ∀ {l : List Dt}, Dt.rightAll R Nm l deep = true → ∀ {i : Nat} {x : Dt}, l[i]? = some x → x.right R Nm deep = true
  | t :: r, h, 0, x, hx => by
    unfold Dt.rightAll at h
    simp at hx; subst hx
    exact (Bool.and_eq_true_iff.1 h).1
  | t :: r, h, i + 1, x, hx => by
    unfold Dt.rightAll at h
    exact mem_right (Bool.and_eq_true_iff.1 h).2 (i := i) (by simpa using hx)
mutual
theorem right_up {R : Int → Int → Bool} : ∀ (t : Dt) (deep : Nat), t.right R Nm (deep + 1) = true → t.right R Nm deep = true
  | .node k n d s l, deep, h => by
    unfold Dt.right at h ⊢
    simp only [Bool.and_eq_true, decide_eq_true_eq] at h ⊢
    exact ⟨⟨by omega, h.1.2⟩, right_upAll l _ h.2⟩
theorem right_upAll {R : Int → Int → Bool} : ∀ (l : List Dt) (deep : Nat), Dt.rightAll R Nm l (deep + 1) = true → Dt.rightAll R Nm l deep = true
  | [], _, _ => rfl
  | t :: r, deep, h => by
    unfold Dt.rightAll at h ⊢
    simp only [Bool.and_eq_true] at h ⊢
    exact ⟨right_up t deep h.1, right_upAll r deep h.2⟩
end
theorem part_right {t : Dt} (h : t.right rightB Nm 0 = true) {i : Nat} {x : Dt} (hx : t.ls[i]? = some x) : x.right rightB Nm 0 = true := by
  obtain ⟨k, n, d, s, l⟩ := t
  unfold Dt.right at h
  simp only [Bool.and_eq_true] at h
  exact right_up _ _ (mem_right h.2 hx)
theorem bool_right (b : Bool) : (boolD b).right rightB Nm 0 = true := by
  cases b <;> rfl
theorem void_right : voidD.right rightB Nm 0 = true := rfl
theorem num_right {n d : Int} (h : rightB n d = true) : (numD n d).right rightB Nm 0 = true := by
  unfold numD Dt.right Dt.rightAll headRight
  simp [h]
  rfl
theorem len_right {n : Nat} (h : n ≤ 100000) : rightB (n : Int) 1 = true := by
  unfold rightB
  simp
  omega
theorem pair_len {t : Dt} (h : t.right rightB Nm 0 = true) (hk : t.kd = 6) : t.ls.length = 2 := by
  obtain ⟨k, n, d, s, l⟩ := t
  have hk' : k = 6 := hk
  subst hk'
  unfold Dt.right headRight at h
  simp only [Bool.and_eq_true, decide_eq_true_eq] at h
  have := h.1.2.2
  rw [if_pos trivial] at this
  exact of_decide_eq_true this
theorem items_len_ : True := trivial
end Go.Proofs.Ytdeelpagoffdjaa.Dat
