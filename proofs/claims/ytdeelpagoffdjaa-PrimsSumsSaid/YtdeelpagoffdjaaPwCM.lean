/- What is made is right: plain. -/
import Derived.Test.YtdeelpagoffdjaaPrMs

namespace Go.Proofs.Ytdeelpagoffdjaa.Dat
open Go.RowKit
open NumPlain
set_option linter.unusedVariables false

/-- What is told of an end: it is no bad count, and with Done the datum is right. -/
def GoodR (r : Dt × Int) : Prop := r.2 ≠ 2 ∧ (r.2 = 0 → rightD r.1 = true)
theorem good_num {x : Int × Int × Int} (h : okEnd x) : GoodR (numR x) := by
  obtain ⟨a, b, c⟩ := x
  rcases h with ⟨h, h2⟩ | h | h
  · have h : c = 0 := h
    subst h
    exact ⟨by show (0 : Int) ≠ 2; omega, fun _ => num_right h2⟩
  · have h : c = 3 := h
    subst h
    exact ⟨by show (3 : Int) ≠ 2; omega, fun h => by have h : (3 : Int) = 0 := h; omega⟩
  · have h : c = 4 := h
    subst h
    exact ⟨by show (4 : Int) ≠ 2; omega, fun h => by have h : (4 : Int) = 0 := h; omega⟩
theorem good_done {t : Dt} (h : rightD t = true) : GoodR (t, 0) := ⟨by show (0 : Int) ≠ 2; omega, fun _ => h⟩
theorem good_range : GoodR (zeroD, 3) := ⟨by show (3 : Int) ≠ 2; omega, fun h => by have h : (3 : Int) = 0 := h; omega⟩
theorem good_type : GoodR (zeroD, 1) := ⟨by show (1 : Int) ≠ 2; omega, fun h => by have h : (1 : Int) = 0 := h; omega⟩
theorem fst_is {l : List Dt} (h : 1 ≤ l.length) : l[0]? = some (fst l) := by
  match l with
  | [] => simp at h
  | t :: r => rfl
theorem snd_is {l : List Dt} (h : 2 ≤ l.length) : l[1]? = some (snd l) := by
  match l with
  | [] => simp at h
  | [t] => simp at h
  | t :: u :: r => rfl
theorem least_of {n : Int} {l : List Dt} (f : Fc) (hf : factOf n = some f) (h : takesB n l.length = true) : f.least ≤ (l.length : Int) := by
  unfold takesB at h
  rw [hf] at h
  simp only [Bool.and_eq_true, decide_eq_true_eq] at h
  exact h.1
theorem made_good {n : Int} {l : List Dt} (hn : foldsB n = true) (hr : Dt.rightAll rightB nameB l 0 = true) (hsz : Dt.sizes l ≤ 90000) (htk : takesB n l.length = true) (hf : fitB n l = true) : GoodR (madeB n l) := by
  have one : ∀ {m : Int}, takesB m l.length = true → (m = 18 ∨ m = 19 ∨ m = 22 ∨ m = 23 ∨ m = 24) → 1 ≤ l.length := by
    intro m hm hc
    rcases hc with rfl | rfl | rfl | rfl | rfl
    · have := least_of (n := 18) ⟨_, 1, 1, true, true⟩ rfl hm; simp only at this; omega
    · have := least_of (n := 19) ⟨_, 1, 1, true, true⟩ rfl hm; simp only at this; omega
    · have := least_of (n := 22) ⟨_, 2, 2, true, true⟩ rfl hm; simp only at this; omega
    · have := least_of (n := 23) ⟨_, 1, 1, true, true⟩ rfl hm; simp only at this; omega
    · have := least_of (n := 24) ⟨_, 1, 1, true, true⟩ rfl hm; simp only at this; omega
  have hfr : 1 ≤ l.length → rightD (fst l) = true ∧ (fst l).size ≤ 90000 := fun h => ⟨mem_right hr (fst_is h), by have := Dt.size_kid (fst_is h); omega⟩
  unfold madeB
  by_cases c1 : n ≤ 3
  · rw [if_pos c1]; exact good_num (sum_okEnd n l)
  rw [if_neg c1]
  by_cases c2 : n = 4
  · rw [if_pos c2]; exact good_done (bool_right _)
  rw [if_neg c2]
  by_cases c3 : n = 5
  · rw [if_pos c3]; exact good_done (bool_right _)
  rw [if_neg c3]
  by_cases c4 : n = 6
  · rw [if_pos c4]; exact good_done (bool_right _)
  rw [if_neg c4]
  by_cases c5 : n = 7
  · rw [if_pos c5]
    unfold equalR
    split
    · exact good_range
    · exact good_done (bool_right _)
  rw [if_neg c5]
  by_cases c6 : n = 8
  · rw [if_pos c6]; exact good_done (bool_right _)
  rw [if_neg c6]
  by_cases c7 : n ≤ 16
  · rw [if_pos c7]; exact good_done (bool_right _)
  rw [if_neg c7]
  by_cases h1 : n = 18
  · subst h1
    rw [if_pos rfl]
    obtain ⟨q1, q2⟩ := hfr (one htk (by omega))
    obtain ⟨x, y, hxy⟩ := pair_parts q1 (of_decide_eq_true hf)
    rw [hxy]
    exact good_done (part_right q1 (i := 0) (x := x) (by rw [hxy]; rfl))
  rw [if_neg h1]
  by_cases h2 : n = 19
  · subst h2
    rw [if_pos rfl]
    obtain ⟨q1, q2⟩ := hfr (one htk (by omega))
    obtain ⟨x, y, hxy⟩ := pair_parts q1 (of_decide_eq_true hf)
    rw [hxy]
    exact good_done (part_right q1 (i := 1) (x := y) (by rw [hxy]; rfl))
  rw [if_neg h2]
  by_cases h3 : n = 22
  · subst h3
    rw [if_pos rfl]
    obtain ⟨q1, q2⟩ := hfr (one htk (by omega))
    unfold atB
    split
    · exact good_range
    · rename_i hc
      have hlt : (snd l).nm.toNat < (fst l).ls.length := by omega
      obtain ⟨x, hx⟩ : ∃ x, (fst l).ls[(snd l).nm.toNat]? = some x := ⟨_, List.getElem?_eq_getElem hlt⟩
      rw [hx]
      exact good_done (part_right q1 hx)
  rw [if_neg h3]
  by_cases h4 : n = 23
  · subst h4
    rw [if_pos rfl]
    obtain ⟨q1, q2⟩ := hfr (one htk (by omega))
    refine good_done (num_right (len_right ?_))
    obtain ⟨t, ht⟩ : ∃ t, fst l = t := ⟨_, rfl⟩
    rw [ht] at q2 ⊢
    obtain ⟨k, n, d, s, ls⟩ := t
    have := Dt.sizes_len ls
    unfold Dt.size at q2
    show ls.length ≤ 100000
    omega
  rw [if_neg h4]
  by_cases h5 : n = 24
  · subst h5
    rw [if_pos rfl]
    obtain ⟨q1, q2⟩ := hfr (one htk (by omega))
    have hs : (fst l).items.isSome = true := hf
    obtain ⟨L, hL⟩ := Option.isSome_iff_exists.1 hs
    have hlen := items_len _ hL
    rw [hL]
    exact good_done (num_right (len_right (by show L.length ≤ 100000; omega)))
  rw [if_neg h5]
  exact good_done void_right
/-- What Fold tells, of data that lie not deep. -/
theorem fold_good (n : Int) (l : List Dt) (hsz : Dt.sizes l ≤ 90000) :
    ((foldB nameB n l).2.2 = false ∧ (foldB nameB n l).2.1 = 0 ∧ (foldsB n = false ∨ Dt.rightAll rightB nameB l 0 = false)) ∨
    ((foldB nameB n l).2.2 = true ∧ takesB n l.length = false ∧ (foldB nameB n l).2.1 = 2) ∨
    ((foldB nameB n l).2.2 = true ∧ takesB n l.length = true ∧ (foldB nameB n l).2.1 ≠ 2 ∧ ((foldB nameB n l).2.1 = 0 → rightD (foldB nameB n l).1 = true)) := by
  unfold foldB
  by_cases h : foldsB n = true ∧ Dt.rightAll rightB nameB l 0 = true
  · rw [if_pos h]
    cases htk : takesB n l.length
    · rw [does_count htk]
      exact Or.inr (Or.inl ⟨rfl, rfl, rfl⟩)
    · refine Or.inr (Or.inr ⟨rfl, rfl, ?_⟩)
      cases hf : fitB n l
      · rw [does_fit htk hf]
        exact good_type
      · rw [does_made htk hf]
        exact made_good h.1 h.2 hsz htk hf
  · rw [if_neg h]
    refine Or.inl ⟨rfl, rfl, ?_⟩
    cases h1 : foldsB n
    · exact Or.inl rfl
    · refine Or.inr ?_
      cases h2 : Dt.rightAll rightB nameB l 0
      · rfl
      · exact absurd ⟨h1, h2⟩ h
end Go.Proofs.Ytdeelpagoffdjaa.Dat
