/- A datum as it lies in memory: a tree. -/
import Derived.Test.YtdeelpagoffdjaaProg
import Derived.WalkKit
import Derived.Lib.Hide
namespace Go.Proofs.Ytdeelpagoffdjaa.Dat
open Go.RowKit

def I64 (n : Int) : Prop := -9223372036854775808 ≤ n ∧ n ≤ 9223372036854775807

/-- A datum: its kind, its number, its text, its parts. -/
inductive Dt where
  | node (k n d : Int) (s : ByteArray) (l : List Dt)

mutual
/-- The datum lies in the world as this value. -/
def Dt.At (w : World) : Dt → Value → Prop
  | .node k n d s l, v => I64 k ∧ I64 n ∧ I64 d ∧ s.size ≤ maxLen ∧ l.length ≤ maxLen ∧
      ∃ p cap, v = .agg #[.int .i64 k, .int .i64 n, .int .i64 d, .string s, .slice p l.length cap] ∧ (l = [] ∨ ∃ b o, p = some ⟨b, o, none⟩ ∧ Dt.AllAt w l b o)
/-- The data lie one behind another from here on. -/
def Dt.AllAt (w : World) : List Dt → Nat → Nat → Prop
  | [], _, _ => True
  | t :: r, b, o => (∃ v0 v1 v2 v3 v4, w.cell? ⟨b, o, none⟩ = some v0 ∧ w.cell? ⟨b, o + 1, none⟩ = some v1 ∧ w.cell? ⟨b, o + 2, none⟩ = some v2 ∧ w.cell? ⟨b, o + 3, none⟩ = some v3 ∧ w.cell? ⟨b, o + 4, none⟩ = some v4 ∧ Dt.At w t (.agg #[v0, v1, v2, v3, v4])) ∧ Dt.AllAt w r b (o + 5)
end

mutual
theorem Dt.At.on {w w' : World} (hc : ∀ b o v, w.cell? ⟨b, o, none⟩ = some v → w'.cell? ⟨b, o, none⟩ = some v) : ∀ {t : Dt} {v : Value}, t.At w v → t.At w' v
  | .node k n d s l, v, h => by
    unfold Dt.At at h ⊢
    obtain ⟨h1, h2, h3, h4, h5, p, cap, hv, hl⟩ := h
    refine ⟨h1, h2, h3, h4, h5, p, cap, hv, ?_⟩
    rcases hl with hl | ⟨b, o, hp, hl⟩
    · exact Or.inl hl
    · exact Or.inr ⟨b, o, hp, Dt.AllAt.on hc hl⟩
theorem Dt.AllAt.on {w w' : World} (hc : ∀ b o v, w.cell? ⟨b, o, none⟩ = some v → w'.cell? ⟨b, o, none⟩ = some v) : ∀ {l : List Dt} {b o : Nat}, Dt.AllAt w l b o → Dt.AllAt w' l b o
  | [], _, _, _ => trivial
  | t :: r, b, o, h => by
    unfold Dt.AllAt at h ⊢
    obtain ⟨⟨v0, v1, v2, v3, v4, c0, c1, c2, c3, c4, ht⟩, hr⟩ := h
    exact ⟨⟨v0, v1, v2, v3, v4, hc _ _ _ c0, hc _ _ _ c1, hc _ _ _ c2, hc _ _ _ c3, hc _ _ _ c4, Dt.At.on hc ht⟩, Dt.AllAt.on hc hr⟩
end

theorem Dt.AllAt.kid {w : World} : ∀ {l : List Dt} {b o : Nat}, Dt.AllAt w l b o → ∀ {i : Nat} {t : Dt}, l[i]? = some t →
    ∃ v0 v1 v2 v3 v4, w.cell? ⟨b, o + i * 5, none⟩ = some v0 ∧ w.cell? ⟨b, o + i * 5 + 1, none⟩ = some v1 ∧ w.cell? ⟨b, o + i * 5 + 2, none⟩ = some v2 ∧ w.cell? ⟨b, o + i * 5 + 3, none⟩ = some v3 ∧ w.cell? ⟨b, o + i * 5 + 4, none⟩ = some v4 ∧ t.At w (.agg #[v0, v1, v2, v3, v4])
  | [], _, _, _, i, t, h => by simp at h
  | x :: r, b, o, ha, 0, t, h => by
    unfold Dt.AllAt at ha
    simp at h; subst h
    simpa using ha.1
  | x :: r, b, o, ha, i + 1, t, h => by
    unfold Dt.AllAt at ha
    have := Dt.AllAt.kid ha.2 (i := i) (t := t) (by simpa using h)
    rw [show o + (i + 1) * 5 = o + 5 + i * 5 from by omega]
    exact this
theorem Dt.At.below {w w' : World} (hb : Below w.heap.size w w') {t : Dt} {v : Value} (h : t.At w v) : t.At w' v :=
  h.on fun b o v hv => by
    have hlt : b < w.heap.size := by
      unfold World.cell? at hv
      cases hg : w.heap[b]? with
      | none => rw [hg] at hv; simp at hv
      | some o => exact (Array.getElem?_eq_some_iff.1 hg).1
    rw [hb.cell (p := ⟨b, o, none⟩) hlt]; exact hv

/-- What the world below holds it holds on. -/
theorem cell_on {w w' : World} (hb : Below w.heap.size w w') (b o : Nat) (v : Value) (hv : w.cell? ⟨b, o, none⟩ = some v) : w'.cell? ⟨b, o, none⟩ = some v := by
  have hlt : b < w.heap.size := by
    unfold World.cell? at hv
    cases hg : w.heap[b]? with
    | none => rw [hg] at hv; simp at hv
    | some o => exact (Array.getElem?_eq_some_iff.1 hg).1
  rw [hb.cell (p := ⟨b, o, none⟩) hlt]; exact hv
theorem Dt.At.drew {w : World} {t : Dt} {v : Value} (h : t.At w v) : t.At w.drew v := Dt.At.on (w := w) (w' := w.drew) (fun _ _ _ h => h) h
/-! ### How many data there are in one -/
mutual
def Dt.size : Dt → Nat
  | .node _ _ _ _ l => Dt.sizes l + 1
def Dt.sizes : List Dt → Nat
  | [] => 0
  | t :: r => t.size + Dt.sizes r
end
theorem Dt.size_pos (t : Dt) : 1 ≤ t.size := by cases t; unfold Dt.size; omega
theorem Dt.size_kid {l : List Dt} {i : Nat} {t : Dt} (h : l[i]? = some t) : t.size ≤ Dt.sizes l := by
  induction l generalizing i with
  | nil => simp at h
  | cons x r ih =>
    unfold Dt.sizes
    cases i with
    | zero => simp at h; subst h; omega
    | succ i => have := ih (i := i) (by simpa using h); omega

mutual
/-- How many of so many are left when one is counted. -/
def Dt.few : Dt → Int → Int
  | .node _ _ _ _ l, left => Dt.fewAll l (left - 1)
def Dt.fewAll : List Dt → Int → Int
  | [], left => left
  | t :: r, left => if 0 ≤ left then Dt.fewAll r (t.few left) else left
end
mutual
theorem Dt.few_bounds : ∀ (t : Dt) (left : Int), 0 ≤ left → -1 ≤ t.few left ∧ t.few left ≤ left
  | .node _ _ _ _ l, left, h => by
    unfold Dt.few
    have := Dt.fewAll_bounds l (left - 1) (by omega); omega
theorem Dt.fewAll_bounds : ∀ (l : List Dt) (left : Int), -1 ≤ left → -1 ≤ Dt.fewAll l left ∧ Dt.fewAll l left ≤ left
  | [], left, h => by unfold Dt.fewAll; omega
  | t :: r, left, h => by
    unfold Dt.fewAll
    split
    · rename_i h0
      have h1 := Dt.few_bounds t left h0
      have h2 := Dt.fewAll_bounds r (t.few left) h1.1
      omega
    · omega
end
theorem Dt.drop_at {l : List Dt} {i : Nat} {t : Dt} (h : l[i]? = some t) : l.drop i = t :: l.drop (i + 1) := by
  obtain ⟨hi, ht⟩ := List.getElem?_eq_some_iff.1 h
  rw [List.drop_eq_getElem_cons hi, ht]
theorem Dt.fewAll_step {l : List Dt} {i : Nat} {t : Dt} {c : Int} (h : l[i]? = some t) (h0 : 0 ≤ c) : Dt.fewAll (l.drop i) c = Dt.fewAll (l.drop (i + 1)) (t.few c) := by
  rw [Dt.drop_at h]; conv => lhs; unfold Dt.fewAll
  rw [if_pos h0]
theorem Dt.fewAll_stop {l : List Dt} {i : Nat} {c : Int} (h : l.length ≤ i ∨ c < 0) : Dt.fewAll (l.drop i) c = c := by
  rcases h with h | h
  · rw [List.drop_of_length_le h]; rfl
  · cases l.drop i with
    | nil => rfl
    | cons t r => unfold Dt.fewAll; rw [if_neg (by omega)]
/-! ### Alike, part by part -/
mutual
def Dt.alike : Dt → Dt → Bool
  | .node k n d s l, .node k' n' d' s' l' => decide (k = k') && decide (n = n') && decide (d = d') && decide (s = s') && Dt.alikeAll l l'
def Dt.alikeAll : List Dt → List Dt → Bool
  | [], [] => true
  | t :: r, t' :: r' => t.alike t' && Dt.alikeAll r r'
  | _, _ => false
end
theorem Dt.alikeAll_len : ∀ {l l' : List Dt}, Dt.alikeAll l l' = true → l.length = l'.length
  | [], [], _ => rfl
  | [], t :: r, h => by unfold Dt.alikeAll at h; cases h
  | t :: r, [], h => by unfold Dt.alikeAll at h; cases h
  | t :: r, t' :: r', h => by
    unfold Dt.alikeAll at h
    rw [Bool.and_eq_true] at h
    simp [Dt.alikeAll_len h.2]
theorem Dt.alikeAll_step {l l' : List Dt} {i : Nat} {t t' : Dt} (h : l[i]? = some t) (h' : l'[i]? = some t') : Dt.alikeAll (l.drop i) (l'.drop i) = (t.alike t' && Dt.alikeAll (l.drop (i + 1)) (l'.drop (i + 1))) := by
  rw [Dt.drop_at h, Dt.drop_at h']; conv => lhs; unfold Dt.alikeAll
theorem Dt.alikeAll_stop {l l' : List Dt} {i : Nat} (h : l.length ≤ i) (h' : l'.length ≤ i) : Dt.alikeAll (l.drop i) (l'.drop i) = true := by
  rw [List.drop_of_length_le h, List.drop_of_length_le h']; rfl
/-! ### Size, which counts nothing beyond a depth of 1000 -/
mutual
def Dt.count : Dt → Nat → Nat
  | .node _ _ _ _ l, deep => Dt.countAll l deep + 1
def Dt.countAll : List Dt → Nat → Nat
  | [], _ => 0
  | t :: r, deep => if deep < 1000 then t.count (deep + 1) + Dt.countAll r deep else 0
end
mutual
theorem Dt.count_le : ∀ (t : Dt) (deep : Nat), t.count deep ≤ t.size
  | .node _ _ _ _ l, deep => by
    unfold Dt.count Dt.size
    have := Dt.countAll_le l deep; omega
theorem Dt.countAll_le : ∀ (l : List Dt) (deep : Nat), Dt.countAll l deep ≤ Dt.sizes l
  | [], _ => by unfold Dt.countAll; omega
  | t :: r, deep => by
    unfold Dt.countAll Dt.sizes
    have h1 := Dt.count_le t (deep + 1)
    have h2 := Dt.countAll_le r deep
    split <;> omega
end
theorem Dt.countAll_step {l : List Dt} {i : Nat} {t : Dt} {deep : Nat} (h : l[i]? = some t) (h0 : deep < 1000) : Dt.countAll (l.drop i) deep = t.count (deep + 1) + Dt.countAll (l.drop (i + 1)) deep := by
  rw [Dt.drop_at h]; conv => lhs; unfold Dt.countAll
  rw [if_pos h0]
theorem Dt.countAll_stop {l : List Dt} {i : Nat} {deep : Nat} (h : l.length ≤ i ∨ 1000 ≤ deep) : Dt.countAll (l.drop i) deep = 0 := by
  rcases h with h | h
  · rw [List.drop_of_length_le h]; rfl
  · cases l.drop i with
    | nil => rfl
    | cons t r => unfold Dt.countAll; rw [if_neg (by omega)]
end Go.Proofs.Ytdeelpagoffdjaa.Dat
