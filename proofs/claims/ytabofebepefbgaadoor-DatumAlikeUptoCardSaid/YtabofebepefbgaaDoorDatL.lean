/- How long a text can be. -/
import Derived.Test.YtabofebepefbgaaDoorDatZ
import Derived.Test.YtabofebepefbgaaDoorDatO
namespace Go.Proofs.YtabofebepefbgaaDoor.Dat
open Go.RowKit
set_option linter.unusedVariables false
variable {NT : Int → Int → List UInt8}

theorem wrap_len (k : Int) (b : List UInt8) : (wrapT k b).length ≤ b.length + 3 := by
  unfold wrapT; split
  · simp
  · split
    · simp
    · omega
theorem tailT_len (k : Int) (b : List UInt8) : (tailT k b).length ≤ b.length + 6 := by
  unfold tailT; split
  · simp
  · split
    · simp
    · simp only [List.length_cons]; have := wrap_len k b; omega
theorem leaf_len (hN : ∀ n d, (NT n d).length ≤ 30) (k n d : Int) (s : ByteArray) : (leafT NT k n d s).length ≤ s.size + 30 := by
  have := hN n d
  unfold leafT
  rw [Lib.size_eq]
  split
  · omega
  · split
    · split <;> simp
    · split
      · omega
      · split
        · simp only [List.length_cons, List.length_append, List.length_nil]; omega
        · split <;> simp
mutual
theorem Dt.body_len (hN : ∀ n d, (NT n d).length ≤ 30) (M : Nat) : ∀ t : Dt, t.thin M → (t.body NT).length + 8 ≤ t.size * (M + 40)
  | .node k n d s l, h => by
    unfold Dt.thin at h
    have h1 := Dt.pair_len hN M l h.2
    have h2 := Dt.seq_len hN M l h.2
    have h3 := leaf_len hN k n d s
    unfold Dt.body Dt.size
    rw [Nat.add_mul]
    split
    · omega
    · split
      · omega
      · omega
theorem Dt.pair_len (hN : ∀ n d, (NT n d).length ≤ 30) (M : Nat) : ∀ l : List Dt, Dt.thinAll M l → (Dt.pairB NT l).length ≤ Dt.sizes l * (M + 40)
  | [], h => by simp [Dt.pairB]
  | a :: r, h => by
    unfold Dt.thinAll at h
    have h1 := Dt.body_len hN M a h.1
    have h2 := Dt.rest_len hN M r h.2
    have h3 := wrap_len a.kind (a.body NT)
    unfold Dt.pairB Dt.sizes
    rw [Nat.add_mul, List.length_append]; omega
theorem Dt.rest_len (hN : ∀ n d, (NT n d).length ≤ 30) (M : Nat) : ∀ l : List Dt, Dt.thinAll M l → (Dt.restB NT l).length ≤ Dt.sizes l * (M + 40)
  | [], h => by simp [Dt.restB]
  | b :: r, h => by
    unfold Dt.thinAll at h
    have h1 := Dt.body_len hN M b h.1
    have h3 := tailT_len b.kind (b.body NT)
    unfold Dt.restB Dt.sizes
    rw [Nat.add_mul]; omega
theorem Dt.seq_len (hN : ∀ n d, (NT n d).length ≤ 30) (M : Nat) : ∀ l : List Dt, Dt.thinAll M l → (Dt.seqB NT l).length ≤ Dt.sizes l * (M + 40)
  | [], h => by simp [Dt.seqB]
  | a :: r, h => by
    unfold Dt.thinAll at h
    have h1 := Dt.body_len hN M a h.1
    have h2 := Dt.more_len hN M r h.2
    have h3 := wrap_len a.kind (a.body NT)
    unfold Dt.seqB Dt.sizes
    rw [Nat.add_mul, List.length_append]; omega
theorem Dt.more_len (hN : ∀ n d, (NT n d).length ≤ 30) (M : Nat) : ∀ l : List Dt, Dt.thinAll M l → (Dt.moreB NT l).length ≤ Dt.sizes l * (M + 40)
  | [], h => by simp [Dt.moreB]
  | a :: r, h => by
    unfold Dt.thinAll at h
    have h1 := Dt.body_len hN M a h.1
    have h2 := Dt.more_len hN M r h.2
    have h3 := wrap_len a.kind (a.body NT)
    unfold Dt.moreB Dt.sizes
    rw [Nat.add_mul, List.length_cons, List.length_append]; omega
end
/-- Few data with strings that a machine holds have a text that fits. -/
theorem roomy_of (hN : ∀ n d, (NT n d).length ≤ 30) {t : Dt} (h : t.thin reachBytes) (hs : t.size ≤ 4000) : Roomy (t.text NT) := by
  have h1 := Dt.body_len hN reachBytes t h
  have h2 := wrap_len t.kind (t.body NT)
  have h3 := Nat.mul_le_mul_right (reachBytes + 40) hs
  have h4 : 4000 * (reachBytes + 40) + 3 ≤ 1152921504606846976 := by decide
  unfold Roomy Dt.text
  omega
end Go.Proofs.YtabofebepefbgaaDoor.Dat
