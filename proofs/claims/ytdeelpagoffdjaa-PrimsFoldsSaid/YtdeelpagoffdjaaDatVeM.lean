/- The program's own Size. -/
import Derived.Test.YtdeelpagoffdjaaDatVx
import Derived.Laws.EntriesVeiled

namespace Go.Proofs.Ytdeelpagoffdjaa.Dat
open Go.RowKit
set_option linter.unusedVariables false

/-- All blocks of the world but one stand as they stood. -/
structure Keeps (B : Nat) (w w' : World) : Prop where
  os : w'.os = w.os
  tape : w'.tape = w.tape
  output : w'.output = w.output
  size : w.heap.size ≤ w'.heap.size
  block : ∀ k, k < w.heap.size → k ≠ B → w'.heap[k]? = w.heap[k]?
theorem Keeps.refl (B : Nat) (w : World) : Keeps B w w := ⟨rfl, rfl, rfl, Nat.le_refl _, fun _ _ _ => rfl⟩
theorem Keeps.trans {B : Nat} {a b c : World} (h : Keeps B a b) (k : Keeps B b c) : Keeps B a c :=
  ⟨k.os.trans h.os, k.tape.trans h.tape, k.output.trans h.output, Nat.le_trans h.size k.size, fun i hi hn => (k.block i (Nat.lt_of_lt_of_le hi h.size) hn).trans (h.block i hi hn)⟩
theorem Keeps.of {B : Nat} {w w' : World} (h : Below w.heap.size w w') : Keeps B w w' := ⟨h.os, h.tape, h.output, h.size, fun k hk _ => h.block k hk⟩
theorem Keeps.setCell {B : Nat} {a w : World} (h : Keeps B a w) (i : Nat) (u : Value) : Keeps B a (w.setCell ⟨B, i, none⟩ u) :=
  ⟨h.os, h.tape, h.output, by simp only [World.setCell, Array.size_modify]; exact h.size, fun k hk hn => (Below.heap_setCell _ _ _ _ hn).trans (h.block k hk hn)⟩
theorem Keeps.drew {B : Nat} {a w : World} (h : Keeps B a w) : Keeps B a w.drew := h.trans ⟨rfl, rfl, rfl, Nat.le_refl _, fun _ _ _ => rfl⟩
theorem Keeps.below {B : Nat} {w0 w w' : World} (h : Keeps B w w') (hb : Below w0.heap.size w0 w) (hB : w0.heap.size ≤ B) : Below w0.heap.size w0 w' :=
  ⟨h.os.trans hb.os, h.tape.trans hb.tape, h.output.trans hb.output, Nat.le_trans hb.size h.size, fun k hk => (h.block k (Nat.lt_of_lt_of_le hk hb.size) (by omega)).trans (hb.block k hk)⟩
/-- The block alone. -/
abbrev just (B : Nat) (b : Nat) : Bool := b == B
theorem Keeps.off {B : Nat} {w w' : World} (h : Keeps B w w') (b o : Nat) (v : Value) (hv : (off w (just B)).cell? ⟨b, o, none⟩ = some v) : (off w' (just B)).cell? ⟨b, o, none⟩ = some v :=
  off_on (fun _ _ hx => hx) (fun k hk hx => h.block k hk (by simpa using hx)) b o v hv

def Dt.kids : Dt → List Dt
  | .node _ _ _ _ l => l
/-- How many lie below the ones of a list. -/
def Dt.inner (deep : Nat) : List Dt → Nat
  | [] => 0
  | t :: r => Dt.countAll t.kids (deep + 1) + Dt.inner deep r
theorem Dt.countAll_inner {deep : Nat} (h : deep < 1000) : ∀ l : List Dt, Dt.countAll l deep = l.length + Dt.inner deep l
  | [] => rfl
  | .node k n d s q :: r => by
    unfold Dt.countAll
    rw [if_pos h, Dt.countAll_inner h r, show Dt.inner deep (.node k n d s q :: r) = Dt.countAll q (deep + 1) + Dt.inner deep r from rfl, show (Dt.node k n d s q).count (deep + 1) = Dt.countAll q (deep + 1) + 1 from rfl, List.length_cons]; omega
theorem Dt.countAll_past {deep : Nat} (h : 1000 ≤ deep) (l : List Dt) : Dt.countAll l deep = 0 := by
  cases l with
  | nil => rfl
  | cons t r => unfold Dt.countAll; rw [if_neg (by omega)]
theorem Dt.inner_step {l : List Dt} {i : Nat} {t : Dt} {deep : Nat} (h : l[i]? = some t) : Dt.inner deep (l.drop i) = Dt.countAll t.kids (deep + 1) + Dt.inner deep (l.drop (i + 1)) := by
  rw [Dt.drop_at h]; rfl
theorem Dt.inner_stop {l : List Dt} {i : Nat} {deep : Nat} (h : l.length ≤ i) : Dt.inner deep (l.drop i) = 0 := by
  rw [List.drop_of_length_le h]; rfl
end Go.Proofs.Ytdeelpagoffdjaa.Dat
