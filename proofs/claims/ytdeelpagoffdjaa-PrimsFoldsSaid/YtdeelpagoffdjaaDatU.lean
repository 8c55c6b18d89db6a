/- A world without some of its blocks. -/
import Derived.Test.YtdeelpagoffdjaaDatT
namespace Go.Proofs.Ytdeelpagoffdjaa.Dat
open Go.RowKit

/-- The world without these blocks. -/
def off (w : World) (X : Nat → Bool) : World := { w with heap := w.heap.mapIdx (fun i o => if X i then .cells #[] 0 (0, 0) else o) }
theorem off_cell {w : World} {X : Nat → Bool} {b o : Nat} {v : Value} : (off w X).cell? ⟨b, o, none⟩ = some v ↔ X b = false ∧ w.cell? ⟨b, o, none⟩ = some v := by
  have hh : (off w X).heap[b]? = (w.heap[b]?).map (fun o => if X b then .cells #[] 0 (0, 0) else o) := by
    show (w.heap.mapIdx _)[b]? = _
    rw [Array.getElem?_mapIdx]
  unfold World.cell?
  rw [hh]
  cases hx : X b
  · cases hw : w.heap[b]? <;> simp
  · cases hw : w.heap[b]? <;> simp
theorem cell_lt {w : World} {b o : Nat} {v : Value} (hv : w.cell? ⟨b, o, none⟩ = some v) : b < w.heap.size := by
  unfold World.cell? at hv
  cases hg : w.heap[b]? with
  | none => rw [hg] at hv; simp at hv
  | some o => exact (Array.getElem?_eq_some_iff.1 hg).1
theorem off_on {w w' : World} {X Y : Nat → Bool} (hY : ∀ b, b < w.heap.size → X b = false → Y b = false) (h : ∀ b, b < w.heap.size → X b = false → w'.heap[b]? = w.heap[b]?) (b o : Nat) (v : Value) (hv : (off w X).cell? ⟨b, o, none⟩ = some v) : (off w' Y).cell? ⟨b, o, none⟩ = some v := by
  obtain ⟨h0, hc⟩ := off_cell.1 hv
  have hl := cell_lt hc
  refine off_cell.2 ⟨hY b hl h0, ?_⟩
  have := h b hl h0
  unfold World.cell? at hc ⊢
  rw [this]; exact hc
/-- These blocks and two more. -/
def more (X : Nat → Bool) (B : Nat) (b : Nat) : Bool := X b || b == B || b == B + 1
theorem more_no {X : Nat → Bool} {B b : Nat} : more X B b = false ↔ X b = false ∧ b ≠ B ∧ b ≠ B + 1 := by
  unfold more; simp [and_assoc]
/-- What lies in the old world lies beside the two blocks. -/
theorem old_off {w w' : World} {X : Nat → Bool} (hb : Below w.heap.size w w') (b o : Nat) (v : Value) (hv : (off w X).cell? ⟨b, o, none⟩ = some v) : (off w' (more X w.heap.size)).cell? ⟨b, o, none⟩ = some v := by
  refine off_on (fun b hl hx => more_no.2 ⟨hx, by omega, by omega⟩) (fun b hl _ => hb.block b hl) b o v hv
end Go.Proofs.Ytdeelpagoffdjaa.Dat
