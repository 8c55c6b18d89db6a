/- Small lemmas on boxes, worlds and endings. -/
import Derived.Test.YtdeelpagoffdjaaDatU
import Derived.Lib.Bytes
import Derived.BigQuiet
import Derived.Deep.QuietTactic
import Derived.StillTailTactics
import Derived.Outline
namespace Go.Proofs.Ytdeelpagoffdjaa.Dat
open Go.RowKit
set_option linter.unusedVariables false

theorem ret_int {k : IntKind} {a b : Int} (h : a = b) : Ending.returned (.int k a) = .returned (.int k b) := by rw [h]
theorem ret_bool {a b : Bool} (h : a = b) : Ending.returned (.bool a) = .returned (.bool b) := by rw [h]
theorem bytes_inj {a b : ByteArray} (h : a.toList = b.toList) : a = b := by
  rw [Lib.toList_data, Lib.toList_data] at h
  exact ByteArray.ext (Array.ext' h)
theorem bytes_empty {s : ByteArray} (h : s.size = 0) : s = ⟨#[]⟩ := by
  apply ByteArray.ext; exact Array.eq_empty_of_size_eq_zero h
theorem below_drew {w w' : World} (h : Below w.drew.heap.size w.drew w') : Below w.heap.size w w' := ((Below.refl w.heap.size w).drew).trans h
theorem below_drewN (w : World) (k : Nat) : Below w.heap.size w (w.drewN k) := ⟨rfl, rfl, rfl, Nat.le_refl _, fun _ _ => rfl⟩
theorem below_box (w : World) (o : Obj) (k : Nat) : Below w.heap.size w ((w.alloc o).drewN k) :=
  ((Below.refl w.heap.size w).alloc (Nat.le_refl _) o).trans ((below_drewN (w.alloc o) k).mono (by show w.heap.size ≤ (w.heap.push o).size; simp))
/-- A box, and then what a call leaves. -/
theorem below_after {w w' : World} {o : Obj} (h : Below (w.alloc o).heap.size (w.alloc o) w') : Below w.heap.size w w' :=
  ((Below.refl w.heap.size w).alloc (Nat.le_refl _) o).trans (h.mono (by show w.heap.size ≤ (w.heap.push o).size; simp))
theorem box_below (w : World) (o : Obj) : Below w.heap.size w (w.alloc o) := (Below.refl _ _).alloc (Nat.le_refl _) _
theorem two_below (w : World) (o o2 : Obj) : Below w.heap.size w ((w.alloc o).alloc o2) := (box_below w o).alloc (by show w.heap.size ≤ (w.heap.push o).size; simp) o2
theorem one_box {w w1 : World} {o : Obj} (h : Below (w.alloc o).heap.size (w.alloc o) w1) : w1.heap[w.heap.size]? = some o :=
  (h.block w.heap.size (by show w.heap.size < (w.heap.push o).size; simp)).trans (by show (w.heap.push o)[w.heap.size]? = some o; simp)
theorem Dt.At.open5 {w : World} {t : Dt} {v0 v1 v2 v3 v4 : Value} (h : t.At w (.agg #[v0, v1, v2, v3, v4])) : ∃ k n d s l p cap, t = .node k n d s l ∧ v0 = .int .i64 k ∧ v1 = .int .i64 n ∧ v2 = .int .i64 d ∧ v3 = .string s ∧ v4 = .slice p l.length cap ∧ I64 k ∧ (l = [] ∨ ∃ b o, p = some ⟨b, o, none⟩ ∧ Dt.AllAt w l b o) := by
  obtain ⟨k, n, d, s, l⟩ := t
  unfold Dt.At at h
  obtain ⟨h1, h2, h3, h4, h5, p, cap, hv, hl⟩ := h
  simp only [Value.agg.injEq, Array.mk.injEq, List.cons.injEq, and_true] at hv
  obtain ⟨rfl, rfl, rfl, rfl, rfl⟩ := hv
  exact ⟨k, n, d, s, l, p, cap, rfl, rfl, rfl, rfl, rfl, rfl, h1, hl⟩
theorem box_cells {w : World} {B : Nat} {a0 a1 a2 a3 a4 : Value} {t : TypeId} (h : w.heap[B]? = some (.cells #[a0, a1, a2, a3, a4] t (0, 0))) :
    w.cell? ⟨B, 0, none⟩ = some a0 ∧ w.cell? ⟨B, 1, none⟩ = some a1 ∧ w.cell? ⟨B, 2, none⟩ = some a2 ∧ w.cell? ⟨B, 3, none⟩ = some a3 ∧ w.cell? ⟨B, 4, none⟩ = some a4 := by
  unfold World.cell?
  simp [h]
theorem box_frozen {w : World} {B : Nat} {cs : Array Value} {t : TypeId} (h : w.heap[B]? = some (.cells cs t (0, 0))) (i : Nat) : w.frozen? ⟨B, i, none⟩ = false := by
  simp [World.frozen?, h]
/-- The five cells of a box written anew. -/
theorem set_five {w : World} {B : Nat} {a0 a1 a2 a3 a4 b0 b1 b2 b3 b4 : Value} {t : TypeId} (h : w.heap[B]? = some (.cells #[a0, a1, a2, a3, a4] t (0, 0))) :
    (((((w.setCell ⟨B, 0, none⟩ b0).setCell ⟨B, 1, none⟩ b1).setCell ⟨B, 2, none⟩ b2).setCell ⟨B, 3, none⟩ b3).setCell ⟨B, 4, none⟩ b4).heap[B]? = some (.cells #[b0, b1, b2, b3, b4] t (0, 0)) := by
  refine (heap_setCell_same _ _ 4 _ t _ (heap_setCell_same _ _ 3 _ t _ (heap_setCell_same _ _ 2 _ t _ (heap_setCell_same _ _ 1 _ t _ (heap_setCell_same _ _ 0 _ t _ h))))).trans ?_
  simp
theorem set_five_other {w : World} {B k : Nat} {b0 b1 b2 b3 b4 : Value} (h : k ≠ B) :
    (((((w.setCell ⟨B, 0, none⟩ b0).setCell ⟨B, 1, none⟩ b1).setCell ⟨B, 2, none⟩ b2).setCell ⟨B, 3, none⟩ b3).setCell ⟨B, 4, none⟩ b4).heap[k]? = w.heap[k]? := by
  rw [heap_setCell_other _ _ _ _ (by exact h), heap_setCell_other _ _ _ _ (by exact h), heap_setCell_other _ _ _ _ (by exact h), heap_setCell_other _ _ _ _ (by exact h), heap_setCell_other _ _ _ _ (by exact h)]
theorem set_five_below {a w : World} {C B : Nat} {b0 b1 b2 b3 b4 : Value} (h : Below C a w) (hB : C ≤ B) :
    Below C a (((((w.setCell ⟨B, 0, none⟩ b0).setCell ⟨B, 1, none⟩ b1).setCell ⟨B, 2, none⟩ b2).setCell ⟨B, 3, none⟩ b3).setCell ⟨B, 4, none⟩ b4) :=
  ((((h.setCell hB _).setCell hB _).setCell hB _).setCell hB _).setCell hB _
theorem set_five_size {w : World} {B : Nat} {b0 b1 b2 b3 b4 : Value} :
    (((((w.setCell ⟨B, 0, none⟩ b0).setCell ⟨B, 1, none⟩ b1).setCell ⟨B, 2, none⟩ b2).setCell ⟨B, 3, none⟩ b3).setCell ⟨B, 4, none⟩ b4).heap.size = w.heap.size := by
  simp only [World.setCell, Array.size_modify]
end Go.Proofs.Ytdeelpagoffdjaa.Dat
