/- The laws' common part: awake, its two calls of List. -/
import Derived.Test.YtabofebepefbgaaDoorDatVp
import Derived.Test.YtabofebepefbgaaDoorDatVv
import Derived.Deep.RegionHeld3
import Derived.Deep.Cut
import Derived.Deep.CutRange
namespace Go.Proofs.YtabofebepefbgaaDoor.Dat
open Go.RowKit
set_option linter.unusedVariables false

abbrev emp : ByteArray := ⟨#[]⟩
abbrev aOne : Dt := .node 0 1 1 emp []
abbrev aTwo : Dt := .node 0 2 1 emp []
abbrev aX : Dt := .node 2 0 0 ⟨#[120]⟩ []
abbrev aA : Dt := .node 3 0 0 ⟨#[97]⟩ []
abbrev Zb : Obj := .cells #[.int .i64 0, .int .i64 0, .int .i64 0, .string ⟨#[]⟩, .slice none 0 0] 24 (0, 0)
abbrev Ob : Obj := .cells #[.int .i64 0, .int .i64 1, .int .i64 1, .string ⟨#[]⟩, .slice none 0 0] 24 (0, 0)
abbrev Ab : Obj := .cells #[.int .i64 3, .int .i64 0, .int .i64 0, .string ⟨#[97]⟩, .slice none 0 0] 24 (0, 0)
theorem leaf_at (w : World) (k n d : Int) (s : ByteArray) (hk : I64 k) (hn : I64 n) (hd : I64 d) (hs : s.size ≤ maxLen) : (Dt.node k n d s []).At w (.agg #[.int .i64 k, .int .i64 n, .int .i64 d, .string s, .slice none 0 0]) := by
  unfold Dt.At
  exact ⟨hk, hn, hd, hs, by simp, none, 0, rfl, Or.inl rfl⟩
theorem at_new_eq {w : World} {o : Obj} {k : Nat} (h : k = w.heap.size) : (w.alloc o).heap[k]? = some o := by subst h; exact at_new w o
theorem at_old {w : World} {o x : Obj} {k : Nat} (h : w.heap[k]? = some x) : (w.alloc o).heap[k]? = some x := block_on (box_below _ _) h
/-- All old blocks but this one. -/
abbrev X1 (g n : Nat) (b : Nat) : Bool := b != g && decide (b < n)
/-- All old blocks but these two, and what came between. -/
abbrev X2 (g n m g2 k : Nat) (b : Nat) : Bool := (b != g && decide (b < n)) || (b != g2 && decide (m ≤ b) && decide (b < k))
abbrev lA : Dt := Dt.list [aA]
abbrev lAll : Dt := Dt.list [aOne, aX, lA]

theorem list_one (g : Nat) (W : World) (h : W.heap[g]? = some Ab) :
    Calls Tryd.prog 30 #[.slice (some ⟨g, 0, none⟩) 1 1] W fun e w' => (∃ k n d s p len cap, e = .returned (.agg #[.int .i64 k, .int .i64 n, .int .i64 d, .string s, .slice p len cap]) ∧ lA.At (off w' (X1 g W.heap.size)) (.agg #[.int .i64 k, .int .i64 n, .int .i64 d, .string s, .slice p len cap])) ∧ Below W.heap.size W w' := by
  have hc : ∀ j v, #[Value.int .i64 3, .int .i64 0, .int .i64 0, .string ⟨#[97]⟩, .slice none 0 0][j]? = some v → (off W (X1 g W.heap.size)).cell? ⟨g, j, none⟩ = some v := fun j v hj => off_cell.2 ⟨by simp [X1], by rw [cell_of_block h]; exact hj⟩
  refine ownList_any (X1 g W.heap.size) [aA] _ _ W (fun b hb => by simp [X1]; omega) (by simp [maxLen]) (Dt.slimAll_size _ (by simp [Dt.sizes, Dt.size])) (Or.inr ⟨g, 0, rfl, ?_⟩)
  unfold Dt.AllAt
  exact ⟨⟨_, _, _, _, _, hc 0 _ rfl, hc 1 _ rfl, hc 2 _ rfl, hc 3 _ rfl, hc 4 _ rfl, leaf_at _ _ _ _ _ (by unfold I64; omega) (by unfold I64; omega) (by unfold I64; omega) (by unfold maxLen; decide)⟩, by unfold Dt.AllAt; trivial⟩
theorem list_three (g2 : Nat) (W : World) (X : Nat → Bool) (hX : ∀ b, W.heap.size ≤ b → X b = false) (hg : X g2 = false) (k n d : Int) (s : ByteArray) (p : Option Addr) (len cap : Nat)
    (h : W.heap[g2]? = some (.cells #[.int .i64 0, .int .i64 1, .int .i64 1, .string ⟨#[]⟩, .slice none 0 0, .int .i64 2, .int .i64 0, .int .i64 0, .string ⟨#[120]⟩, .slice none 0 0, .int .i64 k, .int .i64 n, .int .i64 d, .string s, .slice p len cap] 24 (0, 0)))
    (ht : lA.At (off W X) (.agg #[.int .i64 k, .int .i64 n, .int .i64 d, .string s, .slice p len cap])) :
    Calls Tryd.prog 30 #[.slice (some ⟨g2, 0, none⟩) 3 3] W fun e w' => (∃ k n d s p len cap, e = .returned (.agg #[.int .i64 k, .int .i64 n, .int .i64 d, .string s, .slice p len cap]) ∧ lAll.At (off w' X) (.agg #[.int .i64 k, .int .i64 n, .int .i64 d, .string s, .slice p len cap])) ∧ Below W.heap.size W w' := by
  have hc : ∀ j v, #[Value.int .i64 0, .int .i64 1, .int .i64 1, .string ⟨#[]⟩, .slice none 0 0, .int .i64 2, .int .i64 0, .int .i64 0, .string ⟨#[120]⟩, .slice none 0 0, .int .i64 k, .int .i64 n, .int .i64 d, .string s, .slice p len cap][j]? = some v → (off W X).cell? ⟨g2, j, none⟩ = some v := fun j v hj => off_cell.2 ⟨hg, by rw [cell_of_block h]; exact hj⟩
  refine ownList_any X [aOne, aX, lA] _ _ W hX (by simp [maxLen]) (Dt.slimAll_size _ (by simp [Dt.sizes, Dt.size, Dt.list])) (Or.inr ⟨g2, 0, rfl, ?_⟩)
  unfold Dt.AllAt
  refine ⟨⟨_, _, _, _, _, hc 0 _ rfl, hc 1 _ rfl, hc 2 _ rfl, hc 3 _ rfl, hc 4 _ rfl, leaf_at _ _ _ _ _ (by unfold I64; omega) (by unfold I64; omega) (by unfold I64; omega) (by unfold maxLen; decide)⟩, ?_⟩
  unfold Dt.AllAt
  refine ⟨⟨_, _, _, _, _, hc 5 _ rfl, hc 6 _ rfl, hc 7 _ rfl, hc 8 _ rfl, hc 9 _ rfl, leaf_at _ _ _ _ _ (by unfold I64; omega) (by unfold I64; omega) (by unfold I64; omega) (by unfold maxLen; decide)⟩, ?_⟩
  unfold Dt.AllAt
  exact ⟨⟨_, _, _, _, _, hc 10 _ rfl, hc 11 _ rfl, hc 12 _ rfl, hc 13 _ rfl, hc 14 _ rfl, ht⟩, by unfold Dt.AllAt; trivial⟩
theorem two_on {t : Dt} {u : Value} {w1 W : World} {g n g2 : Nat} (h : t.At (off w1 (X1 g n)) u) (hb : Below w1.heap.size w1 W) : t.At (off W (X2 g n w1.heap.size g2 W.heap.size)) u :=
  h.on (off_on (fun b hb hx => by simp [X1, X2] at hx ⊢; refine ⟨hx, fun _ h => by omega⟩) fun b hb' _ => hb.block b hb')
theorem two_no {g n m g2 k : Nat} (hn : n ≤ k) (hm : m ≤ k) : ∀ b, k ≤ b → X2 g n m g2 k b = false := by
  intro b hb
  simp [X2]; omega
theorem two_own {g n m g2 k : Nat} (h1 : n ≤ g2) : X2 g n m g2 k g2 = false := by
  simp [X2]; omega
end Go.Proofs.YtabofebepefbgaaDoor.Dat
