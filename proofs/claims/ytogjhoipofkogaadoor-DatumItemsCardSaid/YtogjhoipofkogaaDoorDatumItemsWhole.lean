/- DatumItems: the items of a list of data that are right are these, in order, if the list is not too deep: the law answers true for all inputs, with no condition beyond the three listed tables of Go's own library, which the card ties to the program's text. -/
import Derived.Test.YtogjhoipofkogaaDoorDatVp
import Derived.Test.YtogjhoipofkogaaDoorDatVn
import Derived.Deep.RegionHeld3
import Derived.Deep.Cut
import Derived.Deep.CutRange
import Derived.Test.YtogjhoipofkogaaDoorDatVb
import Derived.Test.YtogjhoipofkogaaDoorDatVd
import Derived.Test.YtogjhoipofkogaaDoorDatVe
import Derived.Test.YtogjhoipofkogaaDoorDatQ
import Derived.Test.YtogjhoipofkogaaDoorDatZ
import Derived.Test.YtogjhoipofkogaaDoorDatS
import Derived.Test.YtogjhoipofkogaaDoorShelf
import Derived.Test.YtogjhoipofkogaaDoorLaid
import Derived.Test.YtogjhoipofkogaaDoorDatVf
import Derived.Test.YtogjhoipofkogaaDoorDatM
import Derived.Test.YtogjhoipofkogaaDoorDatB
import Derived.Test.YtogjhoipofkogaaDoorDatVq
import Derived.StillTailTactics
import Derived.Test.YtogjhoipofkogaaDoorDatO
import Derived.Test.YtogjhoipofkogaaDoorDatVg
import Derived.Carry
import Derived.SevenTiedAt
import Derived.Test.YtogjhoipofkogaaDoorCards

/- The laws' common part: awake, its two calls of List. -/
namespace Go.Proofs.YtogjhoipofkogaaDoor.Dat
open Go.RowKit
set_option linter.unusedVariables false

abbrev emp : ByteArray := ⟨#[]⟩
abbrev aOne : Dt := .node 0 1 1 emp []
abbrev aTwo : Dt := .node 0 2 1 emp []
abbrev aX : Dt := .node 2 0 0 ⟨#[120]⟩ []
abbrev aA : Dt := .node 3 0 0 ⟨#[97]⟩ []
abbrev Zb : Obj := .cells #[.int .i64 0, .int .i64 0, .int .i64 0, .string ⟨#[]⟩, .slice none 0 0] 24 (0, 0)
abbrev Ob : Obj := .cells #[.int .i64 0, .int .i64 1, .int .i64 1, .string ⟨#[]⟩, .slice none 0 0] 24 (0, 0)
abbrev Ab : Obj := .cells #[.int .i64 3, .int .i64 0, .int .i64 0, .string ⟨#[97]⟩, .slice none 0 0] 24 (0, 0)
theorem leaf_at (w : World) (k n d : Int) (s : ByteArray) (hk : I64 k) (hn : I64 n) (hd : I64 d) (hs : s.size ≤ maxLen) : (Dt.node k n d s []).At w (.agg #[.int .i64 k, .int .i64 n, .int .i64 d, .string s, .slice none 0 0]) := by
  unfold Dt.At
  exact ⟨hk, hn, hd, hs, by simp, none, 0, rfl, Or.inl rfl⟩
theorem at_new_eq {w : World} {o : Obj} {k : Nat} (h : k = w.heap.size) : (w.alloc o).heap[k]? = some o := by subst h; exact at_new w o
theorem at_old {w : World} {o x : Obj} {k : Nat} (h : w.heap[k]? = some x) : (w.alloc o).heap[k]? = some x := block_on (box_below _ _) h
/-- All old blocks but this one. -/
abbrev X1 (g n : Nat) (b : Nat) : Bool := b != g && decide (b < n)
/-- All old blocks but these two, and what came between. -/
abbrev X2 (g n m g2 k : Nat) (b : Nat) : Bool := (b != g && decide (b < n)) || (b != g2 && decide (m ≤ b) && decide (b < k))
abbrev lA : Dt := Dt.list [aA]
abbrev lAll : Dt := Dt.list [aOne, aX, lA]

theorem list_one (g : Nat) (W : World) (h : W.heap[g]? = some Ab) :
    Calls Tryd.prog 25 #[.slice (some ⟨g, 0, none⟩) 1 1] W fun e w' => (∃ k n d s p len cap, e = .returned (.agg #[.int .i64 k, .int .i64 n, .int .i64 d, .string s, .slice p len cap]) ∧ lA.At (off w' (X1 g W.heap.size)) (.agg #[.int .i64 k, .int .i64 n, .int .i64 d, .string s, .slice p len cap])) ∧ Below W.heap.size W w' := by
  have hc : ∀ j v, #[Value.int .i64 3, .int .i64 0, .int .i64 0, .string ⟨#[97]⟩, .slice none 0 0][j]? = some v → (off W (X1 g W.heap.size)).cell? ⟨g, j, none⟩ = some v := fun j v hj => off_cell.2 ⟨by simp [X1], by rw [cell_of_block h]; exact hj⟩
  refine ownList_any (X1 g W.heap.size) [aA] _ _ W (fun b hb => by simp [X1]; omega) (by simp [maxLen]) (Dt.slimAll_size _ (by simp [Dt.sizes, Dt.size])) (Or.inr ⟨g, 0, rfl, ?_⟩)
  unfold Dt.AllAt
  exact ⟨⟨_, _, _, _, _, hc 0 _ rfl, hc 1 _ rfl, hc 2 _ rfl, hc 3 _ rfl, hc 4 _ rfl, leaf_at _ _ _ _ _ (by unfold I64; omega) (by unfold I64; omega) (by unfold I64; omega) (by unfold maxLen; decide)⟩, by unfold Dt.AllAt; trivial⟩
theorem list_three (g2 : Nat) (W : World) (X : Nat → Bool) (hX : ∀ b, W.heap.size ≤ b → X b = false) (hg : X g2 = false) (k n d : Int) (s : ByteArray) (p : Option Addr) (len cap : Nat)
    (h : W.heap[g2]? = some (.cells #[.int .i64 0, .int .i64 1, .int .i64 1, .string ⟨#[]⟩, .slice none 0 0, .int .i64 2, .int .i64 0, .int .i64 0, .string ⟨#[120]⟩, .slice none 0 0, .int .i64 k, .int .i64 n, .int .i64 d, .string s, .slice p len cap] 24 (0, 0)))
    (ht : lA.At (off W X) (.agg #[.int .i64 k, .int .i64 n, .int .i64 d, .string s, .slice p len cap])) :
    Calls Tryd.prog 25 #[.slice (some ⟨g2, 0, none⟩) 3 3] W fun e w' => (∃ k n d s p len cap, e = .returned (.agg #[.int .i64 k, .int .i64 n, .int .i64 d, .string s, .slice p len cap]) ∧ lAll.At (off w' X) (.agg #[.int .i64 k, .int .i64 n, .int .i64 d, .string s, .slice p len cap])) ∧ Below W.heap.size W w' := by
  have hc : ∀ j v, #[Value.int .i64 0, .int .i64 1, .int .i64 1, .string ⟨#[]⟩, .slice none 0 0, .int .i64 2, .int .i64 0, .int .i64 0, .string ⟨#[120]⟩, .slice none 0 0, .int .i64 k, .int .i64 n, .int .i64 d, .string s, .slice p len cap][j]? = some v → (off W X).cell? ⟨g2, j, none⟩ = some v := fun j v hj => off_cell.2 ⟨hg, by rw [cell_of_block h]; exact hj⟩
  refine ownList_any X [aOne, aX, lA] _ _ W hX (by simp [maxLen]) (Dt.slimAll_size _ (by simp [Dt.sizes, Dt.size, Dt.list])) (Or.inr ⟨g2, 0, rfl, ?_⟩)
  unfold Dt.AllAt
  refine ⟨⟨_, _, _, _, _, hc 0 _ rfl, hc 1 _ rfl, hc 2 _ rfl, hc 3 _ rfl, hc 4 _ rfl, leaf_at _ _ _ _ _ (by unfold I64; omega) (by unfold I64; omega) (by unfold I64; omega) (by unfold maxLen; decide)⟩, ?_⟩
  unfold Dt.AllAt
  refine ⟨⟨_, _, _, _, _, hc 5 _ rfl, hc 6 _ rfl, hc 7 _ rfl, hc 8 _ rfl, hc 9 _ rfl, leaf_at _ _ _ _ _ (by unfold I64; omega) (by unfold I64; omega) (by unfold I64; omega) (by unfold maxLen; decide)⟩, ?_⟩
  unfold Dt.AllAt
  exact ⟨⟨_, _, _, _, _, hc 10 _ rfl, hc 11 _ rfl, hc 12 _ rfl, hc 13 _ rfl, hc 14 _ rfl, ht⟩, by unfold Dt.AllAt; trivial⟩
theorem two_on {t : Dt} {u : Value} {w1 W : World} {g n g2 : Nat} (h : t.At (off w1 (X1 g n)) u) (hb : Below w1.heap.size w1 W) : t.At (off W (X2 g n w1.heap.size g2 W.heap.size)) u :=
  h.on (off_on (fun b hb hx => by simp [X1, X2] at hx ⊢; refine ⟨hx, fun _ h => by omega⟩) fun b hb' _ => hb.block b hb')
theorem two_no {g n m g2 k : Nat} (hn : n ≤ k) (hm : m ≤ k) : ∀ b, k ≤ b → X2 g n m g2 k b = false := by
  intro b hb
  simp [X2]; omega
theorem two_own {g n m g2 k : Nat} (h1 : n ≤ g2) : X2 g n m g2 k g2 = false := by
  simp [X2]; omega
end Go.Proofs.YtogjhoipofkogaaDoor.Dat

/- awake: the list is made. -/
namespace Go.Proofs.YtogjhoipofkogaaDoor.Dat
open Go.RowKit
set_option linter.unusedVariables false
theorem at_drew {w : World} {k : Nat} {x : Obj} (h : w.heap[k]? = some x) : w.drew.heap[k]? = some x := h
theorem sz1 (w : World) (o : Obj) : (w.alloc o).heap.size = w.heap.size + 1 := by simp
theorem sz2 (w : World) (o o' : Obj) : ((w.alloc o).alloc o').heap.size = w.heap.size + 2 := by simp
theorem below2 (w : World) (o o' : Obj) : Below w.heap.size w ((w.alloc o).alloc o') := (box_below w o).alloc (by simp) o'
theorem list_oneN (g N : Nat) (W : World) (hN : W.heap.size = N) (h : W.heap[g]? = some Ab) :
    Calls Tryd.prog 25 #[.slice (some ⟨g, 0, none⟩) 1 1] W fun e w' => (∃ k n d s p len cap, e = .returned (.agg #[.int .i64 k, .int .i64 n, .int .i64 d, .string s, .slice p len cap]) ∧ lA.At (off w' (X1 g N)) (.agg #[.int .i64 k, .int .i64 n, .int .i64 d, .string s, .slice p len cap])) ∧ Below N W w' := by
  subst hN; exact list_one g W h
theorem list_threeN (g2 N g K : Nat) (w1 W : World) (hK : W.heap.size = K) (hg : w1.heap.size ≤ g2) (hN : N ≤ w1.heap.size) (hb : Below w1.heap.size w1 W) (k n d : Int) (s : ByteArray) (p : Option Addr) (len cap : Nat)
    (h : W.heap[g2]? = some (Obj.cells #[.int .i64 0, .int .i64 1, .int .i64 1, .string ⟨#[]⟩, .slice none 0 0, .int .i64 2, .int .i64 0, .int .i64 0, .string ⟨#[120]⟩, .slice none 0 0, .int .i64 k, .int .i64 n, .int .i64 d, .string s, .slice p len cap] 24)) (hu : lA.At (off w1 (X1 g N)) (.agg #[.int .i64 k, .int .i64 n, .int .i64 d, .string s, .slice p len cap])) :
    Calls Tryd.prog 25 #[.slice (some ⟨g2, 0, none⟩) 3 3] W fun e w' => (∃ k n d s p len cap, e = .returned (.agg #[.int .i64 k, .int .i64 n, .int .i64 d, .string s, .slice p len cap]) ∧ lAll.At (off w' (X2 g N w1.heap.size g2 K)) (.agg #[.int .i64 k, .int .i64 n, .int .i64 d, .string s, .slice p len cap])) ∧ Below K W w' := by
  subst hK
  have hs := hb.size
  exact list_three g2 W (X2 g N w1.heap.size g2 W.heap.size) (two_no (by omega) hs) (two_own (by omega)) k n d s p len cap h (two_on hu hb)
/-- The list is made: its box, the number's box. -/
def MadeAt (w : World) (s2 : Value) (wx : World) : Prop :=
  ∃ (B : Nat) (k n d : Int) (s : ByteArray) (p : Option Addr) (len cap : Nat), s2 = .pointer (some ⟨B, 0, none⟩) ∧ wx.heap[B]? = some (.cells #[.int .i64 k, .int .i64 n, .int .i64 d, .string s, .slice p len cap] 24 (0, 0)) ∧
      lAll.At wx (.agg #[.int .i64 k, .int .i64 n, .int .i64 d, .string s, .slice p len cap]) ∧ wx.heap[w.heap.size]? = some Ob ∧ Below w.heap.size w wx
theorem made_store {w w2 : World} {bz : Nat} {X : Nat → Bool} {k n d : Int} {s : ByteArray} {p : Option Addr} {len cap : Nat} (hz : w2.heap[bz]? = some Zb) (hX : X bz = true) (hu : lAll.At (off w2 X) (.agg #[.int .i64 k, .int .i64 n, .int .i64 d, .string s, .slice p len cap]))
    (hob : w2.heap[w.heap.size]? = some Ob) (hb : Below w.heap.size w w2) (hw : w.heap.size < bz) :
    MadeAt w (.pointer (some ⟨bz, 0, none⟩)) (((((w2.setCell ⟨bz, 0, none⟩ (.int .i64 k)).setCell ⟨bz, 1, none⟩ (.int .i64 n)).setCell ⟨bz, 2, none⟩ (.int .i64 d)).setCell ⟨bz, 3, none⟩ (.string s)).setCell ⟨bz, 4, none⟩ (.slice p len cap)) := by
  refine ⟨bz, k, n, d, s, p, len, cap, rfl, set_five hz, ?_, (set_five_other (by omega)).trans hob, set_five_below hb (by omega)⟩
  refine hu.on fun b o v hv => ?_
  obtain ⟨h0, hc⟩ := off_cell.1 hv
  have hne : b ≠ bz := by rintro rfl; rw [hX] at h0; cases h0
  unfold World.cell? at hc ⊢
  rw [set_five_other hne]; exact hc
theorem made_new {w w2 : World} {X : Nat → Bool} {k n d : Int} {s : ByteArray} {p : Option Addr} {len cap : Nat} (hu : lAll.At (off w2 X) (.agg #[.int .i64 k, .int .i64 n, .int .i64 d, .string s, .slice p len cap]))
    (hob : w2.heap[w.heap.size]? = some Ob) (hb : Below w.heap.size w w2) (hw : w.heap.size < w2.heap.size) :
    MadeAt w (.pointer (some ⟨w2.heap.size, 0, none⟩)) (w2.alloc (.cells #[.int .i64 k, .int .i64 n, .int .i64 d, .string s, .slice p len cap] 24)) := by
  refine ⟨w2.heap.size, k, n, d, s, p, len, cap, rfl, at_new _ _, ?_, at_old hob, hb.alloc (Nat.le_of_lt hw) _⟩
  refine hu.on fun b o v hv => ?_
  obtain ⟨h0, hc⟩ := off_cell.1 hv
  have hl := cell_lt hc
  have hk := (box_below w2 (.cells #[.int .i64 k, .int .i64 n, .int .i64 d, .string s, .slice p len cap] 24)).block b hl
  unfold World.cell? at hc ⊢
  rw [hk]; exact hc
theorem x2_of {g n m g2 k b : Nat} (h : X1 g n b = true) : X2 g n m g2 k b = true := by
  have h' : (b != g && decide (b < n)) = true := h
  show ((b != g && decide (b < n)) || _) = true
  rw [h']; rfl
theorem num_set {w2 : World} {a bz : Nat} {b0 b1 b2 b3 b4 : Value} (h : w2.heap[a]? = some Ob) (hne : a ≠ bz) :
    (((((w2.setCell ⟨bz, 0, none⟩ b0).setCell ⟨bz, 1, none⟩ b1).setCell ⟨bz, 2, none⟩ b2).setCell ⟨bz, 3, none⟩ b3).setCell ⟨bz, 4, none⟩ b4).cell? ⟨a, 0, none⟩ = some (.int .i64 0) ∧ (((((w2.setCell ⟨bz, 0, none⟩ b0).setCell ⟨bz, 1, none⟩ b1).setCell ⟨bz, 2, none⟩ b2).setCell ⟨bz, 3, none⟩ b3).setCell ⟨bz, 4, none⟩ b4).cell? ⟨a, 1, none⟩ = some (.int .i64 1) ∧ (((((w2.setCell ⟨bz, 0, none⟩ b0).setCell ⟨bz, 1, none⟩ b1).setCell ⟨bz, 2, none⟩ b2).setCell ⟨bz, 3, none⟩ b3).setCell ⟨bz, 4, none⟩ b4).cell? ⟨a, 2, none⟩ = some (.int .i64 1) ∧ (((((w2.setCell ⟨bz, 0, none⟩ b0).setCell ⟨bz, 1, none⟩ b1).setCell ⟨bz, 2, none⟩ b2).setCell ⟨bz, 3, none⟩ b3).setCell ⟨bz, 4, none⟩ b4).cell? ⟨a, 3, none⟩ = some (.string ⟨#[]⟩) ∧ (((((w2.setCell ⟨bz, 0, none⟩ b0).setCell ⟨bz, 1, none⟩ b1).setCell ⟨bz, 2, none⟩ b2).setCell ⟨bz, 3, none⟩ b3).setCell ⟨bz, 4, none⟩ b4).cell? ⟨a, 4, none⟩ = some (.slice none 0 0) :=
  box_cells ((set_five_other hne).trans h)
abbrev Pb : Obj := .cells #[.int .i64 0, .int .i64 1, .int .i64 1, .string ⟨#[]⟩, .slice none 0 0, .int .i64 0, .int .i64 2, .int .i64 1, .string ⟨#[]⟩, .slice none 0 0] 24 (0, 0)
theorem pair_at (w : World) : (Dt.node 6 0 0 emp [aOne, aTwo]).At (w.alloc Pb) (.agg #[.int .i64 6, .int .i64 0, .int .i64 0, .string ⟨#[]⟩, .slice (some ⟨w.heap.size, 0, none⟩) 2 2]) := by
  have hc : ∀ j v, #[Value.int .i64 0, .int .i64 1, .int .i64 1, .string ⟨#[]⟩, .slice none 0 0, .int .i64 0, .int .i64 2, .int .i64 1, .string ⟨#[]⟩, .slice none 0 0][j]? = some v → (w.alloc Pb).cell? ⟨w.heap.size, j, none⟩ = some v := fun j v hj => by rw [cell_of_block (at_new w Pb)]; exact hj
  unfold Dt.At
  refine ⟨by unfold I64; omega, by unfold I64; omega, by unfold I64; omega, by unfold maxLen; decide, by simp [maxLen], some ⟨w.heap.size, 0, none⟩, 2, rfl, Or.inr ⟨w.heap.size, 0, rfl, ?_⟩⟩
  unfold Dt.AllAt
  refine ⟨⟨_, _, _, _, _, hc 0 _ rfl, hc 1 _ rfl, hc 2 _ rfl, hc 3 _ rfl, hc 4 _ rfl, leaf_at _ _ _ _ _ (by unfold I64; omega) (by unfold I64; omega) (by unfold I64; omega) (by unfold maxLen; decide)⟩, ?_⟩
  unfold Dt.AllAt
  refine ⟨⟨_, _, _, _, _, hc 5 _ rfl, hc 6 _ rfl, hc 7 _ rfl, hc 8 _ rfl, hc 9 _ rfl, leaf_at _ _ _ _ _ (by unfold I64; omega) (by unfold I64; omega) (by unfold I64; omega) (by unfold maxLen; decide)⟩, ?_⟩
  unfold Dt.AllAt; trivial
theorem x2_mid (a m : Nat) : X2 (a + 1) (a + 2) m (m + 1) (m + 2) m = true := by simp [X2]
theorem x2_end (a m : Nat) : X2 (a + 1) (a + 2) m m (m + 2) (m + 1) = true := by simp [X2]
set_option maxHeartbeats 16000000 in
set_option maxRecDepth 100000 in
theorem awake_list (w : World) (T : World → Prop) (hL : Lasts T) (ht : T w) (R : Int → Int → Bool) (Nm : ByteArray → Bool) (NT : Int → Int → List UInt8)
    (hX : ∀ (t : Dt) (v : Value) (a : ByteArray) (w : World), t.At w v → T w → (t.right R Nm 0 = true → (t.text NT).length ≤ 140737488355328) → a.data.toList = t.full R Nm NT → Calls Tryd.prog 21 #[v] w fun e w' => e = .returned (.string a) ∧ Below w.heap.size w w')
    (g1 : (lAll.text NT).length ≤ 140737488355328) (e1 : [40, 49, 32, 120, 32, 40, 34, 97, 34, 41, 41] = lAll.full R Nm NT)
    (g2 : (Dt.text NT (.node 6 0 0 emp [aOne, aTwo])).length ≤ 140737488355328) (e2 : [40, 49, 32, 46, 32, 50, 41] = Dt.full R Nm NT (.node 6 0 0 emp [aOne, aTwo])) :
    Calls Tryd.prog 10 #[] w fun e w' => e = .returned (.bool true) ∧ Below w.heap.size w w' := by
  have HX := Lib.hid hX
  have HL := Lib.hid hL
  have HT := Lib.hid ht
  have HG1 := Lib.hid g1
  have HE1 := Lib.hid e1
  have HG2 := Lib.hid g2
  have HE2 := Lib.hid e2
  clear hX hL ht g1 e1 g2 e2
  go_enter Tryd.func10, Tryd.ntmps10
  go_wp2_with fail
  go_cut [2] from 4 to 10 (fun s2 wx => MadeAt w s2 wx)
  case first =>
    have f0 : (w.alloc Ob).cell? ⟨w.heap.size, 0, none⟩ = some (.int .i64 0) := by simp
    have f1 : (w.alloc Ob).cell? ⟨w.heap.size, 1, none⟩ = some (.int .i64 1) := by simp
    have f2 : (w.alloc Ob).cell? ⟨w.heap.size, 2, none⟩ = some (.int .i64 1) := by simp
    have f3 : (w.alloc Ob).cell? ⟨w.heap.size, 3, none⟩ = some (.string ⟨#[]⟩) := by simp
    have f4 : (w.alloc Ob).cell? ⟨w.heap.size, 4, none⟩ = some (.slice none 0 0) := by simp
    have hob := at_new w Ob
    have hs0 : (w.alloc Ob).heap.size = w.heap.size + 1 := by simp
    have hb0 := box_below w Ob
    obtain ⟨W, hW⟩ : ∃ W, w.alloc Ob = W := ⟨_, rfl⟩
    rw [hW] at f0 f1 f2 f3 f4 hob hs0 hb0
    rw [show (w.alloc (.cells #[.int .i64 0, .int .i64 1, .int .i64 1, .string ⟨#[]⟩, .slice none 0 0] 24)) = W from hW]
    have HOB := Lib.hid hob
    have HB0 := Lib.hid hb0
    have HS0 := Lib.hid hs0
    clear hW hob hb0
    go_region_held3 (fun w' => w'.cell? ⟨w.heap.size, 0, none⟩ = some (.int .i64 0) ∧ w'.cell? ⟨w.heap.size, 1, none⟩ = some (.int .i64 1) ∧ w'.cell? ⟨w.heap.size, 2, none⟩ = some (.int .i64 1) ∧ w'.cell? ⟨w.heap.size, 3, none⟩ = some (.string ⟨#[]⟩) ∧ w'.cell? ⟨w.heap.size, 4, none⟩ = some (.slice none 0 0))
      (with_reducible (first | (refine ⟨?_, ?_, ?_, ?_, ?_⟩ <;> assumption) | exact box_cells (at_drew HOB.out) | exact box_cells (at_drew HW1.out) | exact box_cells (at_drew HW2.out) | exact box_cells (at_drew (at_old HOB.out)) | exact box_cells (at_old HOB.out) | exact box_cells (at_drew (at_old (at_old HOB.out))) | exact box_cells (at_old (at_old HOB.out)) | exact box_cells (at_drew (at_old HW1.out)) | exact box_cells (at_old HW1.out) | exact box_cells (at_drew (at_old (at_old HW1.out))) | exact box_cells (at_old (at_old HW1.out)) | exact box_cells HW1.out | exact box_cells HW2.out | exact box_cells (at_old HW2.out) | exact num_set HW2.out (by omega) | exact num_set HW2.out (by have := HN1.out; omega) | exact num_set (at_old HW2.out) (by have := HN2.out; omega)))
      (first
        | (go_at_call 25
           with_reducible refine Calls.mono (list_oneN (w.heap.size + 2) (w.heap.size + 3) ((W.alloc (.cells #[.int .i64 0, .int .i64 0, .int .i64 0, .string ⟨#[]⟩, .slice none 0 0] 24)).alloc (.cells #[.int .i64 3, .int .i64 0, .int .i64 0, .string ⟨#[97]⟩, .slice none 0 0] 24)).drew ?_ ?_) ?_
           · exact ((sz2 W _ _).trans (by rw [HS0.out]))
           · exact at_drew (at_new_eq (by rw [sz1, HS0.out]))
           rintro e w1 ⟨⟨k, n, d, s, p, len, cap, rfl, hu⟩, hb⟩
           have HU := Lib.hid hu
           have HW1 := Lib.hid (show w1.heap[w.heap.size]? = some Ob from (hb.block _ (by omega)).trans (at_drew (at_old (at_old HOB.out))))
           have HB1 := Lib.hid (show Below w.heap.size w w1 from ((HB0.out).trans ((below2 W _ _).mono (by rw [HS0.out]; omega)).drew).trans (hb.mono (by omega)))
           have HN1 := Lib.hid (show w.heap.size + 3 ≤ w1.heap.size from Nat.le_trans (Nat.le_of_eq (Eq.symm ((sz2 W _ _).trans (by rw [HS0.out])))) hb.size)
           have HZ1 := Lib.hid (show w1.heap[w.heap.size + 1]? = some Zb from (hb.block _ (by omega)).trans (at_drew (at_old (at_new_eq (HS0.out).symm))))
           have HX1 := Lib.hid (show X1 (w.heap.size + 2) (w.heap.size + 3) (w.heap.size + 1) = true from by simp [X1])
           obtain ⟨k0, k1, k2, k3, k4⟩ := box_cells HW1.out
           clear hu hb)
        | (go_at_call 25
           with_reducible refine Calls.mono (list_oneN (w.heap.size + 1) (w.heap.size + 3) ((W.alloc (.cells #[.int .i64 3, .int .i64 0, .int .i64 0, .string ⟨#[97]⟩, .slice none 0 0] 24)).alloc (.cells #[.int .i64 0, .int .i64 0, .int .i64 0, .string ⟨#[]⟩, .slice none 0 0] 24)).drew ?_ ?_) ?_
           · exact ((sz2 W _ _).trans (by rw [HS0.out]))
           · exact at_drew (at_old (at_new_eq (HS0.out).symm))
           rintro e w1 ⟨⟨k, n, d, s, p, len, cap, rfl, hu⟩, hb⟩
           have HU := Lib.hid hu
           have HW1 := Lib.hid (show w1.heap[w.heap.size]? = some Ob from (hb.block _ (by omega)).trans (at_drew (at_old (at_old HOB.out))))
           have HB1 := Lib.hid (show Below w.heap.size w w1 from ((HB0.out).trans ((below2 W _ _).mono (by rw [HS0.out]; omega)).drew).trans (hb.mono (by omega)))
           have HN1 := Lib.hid (show w.heap.size + 3 ≤ w1.heap.size from Nat.le_trans (Nat.le_of_eq (Eq.symm ((sz2 W _ _).trans (by rw [HS0.out])))) hb.size)
           have HZ1 := Lib.hid (show w1.heap[w.heap.size + 2]? = some Zb from (hb.block _ (by omega)).trans (at_drew (at_new_eq (by rw [sz1, HS0.out]))))
           have HX1 := Lib.hid (show X1 (w.heap.size + 1) (w.heap.size + 3) (w.heap.size + 2) = true from by simp [X1])
           obtain ⟨k0, k1, k2, k3, k4⟩ := box_cells HW1.out
           clear hu hb)
        | (go_at_call 25
           with_reducible refine Calls.mono (list_oneN (w.heap.size + 1) (w.heap.size + 2) (W.alloc (.cells #[.int .i64 3, .int .i64 0, .int .i64 0, .string ⟨#[97]⟩, .slice none 0 0] 24)).drew ?_ ?_) ?_
           · exact ((sz1 W _).trans (by rw [HS0.out]))
           · exact at_drew (at_new_eq (HS0.out).symm)
           rintro e w1 ⟨⟨k, n, d, s, p, len, cap, rfl, hu⟩, hb⟩
           have HU := Lib.hid hu
           have HW1 := Lib.hid (show w1.heap[w.heap.size]? = some Ob from (hb.block _ (by omega)).trans (at_drew (at_old HOB.out)))
           have HB1 := Lib.hid (show Below w.heap.size w w1 from ((HB0.out).trans ((box_below W _).mono (by rw [HS0.out]; omega)).drew).trans (hb.mono (by omega)))
           have HN1 := Lib.hid (show w.heap.size + 2 ≤ w1.heap.size from Nat.le_trans (Nat.le_of_eq (Eq.symm ((sz1 W _).trans (by rw [HS0.out])))) hb.size)
           obtain ⟨k0, k1, k2, k3, k4⟩ := box_cells HW1.out
           clear hu hb)
        | (go_at_call 25
           with_reducible refine Calls.mono (list_threeN (w1.heap.size) _ _ (w1.heap.size + 1) w1 (w1.alloc _) ?_ ?_ ?_ ?_ _ _ _ _ _ _ _ ?_ HU.out) ?_
           · exact (sz1 w1 _)
           · exact (Nat.le_refl _)
           · exact HN1.out
           · exact (box_below w1 _)
           · exact (at_new w1 _)
           rintro e w2 ⟨⟨k2, n2, d2, s2, p2, len2, cap2, rfl, hu⟩, hb⟩
           have HU2 := Lib.hid hu
           have HN := HN1.out
           have HW2 := Lib.hid (show w2.heap[w.heap.size]? = some Ob from (hb.block _ (by omega)).trans (at_old HW1.out))
           have HB2 := Lib.hid (show Below w.heap.size w w2 from ((HB1.out).trans ((box_below w1 _).mono (by omega))).trans (hb.mono (by omega)))
           have HN2 := Lib.hid (show w.heap.size < w2.heap.size from by have h : w1.heap.size + 1 ≤ w2.heap.size := Nat.le_trans (Nat.le_of_eq (Eq.symm (sz1 w1 _))) hb.size; omega)
           have HZ2 := Lib.hid ((hb.block _ (by omega)).trans ((at_old HZ1.out)))
           have HX2 := Lib.hid (x2_of (m := w1.heap.size) (g2 := w1.heap.size) (k := w1.heap.size + 1) (HX1.out))
           obtain ⟨y0, y1, y2, y3, y4⟩ := box_cells HZ2.out
           have q0 := box_frozen HZ2.out 0
           have q1 := box_frozen HZ2.out 1
           have q2 := box_frozen HZ2.out 2
           have q3 := box_frozen HZ2.out 3
           have q4 := box_frozen HZ2.out 4
           obtain ⟨m0, m1, m2, m3, m4⟩ := box_cells HW2.out
           clear hu hb HN)
        | (go_at_call 25
           with_reducible refine Calls.mono (list_threeN (w1.heap.size + 1) _ _ (w1.heap.size + 2) w1 ((w1.alloc (.cells #[.int .i64 0, .int .i64 0, .int .i64 0, .string ⟨#[]⟩, .slice none 0 0] 24)).alloc _) ?_ ?_ ?_ ?_ _ _ _ _ _ _ _ ?_ HU.out) ?_
           · exact (sz2 w1 _ _)
           · exact (Nat.le_succ _)
           · exact HN1.out
           · exact (below2 w1 _ _)
           · exact (at_new_eq (sz1 w1 _).symm)
           rintro e w2 ⟨⟨k2, n2, d2, s2, p2, len2, cap2, rfl, hu⟩, hb⟩
           have HU2 := Lib.hid hu
           have HN := HN1.out
           have HW2 := Lib.hid (show w2.heap[w.heap.size]? = some Ob from (hb.block _ (by omega)).trans (at_old (at_old HW1.out)))
           have HB2 := Lib.hid (show Below w.heap.size w w2 from ((HB1.out).trans ((below2 w1 _ _).mono (by omega))).trans (hb.mono (by omega)))
           have HN2 := Lib.hid (show w.heap.size < w2.heap.size from by have h : w1.heap.size + 2 ≤ w2.heap.size := Nat.le_trans (Nat.le_of_eq (Eq.symm (sz2 w1 _ _))) hb.size; omega)
           have HZ2 := Lib.hid ((hb.block w1.heap.size (by omega)).trans ((at_old (at_new w1 Zb))))
           have HX2 := Lib.hid (x2_mid w.heap.size w1.heap.size)
           obtain ⟨y0, y1, y2, y3, y4⟩ := box_cells HZ2.out
           have q0 := box_frozen HZ2.out 0
           have q1 := box_frozen HZ2.out 1
           have q2 := box_frozen HZ2.out 2
           have q3 := box_frozen HZ2.out 3
           have q4 := box_frozen HZ2.out 4
           obtain ⟨m0, m1, m2, m3, m4⟩ := box_cells HW2.out
           clear hu hb HN)
        | (go_at_call 25
           with_reducible refine Calls.mono (list_threeN (w1.heap.size) _ _ (w1.heap.size + 2) w1 ((w1.alloc _).alloc (.cells #[.int .i64 0, .int .i64 0, .int .i64 0, .string ⟨#[]⟩, .slice none 0 0] 24)) ?_ ?_ ?_ ?_ _ _ _ _ _ _ _ ?_ HU.out) ?_
           · exact (sz2 w1 _ _)
           · exact (Nat.le_refl _)
           · exact HN1.out
           · exact (below2 w1 _ _)
           · exact (at_old (at_new w1 _))
           rintro e w2 ⟨⟨k2, n2, d2, s2, p2, len2, cap2, rfl, hu⟩, hb⟩
           have HU2 := Lib.hid hu
           have HN := HN1.out
           have HW2 := Lib.hid (show w2.heap[w.heap.size]? = some Ob from (hb.block _ (by omega)).trans (at_old (at_old HW1.out)))
           have HB2 := Lib.hid (show Below w.heap.size w w2 from ((HB1.out).trans ((below2 w1 _ _).mono (by omega))).trans (hb.mono (by omega)))
           have HN2 := Lib.hid (show w.heap.size < w2.heap.size from by have h : w1.heap.size + 2 ≤ w2.heap.size := Nat.le_trans (Nat.le_of_eq (Eq.symm (sz2 w1 _ _))) hb.size; omega)
           have HZ2 := Lib.hid ((hb.block (w1.heap.size + 1) (by omega)).trans ((at_new_eq (sz1 w1 _).symm)))
           have HX2 := Lib.hid (x2_end w.heap.size w1.heap.size)
           obtain ⟨y0, y1, y2, y3, y4⟩ := box_cells HZ2.out
           have q0 := box_frozen HZ2.out 0
           have q1 := box_frozen HZ2.out 1
           have q2 := box_frozen HZ2.out 2
           have q3 := box_frozen HZ2.out 3
           have q4 := box_frozen HZ2.out 4
           obtain ⟨m0, m1, m2, m3, m4⟩ := box_cells HW2.out
           clear hu hb HN)
        | (go_at_call 25
           with_reducible refine Calls.mono (list_threeN (w1.heap.size) _ _ (w1.heap.size + 1) w1 (w1.alloc _) ?_ ?_ ?_ ?_ _ _ _ _ _ _ _ ?_ HU.out) ?_
           · exact (sz1 w1 _)
           · exact (Nat.le_refl _)
           · exact HN1.out
           · exact (box_below w1 _)
           · exact (at_new w1 _)
           rintro e w2 ⟨⟨k2, n2, d2, s2, p2, len2, cap2, rfl, hu⟩, hb⟩
           have HU2 := Lib.hid hu
           have HN := HN1.out
           have HW2 := Lib.hid (show w2.heap[w.heap.size]? = some Ob from (hb.block _ (by omega)).trans (at_old HW1.out))
           have HB2 := Lib.hid (show Below w.heap.size w w2 from ((HB1.out).trans ((box_below w1 _).mono (by omega))).trans (hb.mono (by omega)))
           have HN2 := Lib.hid (show w.heap.size < w2.heap.size from by have h : w1.heap.size + 1 ≤ w2.heap.size := Nat.le_trans (Nat.le_of_eq (Eq.symm (sz1 w1 _))) hb.size; omega)
           obtain ⟨m0, m1, m2, m3, m4⟩ := box_cells HW2.out
           clear hu hb HN))
    all_goals (go_wp2_with fail)
    all_goals go_meet
    all_goals first
      | with_reducible exact made_store HZ2.out HX2.out HU2.out HW2.out HB2.out (by omega)
      | with_reducible exact made_store HZ2.out HX2.out HU2.out HW2.out HB2.out (by have := HN1.out; omega)
      | with_reducible exact made_new HU2.out HW2.out HB2.out HN2.out
  case rest =>
    obtain ⟨B, k, n, d, s, p, len, cap, rfl, hbx, hat, hob, hb⟩ := hcut
    obtain ⟨c0, c1, c2, c3, c4⟩ := box_cells hbx
    have HAT := Lib.hid hat
    have HOB := Lib.hid hob
    have HB := Lib.hid hb
    have hlt := lt_of_block hob
    have C1 := Lib.hid (HX.out lAll _ ⟨#[40, 49, 32, 120, 32, 40, 34, 97, 34, 41, 41]⟩ wc hat (HL.out _ _ HT.out hb) (fun _ => HG1.out) HE1.out)
    clear hbx hat hob hb
    go_wp2_with fail
    refine C1.out.mono ?_
    rintro e w3 ⟨rfl, hb3⟩
    obtain ⟨m0, m1, m2, m3, m4⟩ := box_cells (block_on hb3 HOB.out)
    have HB3 := Lib.hid ((HB.out).trans (hb3.mono (by omega)))
    have hlt3 : w.heap.size < w3.heap.size := by have := hb3.size; omega
    clear hb3
    go_wp2_with fail
    have C2 := Lib.hid (HX.out (.node 6 0 0 emp [aOne, aTwo]) (.agg #[.int .i64 6, .int .i64 0, .int .i64 0, .string ⟨#[]⟩, .slice (some ⟨w3.heap.size, 0, none⟩) 2 2]) ⟨#[40, 49, 32, 46, 32, 50, 41]⟩ (w3.alloc Pb) (pair_at w3) (HL.out _ _ HT.out ((HB3.out).alloc (Nat.le_of_lt hlt3) _)) (fun _ => HG2.out) HE2.out)
    refine C2.out.mono ?_
    rintro e w4 ⟨rfl, hb4⟩
    have HB4 := Lib.hid (((HB3.out).alloc (Nat.le_of_lt hlt3) _).trans (hb4.mono (Nat.le_trans (Nat.le_of_lt hlt3) (Nat.le_trans (Nat.le_succ _) (Nat.le_of_eq (sz1 _ _).symm)))))
    clear hb4
    go_wp2_with fail
    go_ret
    exact ⟨rfl, HB4.out⟩
end Go.Proofs.YtogjhoipofkogaaDoor.Dat

/- What the program's and the reference's functions answer at this seat; the laws' common part. -/
namespace Go.Proofs.YtogjhoipofkogaaDoor.Dat
open Go.RowKit
open Go.Proofs.YtogjhoipofkogaaDoor (textL parse res)
open NumPlain (rightB)
set_option linter.unusedVariables false

abbrev Tab (w : World) : Prop := Lib.TabIs Tryd.prog w "internal/strconv.uint64pow10" .u64 Lib.pow10Tab
theorem tab_lasts : Lasts Tab := fun _ _ h hb => tab_on h hb
theorem drew_below (w : World) (k : Nat) : Below w.heap.size w (w.drewN k) := ⟨rfl, rfl, rfl, Nat.le_refl _, fun _ _ => rfl⟩
theorem numRight : NumRight rightB := fun n d w hn hd => Go.Proofs.YtogjhoipofkogaaDoor.right_any n d _ rfl w hn.1 hn.2 hd.1 hd.2
theorem refRight : RCall rightB := fun n d w hn hd => Go.Proofs.YtogjhoipofkogaaDoor.rightRef_any n d _ rfl w hn.1 hn.2 hd.1 hd.2
theorem idx : IdxCall := fun c w => Tryd.strings_IndexByte _ c w
theorem nameIs : NameIs nameB := fun s w hs => (Name_any idx (fun s => parse s.data.toList) (fun s w hs => parse_any s hs w) s hs w).mono fun e w' ⟨he, k, hk⟩ => ⟨he, hk ▸ drew_below w k⟩
theorem refName : NCall nameB := fun s w hs => name_any (fun s => parse s.data.toList) (fun s w hs => parseRef_any s hs w) s hs w
theorem refNameB (s : ByteArray) (w : World) (hs : s.size ≤ maxLen) : Calls Tryd.prog 17 #[.string s] w fun e w' => e = .returned (.bool (nameB s)) ∧ Below w.heap.size w w' := (refName s w hs).mono fun e w' ⟨he, k, hk⟩ => ⟨he, hk ▸ drew_below w k⟩
theorem numText : NumText Tab textL := fun n d a w ht hn hd ha => Go.Proofs.YtogjhoipofkogaaDoor.text_any n d hn hd a ha w ht
theorem refText : TCall textL := fun n d a w hn hd ha => textRef_any n d hn hd a ha w
theorem char_sub {c : UInt8} (h : nameChar c = true) : strChar c = true := by
  have all : ∀ n : Fin 256, nameChar ⟨⟨n⟩⟩ = true → strChar ⟨⟨n⟩⟩ = true := by decide +kernel
  exact all c.toBitVec.toFin h
theorem nameSub : NameSub nameB := fun s h => by
  unfold nameB at h
  simp only [Bool.and_eq_true] at h
  have := h.1.2
  rw [List.all_eq_true] at this ⊢
  exact fun c hc => char_sub (this c hc)

theorem pRight (t : Dt) (v : Value) (w : World) (hat : t.At w v) : Calls Tryd.prog 12 #[v] w fun e w' => e = .returned (.bool (t.right rightB nameB 0)) ∧ Below w.heap.size w w' := ownRight_any rightB nameB numRight nameIs nameSub t v w hat
theorem rRight (t : Dt) (v : Value) (w : World) (hat : t.At w v) : Calls Tryd.prog 13 #[v] w fun e w' => e = .returned (.bool (t.right rightB nameB 0)) ∧ Below w.heap.size w w' := Right_any rightB nameB refRight refName t v w hat
theorem pText (t : Dt) (v : Value) (a : ByteArray) (w : World) (hat : t.At w v) (ht : Tab w) (hlen : t.right rightB nameB 0 = true → (t.text textL).length ≤ 140737488355328) (ha : a.data.toList = t.full rightB nameB textL) :
    Calls Tryd.prog 21 #[v] w fun e w' => e = .returned (.string a) ∧ Below w.heap.size w w' := ownText_any Tab numText tab_lasts pRight t v a w hat ht hlen ha
theorem awake_any (w : World) (ht : Tab w) : Calls Tryd.prog 10 #[] w fun e w' => e = .returned (.bool true) ∧ Below w.heap.size w w' :=
  awake_list w Tab tab_lasts ht rightB nameB textL pText (by decide +kernel) (by decide +kernel) (by decide +kernel) (by decide +kernel)

/-- What a call answers, whatever memory it makes. -/
abbrev Answers (f : FuncId) (args : Array Value) (w : World) (r : Value) : Prop := Calls Tryd.prog f args w fun e w' => e = .returned r ∧ Below w.heap.size w w'

set_option maxHeartbeats 400000 in
set_option maxRecDepth 100000 in
theorem fewLaw_any (t : Dt) (v : Value) (m : Int) (w : World) (h0 : 0 ≤ m) (h1 : m ≤ 100000) (hat : t.At w v) : Answers 11 #[v, .int .i64 m] w (.bool (decide ((t.size : Int) ≤ m))) := by
  have hd : decide (0 ≤ t.few m) = decide ((t.size : Int) ≤ m) := by
    rw [Bool.eq_iff_iff, decide_eq_true_iff, decide_eq_true_iff]; exact t.few_iff m h0
  obtain ⟨k, n, d, s, l⟩ := t
  have C := fun w' (h : (Dt.node k n d s l).At w' v) => Few_any (Dt.node k n d s l) v m w' h0 h1 h
  rw [hd] at C
  obtain ⟨b, hb⟩ : ∃ b, decide (((Dt.node k n d s l).size : Int) ≤ m) = b := ⟨_, rfl⟩
  rw [hb] at C ⊢
  have hat2 := hat
  unfold Dt.At at hat2
  obtain ⟨hk, hn, hd, hs, hlm, p, cap, rfl, hl⟩ := hat2
  have HC := Lib.hid C; clear C
  have HAT := Lib.hid hat; clear hat hl hlm hs hk hn hd
  unfold Answers
  go_enter Tryd.func11, Tryd.ntmps11
  go_wp2_with fail
  refine (HC.out _ ((HAT.out).below ((Below.refl _ _).alloc (Nat.le_refl _) _))).mono ?_
  rintro _ w1 ⟨rfl, hb1⟩
  have HB1 := Lib.hid hb1; clear hb1
  go_wp2_with fail
  go_ret
  exact ⟨rfl, below_after HB1.out⟩

theorem below_then {w w1 w2 : World} (h : Below w.heap.size w w1) (h2 : Below w1.heap.size w1 w2) : Below w.heap.size w w2 := h.trans (h2.mono h.size)
end Go.Proofs.YtogjhoipofkogaaDoor.Dat

/- The law DatumSame. -/
namespace Go.Proofs.YtogjhoipofkogaaDoor.Dat
open Go.RowKit
open Go.Proofs.YtogjhoipofkogaaDoor (textL parse res)
open NumPlain (rightB)
set_option linter.unusedVariables false

theorem no_off {w : World} (b o : Nat) (v : Value) (h : (off w (fun _ => false)).cell? ⟨b, o, none⟩ = some v) : w.cell? ⟨b, o, none⟩ = some v := (off_cell.1 h).2
theorem to_off {w : World} (b o : Nat) (v : Value) (h : w.cell? ⟨b, o, none⟩ = some v) : (off w (fun _ => false)).cell? ⟨b, o, none⟩ = some v := off_cell.2 ⟨rfl, h⟩
/-- A row of data lies there. -/
def RowAt (w : World) (l : List Dt) (p : Option Addr) : Prop := l = [] ∨ ∃ b o, p = some ⟨b, o, none⟩ ∧ Dt.AllAt w l b o
theorem RowAt.on {w w' : World} {l : List Dt} {p : Option Addr} (hc : ∀ b o v, w.cell? ⟨b, o, none⟩ = some v → w'.cell? ⟨b, o, none⟩ = some v) (h : RowAt w l p) : RowAt w' l p := by
  rcases h with h | ⟨b, o, hp, ha⟩
  · exact Or.inl h
  · exact Or.inr ⟨b, o, hp, ha.on hc⟩
theorem RowAt.below {w w' : World} {l : List Dt} {p : Option Addr} (h : RowAt w l p) (hb : Below w.heap.size w w') : RowAt w' l p := h.on fun b o v hv => cell_on hb b o v hv
abbrev box5 (k n d : Int) (s : ByteArray) (p : Option Addr) (len cap : Nat) : Value := .agg #[.int .i64 k, .int .i64 n, .int .i64 d, .string s, .slice p len cap]
theorem pList (l : List Dt) (p : Option Addr) (cap : Nat) (w : World) (hlm : l.length ≤ maxLen) (hsl : Dt.slimAll l) (hl : RowAt w l p) :
    Calls Tryd.prog 25 #[.slice p l.length cap] w fun e w' => (∃ k n d s p len cap, e = .returned (.agg #[.int .i64 k, .int .i64 n, .int .i64 d, .string s, .slice p len cap]) ∧ (Dt.list l).At w' (.agg #[.int .i64 k, .int .i64 n, .int .i64 d, .string s, .slice p len cap])) ∧ Below w.heap.size w w' :=
  (ownList_any (fun _ => false) l p cap w (fun _ _ => rfl) hlm hsl (hl.on to_off)).mono fun e w' ⟨⟨k, n, d, s, p, len, cap, he, hu⟩, hb⟩ => ⟨⟨k, n, d, s, p, len, cap, he, hu.on no_off⟩, hb⟩
theorem rList (l : List Dt) (p : Option Addr) (cap : Nat) (w : World) (hlm : l.length ≤ maxLen) (hl : RowAt w l p) :
    Calls Tryd.prog 26 #[.slice p l.length cap] w fun e w' => (∃ k n d s p len cap, e = .returned (.agg #[.int .i64 k, .int .i64 n, .int .i64 d, .string s, .slice p len cap]) ∧ (Dt.list l).At w' (.agg #[.int .i64 k, .int .i64 n, .int .i64 d, .string s, .slice p len cap])) ∧ Below w.heap.size w w' := by
  refine (List_any (fun _ => false) l p cap w (fun _ _ => rfl) hlm (hl.on to_off)).mono ?_
  rintro e w' ⟨⟨u, rfl, hu⟩, hb⟩
  have hu := hu.on no_off
  refine ⟨?_, hb⟩
  generalize Dt.list l = t at hu ⊢
  obtain ⟨k, n, d, s, r⟩ := t
  have hu2 := hu
  unfold Dt.At at hu
  obtain ⟨-, -, -, -, -, q, cap, rfl, -⟩ := hu
  exact ⟨k, n, d, s, q, r.length, cap, rfl, hu2⟩
theorem lists_alike (t : Dt) (v v' : Value) (w : World) (h : t.At w v) (h' : t.At w v') : Calls Tryd.prog 20 #[v, v'] w fun e w' => e = .returned (.bool true) ∧ Below w.heap.size w w' := by
  have := alike_any t.size t t v v' w (Nat.le_refl _) h h'
  rwa [(Dt.alike_iff t t).2 rfl] at this

set_option maxHeartbeats 8000000 in
set_option maxRecDepth 100000 in
theorem datumSame_any (t t' : Dt) (v v' : Value) (l0 : List Dt) (q : Option Addr) (cq : Nat) (w : World) (htab : Tab w) (hat : t.At w v) (hat' : t'.At w v') (hlm : l0.length ≤ maxLen) (hsl : Dt.slimAll l0) (hl : RowAt w l0 q) :
    Answers 5 #[v, v', .slice q l0.length cq] w (.bool true) := by
  have hA := fun w' (h : Below w.heap.size w w') => awake_any w' (tab_on htab h)
  have F1 := fun w' (hb : Below w.heap.size w w') => fewLaw_any t v 2000 w' (by omega) (by omega) (hat.below hb)
  have F2 := fun w' (hb : Below w.heap.size w w') => fewLaw_any t' v' 2000 w' (by omega) (by omega) (hat'.below hb)
  have CS := fun w' (hb : Below w.heap.size w w') => ownSame_any (fun t => t.right rightB nameB 0) pRight t t' v v' w' (hat.below hb) (hat'.below hb)
  have CR := fun w' (hb : Below w.heap.size w w') => Same_any refRight refName t t' v v' w' (hat.below hb) (hat'.below hb)
  have CL := fun w' (hb : Below w.heap.size w w') => pList l0 q cq w' hlm hsl (hl.below hb)
  have CRL := fun w' (hb : Below w.heap.size w w') => rList l0 q cq w' hlm (hl.below hb)
  unfold Dt.same at CR
  obtain ⟨sm, hsm⟩ : ∃ r, (t.right rightB nameB 0 && t'.right rightB nameB 0 && t.alike t') = r := ⟨_, rfl⟩
  rw [hsm] at CS CR
  obtain ⟨f1, hf1⟩ : ∃ b, decide ((t.size : Int) ≤ 2000) = b := ⟨_, rfl⟩
  obtain ⟨f2, hf2⟩ : ∃ b, decide ((t'.size : Int) ≤ 2000) = b := ⟨_, rfl⟩
  rw [hf1] at F1
  rw [hf2] at F2
  have HA := Lib.hid hA
  have HF1 := Lib.hid F1
  have HF2 := Lib.hid F2
  have HS := Lib.hid CS
  have HRS := Lib.hid CR
  have HL := Lib.hid CL
  have HRL := Lib.hid CRL
  clear hA F1 F2 CS CR CL CRL hsm hf1 hf2 hl hsl
  obtain ⟨k, n, d, s, l⟩ := t
  obtain ⟨k2, n2, d2, s2, l2⟩ := t'
  unfold Dt.At at hat hat'
  obtain ⟨-, -, -, -, -, p, cap, rfl, -⟩ := hat
  obtain ⟨-, -, -, -, -, p2, cap2, rfl, -⟩ := hat'
  unfold Answers
  by_cases h200 : (200 : Int) < (l0.length : Int)
  · go_enter Tryd.func5, Tryd.ntmps5
    go_wp2_with fail
    refine (HA.out _ (below2 w _ _)).mono ?_
    rintro _ w1 ⟨rfl, hb1⟩
    obtain ⟨x1, x2⟩ := two_box hb1
    obtain ⟨a0, a1, a2, a3, a4⟩ := box_cells x1
    obtain ⟨b0, b1, b2, b3, b4⟩ := box_cells x2
    have B1 := Lib.hid ((below2 w _ _).trans (hb1.mono (by rw [sz2]; omega)))
    clear hb1 x1 x2
    go_wp2_with fail
    refine (HF1.out _ B1.out).mono ?_
    rintro _ w2 ⟨rfl, hb⟩
    replace a0 := cell_on hb _ _ _ a0
    replace a1 := cell_on hb _ _ _ a1
    replace a2 := cell_on hb _ _ _ a2
    replace a3 := cell_on hb _ _ _ a3
    replace a4 := cell_on hb _ _ _ a4
    replace b0 := cell_on hb _ _ _ b0
    replace b1 := cell_on hb _ _ _ b1
    replace b2 := cell_on hb _ _ _ b2
    replace b3 := cell_on hb _ _ _ b3
    replace b4 := cell_on hb _ _ _ b4
    have B2 := Lib.hid (below_then B1.out hb)
    clear hb
    cases f1
    · go_wp2_with fail
      go_ret
      exact ⟨rfl, B2.out⟩
    go_wp2_with fail
    refine (HF2.out _ B2.out).mono ?_
    rintro _ w3 ⟨rfl, hb⟩
    replace a0 := cell_on hb _ _ _ a0
    replace a1 := cell_on hb _ _ _ a1
    replace a2 := cell_on hb _ _ _ a2
    replace a3 := cell_on hb _ _ _ a3
    replace a4 := cell_on hb _ _ _ a4
    replace b0 := cell_on hb _ _ _ b0
    replace b1 := cell_on hb _ _ _ b1
    replace b2 := cell_on hb _ _ _ b2
    replace b3 := cell_on hb _ _ _ b3
    replace b4 := cell_on hb _ _ _ b4
    have B3 := Lib.hid (below_then B2.out hb)
    clear hb
    cases f2
    · go_wp2_with fail
      go_ret
      exact ⟨rfl, B3.out⟩
    go_wp2_with fail
    go_ret
    exact ⟨rfl, B3.out⟩
  · go_enter Tryd.func5, Tryd.ntmps5
    go_wp2_with fail
    refine (HA.out _ (below2 w _ _)).mono ?_
    rintro _ w1 ⟨rfl, hb1⟩
    obtain ⟨x1, x2⟩ := two_box hb1
    obtain ⟨a0, a1, a2, a3, a4⟩ := box_cells x1
    obtain ⟨b0, b1, b2, b3, b4⟩ := box_cells x2
    have B1 := Lib.hid ((below2 w _ _).trans (hb1.mono (by rw [sz2]; omega)))
    clear hb1 x1 x2
    go_wp2_with fail
    refine (HF1.out _ B1.out).mono ?_
    rintro _ w2 ⟨rfl, hb⟩
    replace a0 := cell_on hb _ _ _ a0
    replace a1 := cell_on hb _ _ _ a1
    replace a2 := cell_on hb _ _ _ a2
    replace a3 := cell_on hb _ _ _ a3
    replace a4 := cell_on hb _ _ _ a4
    replace b0 := cell_on hb _ _ _ b0
    replace b1 := cell_on hb _ _ _ b1
    replace b2 := cell_on hb _ _ _ b2
    replace b3 := cell_on hb _ _ _ b3
    replace b4 := cell_on hb _ _ _ b4
    have B2 := Lib.hid (below_then B1.out hb)
    clear hb
    cases f1
    · go_wp2_with fail
      go_ret
      exact ⟨rfl, B2.out⟩
    go_wp2_with fail
    refine (HF2.out _ B2.out).mono ?_
    rintro _ w3 ⟨rfl, hb⟩
    replace a0 := cell_on hb _ _ _ a0
    replace a1 := cell_on hb _ _ _ a1
    replace a2 := cell_on hb _ _ _ a2
    replace a3 := cell_on hb _ _ _ a3
    replace a4 := cell_on hb _ _ _ a4
    replace b0 := cell_on hb _ _ _ b0
    replace b1 := cell_on hb _ _ _ b1
    replace b2 := cell_on hb _ _ _ b2
    replace b3 := cell_on hb _ _ _ b3
    replace b4 := cell_on hb _ _ _ b4
    have B3 := Lib.hid (below_then B2.out hb)
    clear hb
    cases f2
    · go_wp2_with fail
      go_ret
      exact ⟨rfl, B3.out⟩
    go_wp2_with fail
    have B4 := (B3.out).drew
    replace a0 : w3.drew.cell? ⟨w.heap.size, 0, none⟩ = some (.int .i64 k) := a0
    replace a1 : w3.drew.cell? ⟨w.heap.size, 1, none⟩ = some (.int .i64 n) := a1
    replace a2 : w3.drew.cell? ⟨w.heap.size, 2, none⟩ = some (.int .i64 d) := a2
    replace a3 : w3.drew.cell? ⟨w.heap.size, 3, none⟩ = some (.string s) := a3
    replace a4 : w3.drew.cell? ⟨w.heap.size, 4, none⟩ = some (.slice p l.length cap) := a4
    replace b0 : w3.drew.cell? ⟨w.heap.size + 1, 0, none⟩ = some (.int .i64 k2) := b0
    replace b1 : w3.drew.cell? ⟨w.heap.size + 1, 1, none⟩ = some (.int .i64 n2) := b1
    replace b2 : w3.drew.cell? ⟨w.heap.size + 1, 2, none⟩ = some (.int .i64 d2) := b2
    replace b3 : w3.drew.cell? ⟨w.heap.size + 1, 3, none⟩ = some (.string s2) := b3
    replace b4 : w3.drew.cell? ⟨w.heap.size + 1, 4, none⟩ = some (.slice p2 l2.length cap2) := b4
    go_region_held3 (fun w' => w'.cell? ⟨w.heap.size, 0, none⟩ = some (.int .i64 k) ∧ w'.cell? ⟨w.heap.size, 1, none⟩ = some (.int .i64 n) ∧ w'.cell? ⟨w.heap.size, 2, none⟩ = some (.int .i64 d) ∧ w'.cell? ⟨w.heap.size, 3, none⟩ = some (.string s) ∧ w'.cell? ⟨w.heap.size, 4, none⟩ = some (.slice p l.length cap) ∧ w'.cell? ⟨w.heap.size + 1, 0, none⟩ = some (.int .i64 k2) ∧ w'.cell? ⟨w.heap.size + 1, 1, none⟩ = some (.int .i64 n2) ∧ w'.cell? ⟨w.heap.size + 1, 2, none⟩ = some (.int .i64 d2) ∧ w'.cell? ⟨w.heap.size + 1, 3, none⟩ = some (.string s2) ∧ w'.cell? ⟨w.heap.size + 1, 4, none⟩ = some (.slice p2 l2.length cap2) ∧ Below w.heap.size w w')
      (first | (refine ⟨?_, ?_, ?_, ?_, ?_, ?_, ?_, ?_, ?_, ?_, ?_⟩ <;> with_reducible assumption) | exact ⟨a0, a1, a2, a3, a4, b0, b1, b2, b3, b4, B4⟩ | go_keep)
      (first
       | (go_at_call 23; refine (HS.out _ (by with_reducible assumption)).mono ?_; rintro _ w' ⟨rfl, hb⟩
          have ka0 : w'.cell? ⟨w.heap.size, 0, none⟩ = some (.int .i64 k) := cell_on hb _ _ _ (by with_reducible assumption)
          have ka1 : w'.cell? ⟨w.heap.size, 1, none⟩ = some (.int .i64 n) := cell_on hb _ _ _ (by with_reducible assumption)
          have ka2 : w'.cell? ⟨w.heap.size, 2, none⟩ = some (.int .i64 d) := cell_on hb _ _ _ (by with_reducible assumption)
          have ka3 : w'.cell? ⟨w.heap.size, 3, none⟩ = some (.string s) := cell_on hb _ _ _ (by with_reducible assumption)
          have ka4 : w'.cell? ⟨w.heap.size, 4, none⟩ = some (.slice p l.length cap) := cell_on hb _ _ _ (by with_reducible assumption)
          have kb0 : w'.cell? ⟨w.heap.size + 1, 0, none⟩ = some (.int .i64 k2) := cell_on hb _ _ _ (by with_reducible assumption)
          have kb1 : w'.cell? ⟨w.heap.size + 1, 1, none⟩ = some (.int .i64 n2) := cell_on hb _ _ _ (by with_reducible assumption)
          have kb2 : w'.cell? ⟨w.heap.size + 1, 2, none⟩ = some (.int .i64 d2) := cell_on hb _ _ _ (by with_reducible assumption)
          have kb3 : w'.cell? ⟨w.heap.size + 1, 3, none⟩ = some (.string s2) := cell_on hb _ _ _ (by with_reducible assumption)
          have kb4 : w'.cell? ⟨w.heap.size + 1, 4, none⟩ = some (.slice p2 l2.length cap2) := cell_on hb _ _ _ (by with_reducible assumption)
          have kB : Below w.heap.size w w' := below_then (by with_reducible assumption) hb
          clear hb)
       | (go_at_call 24; refine (HRS.out _ (by with_reducible assumption)).mono ?_; rintro _ w' ⟨rfl, hb⟩
          have ka0 : w'.cell? ⟨w.heap.size, 0, none⟩ = some (.int .i64 k) := cell_on hb _ _ _ (by with_reducible assumption)
          have ka1 : w'.cell? ⟨w.heap.size, 1, none⟩ = some (.int .i64 n) := cell_on hb _ _ _ (by with_reducible assumption)
          have ka2 : w'.cell? ⟨w.heap.size, 2, none⟩ = some (.int .i64 d) := cell_on hb _ _ _ (by with_reducible assumption)
          have ka3 : w'.cell? ⟨w.heap.size, 3, none⟩ = some (.string s) := cell_on hb _ _ _ (by with_reducible assumption)
          have ka4 : w'.cell? ⟨w.heap.size, 4, none⟩ = some (.slice p l.length cap) := cell_on hb _ _ _ (by with_reducible assumption)
          have kb0 : w'.cell? ⟨w.heap.size + 1, 0, none⟩ = some (.int .i64 k2) := cell_on hb _ _ _ (by with_reducible assumption)
          have kb1 : w'.cell? ⟨w.heap.size + 1, 1, none⟩ = some (.int .i64 n2) := cell_on hb _ _ _ (by with_reducible assumption)
          have kb2 : w'.cell? ⟨w.heap.size + 1, 2, none⟩ = some (.int .i64 d2) := cell_on hb _ _ _ (by with_reducible assumption)
          have kb3 : w'.cell? ⟨w.heap.size + 1, 3, none⟩ = some (.string s2) := cell_on hb _ _ _ (by with_reducible assumption)
          have kb4 : w'.cell? ⟨w.heap.size + 1, 4, none⟩ = some (.slice p2 l2.length cap2) := cell_on hb _ _ _ (by with_reducible assumption)
          have kB : Below w.heap.size w w' := below_then (by with_reducible assumption) hb
          clear hb)
       | (go_at_call 25; refine (HL.out _ (by with_reducible assumption)).mono ?_; rintro _ w' ⟨⟨k3, n3, d3, s3, p3, len3, cap3, rfl, hu⟩, hb⟩
          have ka0 : w'.cell? ⟨w.heap.size, 0, none⟩ = some (.int .i64 k) := cell_on hb _ _ _ (by with_reducible assumption)
          have ka1 : w'.cell? ⟨w.heap.size, 1, none⟩ = some (.int .i64 n) := cell_on hb _ _ _ (by with_reducible assumption)
          have ka2 : w'.cell? ⟨w.heap.size, 2, none⟩ = some (.int .i64 d) := cell_on hb _ _ _ (by with_reducible assumption)
          have ka3 : w'.cell? ⟨w.heap.size, 3, none⟩ = some (.string s) := cell_on hb _ _ _ (by with_reducible assumption)
          have ka4 : w'.cell? ⟨w.heap.size, 4, none⟩ = some (.slice p l.length cap) := cell_on hb _ _ _ (by with_reducible assumption)
          have kb0 : w'.cell? ⟨w.heap.size + 1, 0, none⟩ = some (.int .i64 k2) := cell_on hb _ _ _ (by with_reducible assumption)
          have kb1 : w'.cell? ⟨w.heap.size + 1, 1, none⟩ = some (.int .i64 n2) := cell_on hb _ _ _ (by with_reducible assumption)
          have kb2 : w'.cell? ⟨w.heap.size + 1, 2, none⟩ = some (.int .i64 d2) := cell_on hb _ _ _ (by with_reducible assumption)
          have kb3 : w'.cell? ⟨w.heap.size + 1, 3, none⟩ = some (.string s2) := cell_on hb _ _ _ (by with_reducible assumption)
          have kb4 : w'.cell? ⟨w.heap.size + 1, 4, none⟩ = some (.slice p2 l2.length cap2) := cell_on hb _ _ _ (by with_reducible assumption)
          have kB : Below w.heap.size w w' := below_then (by with_reducible assumption) hb
          have HU1 := Lib.hid hu
          clear hb hu)
       | (go_at_call 26; refine (HRL.out _ (by with_reducible assumption)).mono ?_; rintro _ w' ⟨⟨k4, n4, d4, s4, p4, len4, cap4, rfl, hu⟩, hb⟩
          have ka0 : w'.cell? ⟨w.heap.size, 0, none⟩ = some (.int .i64 k) := cell_on hb _ _ _ (by with_reducible assumption)
          have ka1 : w'.cell? ⟨w.heap.size, 1, none⟩ = some (.int .i64 n) := cell_on hb _ _ _ (by with_reducible assumption)
          have ka2 : w'.cell? ⟨w.heap.size, 2, none⟩ = some (.int .i64 d) := cell_on hb _ _ _ (by with_reducible assumption)
          have ka3 : w'.cell? ⟨w.heap.size, 3, none⟩ = some (.string s) := cell_on hb _ _ _ (by with_reducible assumption)
          have ka4 : w'.cell? ⟨w.heap.size, 4, none⟩ = some (.slice p l.length cap) := cell_on hb _ _ _ (by with_reducible assumption)
          have kb0 : w'.cell? ⟨w.heap.size + 1, 0, none⟩ = some (.int .i64 k2) := cell_on hb _ _ _ (by with_reducible assumption)
          have kb1 : w'.cell? ⟨w.heap.size + 1, 1, none⟩ = some (.int .i64 n2) := cell_on hb _ _ _ (by with_reducible assumption)
          have kb2 : w'.cell? ⟨w.heap.size + 1, 2, none⟩ = some (.int .i64 d2) := cell_on hb _ _ _ (by with_reducible assumption)
          have kb3 : w'.cell? ⟨w.heap.size + 1, 3, none⟩ = some (.string s2) := cell_on hb _ _ _ (by with_reducible assumption)
          have kb4 : w'.cell? ⟨w.heap.size + 1, 4, none⟩ = some (.slice p2 l2.length cap2) := cell_on hb _ _ _ (by with_reducible assumption)
          have kB : Below w.heap.size w w' := below_then (by with_reducible assumption) hb
          have HU2 := Lib.hid hu
          have HU3 := Lib.hid ((HU1.out).below hb)
          clear hb hu)
       | (go_at_call 20; refine (lists_alike _ _ _ _ HU3.out HU2.out).mono ?_; rintro _ w' ⟨rfl, hb⟩
          have ka0 : w'.cell? ⟨w.heap.size, 0, none⟩ = some (.int .i64 k) := cell_on hb _ _ _ (by with_reducible assumption)
          have ka1 : w'.cell? ⟨w.heap.size, 1, none⟩ = some (.int .i64 n) := cell_on hb _ _ _ (by with_reducible assumption)
          have ka2 : w'.cell? ⟨w.heap.size, 2, none⟩ = some (.int .i64 d) := cell_on hb _ _ _ (by with_reducible assumption)
          have ka3 : w'.cell? ⟨w.heap.size, 3, none⟩ = some (.string s) := cell_on hb _ _ _ (by with_reducible assumption)
          have ka4 : w'.cell? ⟨w.heap.size, 4, none⟩ = some (.slice p l.length cap) := cell_on hb _ _ _ (by with_reducible assumption)
          have kb0 : w'.cell? ⟨w.heap.size + 1, 0, none⟩ = some (.int .i64 k2) := cell_on hb _ _ _ (by with_reducible assumption)
          have kb1 : w'.cell? ⟨w.heap.size + 1, 1, none⟩ = some (.int .i64 n2) := cell_on hb _ _ _ (by with_reducible assumption)
          have kb2 : w'.cell? ⟨w.heap.size + 1, 2, none⟩ = some (.int .i64 d2) := cell_on hb _ _ _ (by with_reducible assumption)
          have kb3 : w'.cell? ⟨w.heap.size + 1, 3, none⟩ = some (.string s2) := cell_on hb _ _ _ (by with_reducible assumption)
          have kb4 : w'.cell? ⟨w.heap.size + 1, 4, none⟩ = some (.slice p2 l2.length cap2) := cell_on hb _ _ _ (by with_reducible assumption)
          have kB : Below w.heap.size w w' := below_then (by with_reducible assumption) hb
          clear hb))
    all_goals (go_wp2_with fail)
    all_goals go_ret
    all_goals exact ⟨rfl, by with_reducible assumption⟩
end Go.Proofs.YtogjhoipofkogaaDoor.Dat

/- The law DatumSizes. -/
namespace Go.Proofs.YtogjhoipofkogaaDoor.Dat
open Go.RowKit
set_option linter.unusedVariables false

mutual
theorem Dt.count_eq : ∀ (t : Dt) (deep : Nat), deep + t.size ≤ 1000 → t.count deep = t.size
  | .node k n d s l, deep, h => by
    unfold Dt.size at h
    unfold Dt.count Dt.size
    rw [Dt.countAll_eq l deep (by omega)]
theorem Dt.countAll_eq : ∀ (l : List Dt) (deep : Nat), deep + Dt.sizes l + 1 ≤ 1000 → Dt.countAll l deep = Dt.sizes l
  | [], deep, _ => by unfold Dt.countAll Dt.sizes; rfl
  | t :: r, deep, h => by
    unfold Dt.sizes at h
    unfold Dt.countAll Dt.sizes
    rw [if_pos (by omega), Dt.count_eq t (deep + 1) (by omega), Dt.countAll_eq r deep (by omega)]
end
theorem Dt.count_list : ∀ (l : List Dt) (deep : Nat), (∀ t, t ∈ l → t.size ≤ 100) → deep + l.length + 102 ≤ 1000 → (Dt.list l).count deep = Dt.sizes l + l.length + 1
  | [], deep, _, _ => by simp [Dt.list, Dt.count, Dt.countAll, Dt.sizes]
  | t :: r, deep, h, hd => by
    rw [List.length_cons] at hd
    have h1 := h t (List.mem_cons_self ..)
    have h2 := Dt.count_list r (deep + 1) (fun x hx => h x (List.mem_cons_of_mem _ hx)) (by omega)
    have h3 := Dt.count_eq t (deep + 1) (by omega)
    simp only [Dt.list, Dt.count, Dt.countAll, Dt.sizes, List.length_cons]
    rw [if_pos (by omega), if_pos (by omega), h2, h3]; omega
theorem Dt.size_list : ∀ l : List Dt, (Dt.list l).size = Dt.sizes l + l.length + 1
  | [] => by simp [Dt.list, Dt.size, Dt.sizes]
  | t :: r => by
    have := Dt.size_list r
    simp only [Dt.list, Dt.size, Dt.sizes, List.length_cons]
    omega
theorem Dt.count_vec : ∀ l : List Dt, (∀ t, t ∈ l → t.size ≤ 100) → Dt.countAll l 0 = Dt.sizes l
  | [], _ => by unfold Dt.countAll Dt.sizes; rfl
  | t :: r, h => by
    have h1 := h t (List.mem_cons_self ..)
    have h2 := Dt.count_vec r (fun x hx => h x (List.mem_cons_of_mem _ hx))
    unfold Dt.countAll Dt.sizes
    rw [if_pos (by omega), Dt.count_eq t 1 (by omega), h2]
theorem Dt.sizes_few : ∀ (l : List Dt), (∀ t, t ∈ l → t.size ≤ 100) → Dt.sizes l ≤ l.length * 100
  | [], _ => by simp [Dt.sizes]
  | t :: r, h => by
    have h1 := h t (List.mem_cons_self ..)
    have h2 := Dt.sizes_few r (fun x hx => h x (List.mem_cons_of_mem _ hx))
    unfold Dt.sizes; rw [List.length_cons]; omega
theorem Dt.sizes_step {l : List Dt} {i : Nat} {t : Dt} (h : l[i]? = some t) : Dt.sizes (l.drop i) = t.size + Dt.sizes (l.drop (i + 1)) := by
  rw [Dt.drop_at h]; conv => lhs; unfold Dt.sizes
/-- The data up to here are few. -/
def FewTo (l : List Dt) (i : Nat) : Prop := ∀ (j : Nat) (t : Dt), j < i → l[j]? = some t → t.size ≤ 100
theorem FewTo.step {l : List Dt} {i : Nat} {t : Dt} (h : FewTo l i) (ht : l[i]? = some t) (hs : t.size ≤ 100) : FewTo l (i + 1) := by
  intro j x hj hx
  by_cases e : j = i
  · subst e; rw [ht] at hx; cases hx; exact hs
  · exact h j x (by omega) hx
theorem FewTo.all {l : List Dt} {i : Nat} (h : FewTo l i) (hi : l.length ≤ i) : ∀ t, t ∈ l → t.size ≤ 100 := by
  intro t ht
  obtain ⟨j, hj, rfl⟩ := List.mem_iff_getElem.1 ht
  exact h j _ (by omega) (List.getElem?_eq_getElem hj)
theorem fewRef_any (t : Dt) (v : Value) (m : Int) (w : World) (h0 : 0 ≤ m) (h1 : m ≤ 100000) (hat : t.At w v) : Answers 27 #[v, .int .i64 m] w (.bool (decide ((t.size : Int) ≤ m))) := by
  have hd : decide (0 ≤ t.few m) = decide ((t.size : Int) ≤ m) := by
    rw [Bool.eq_iff_iff, decide_eq_true_iff, decide_eq_true_iff]; exact t.few_iff m h0
  have := Few_any t v m w h0 h1 hat
  rwa [hd] at this
theorem vec_at {w : World} {l : List Dt} {p : Option Addr} {cap : Nat} (hlm : l.length ≤ maxLen) (h : RowAt w l p) : (Dt.node 7 0 0 emp l).At w (.agg #[.int .i64 7, .int .i64 0, .int .i64 0, .string ⟨#[]⟩, .slice p l.length cap]) := by
  unfold Dt.At
  exact ⟨by unfold I64; omega, by unfold I64; omega, by unfold I64; omega, by unfold maxLen; decide, hlm, p, cap, rfl, h⟩

set_option maxHeartbeats 8000000 in
set_option maxRecDepth 100000 in
theorem datumSizes_any (l : List Dt) (p : Option Addr) (cap : Nat) (w : World) (htab : Tab w) (hlm : l.length ≤ maxLen) (hl : RowAt w l p) :
    Answers 8 #[.slice p l.length cap] w (.bool true) := by
  have HA := Lib.hid (awake_any w htab); clear htab
  have HL := Lib.hid hl; clear hl
  have HLM := Lib.hid hlm
  unfold maxLen at hlm
  unfold Answers
  go_enter Tryd.func8, Tryd.ntmps8
  go_wp2_with fail
  refine (HA.out).mono ?_
  rintro _ w1 ⟨rfl, hb1⟩
  have B1 := Lib.hid hb1; clear hb1
  by_cases h50 : (50 : Int) < (l.length : Int)
  · go_wp2_with fail
    go_ret
    exact ⟨rfl, B1.out⟩
  go_wp2_with fail
  go_loopw [4, 5] (fun u x wr => ∃ (c : Nat) (i : Nat), i ≤ l.length ∧ u = .int .i64 c ∧ x = .int .i64 i ∧ c + Dt.sizes (l.drop i) = Dt.sizes l ∧ c ≤ i * 100 ∧ FewTo l i ∧ Below w.heap.size w wr) (fun _ x _ => l.length - (intOf x).toNat)
  case atStart => exact ⟨0, 0, by omega, rfl, rfl, by rw [List.drop_zero]; omega, by omega, (fun j t hj => by omega), B1.out⟩
  case round =>
    obtain ⟨c, i, hi, rfl, rfl, hf, hc, hfew, hb⟩ := hrel
    have HF := Lib.hid hf; clear hf
    have HB := Lib.hid hb; clear hb
    have HFEW := Lib.hid hfew; clear hfew
    by_cases hlt : i < l.length
    · obtain ⟨t, ht⟩ : ∃ t, l[i]? = some t := ⟨l[i], by simp [hlt]⟩
      rcases HL.out with he | ⟨b, o, rfl, hall⟩
      · rw [he] at hlt; simp at hlt
      obtain ⟨v0, v1, v2, v3, v4, d0, d1, d2, d3, d4, hta⟩ := (hall.on (cell_on HB.out)).kid ht
      obtain ⟨kt, nt, dt, st, lt, pt, capt, rfl, rfl, rfl, rfl, rfl, rfl, -, -⟩ := hta.open5
      have C1 := fun w' (h : Below wr.heap.size wr w') => fewLaw_any _ _ 100 w' (by omega) (by omega) (hta.below h)
      have C2 := fun w' (h : Below wr.heap.size wr w') => fewRef_any _ _ 90 w' (by omega) (by omega) (hta.below h)
      have CS := fun (hs : (Dt.node kt nt dt st lt).size ≤ 90000) w' (h : Below wr.heap.size wr w') => ownSize_any _ _ w' hs (hta.below h)
      have hce := (Dt.node kt nt dt st lt).count_eq 0
      have hlen : lt.length ≤ maxLen := by
        unfold Dt.At at hta; exact hta.2.2.2.2.1
      unfold maxLen at hlen
      obtain ⟨sz, hsz⟩ : ∃ r, (Dt.node kt nt dt st lt).size = r := ⟨_, rfl⟩
      rw [hsz] at C1 C2 CS hce
      have HC1 := Lib.hid C1
      have HC2 := Lib.hid C2
      have HT := Lib.hid ht
      have HSZ := Lib.hid hsz
      clear C1 C2 hta hall ht hsz
      by_cases c1 : sz ≤ 100
      · have hd1 : decide ((sz : Int) ≤ 100) = true := decide_eq_true (by omega)
        rw [hce (by omega)] at CS
        have HCS := Lib.hid (CS (by omega)); clear CS hce
        have HC1 := Lib.hid (by have h := HC1.out; rw [hd1] at h; exact h : ∀ w', Below wr.heap.size wr w' → Answers 11 #[.agg #[.int .i64 kt, .int .i64 nt, .int .i64 dt, .string st, .slice pt lt.length capt], .int .i64 100] w' (.bool true))
        clear hd1
        go_wp2_with fail
        refine (HC1.out _ (Below.refl _ _)).mono ?_
        rintro _ w2 ⟨rfl, hb2⟩
        replace d0 := cell_on hb2 _ _ _ d0
        replace d1 := cell_on hb2 _ _ _ d1
        replace d2 := cell_on hb2 _ _ _ d2
        replace d3 := cell_on hb2 _ _ _ d3
        replace d4 := cell_on hb2 _ _ _ d4
        have B2 := Lib.hid hb2; clear hb2
        by_cases hz : (0 : Int) < (lt.length : Int)
        · by_cases c3 : sz ≤ 90
          · have HC2 := Lib.hid (by have h := HC2.out; rw [decide_eq_true (show (sz : Int) ≤ 90 by omega)] at h; exact h : ∀ w', Below wr.heap.size wr w' → Answers 27 #[.agg #[.int .i64 kt, .int .i64 nt, .int .i64 dt, .string st, .slice pt lt.length capt], .int .i64 90] w' (.bool true))
            go_wp2_with fail
            refine (HC2.out _ B2.out).mono ?_
            rintro _ w3 ⟨rfl, hb3⟩
            replace d0 := cell_on hb3 _ _ _ d0
            replace d1 := cell_on hb3 _ _ _ d1
            replace d2 := cell_on hb3 _ _ _ d2
            replace d3 := cell_on hb3 _ _ _ d3
            replace d4 := cell_on hb3 _ _ _ d4
            have B3 := Lib.hid ((B2.out).trans (hb3.mono (B2.out).size)); clear hb3
            go_wp2_with fail
            refine (HCS.out _ B3.out).mono ?_
            rintro _ w5 ⟨rfl, hb5⟩
            have B5 := Lib.hid ((B3.out).trans (hb5.mono (B3.out).size)); clear hb5
            go_wp2_with fail
            go_roundw
            case rel => exact ⟨c + sz, i + 1, by omega, by go_num, by go_num, by have h := HF.out; rw [Dt.sizes_step HT.out, HSZ.out] at h; omega, by omega, (HFEW.out).step HT.out (by rw [HSZ.out]; omega), (HB.out).trans ((B5.out).mono (HB.out).size)⟩
            case measure => simp [intOf]; omega
          · have HC2 := Lib.hid (by have h := HC2.out; rw [decide_eq_false (show ¬ (sz : Int) ≤ 90 by omega)] at h; exact h : ∀ w', Below wr.heap.size wr w' → Answers 27 #[.agg #[.int .i64 kt, .int .i64 nt, .int .i64 dt, .string st, .slice pt lt.length capt], .int .i64 90] w' (.bool false))
            go_wp2_with fail
            refine (HC2.out _ B2.out).mono ?_
            rintro _ w3 ⟨rfl, hb3⟩
            have B3 := Lib.hid ((B2.out).trans (hb3.mono (B2.out).size)); clear hb3
            go_wp2_with fail
            go_ret
            exact ⟨rfl, (HB.out).trans ((B3.out).mono (HB.out).size)⟩
        · have hz0 : (lt.length : Int) ≤ 0 := by omega
          clear hz
          go_wp2_with fail
          refine (HCS.out _ B2.out).mono ?_
          rintro _ w5 ⟨rfl, hb5⟩
          have B5 := Lib.hid ((B2.out).trans (hb5.mono (B2.out).size)); clear hb5
          go_wp2_with fail
          go_roundw
          case rel => exact ⟨c + sz, i + 1, by omega, by go_num, by go_num, by have h := HF.out; rw [Dt.sizes_step HT.out, HSZ.out] at h; omega, by omega, (HFEW.out).step HT.out (by rw [HSZ.out]; omega), (HB.out).trans ((B5.out).mono (HB.out).size)⟩
          case measure => simp [intOf]; omega
      · have HC1 := Lib.hid (by have h := HC1.out; rw [decide_eq_false (show ¬ (sz : Int) ≤ 100 by omega)] at h; exact h : ∀ w', Below wr.heap.size wr w' → Answers 11 #[.agg #[.int .i64 kt, .int .i64 nt, .int .i64 dt, .string st, .slice pt lt.length capt], .int .i64 100] w' (.bool false))
        clear CS hce
        go_wp2_with fail
        refine (HC1.out _ (Below.refl _ _)).mono ?_
        rintro _ w2 ⟨rfl, hb2⟩
        have B2 := Lib.hid hb2; clear hb2
        go_wp2_with fail
        go_ret
        exact ⟨rfl, (HB.out).trans ((B2.out).mono (HB.out).size)⟩
    · have hall := (HFEW.out).all (by omega : l.length ≤ i)
      have hsum := HF.out
      rw [List.drop_of_length_le (by omega : l.length ≤ i)] at hsum
      have hs0 : Dt.sizes [] = 0 := by unfold Dt.sizes; rfl
      have hsz := Dt.sizes_few l hall
      have hcl := Dt.count_list l 0 hall (by omega)
      have hsl := Dt.size_list l
      have hcv := Dt.count_vec l hall
      have hrow : ∀ w', Below wr.heap.size wr w' → RowAt w' l p := fun w' h => ((HL.out).below HB.out).below h
      have CL := pList l p cap wr HLM.out (Dt.slimAll_size l (by omega)) (hrow _ (Below.refl _ _))
      have CS1 := fun (v : Value) w' (h : (Dt.list l).At w' v) => ownSize_any (Dt.list l) v w' (by omega) h
      have CS2 := fun w' (h : Below wr.heap.size wr w') => ownSize_any (Dt.node 7 0 0 emp l) _ w' (by unfold Dt.size; omega) (vec_at (cap := cap) HLM.out (hrow w' h))
      have e7 : (Dt.node 7 0 0 emp l).count 0 = c + 1 := by unfold Dt.count; omega
      have e6 : (Dt.list l).count 0 = c + l.length + 1 := by omega
      rw [e7] at CS2
      rw [e6] at CS1
      have HCL := Lib.hid CL
      have HCS1 := Lib.hid CS1
      have HCS2 := Lib.hid CS2
      have hlen : l.length ≤ 50 := by omega
      have hc50 : c ≤ 5000 := by omega
      clear CL CS1 CS2 e7 e6 hrow hcv hsl hcl hsz hs0 hsum hall
      go_wp2_with fail
      refine (HCL.out).mono ?_
      rintro _ w2 ⟨⟨k2, n2, d2, s2, p2, len2, cap2, rfl, hu⟩, hb2⟩
      have B2 := Lib.hid hb2; clear hb2
      have C := Lib.hid (HCS1.out _ _ hu); clear hu
      go_wp2_with fail
      refine (C.out).mono ?_
      rintro _ w3 ⟨rfl, hb3⟩
      have B3 := Lib.hid ((B2.out).trans (hb3.mono (B2.out).size)); clear hb3
      go_wp2_with fail
      refine (HCS2.out _ B3.out).mono ?_
      rintro _ w4 ⟨rfl, hb4⟩
      have B4 := Lib.hid ((B3.out).trans (hb4.mono (B3.out).size)); clear hb4
      go_wp2_with fail
      go_ret
      exact ⟨rfl, (HB.out).trans ((B4.out).mono (HB.out).size)⟩
end Go.Proofs.YtogjhoipofkogaaDoor.Dat

/- The law DatumItems. -/
namespace Go.Proofs.YtogjhoipofkogaaDoor.Dat
open Go.RowKit
open NumPlain (rightB)
set_option linter.unusedVariables false

theorem items_list : ∀ l : List Dt, (Dt.list l).items = some l
  | [] => by unfold Dt.list; exact items_null ..
  | t :: r => by unfold Dt.list; rw [items_pair, items_list r]; rfl
abbrev rightD (t : Dt) : Bool := t.right rightB nameB 0
def RightTo (l : List Dt) (i : Nat) : Prop := ∀ (j : Nat) (t : Dt), j < i → l[j]? = some t → rightD t = true
theorem RightTo.step {l : List Dt} {i : Nat} {t : Dt} (h : RightTo l i) (ht : l[i]? = some t) (hs : rightD t = true) : RightTo l (i + 1) := by
  intro j x hj hx
  by_cases e : j = i
  · subst e; rw [ht] at hx; cases hx; exact hs
  · exact h j x (by omega) hx
theorem null_right : rightD (Dt.list []) = true := by decide +kernel
theorem same_self (t : Dt) (v v' : Value) (w : World) (hr : rightD t = true) (h : t.At w v) (h' : t.At w v') : Answers 23 #[v, v'] w (.bool true) := by
  have := ownSame_any rightD pRight t t v v' w h h'
  rw [hr, (Dt.alike_iff t t).2 rfl] at this
  exact this
theorem items_all (l : List Dt) (v : Value) (w : World) (hr : rightD (Dt.list l) = true) (hs : (Dt.list l).size ≤ 100000) (h : (Dt.list l).At w v) :
    Calls Tryd.prog 18 #[v] w fun e w' => (∃ q cap, e = .returned (.tuple #[.slice q l.length cap, .bool true]) ∧ RowAt w' l q) ∧ Below w.heap.size w w' := by
  refine (ownItems_any pRight (Dt.list l) v w hs h).mono ?_
  rintro e w' ⟨hp, hb⟩
  refine ⟨?_, hb⟩
  rcases hp with ⟨h1 | h1, _⟩ | ⟨_, l', v', h1, rfl, q, cap, rfl, hrow⟩
  · rw [show (Dt.list l).right rightB nameB 0 = true from hr] at h1; cases h1
  · rw [items_list] at h1; cases h1
  · rw [items_list] at h1; cases h1
    exact ⟨q, cap, rfl, hrow⟩

set_option maxHeartbeats 8000000 in
set_option maxRecDepth 100000 in
theorem datumItems_any (l : List Dt) (p : Option Addr) (cap : Nat) (w : World) (htab : Tab w) (hlm : l.length ≤ maxLen) (hsl : Dt.slimAll l) (hl : RowAt w l p) :
    Answers 7 #[.slice p l.length cap] w (.bool true) := by
  have HA := Lib.hid (awake_any w htab); clear htab
  have HL := Lib.hid hl; clear hl
  have HLM := Lib.hid hlm
  have HSL := Lib.hid hsl; clear hsl
  obtain ⟨rl, hrl⟩ : ∃ r, rightD (Dt.list l) = r := ⟨_, rfl⟩
  have HRL := Lib.hid hrl; clear hrl
  unfold maxLen at hlm
  unfold Answers
  go_enter Tryd.func7, Tryd.ntmps7
  go_wp2_with fail
  refine (HA.out).mono ?_
  rintro _ w1 ⟨rfl, hb1⟩
  have B1 := Lib.hid hb1; clear hb1
  by_cases h100 : (100 : Int) < (l.length : Int)
  · go_wp2_with fail
    go_ret
    exact ⟨rfl, B1.out⟩
  go_wp2_with fail
  go_loopw [4] (fun x wr => ∃ (i : Nat), i ≤ l.length ∧ x = .int .i64 i ∧ FewTo l i ∧ RightTo l i ∧ (i = 0 ∨ rl = true) ∧ Below w.heap.size w wr) (fun x _ => l.length - (intOf x).toNat)
  case atStart => exact ⟨0, by omega, rfl, (fun j t hj => by omega), (fun j t hj => by omega), Or.inl rfl, B1.out⟩
  case round =>
    obtain ⟨i, hi, rfl, hfew, hri, hor, hb⟩ := hrel
    have HB := Lib.hid hb; clear hb
    have HFEW := Lib.hid hfew; clear hfew
    have HRI := Lib.hid hri; clear hri
    have HOR := Lib.hid hor; clear hor
    by_cases hlt : i < l.length
    · obtain ⟨t, ht⟩ : ∃ t, l[i]? = some t := ⟨l[i], by simp [hlt]⟩
      rcases HL.out with he | ⟨b, o, rfl, hall⟩
      · rw [he] at hlt; simp at hlt
      obtain ⟨v0, v1, v2, v3, v4, d0, d1, d2, d3, d4, hta⟩ := (hall.on (cell_on HB.out)).kid ht
      have hrow : ∀ w', Below wr.heap.size wr w' → RowAt w' l (some ⟨b, o, none⟩) := fun w' h => ((HL.out).below HB.out).below h
      have C1 := fun w' (h : Below wr.heap.size wr w') => fewLaw_any _ _ 100 w' (by omega) (by omega) (hta.below h)
      have C2 := fun w' (h : Below wr.heap.size wr w') => pRight _ _ w' (hta.below h)
      have CL := fun w' (h : Below wr.heap.size wr w') => pList l (some ⟨b, o, none⟩) cap w' HLM.out HSL.out (hrow w' h)
      have CR := fun (v : Value) w' (h : (Dt.list l).At w' v) => pRight (Dt.list l) v w' h
      rw [show (Dt.list l).right rightB nameB 0 = rl from HRL.out] at CR
      obtain ⟨fe, hfe⟩ : ∃ r, decide ((t.size : Int) ≤ 100) = r := ⟨_, rfl⟩
      obtain ⟨rt, hrt⟩ : ∃ r, t.right rightB nameB 0 = r := ⟨_, rfl⟩
      rw [hfe] at C1
      rw [hrt] at C2
      have HC1 := Lib.hid C1
      have HC2 := Lib.hid C2
      have HCL := Lib.hid CL
      have HCR := Lib.hid CR
      have HT := Lib.hid ht
      have HFE := Lib.hid hfe
      have HRT := Lib.hid hrt
      clear C1 C2 CL CR hta hall ht hfe hrt hrow
      go_wp2_with fail
      refine (HC1.out _ (Below.refl _ _)).mono ?_
      rintro _ w2 ⟨rfl, hb2⟩
      replace d0 := cell_on hb2 _ _ _ d0
      replace d1 := cell_on hb2 _ _ _ d1
      replace d2 := cell_on hb2 _ _ _ d2
      replace d3 := cell_on hb2 _ _ _ d3
      replace d4 := cell_on hb2 _ _ _ d4
      have B2 := Lib.hid hb2; clear hb2
      cases fe
      · go_wp2_with fail
        go_ret
        exact ⟨rfl, (HB.out).trans ((B2.out).mono (HB.out).size)⟩
      go_wp2_with fail
      refine (HC2.out _ B2.out).mono ?_
      rintro _ w3 ⟨rfl, hb3⟩
      have B3 := Lib.hid ((B2.out).trans (hb3.mono (B2.out).size)); clear hb3
      cases rt
      · go_wp2_with fail
        go_ret
        exact ⟨rfl, (HB.out).trans ((B3.out).mono (HB.out).size)⟩
      go_wp2_with fail
      refine (HCL.out _ B3.out).mono ?_
      rintro _ w4 ⟨⟨k2, n2, d2', s2, p2, len2, cap2, rfl, hu⟩, hb4⟩
      have B4 := Lib.hid ((B3.out).trans (hb4.mono (B3.out).size)); clear hb4
      have C := Lib.hid (HCR.out _ _ hu); clear hu
      go_wp2_with fail
      refine (C.out).mono ?_
      rintro _ w5 ⟨rfl, hb5⟩
      have B5 := Lib.hid ((B4.out).trans (hb5.mono (B4.out).size)); clear hb5
      cases rl
      · go_wp2_with fail
        go_ret
        exact ⟨rfl, (HB.out).trans ((B5.out).mono (HB.out).size)⟩
      go_wp2_with fail
      go_roundw
      case rel => exact ⟨i + 1, by omega, by go_num, (HFEW.out).step HT.out (by have := of_decide_eq_true HFE.out; omega), (HRI.out).step HT.out HRT.out, Or.inr (by simp), (HB.out).trans ((B5.out).mono (HB.out).size)⟩
      case measure => simp [intOf]; omega
    · have hall := (HFEW.out).all (by omega : l.length ≤ i)
      have hsz := Dt.sizes_few l hall
      have hszl := Dt.size_list l
      have hrr : rightD (Dt.list l) = true := by
        rcases HOR.out with h0 | h0
        · have : l = [] := List.length_eq_zero_iff.1 (by omega)
          rw [this]; exact null_right
        · rw [HRL.out]; exact h0
      have hrow : ∀ w', Below wr.heap.size wr w' → RowAt w' l p := fun w' h => ((HL.out).below HB.out).below h
      have HROW := Lib.hid hrow
      have HCL := Lib.hid (pList l p cap wr HLM.out HSL.out (hrow _ (Below.refl _ _)))
      have HCI := Lib.hid (fun (v : Value) w' (h : (Dt.list l).At w' v) => items_all l v w' hrr (by omega) h)
      have HRA := Lib.hid (show ∀ (j : Nat) (t : Dt), l[j]? = some t → rightD t = true from fun j t ht => (HRI.out) j t (by
        have := (List.getElem?_eq_some_iff.1 ht).1; omega) ht)
      clear hall hsz hszl hrr hrow
      go_wp2_with fail
      refine (HCL.out).mono ?_
      rintro _ w2 ⟨⟨k2, n2, d2, s2, p2, len2, cap2, rfl, hu⟩, hb2⟩
      have B2 := Lib.hid hb2; clear hb2
      have C := Lib.hid (HCI.out _ _ hu); clear hu
      go_wp2_with fail
      refine (C.out).mono ?_
      rintro _ w3 ⟨⟨q, cq, rfl, hq⟩, hb3⟩
      have B3 := Lib.hid ((B2.out).trans (hb3.mono (B2.out).size)); clear hb3
      have HQ := Lib.hid hq; clear hq
      go_wp2_with fail
      go_loopw [7] (fun x wz => ∃ (j : Nat), j ≤ l.length ∧ x = .int .i64 j ∧ Below w3.heap.size w3 wz) (fun x _ => l.length - (intOf x).toNat)
      case atStart => exact ⟨0, by omega, rfl, Below.refl _ _⟩
      case round =>
        obtain ⟨j, hj, rfl, hbz⟩ := hrel
        have BZ := Lib.hid hbz; clear hbz
        by_cases hlt2 : j < l.length
        · obtain ⟨t, ht⟩ : ∃ t, l[j]? = some t := ⟨l[j], by simp [hlt2]⟩
          have hw1 := (HL.out).below HB.out
          have hw3 := (hw1.below B3.out).below BZ.out
          have hq3 := (HQ.out).below BZ.out
          rcases hw3 with he | ⟨b, o, rfl, hall⟩
          · rw [he] at hlt2; simp at hlt2
          rcases hq3 with he | ⟨b', o', rfl, hall'⟩
          · rw [he] at hlt2; simp at hlt2
          obtain ⟨v0, v1, v2, v3, v4, d0, d1, d2', d3, d4, hta⟩ := hall.kid ht
          obtain ⟨u0, u1, u2, u3, u4, f0, f1, f2, f3, f4, hta'⟩ := hall'.kid ht
          have C := same_self t _ _ wr.drew (HRA.out _ _ ht) (hta'.drew) (hta.drew)
          have HC := Lib.hid C
          clear C hta hta' hall hall' ht hw1
          go_wp2_with fail
          go_still_tail 8, (by kernel_rfl)
          change wpList _ _ _ _ _ wr.drew
          go_wp2_with fail
          refine (HC.out).mono ?_
          rintro _ w4 ⟨rfl, hb4⟩
          have B4 := Lib.hid ((BZ.out).trans ((below_drew hb4).mono (BZ.out).size)); clear hb4
          go_wp2_with fail
          go_roundw
          case rel => exact ⟨j + 1, by omega, by go_num, B4.out⟩
          case measure => simp [intOf]; omega
        · go_wp2_with fail
          go_ret
          exact ⟨rfl, ((HB.out).trans ((B3.out).mono (HB.out).size)).trans ((BZ.out).mono ((HB.out).trans ((B3.out).mono (HB.out).size)).size)⟩
end Go.Proofs.YtogjhoipofkogaaDoor.Dat

/- A datum that comes in by value is opened: no row in it is longer than a machine's reach. -/
namespace Go.Proofs.YtogjhoipofkogaaDoor.Dat
open Go.ChangeShapes Go.WideShapes Go.ChangeAt Go.RowKit Go.Deep

def OpensAtS {H : Type} (enc : TypeId × Value → H) (w : World) (base : Nat) (spare : Nat → Bool) (held : Bool) (fuel : Nat) : Prop := ∀ (cs : List Value) (x : DataW H × List MemPlace),
    DataW.trod enc Tryd.prog w base spare held fuel 24 cs = some x → ∃ t : Dt, t.At w (.agg cs.toArray) ∧ (Light 24 x.1 → t.slim)

theorem open_dtsS {H : Type} {enc : TypeId × Value → H} {w : World} {base : Nat} {spare : Nat → Bool} {held : Bool} {fuel : Nat} (ih : ∀ n, n < fuel → OpensAtS enc w base spare held n) {cs : List Value} {x : DataW H × List MemPlace}
    (h : DataW.trod enc Tryd.prog w base spare held fuel 22 cs = some x) :
    ∃ (l : List Dt) (p : Option Addr) (cap : Nat), cs = [.slice p l.length cap] ∧ l.length ≤ maxLen ∧ (l = [] ∨ ∃ b o, p = some ⟨b, o, none⟩ ∧ Dt.AllAt w l b o) ∧ (Light 22 x.1 → l.length * 64 ≤ 140737488355328 ∧ Dt.slimAll l) := by
  rcases DataW.trod_slice Tryd.underlying22 h with ⟨rfl, _⟩ | ⟨a, len, cap, elems, rest, n2, rfl, rfl, hx, hb, hl, hm, hlen2, hel, _, _⟩
  · exact ⟨[], none, 0, rfl, by simp, Or.inl rfl, fun _ => ⟨by simp, trivial⟩⟩
  · rw [Tryd.cellsDt] at hel
    have hall : ∀ i, i < len → ∃ t : Dt, (∃ v0 v1 v2 v3 v4, (a.add (i * 5)).spot = none ∧ w.cell? ⟨a.block, a.off + i * 5, none⟩ = some v0 ∧ w.cell? ⟨a.block, a.off + i * 5 + 1, none⟩ = some v1 ∧ w.cell? ⟨a.block, a.off + i * 5 + 2, none⟩ = some v2 ∧ w.cell? ⟨a.block, a.off + i * 5 + 3, none⟩ = some v3 ∧ w.cell? ⟨a.block, a.off + i * 5 + 4, none⟩ = some v4 ∧ t.At w (.agg #[v0, v1, v2, v3, v4])) ∧ (Light 22 x.1 → t.slim) := by
      intro i hi
      have he := hel i hi
      have hsome : elems[i]? = some (elems[i]'(by omega)) := List.getElem?_eq_getElem (by omega)
      rw [hsome, Option.bind_eq_some_iff] at he
      obtain ⟨cs', hcs, htr⟩ := he
      obtain ⟨t, ht, hthin⟩ := ih n2 (by omega) cs' _ htr
      obtain ⟨v0, v1, v2, v3, v4, rfl, hsp, q0, q1, q2, q3, q4⟩ := five_cells hcs
      have e : (a.add (i * 5)).block = a.block ∧ (a.add (i * 5)).off = a.off + i * 5 := by
        unfold Addr.add; split <;> simp_all
      rw [e.1, e.2] at q0 q1 q2 q3 q4
      refine ⟨t, ⟨v0, v1, v2, v3, v4, hsp, q0, q1, q2, q3, q4, ht⟩, fun hw => hthin fun n hn => hw n ?_⟩
      rw [hx]
      simp only [DataW.weights, Tryd.underlying22, List.mem_cons, List.mem_append]
      exact Or.inr (Or.inl (weights_all (List.mem_map.2 ⟨_, List.getElem_mem (by omega), rfl⟩) hn))
    obtain ⟨T, hT⟩ := choose_lt hall
    have hll : ((List.range len).map T).length = len := by simp
    refine ⟨(List.range len).map T, some a, cap, by rw [hll], by rw [hll]; omega, ?_, ?_⟩
    · by_cases hz : len = 0
      · left; rw [hz]; rfl
      · right
        have hsp : a.spot = none := by
          obtain ⟨⟨_, _, _, _, _, h, _⟩, _⟩ := hT 0 (by omega)
          simpa [Addr.add] using h
        refine ⟨a.block, a.off, by obtain ⟨b, o, sp⟩ := a; simp only at hsp; subst hsp; rfl, Dt.AllAt.of ?_⟩
        intro i t hit
        rw [List.getElem?_map] at hit
        have hi : i < len := by
          rcases Nat.lt_or_ge i len with h | h
          · exact h
          · rw [List.getElem?_eq_none (by simpa using h)] at hit; cases hit
        rw [List.getElem?_range hi] at hit
        obtain rfl : T i = t := by simpa using hit
        obtain ⟨⟨v0, v1, v2, v3, v4, _, q0, q1, q2, q3, q4, ht⟩, _⟩ := hT i hi
        exact ⟨v0, v1, v2, v3, v4, q0, q1, q2, q3, q4, ht⟩
    · intro hw
      refine ⟨?_, ?_⟩
      · have h1 := hw ((elems.length + rest.length) * Tryd.prog.bytesOf 24) (by rw [hx]; simp only [DataW.weights, Tryd.underlying22, List.length_map]; exact List.mem_cons_self ..)
        rw [show Tryd.prog.bytesOf 24 = 64 from by kernel_rfl] at h1
        have h2 : reachBytes ≤ 140737488355328 := by decide
        rw [hll]; omega
      rw [Dt.slimAll_iff]
      intro t ht
      obtain ⟨i, hi, rfl⟩ := List.mem_map.1 ht
      exact (hT i (List.mem_range.1 hi)).2 hw

theorem open_dtS {H : Type} {enc : TypeId × Value → H} {w : World} {base : Nat} {spare : Nat → Bool} {held : Bool} (N : Nat) : ∀ fuel, fuel ≤ N → OpensAtS enc w base spare held fuel := by
  induction N with
  | zero =>
    intro fuel hf cs x h
    obtain rfl : fuel = 0 := by omega
    simp [DataW.trod] at h
  | succ N ih =>
    intro fuel hf cs x h
    obtain ⟨xs, n, rfl, hx, hlen, hxs, hat⟩ := DataW.trod_struct Tryd.underlying24 h
    rw [Tryd.cellsDt] at hlen
    obtain ⟨c0, c1, c2, c3, c4, rfl⟩ := list5 cs hlen
    obtain ⟨x0, x1, x2, x3, x4, rfl⟩ := list5 xs (by simpa using hxs)
    have h0 := hat 0 _ rfl
    have h1 := hat 1 _ rfl
    have h2 := hat 2 _ rfl
    have h3 := hat 3 _ rfl
    have h4 := hat 4 _ rfl
    simp [Tryd.cellsInt, Tryd.cellsStr, Tryd.cellsDts] at h0 h1 h2 h3 h4
    obtain ⟨k, e0, rfl, w0⟩ := DataW.trod_int Tryd.underlying3 h0
    obtain ⟨m, e1, rfl, w1⟩ := DataW.trod_int Tryd.underlying3 h1
    obtain ⟨d, e2, rfl, w2⟩ := DataW.trod_int Tryd.underlying3 h2
    simp at e0 e1 e2
    subst e0 e1 e2
    obtain ⟨s, rfl, hs, hx3⟩ : ∃ s : ByteArray, c3 = .string s ∧ s.size ≤ maxLen ∧ x3.1 = .lit (.string s.data.toList) := by
      cases n with
      | zero => simp [DataW.trod] at h3
      | succ n =>
        cases c3 <;> simp [DataW.trod, Tryd.underlying9] at h3
        rename_i s
        exact ⟨s, rfl, h3.1, by rw [← h3.2]⟩
    obtain ⟨l, p, cap, hc4, hlm, hl, hth⟩ := open_dtsS (fun m hm => ih m (by omega)) h4
    simp at hc4; subst hc4
    refine ⟨.node k m d s l, ?_, ?_⟩
    · unfold Dt.At
      exact ⟨wf64 w0, wf64 w1, wf64 w2, hs, hlm, p, cap, rfl, hl⟩
    · intro hw
      have hwt : ∀ z, z ∈ x3.1.weights Tryd.prog 9 ∨ z ∈ x4.1.weights Tryd.prog 22 → z ≤ reachBytes := by
        intro z hz
        apply hw z
        rw [hx]
        simp only [DataW.weights, Tryd.underlying24, List.map_cons, List.map_nil, DataW.weightsEach, List.mem_append]
        rcases hz with h | h <;> simp [h]
      unfold Dt.slim
      exact hth fun z hz => hwt z (Or.inr hz)
theorem open_dataS {H : Type} {enc : TypeId × Value → H} {w : World} {base : Nat} {b2 : Nat} {sp : Nat → Bool} {held : Bool} {v : Value} {d : DataW H} {p : List MemPlace} (hval : Value.okWide Tryd.prog w .any b2 22 v) (hd : DataW.Trod enc Tryd.prog w base sp held 22 v d p) :
    ∃ (l : List Dt) (q : Option Addr) (cap : Nat), v = .slice q l.length cap ∧ l.length ≤ maxLen ∧ (l = [] ∨ ∃ b o, q = some ⟨b, o, none⟩ ∧ Dt.AllAt w l b o) ∧ (Light 22 d → l.length * 64 ≤ 140737488355328 ∧ Dt.slimAll l) := by
  obtain ⟨a0, len, cap, rfl⟩ := okWide_slice Tryd.underlying22 hval
  obtain ⟨fuel, hf⟩ := hd
  obtain ⟨l, q, c, h1, h2, h3, h4⟩ := open_dtsS (enc := enc) (w := w) (base := base) (spare := sp) (held := held) (fun n hn => open_dtS n n (Nat.le_refl _)) hf
  refine ⟨l, q, c, ?_, h2, h3, h4⟩
  simpa [Value.cells] using h1
end Go.Proofs.YtogjhoipofkogaaDoor.Dat

/- What the cards' forms hand over: a datum, a row of data; and that it reads behind the call as it did. -/
namespace Go.Proofs.YtogjhoipofkogaaDoor.Dat
open Go.ChangeShapes Go.WideShapes Go.ChangeAt Go.RowKit
open Go.ChangeMaps (open_string shut_string)
set_option linter.unusedVariables false
variable {H : Type} {enc : TypeId × Value → H}

theorem laidOut : laidOutB Tryd.prog = true := by kernel_rfl
theorem open_datum {w : World} {base : Nat} {b2 : Nat} {sp : Nat → Bool} {held : Bool} {v : Value} {d : DataW H} {p : List MemPlace} (hval : Value.okWide Tryd.prog w .any b2 24 v) (hd : DataW.Trod enc Tryd.prog w base sp held 24 v d p) :
    ∃ t : Dt, t.At w v ∧ (Light 24 d → t.thin reachBytes) := by
  obtain ⟨cs, rfl, _⟩ := okWide_struct Tryd.underlying24 hval
  obtain ⟨fuel, hf⟩ := hd
  obtain ⟨t, h1, h2⟩ := open_dt (enc := enc) (w := w) (base := base) (spare := sp) (held := held) fuel fuel (Nat.le_refl _) _ _ hf
  exact ⟨t, by simpa [Value.cells] using h1, h2⟩
theorem open_data {w : World} {base : Nat} {b2 : Nat} {sp : Nat → Bool} {held : Bool} {v : Value} {d : DataW H} {p : List MemPlace} (hval : Value.okWide Tryd.prog w .any b2 22 v) (hd : DataW.Trod enc Tryd.prog w base sp held 22 v d p) :
    ∃ (l : List Dt) (q : Option Addr) (cap : Nat), v = .slice q l.length cap ∧ l.length ≤ maxLen ∧ (l = [] ∨ ∃ b o, q = some ⟨b, o, none⟩ ∧ Dt.AllAt w l b o) ∧ (Light 22 d → Dt.thinAll reachBytes l) := by
  obtain ⟨a0, len, cap, rfl⟩ := okWide_slice Tryd.underlying22 hval
  obtain ⟨fuel, hf⟩ := hd
  obtain ⟨l, q, c, h1, h2, h3, h4⟩ := open_dts (enc := enc) (w := w) (base := base) (spare := sp) (held := held) (fun n hn => open_dt n n (Nat.le_refl _)) hf
  refine ⟨l, q, c, ?_, h2, h3, h4⟩
  simpa [Value.cells] using h1
theorem datum_stays {W W' : World} {v : Value} {d : DataW H} {p : List MemPlace} (h : DataW.Trod enc Tryd.prog W 0 (fun _ => true) true 24 v d p) (hb : Below W.heap.size W W') (hlt : ∀ x ∈ p, x.block < W.heap.size) :
    DataW.Trod enc Tryd.prog W' 0 (fun b => decide (b < W.heap.size)) true 24 v d p := Below.trod laidOut (by kernel_rfl) (of_decide_eq_true (by kernel_rfl)) h hb hlt
theorem data_stay {W W' : World} {v : Value} {d : DataW H} {p : List MemPlace} (h : DataW.Trod enc Tryd.prog W 0 (fun _ => true) true 22 v d p) (hb : Below W.heap.size W W') (hlt : ∀ x ∈ p, x.block < W.heap.size) :
    DataW.Trod enc Tryd.prog W' 0 (fun b => decide (b < W.heap.size)) true 22 v d p := Below.trod laidOut (by kernel_rfl) (of_decide_eq_true (by kernel_rfl)) h hb hlt
end Go.Proofs.YtogjhoipofkogaaDoor.Dat


namespace Go.Proofs.YtogjhoipofkogaaDoor.datumItems
open Go.ChangeShapes Go.WideShapes Go.ChangeAt Go.RowKit
open Go.ChangeMaps (open_string shut_string)
open Go.Proofs.YtogjhoipofkogaaDoor.Dat

set_option maxRecDepth 100000 in
theorem lifted (os : Os) (started : os.Started) (H : Type) (enc : TypeId × Value → H) :
    ReturnsInHanded {} Tryd.checked os 7 .any (fun w args => (Rows.datumItemsSpec.pre enc Tryd.prog Tryd.f7 [] false w args ∧ laidMetH Tryd.prog laid3 w) ∧ sizedMet enc Tryd.prog Tryd.f7 (OpenSpec.ofChange Rows.datumItemsSpec) false w args)
      (Rows.datumItemsSpec.post enc Tryd.prog Tryd.f7 false true false false) := by
  refine returnsInHanded_of_change_and (C := Tryd.checked) (X := fun w _ => laidMetH Tryd.prog laid3 w) (fun _ _ _ hh h => h.of_heap hh) own started (by kernel_rfl) Tryd.func7
    (ChangeSpec.witness_shaped (enc := enc) (C := Tryd.checked) (os := os) (X := fun w _ => laidMetH Tryd.prog laid3 w) false (World.doorLaid Tryd.prog 24 os) #[.slice none 0 0] 8 rfl (World.shaped_of_RefB (by kernel_rfl) (by kernel_rfl)) (by kernel_rfl) (by kernel_rfl) (by kernel_rfl) (door_met os _)) ?_
  intro W base args ds gs before hval0 hW _ hsz0 hL _
  have hval : ∀ (j : Nat) t v, Tryd.f7.params[j]? = some t → args[j]? = some v → Value.okWide Tryd.prog W .any base t v := hval0
  have hW' := hW
  obtain ⟨p, q, hA0, hV, rfl, hfz, hnd⟩ := hW
  have hA : DataW.TrodAll enc Tryd.prog W 0 (fun _ => true) true Tryd.f7.params.toList args.toList ds p := hA0
  rw [Tryd.params7] at hA hval
  obtain ⟨v0, vs0, d0, ds0, p0, q0, hargs, rfl, rfl, h0, r0⟩ := trodAll_cons hA
  obtain ⟨rfl, rfl, rfl⟩ := trodAll_nil r0
  obtain rfl : args = #[v0] := by cases args; simp_all
  obtain ⟨rfl, rfl⟩ := trodVars_none hV
  have h0k := h0
  obtain ⟨l, a, cap, rfl, hlm, hl, hslim⟩ := open_dataS (hval 0 22 v0 rfl rfl) h0
  clear hA0 hval0
  simp only [List.append_nil] at hW'
  have hlt : ∀ x ∈ p0, x.block < W.heap.size := fun x hx => by simpa using hW'.lt x (by simpa using hx)
  have hlight : Light 22 d0 := by
    intro n hn
    have hsz : (DataW.weightsEach Tryd.prog (Tryd.f7.params.toList ++ Rows.datumItemsSpec.plain.varTypes Tryd.prog) ([d0] ++ [])).all (· ≤ reachBytes) = true := hsz0
    rw [Tryd.params7] at hsz
    have := List.all_eq_true.1 hsz n (by simp only [List.cons_append, List.nil_append, DataW.weightsEach, List.mem_append]; exact Or.inl hn)
    simpa using this
  refine (datumItems_any l a cap W (tab_of_laid hL) hlm (hslim hlight).2 hl).mono fun e W' ⟨he, hnx⟩ => ?_
  subst he
  refine ⟨_, rfl, _, _, _, [], p0 ++ [], [], hW', ?_, ?_, rfl, hnx.frame _, fun h => by cases h⟩
  · exact trodAll_cons_mk (shut_bool Tryd.underlying4 _) trodAll_mk0
  · exact trodAll_cons_mk (data_stay h0k hnx hlt) trodAll_mk0

theorem row_holds : Rows.DatumItemsSaid :=
  OpenClaim.holds_of_wide 7 Tryd.f7 rfl rfl rfl rfl rfl rfl rfl ⟨rfl, rfl, rfl, rfl, rfl⟩ rfl rfl rfl rfl rfl (by kernel_rfl) Tryd.func7 (by kernel_rfl)
    (of_decide_eq_true (by kernel_rfl)) (by unfold Func.isWrapper; first | (rw [if_pos (by decide +kernel)]; kernel_rfl) | (rw [if_neg (by decide +kernel)]; exact ⟨rfl, rfl⟩))
    (fun os started H enc _ => lifted os started H enc)

theorem proved : Rows.DatumItemsCardSaid :=
  Claim7.holds_tied_plain_at .later [] [.data, .data, .data] true (true, "9cd326114bfcf088dd36561ad8f7ec39dec4ef692204a86c0d795625ebcebf87") false
    row_holds (fun _ h => by cases h) (by kernel_rfl) (fun _ h => by cases h) datumItems_row_tie rfl ⟨rfl, rfl⟩ (by kernel_rfl) rfl
    (fun f fn hf hfn => by
      obtain rfl : f = 7 := Option.some.inj ((show Tryd.prog.funcNamed "corbel/corbellaw02.DatumItems" = some 7 by kernel_rfl).symm.trans hf) |>.symm
      obtain rfl : fn = Tryd.f7 := (Option.some.inj (Tryd.func7.symm.trans hfn)).symm
      exact ⟨by kernel_rfl, fun j t ht => by
        rw [Tryd.params7] at ht
        have hm : t ∈ [22] := by simpa using Array.mem_of_getElem? ht
        have hall : ([22].all fun u => !Tryd.prog.wantsStandIn u) = true := by kernel_rfl
        exact (show Tryd.prog.wantsStandIn t = false by simpa using List.all_eq_true.1 hall t hm)⟩)
    (by kernel_rfl)
#print axioms proved
end Go.Proofs.YtogjhoipofkogaaDoor.datumItems
