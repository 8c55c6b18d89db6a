/- DatumParts: a datum that is right has right parts, and with a part that is wrong it is wrong and has no text: the law answers true for all inputs, with no condition beyond the three listed tables of Go's own library, which the card ties to the program's text. -/
import Derived.Test.YtogjhoipofkogaaDoorDatVp
import Derived.Test.YtogjhoipofkogaaDoorDatVn
import Derived.Deep.RegionHeld3
import Derived.Deep.Cut
import Derived.Deep.CutRange
import Derived.Test.YtogjhoipofkogaaDoorDatVb
import Derived.Test.YtogjhoipofkogaaDoorDatVd
import Derived.Test.YtogjhoipofkogaaDoorDatVe
import Derived.Test.YtogjhoipofkogaaDoorDatQ
import Derived.Test.YtogjhoipofkogaaDoorDatZ
import Derived.Test.YtogjhoipofkogaaDoorDatS
import Derived.Test.YtogjhoipofkogaaDoorShelf
import Derived.Test.YtogjhoipofkogaaDoorLaid
import Derived.Test.YtogjhoipofkogaaDoorDatVf
import Derived.Test.YtogjhoipofkogaaDoorDatM
import Derived.Test.YtogjhoipofkogaaDoorDatB
import Derived.WalkSmall
import Derived.Test.YtogjhoipofkogaaDoorDatO
import Derived.Carry
import Derived.SevenTiedAt
import Derived.Test.YtogjhoipofkogaaDoorCards

/- The laws' common part: awake, its two calls of List. -/
namespace Go.Proofs.YtogjhoipofkogaaDoor.Dat
open Go.RowKit
set_option linter.unusedVariables false

abbrev emp : ByteArray := ⟨#[]⟩
abbrev aOne : Dt := .node 0 1 1 emp []
abbrev aTwo : Dt := .node 0 2 1 emp []
abbrev aX : Dt := .node 2 0 0 ⟨#[120]⟩ []
abbrev aA : Dt := .node 3 0 0 ⟨#[97]⟩ []
abbrev Zb : Obj := .cells #[.int .i64 0, .int .i64 0, .int .i64 0, .string ⟨#[]⟩, .slice none 0 0] 24 (0, 0)
abbrev Ob : Obj := .cells #[.int .i64 0, .int .i64 1, .int .i64 1, .string ⟨#[]⟩, .slice none 0 0] 24 (0, 0)
abbrev Ab : Obj := .cells #[.int .i64 3, .int .i64 0, .int .i64 0, .string ⟨#[97]⟩, .slice none 0 0] 24 (0, 0)
theorem leaf_at (w : World) (k n d : Int) (s : ByteArray) (hk : I64 k) (hn : I64 n) (hd : I64 d) (hs : s.size ≤ maxLen) : (Dt.node k n d s []).At w (.agg #[.int .i64 k, .int .i64 n, .int .i64 d, .string s, .slice none 0 0]) := by
  unfold Dt.At
  exact ⟨hk, hn, hd, hs, by simp, none, 0, rfl, Or.inl rfl⟩
theorem at_new_eq {w : World} {o : Obj} {k : Nat} (h : k = w.heap.size) : (w.alloc o).heap[k]? = some o := by subst h; exact at_new w o
theorem at_old {w : World} {o x : Obj} {k : Nat} (h : w.heap[k]? = some x) : (w.alloc o).heap[k]? = some x := block_on (box_below _ _) h
/-- All old blocks but this one. -/
abbrev X1 (g n : Nat) (b : Nat) : Bool := b != g && decide (b < n)
/-- All old blocks but these two, and what came between. -/
abbrev X2 (g n m g2 k : Nat) (b : Nat) : Bool := (b != g && decide (b < n)) || (b != g2 && decide (m ≤ b) && decide (b < k))
abbrev lA : Dt := Dt.list [aA]
abbrev lAll : Dt := Dt.list [aOne, aX, lA]

theorem list_one (g : Nat) (W : World) (h : W.heap[g]? = some Ab) :
    Calls Tryd.prog 25 #[.slice (some ⟨g, 0, none⟩) 1 1] W fun e w' => (∃ k n d s p len cap, e = .returned (.agg #[.int .i64 k, .int .i64 n, .int .i64 d, .string s, .slice p len cap]) ∧ lA.At (off w' (X1 g W.heap.size)) (.agg #[.int .i64 k, .int .i64 n, .int .i64 d, .string s, .slice p len cap])) ∧ Below W.heap.size W w' := by
  have hc : ∀ j v, #[Value.int .i64 3, .int .i64 0, .int .i64 0, .string ⟨#[97]⟩, .slice none 0 0][j]? = some v → (off W (X1 g W.heap.size)).cell? ⟨g, j, none⟩ = some v := fun j v hj => off_cell.2 ⟨by simp [X1], by rw [cell_of_block h]; exact hj⟩
  refine ownList_any (X1 g W.heap.size) [aA] _ _ W (fun b hb => by simp [X1]; omega) (by simp [maxLen]) (Dt.slimAll_size _ (by simp [Dt.sizes, Dt.size])) (Or.inr ⟨g, 0, rfl, ?_⟩)
  unfold Dt.AllAt
  exact ⟨⟨_, _, _, _, _, hc 0 _ rfl, hc 1 _ rfl, hc 2 _ rfl, hc 3 _ rfl, hc 4 _ rfl, leaf_at _ _ _ _ _ (by unfold I64; omega) (by unfold I64; omega) (by unfold I64; omega) (by unfold maxLen; decide)⟩, by unfold Dt.AllAt; trivial⟩
theorem list_three (g2 : Nat) (W : World) (X : Nat → Bool) (hX : ∀ b, W.heap.size ≤ b → X b = false) (hg : X g2 = false) (k n d : Int) (s : ByteArray) (p : Option Addr) (len cap : Nat)
    (h : W.heap[g2]? = some (.cells #[.int .i64 0, .int .i64 1, .int .i64 1, .string ⟨#[]⟩, .slice none 0 0, .int .i64 2, .int .i64 0, .int .i64 0, .string ⟨#[120]⟩, .slice none 0 0, .int .i64 k, .int .i64 n, .int .i64 d, .string s, .slice p len cap] 24 (0, 0)))
    (ht : lA.At (off W X) (.agg #[.int .i64 k, .int .i64 n, .int .i64 d, .string s, .slice p len cap])) :
    Calls Tryd.prog 25 #[.slice (some ⟨g2, 0, none⟩) 3 3] W fun e w' => (∃ k n d s p len cap, e = .returned (.agg #[.int .i64 k, .int .i64 n, .int .i64 d, .string s, .slice p len cap]) ∧ lAll.At (off w' X) (.agg #[.int .i64 k, .int .i64 n, .int .i64 d, .string s, .slice p len cap])) ∧ Below W.heap.size W w' := by
  have hc : ∀ j v, #[Value.int .i64 0, .int .i64 1, .int .i64 1, .string ⟨#[]⟩, .slice none 0 0, .int .i64 2, .int .i64 0, .int .i64 0, .string ⟨#[120]⟩, .slice none 0 0, .int .i64 k, .int .i64 n, .int .i64 d, .string s, .slice p len cap][j]? = some v → (off W X).cell? ⟨g2, j, none⟩ = some v := fun j v hj => off_cell.2 ⟨hg, by rw [cell_of_block h]; exact hj⟩
  refine ownList_any X [aOne, aX, lA] _ _ W hX (by simp [maxLen]) (Dt.slimAll_size _ (by simp [Dt.sizes, Dt.size, Dt.list])) (Or.inr ⟨g2, 0, rfl, ?_⟩)
  unfold Dt.AllAt
  refine ⟨⟨_, _, _, _, _, hc 0 _ rfl, hc 1 _ rfl, hc 2 _ rfl, hc 3 _ rfl, hc 4 _ rfl, leaf_at _ _ _ _ _ (by unfold I64; omega) (by unfold I64; omega) (by unfold I64; omega) (by unfold maxLen; decide)⟩, ?_⟩
  unfold Dt.AllAt
  refine ⟨⟨_, _, _, _, _, hc 5 _ rfl, hc 6 _ rfl, hc 7 _ rfl, hc 8 _ rfl, hc 9 _ rfl, leaf_at _ _ _ _ _ (by unfold I64; omega) (by unfold I64; omega) (by unfold I64; omega) (by unfold maxLen; decide)⟩, ?_⟩
  unfold Dt.AllAt
  exact ⟨⟨_, _, _, _, _, hc 10 _ rfl, hc 11 _ rfl, hc 12 _ rfl, hc 13 _ rfl, hc 14 _ rfl, ht⟩, by unfold Dt.AllAt; trivial⟩
theorem two_on {t : Dt} {u : Value} {w1 W : World} {g n g2 : Nat} (h : t.At (off w1 (X1 g n)) u) (hb : Below w1.heap.size w1 W) : t.At (off W (X2 g n w1.heap.size g2 W.heap.size)) u :=
  h.on (off_on (fun b hb hx => by simp [X1, X2] at hx ⊢; refine ⟨hx, fun _ h => by omega⟩) fun b hb' _ => hb.block b hb')
theorem two_no {g n m g2 k : Nat} (hn : n ≤ k) (hm : m ≤ k) : ∀ b, k ≤ b → X2 g n m g2 k b = false := by
  intro b hb
  simp [X2]; omega
theorem two_own {g n m g2 k : Nat} (h1 : n ≤ g2) : X2 g n m g2 k g2 = false := by
  simp [X2]; omega
end Go.Proofs.YtogjhoipofkogaaDoor.Dat

/- awake: the list is made. -/
namespace Go.Proofs.YtogjhoipofkogaaDoor.Dat
open Go.RowKit
set_option linter.unusedVariables false
theorem at_drew {w : World} {k : Nat} {x : Obj} (h : w.heap[k]? = some x) : w.drew.heap[k]? = some x := h
theorem sz1 (w : World) (o : Obj) : (w.alloc o).heap.size = w.heap.size + 1 := by simp
theorem sz2 (w : World) (o o' : Obj) : ((w.alloc o).alloc o').heap.size = w.heap.size + 2 := by simp
theorem below2 (w : World) (o o' : Obj) : Below w.heap.size w ((w.alloc o).alloc o') := (box_below w o).alloc (by simp) o'
theorem list_oneN (g N : Nat) (W : World) (hN : W.heap.size = N) (h : W.heap[g]? = some Ab) :
    Calls Tryd.prog 25 #[.slice (some ⟨g, 0, none⟩) 1 1] W fun e w' => (∃ k n d s p len cap, e = .returned (.agg #[.int .i64 k, .int .i64 n, .int .i64 d, .string s, .slice p len cap]) ∧ lA.At (off w' (X1 g N)) (.agg #[.int .i64 k, .int .i64 n, .int .i64 d, .string s, .slice p len cap])) ∧ Below N W w' := by
  subst hN; exact list_one g W h
theorem list_threeN (g2 N g K : Nat) (w1 W : World) (hK : W.heap.size = K) (hg : w1.heap.size ≤ g2) (hN : N ≤ w1.heap.size) (hb : Below w1.heap.size w1 W) (k n d : Int) (s : ByteArray) (p : Option Addr) (len cap : Nat)
    (h : W.heap[g2]? = some (Obj.cells #[.int .i64 0, .int .i64 1, .int .i64 1, .string ⟨#[]⟩, .slice none 0 0, .int .i64 2, .int .i64 0, .int .i64 0, .string ⟨#[120]⟩, .slice none 0 0, .int .i64 k, .int .i64 n, .int .i64 d, .string s, .slice p len cap] 24)) (hu : lA.At (off w1 (X1 g N)) (.agg #[.int .i64 k, .int .i64 n, .int .i64 d, .string s, .slice p len cap])) :
    Calls Tryd.prog 25 #[.slice (some ⟨g2, 0, none⟩) 3 3] W fun e w' => (∃ k n d s p len cap, e = .returned (.agg #[.int .i64 k, .int .i64 n, .int .i64 d, .string s, .slice p len cap]) ∧ lAll.At (off w' (X2 g N w1.heap.size g2 K)) (.agg #[.int .i64 k, .int .i64 n, .int .i64 d, .string s, .slice p len cap])) ∧ Below K W w' := by
  subst hK
  have hs := hb.size
  exact list_three g2 W (X2 g N w1.heap.size g2 W.heap.size) (two_no (by omega) hs) (two_own (by omega)) k n d s p len cap h (two_on hu hb)
/-- The list is made: its box, the number's box. -/
def MadeAt (w : World) (s2 : Value) (wx : World) : Prop :=
  ∃ (B : Nat) (k n d : Int) (s : ByteArray) (p : Option Addr) (len cap : Nat), s2 = .pointer (some ⟨B, 0, none⟩) ∧ wx.heap[B]? = some (.cells #[.int .i64 k, .int .i64 n, .int .i64 d, .string s, .slice p len cap] 24 (0, 0)) ∧
      lAll.At wx (.agg #[.int .i64 k, .int .i64 n, .int .i64 d, .string s, .slice p len cap]) ∧ wx.heap[w.heap.size]? = some Ob ∧ Below w.heap.size w wx
theorem made_store {w w2 : World} {bz : Nat} {X : Nat → Bool} {k n d : Int} {s : ByteArray} {p : Option Addr} {len cap : Nat} (hz : w2.heap[bz]? = some Zb) (hX : X bz = true) (hu : lAll.At (off w2 X) (.agg #[.int .i64 k, .int .i64 n, .int .i64 d, .string s, .slice p len cap]))
    (hob : w2.heap[w.heap.size]? = some Ob) (hb : Below w.heap.size w w2) (hw : w.heap.size < bz) :
    MadeAt w (.pointer (some ⟨bz, 0, none⟩)) (((((w2.setCell ⟨bz, 0, none⟩ (.int .i64 k)).setCell ⟨bz, 1, none⟩ (.int .i64 n)).setCell ⟨bz, 2, none⟩ (.int .i64 d)).setCell ⟨bz, 3, none⟩ (.string s)).setCell ⟨bz, 4, none⟩ (.slice p len cap)) := by
  refine ⟨bz, k, n, d, s, p, len, cap, rfl, set_five hz, ?_, (set_five_other (by omega)).trans hob, set_five_below hb (by omega)⟩
  refine hu.on fun b o v hv => ?_
  obtain ⟨h0, hc⟩ := off_cell.1 hv
  have hne : b ≠ bz := by rintro rfl; rw [hX] at h0; cases h0
  unfold World.cell? at hc ⊢
  rw [set_five_other hne]; exact hc
theorem made_new {w w2 : World} {X : Nat → Bool} {k n d : Int} {s : ByteArray} {p : Option Addr} {len cap : Nat} (hu : lAll.At (off w2 X) (.agg #[.int .i64 k, .int .i64 n, .int .i64 d, .string s, .slice p len cap]))
    (hob : w2.heap[w.heap.size]? = some Ob) (hb : Below w.heap.size w w2) (hw : w.heap.size < w2.heap.size) :
    MadeAt w (.pointer (some ⟨w2.heap.size, 0, none⟩)) (w2.alloc (.cells #[.int .i64 k, .int .i64 n, .int .i64 d, .string s, .slice p len cap] 24)) := by
  refine ⟨w2.heap.size, k, n, d, s, p, len, cap, rfl, at_new _ _, ?_, at_old hob, hb.alloc (Nat.le_of_lt hw) _⟩
  refine hu.on fun b o v hv => ?_
  obtain ⟨h0, hc⟩ := off_cell.1 hv
  have hl := cell_lt hc
  have hk := (box_below w2 (.cells #[.int .i64 k, .int .i64 n, .int .i64 d, .string s, .slice p len cap] 24)).block b hl
  unfold World.cell? at hc ⊢
  rw [hk]; exact hc
theorem x2_of {g n m g2 k b : Nat} (h : X1 g n b = true) : X2 g n m g2 k b = true := by
  have h' : (b != g && decide (b < n)) = true := h
  show ((b != g && decide (b < n)) || _) = true
  rw [h']; rfl
theorem num_set {w2 : World} {a bz : Nat} {b0 b1 b2 b3 b4 : Value} (h : w2.heap[a]? = some Ob) (hne : a ≠ bz) :
    (((((w2.setCell ⟨bz, 0, none⟩ b0).setCell ⟨bz, 1, none⟩ b1).setCell ⟨bz, 2, none⟩ b2).setCell ⟨bz, 3, none⟩ b3).setCell ⟨bz, 4, none⟩ b4).cell? ⟨a, 0, none⟩ = some (.int .i64 0) ∧ (((((w2.setCell ⟨bz, 0, none⟩ b0).setCell ⟨bz, 1, none⟩ b1).setCell ⟨bz, 2, none⟩ b2).setCell ⟨bz, 3, none⟩ b3).setCell ⟨bz, 4, none⟩ b4).cell? ⟨a, 1, none⟩ = some (.int .i64 1) ∧ (((((w2.setCell ⟨bz, 0, none⟩ b0).setCell ⟨bz, 1, none⟩ b1).setCell ⟨bz, 2, none⟩ b2).setCell ⟨bz, 3, none⟩ b3).setCell ⟨bz, 4, none⟩ b4).cell? ⟨a, 2, none⟩ = some (.int .i64 1) ∧ (((((w2.setCell ⟨bz, 0, none⟩ b0).setCell ⟨bz, 1, none⟩ b1).setCell ⟨bz, 2, none⟩ b2).setCell ⟨bz, 3, none⟩ b3).setCell ⟨bz, 4, none⟩ b4).cell? ⟨a, 3, none⟩ = some (.string ⟨#[]⟩) ∧ (((((w2.setCell ⟨bz, 0, none⟩ b0).setCell ⟨bz, 1, none⟩ b1).setCell ⟨bz, 2, none⟩ b2).setCell ⟨bz, 3, none⟩ b3).setCell ⟨bz, 4, none⟩ b4).cell? ⟨a, 4, none⟩ = some (.slice none 0 0) :=
  box_cells ((set_five_other hne).trans h)
abbrev Pb : Obj := .cells #[.int .i64 0, .int .i64 1, .int .i64 1, .string ⟨#[]⟩, .slice none 0 0, .int .i64 0, .int .i64 2, .int .i64 1, .string ⟨#[]⟩, .slice none 0 0] 24 (0, 0)
theorem pair_at (w : World) : (Dt.node 6 0 0 emp [aOne, aTwo]).At (w.alloc Pb) (.agg #[.int .i64 6, .int .i64 0, .int .i64 0, .string ⟨#[]⟩, .slice (some ⟨w.heap.size, 0, none⟩) 2 2]) := by
  have hc : ∀ j v, #[Value.int .i64 0, .int .i64 1, .int .i64 1, .string ⟨#[]⟩, .slice none 0 0, .int .i64 0, .int .i64 2, .int .i64 1, .string ⟨#[]⟩, .slice none 0 0][j]? = some v → (w.alloc Pb).cell? ⟨w.heap.size, j, none⟩ = some v := fun j v hj => by rw [cell_of_block (at_new w Pb)]; exact hj
  unfold Dt.At
  refine ⟨by unfold I64; omega, by unfold I64; omega, by unfold I64; omega, by unfold maxLen; decide, by simp [maxLen], some ⟨w.heap.size, 0, none⟩, 2, rfl, Or.inr ⟨w.heap.size, 0, rfl, ?_⟩⟩
  unfold Dt.AllAt
  refine ⟨⟨_, _, _, _, _, hc 0 _ rfl, hc 1 _ rfl, hc 2 _ rfl, hc 3 _ rfl, hc 4 _ rfl, leaf_at _ _ _ _ _ (by unfold I64; omega) (by unfold I64; omega) (by unfold I64; omega) (by unfold maxLen; decide)⟩, ?_⟩
  unfold Dt.AllAt
  refine ⟨⟨_, _, _, _, _, hc 5 _ rfl, hc 6 _ rfl, hc 7 _ rfl, hc 8 _ rfl, hc 9 _ rfl, leaf_at _ _ _ _ _ (by unfold I64; omega) (by unfold I64; omega) (by unfold I64; omega) (by unfold maxLen; decide)⟩, ?_⟩
  unfold Dt.AllAt; trivial
theorem x2_mid (a m : Nat) : X2 (a + 1) (a + 2) m (m + 1) (m + 2) m = true := by simp [X2]
theorem x2_end (a m : Nat) : X2 (a + 1) (a + 2) m m (m + 2) (m + 1) = true := by simp [X2]
set_option maxHeartbeats 16000000 in
set_option maxRecDepth 100000 in
theorem awake_list (w : World) (T : World → Prop) (hL : Lasts T) (ht : T w) (R : Int → Int → Bool) (Nm : ByteArray → Bool) (NT : Int → Int → List UInt8)
    (hX : ∀ (t : Dt) (v : Value) (a : ByteArray) (w : World), t.At w v → T w → (t.right R Nm 0 = true → (t.text NT).length ≤ 140737488355328) → a.data.toList = t.full R Nm NT → Calls Tryd.prog 21 #[v] w fun e w' => e = .returned (.string a) ∧ Below w.heap.size w w')
    (g1 : (lAll.text NT).length ≤ 140737488355328) (e1 : [40, 49, 32, 120, 32, 40, 34, 97, 34, 41, 41] = lAll.full R Nm NT)
    (g2 : (Dt.text NT (.node 6 0 0 emp [aOne, aTwo])).length ≤ 140737488355328) (e2 : [40, 49, 32, 46, 32, 50, 41] = Dt.full R Nm NT (.node 6 0 0 emp [aOne, aTwo])) :
    Calls Tryd.prog 10 #[] w fun e w' => e = .returned (.bool true) ∧ Below w.heap.size w w' := by
  have HX := Lib.hid hX
  have HL := Lib.hid hL
  have HT := Lib.hid ht
  have HG1 := Lib.hid g1
  have HE1 := Lib.hid e1
  have HG2 := Lib.hid g2
  have HE2 := Lib.hid e2
  clear hX hL ht g1 e1 g2 e2
  go_enter Tryd.func10, Tryd.ntmps10
  go_wp2_with fail
  go_cut [2] from 4 to 10 (fun s2 wx => MadeAt w s2 wx)
  case first =>
    have f0 : (w.alloc Ob).cell? ⟨w.heap.size, 0, none⟩ = some (.int .i64 0) := by simp
    have f1 : (w.alloc Ob).cell? ⟨w.heap.size, 1, none⟩ = some (.int .i64 1) := by simp
    have f2 : (w.alloc Ob).cell? ⟨w.heap.size, 2, none⟩ = some (.int .i64 1) := by simp
    have f3 : (w.alloc Ob).cell? ⟨w.heap.size, 3, none⟩ = some (.string ⟨#[]⟩) := by simp
    have f4 : (w.alloc Ob).cell? ⟨w.heap.size, 4, none⟩ = some (.slice none 0 0) := by simp
    have hob := at_new w Ob
    have hs0 : (w.alloc Ob).heap.size = w.heap.size + 1 := by simp
    have hb0 := box_below w Ob
    obtain ⟨W, hW⟩ : ∃ W, w.alloc Ob = W := ⟨_, rfl⟩
    rw [hW] at f0 f1 f2 f3 f4 hob hs0 hb0
    rw [show (w.alloc (.cells #[.int .i64 0, .int .i64 1, .int .i64 1, .string ⟨#[]⟩, .slice none 0 0] 24)) = W from hW]
    have HOB := Lib.hid hob
    have HB0 := Lib.hid hb0
    have HS0 := Lib.hid hs0
    clear hW hob hb0
    go_region_held3 (fun w' => w'.cell? ⟨w.heap.size, 0, none⟩ = some (.int .i64 0) ∧ w'.cell? ⟨w.heap.size, 1, none⟩ = some (.int .i64 1) ∧ w'.cell? ⟨w.heap.size, 2, none⟩ = some (.int .i64 1) ∧ w'.cell? ⟨w.heap.size, 3, none⟩ = some (.string ⟨#[]⟩) ∧ w'.cell? ⟨w.heap.size, 4, none⟩ = some (.slice none 0 0))
      (with_reducible (first | (refine ⟨?_, ?_, ?_, ?_, ?_⟩ <;> assumption) | exact box_cells (at_drew HOB.out) | exact box_cells (at_drew HW1.out) | exact box_cells (at_drew HW2.out) | exact box_cells (at_drew (at_old HOB.out)) | exact box_cells (at_old HOB.out) | exact box_cells (at_drew (at_old (at_old HOB.out))) | exact box_cells (at_old (at_old HOB.out)) | exact box_cells (at_drew (at_old HW1.out)) | exact box_cells (at_old HW1.out) | exact box_cells (at_drew (at_old (at_old HW1.out))) | exact box_cells (at_old (at_old HW1.out)) | exact box_cells HW1.out | exact box_cells HW2.out | exact box_cells (at_old HW2.out) | exact num_set HW2.out (by omega) | exact num_set HW2.out (by have := HN1.out; omega) | exact num_set (at_old HW2.out) (by have := HN2.out; omega)))
      (first
        | (go_at_call 25
           with_reducible refine Calls.mono (list_oneN (w.heap.size + 2) (w.heap.size + 3) ((W.alloc (.cells #[.int .i64 0, .int .i64 0, .int .i64 0, .string ⟨#[]⟩, .slice none 0 0] 24)).alloc (.cells #[.int .i64 3, .int .i64 0, .int .i64 0, .string ⟨#[97]⟩, .slice none 0 0] 24)).drew ?_ ?_) ?_
           · exact ((sz2 W _ _).trans (by rw [HS0.out]))
           · exact at_drew (at_new_eq (by rw [sz1, HS0.out]))
           rintro e w1 ⟨⟨k, n, d, s, p, len, cap, rfl, hu⟩, hb⟩
           have HU := Lib.hid hu
           have HW1 := Lib.hid (show w1.heap[w.heap.size]? = some Ob from (hb.block _ (by omega)).trans (at_drew (at_old (at_old HOB.out))))
           have HB1 := Lib.hid (show Below w.heap.size w w1 from ((HB0.out).trans ((below2 W _ _).mono (by rw [HS0.out]; omega)).drew).trans (hb.mono (by omega)))
           have HN1 := Lib.hid (show w.heap.size + 3 ≤ w1.heap.size from Nat.le_trans (Nat.le_of_eq (Eq.symm ((sz2 W _ _).trans (by rw [HS0.out])))) hb.size)
           have HZ1 := Lib.hid (show w1.heap[w.heap.size + 1]? = some Zb from (hb.block _ (by omega)).trans (at_drew (at_old (at_new_eq (HS0.out).symm))))
           have HX1 := Lib.hid (show X1 (w.heap.size + 2) (w.heap.size + 3) (w.heap.size + 1) = true from by simp [X1])
           obtain ⟨k0, k1, k2, k3, k4⟩ := box_cells HW1.out
           clear hu hb)
        | (go_at_call 25
           with_reducible refine Calls.mono (list_oneN (w.heap.size + 1) (w.heap.size + 3) ((W.alloc (.cells #[.int .i64 3, .int .i64 0, .int .i64 0, .string ⟨#[97]⟩, .slice none 0 0] 24)).alloc (.cells #[.int .i64 0, .int .i64 0, .int .i64 0, .string ⟨#[]⟩, .slice none 0 0] 24)).drew ?_ ?_) ?_
           · exact ((sz2 W _ _).trans (by rw [HS0.out]))
           · exact at_drew (at_old (at_new_eq (HS0.out).symm))
           rintro e w1 ⟨⟨k, n, d, s, p, len, cap, rfl, hu⟩, hb⟩
           have HU := Lib.hid hu
           have HW1 := Lib.hid (show w1.heap[w.heap.size]? = some Ob from (hb.block _ (by omega)).trans (at_drew (at_old (at_old HOB.out))))
           have HB1 := Lib.hid (show Below w.heap.size w w1 from ((HB0.out).trans ((below2 W _ _).mono (by rw [HS0.out]; omega)).drew).trans (hb.mono (by omega)))
           have HN1 := Lib.hid (show w.heap.size + 3 ≤ w1.heap.size from Nat.le_trans (Nat.le_of_eq (Eq.symm ((sz2 W _ _).trans (by rw [HS0.out])))) hb.size)
           have HZ1 := Lib.hid (show w1.heap[w.heap.size + 2]? = some Zb from (hb.block _ (by omega)).trans (at_drew (at_new_eq (by rw [sz1, HS0.out]))))
           have HX1 := Lib.hid (show X1 (w.heap.size + 1) (w.heap.size + 3) (w.heap.size + 2) = true from by simp [X1])
           obtain ⟨k0, k1, k2, k3, k4⟩ := box_cells HW1.out
           clear hu hb)
        | (go_at_call 25
           with_reducible refine Calls.mono (list_oneN (w.heap.size + 1) (w.heap.size + 2) (W.alloc (.cells #[.int .i64 3, .int .i64 0, .int .i64 0, .string ⟨#[97]⟩, .slice none 0 0] 24)).drew ?_ ?_) ?_
           · exact ((sz1 W _).trans (by rw [HS0.out]))
           · exact at_drew (at_new_eq (HS0.out).symm)
           rintro e w1 ⟨⟨k, n, d, s, p, len, cap, rfl, hu⟩, hb⟩
           have HU := Lib.hid hu
           have HW1 := Lib.hid (show w1.heap[w.heap.size]? = some Ob from (hb.block _ (by omega)).trans (at_drew (at_old HOB.out)))
           have HB1 := Lib.hid (show Below w.heap.size w w1 from ((HB0.out).trans ((box_below W _).mono (by rw [HS0.out]; omega)).drew).trans (hb.mono (by omega)))
           have HN1 := Lib.hid (show w.heap.size + 2 ≤ w1.heap.size from Nat.le_trans (Nat.le_of_eq (Eq.symm ((sz1 W _).trans (by rw [HS0.out])))) hb.size)
           obtain ⟨k0, k1, k2, k3, k4⟩ := box_cells HW1.out
           clear hu hb)
        | (go_at_call 25
           with_reducible refine Calls.mono (list_threeN (w1.heap.size) _ _ (w1.heap.size + 1) w1 (w1.alloc _) ?_ ?_ ?_ ?_ _ _ _ _ _ _ _ ?_ HU.out) ?_
           · exact (sz1 w1 _)
           · exact (Nat.le_refl _)
           · exact HN1.out
           · exact (box_below w1 _)
           · exact (at_new w1 _)
           rintro e w2 ⟨⟨k2, n2, d2, s2, p2, len2, cap2, rfl, hu⟩, hb⟩
           have HU2 := Lib.hid hu
           have HN := HN1.out
           have HW2 := Lib.hid (show w2.heap[w.heap.size]? = some Ob from (hb.block _ (by omega)).trans (at_old HW1.out))
           have HB2 := Lib.hid (show Below w.heap.size w w2 from ((HB1.out).trans ((box_below w1 _).mono (by omega))).trans (hb.mono (by omega)))
           have HN2 := Lib.hid (show w.heap.size < w2.heap.size from by have h : w1.heap.size + 1 ≤ w2.heap.size := Nat.le_trans (Nat.le_of_eq (Eq.symm (sz1 w1 _))) hb.size; omega)
           have HZ2 := Lib.hid ((hb.block _ (by omega)).trans ((at_old HZ1.out)))
           have HX2 := Lib.hid (x2_of (m := w1.heap.size) (g2 := w1.heap.size) (k := w1.heap.size + 1) (HX1.out))
           obtain ⟨y0, y1, y2, y3, y4⟩ := box_cells HZ2.out
           have q0 := box_frozen HZ2.out 0
           have q1 := box_frozen HZ2.out 1
           have q2 := box_frozen HZ2.out 2
           have q3 := box_frozen HZ2.out 3
           have q4 := box_frozen HZ2.out 4
           obtain ⟨m0, m1, m2, m3, m4⟩ := box_cells HW2.out
           clear hu hb HN)
        | (go_at_call 25
           with_reducible refine Calls.mono (list_threeN (w1.heap.size + 1) _ _ (w1.heap.size + 2) w1 ((w1.alloc (.cells #[.int .i64 0, .int .i64 0, .int .i64 0, .string ⟨#[]⟩, .slice none 0 0] 24)).alloc _) ?_ ?_ ?_ ?_ _ _ _ _ _ _ _ ?_ HU.out) ?_
           · exact (sz2 w1 _ _)
           · exact (Nat.le_succ _)
           · exact HN1.out
           · exact (below2 w1 _ _)
           · exact (at_new_eq (sz1 w1 _).symm)
           rintro e w2 ⟨⟨k2, n2, d2, s2, p2, len2, cap2, rfl, hu⟩, hb⟩
           have HU2 := Lib.hid hu
           have HN := HN1.out
           have HW2 := Lib.hid (show w2.heap[w.heap.size]? = some Ob from (hb.block _ (by omega)).trans (at_old (at_old HW1.out)))
           have HB2 := Lib.hid (show Below w.heap.size w w2 from ((HB1.out).trans ((below2 w1 _ _).mono (by omega))).trans (hb.mono (by omega)))
           have HN2 := Lib.hid (show w.heap.size < w2.heap.size from by have h : w1.heap.size + 2 ≤ w2.heap.size := Nat.le_trans (Nat.le_of_eq (Eq.symm (sz2 w1 _ _))) hb.size; omega)
           have HZ2 := Lib.hid ((hb.block w1.heap.size (by omega)).trans ((at_old (at_new w1 Zb))))
           have HX2 := Lib.hid (x2_mid w.heap.size w1.heap.size)
           obtain ⟨y0, y1, y2, y3, y4⟩ := box_cells HZ2.out
           have q0 := box_frozen HZ2.out 0
           have q1 := box_frozen HZ2.out 1
           have q2 := box_frozen HZ2.out 2
           have q3 := box_frozen HZ2.out 3
           have q4 := box_frozen HZ2.out 4
           obtain ⟨m0, m1, m2, m3, m4⟩ := box_cells HW2.out
           clear hu hb HN)
        | (go_at_call 25
           with_reducible refine Calls.mono (list_threeN (w1.heap.size) _ _ (w1.heap.size + 2) w1 ((w1.alloc _).alloc (.cells #[.int .i64 0, .int .i64 0, .int .i64 0, .string ⟨#[]⟩, .slice none 0 0] 24)) ?_ ?_ ?_ ?_ _ _ _ _ _ _ _ ?_ HU.out) ?_
           · exact (sz2 w1 _ _)
           · exact (Nat.le_refl _)
           · exact HN1.out
           · exact (below2 w1 _ _)
           · exact (at_old (at_new w1 _))
           rintro e w2 ⟨⟨k2, n2, d2, s2, p2, len2, cap2, rfl, hu⟩, hb⟩
           have HU2 := Lib.hid hu
           have HN := HN1.out
           have HW2 := Lib.hid (show w2.heap[w.heap.size]? = some Ob from (hb.block _ (by omega)).trans (at_old (at_old HW1.out)))
           have HB2 := Lib.hid (show Below w.heap.size w w2 from ((HB1.out).trans ((below2 w1 _ _).mono (by omega))).trans (hb.mono (by omega)))
           have HN2 := Lib.hid (show w.heap.size < w2.heap.size from by have h : w1.heap.size + 2 ≤ w2.heap.size := Nat.le_trans (Nat.le_of_eq (Eq.symm (sz2 w1 _ _))) hb.size; omega)
           have HZ2 := Lib.hid ((hb.block (w1.heap.size + 1) (by omega)).trans ((at_new_eq (sz1 w1 _).symm)))
           have HX2 := Lib.hid (x2_end w.heap.size w1.heap.size)
           obtain ⟨y0, y1, y2, y3, y4⟩ := box_cells HZ2.out
           have q0 := box_frozen HZ2.out 0
           have q1 := box_frozen HZ2.out 1
           have q2 := box_frozen HZ2.out 2
           have q3 := box_frozen HZ2.out 3
           have q4 := box_frozen HZ2.out 4
           obtain ⟨m0, m1, m2, m3, m4⟩ := box_cells HW2.out
           clear hu hb HN)
        | (go_at_call 25
           with_reducible refine Calls.mono (list_threeN (w1.heap.size) _ _ (w1.heap.size + 1) w1 (w1.alloc _) ?_ ?_ ?_ ?_ _ _ _ _ _ _ _ ?_ HU.out) ?_
           · exact (sz1 w1 _)
           · exact (Nat.le_refl _)
           · exact HN1.out
           · exact (box_below w1 _)
           · exact (at_new w1 _)
           rintro e w2 ⟨⟨k2, n2, d2, s2, p2, len2, cap2, rfl, hu⟩, hb⟩
           have HU2 := Lib.hid hu
           have HN := HN1.out
           have HW2 := Lib.hid (show w2.heap[w.heap.size]? = some Ob from (hb.block _ (by omega)).trans (at_old HW1.out))
           have HB2 := Lib.hid (show Below w.heap.size w w2 from ((HB1.out).trans ((box_below w1 _).mono (by omega))).trans (hb.mono (by omega)))
           have HN2 := Lib.hid (show w.heap.size < w2.heap.size from by have h : w1.heap.size + 1 ≤ w2.heap.size := Nat.le_trans (Nat.le_of_eq (Eq.symm (sz1 w1 _))) hb.size; omega)
           obtain ⟨m0, m1, m2, m3, m4⟩ := box_cells HW2.out
           clear hu hb HN))
    all_goals (go_wp2_with fail)
    all_goals go_meet
    all_goals first
      | with_reducible exact made_store HZ2.out HX2.out HU2.out HW2.out HB2.out (by omega)
      | with_reducible exact made_store HZ2.out HX2.out HU2.out HW2.out HB2.out (by have := HN1.out; omega)
      | with_reducible exact made_new HU2.out HW2.out HB2.out HN2.out
  case rest =>
    obtain ⟨B, k, n, d, s, p, len, cap, rfl, hbx, hat, hob, hb⟩ := hcut
    obtain ⟨c0, c1, c2, c3, c4⟩ := box_cells hbx
    have HAT := Lib.hid hat
    have HOB := Lib.hid hob
    have HB := Lib.hid hb
    have hlt := lt_of_block hob
    have C1 := Lib.hid (HX.out lAll _ ⟨#[40, 49, 32, 120, 32, 40, 34, 97, 34, 41, 41]⟩ wc hat (HL.out _ _ HT.out hb) (fun _ => HG1.out) HE1.out)
    clear hbx hat hob hb
    go_wp2_with fail
    refine C1.out.mono ?_
    rintro e w3 ⟨rfl, hb3⟩
    obtain ⟨m0, m1, m2, m3, m4⟩ := box_cells (block_on hb3 HOB.out)
    have HB3 := Lib.hid ((HB.out).trans (hb3.mono (by omega)))
    have hlt3 : w.heap.size < w3.heap.size := by have := hb3.size; omega
    clear hb3
    go_wp2_with fail
    have C2 := Lib.hid (HX.out (.node 6 0 0 emp [aOne, aTwo]) (.agg #[.int .i64 6, .int .i64 0, .int .i64 0, .string ⟨#[]⟩, .slice (some ⟨w3.heap.size, 0, none⟩) 2 2]) ⟨#[40, 49, 32, 46, 32, 50, 41]⟩ (w3.alloc Pb) (pair_at w3) (HL.out _ _ HT.out ((HB3.out).alloc (Nat.le_of_lt hlt3) _)) (fun _ => HG2.out) HE2.out)
    refine C2.out.mono ?_
    rintro e w4 ⟨rfl, hb4⟩
    have HB4 := Lib.hid (((HB3.out).alloc (Nat.le_of_lt hlt3) _).trans (hb4.mono (Nat.le_trans (Nat.le_of_lt hlt3) (Nat.le_trans (Nat.le_succ _) (Nat.le_of_eq (sz1 _ _).symm)))))
    clear hb4
    go_wp2_with fail
    go_ret
    exact ⟨rfl, HB4.out⟩
end Go.Proofs.YtogjhoipofkogaaDoor.Dat

/- What the program's and the reference's functions answer at this seat; the laws' common part. -/
namespace Go.Proofs.YtogjhoipofkogaaDoor.Dat
open Go.RowKit
open Go.Proofs.YtogjhoipofkogaaDoor (textL parse res)
open NumPlain (rightB)
set_option linter.unusedVariables false

abbrev Tab (w : World) : Prop := Lib.TabIs Tryd.prog w "internal/strconv.uint64pow10" .u64 Lib.pow10Tab
theorem tab_lasts : Lasts Tab := fun _ _ h hb => tab_on h hb
theorem drew_below (w : World) (k : Nat) : Below w.heap.size w (w.drewN k) := ⟨rfl, rfl, rfl, Nat.le_refl _, fun _ _ => rfl⟩
theorem numRight : NumRight rightB := fun n d w hn hd => Go.Proofs.YtogjhoipofkogaaDoor.right_any n d _ rfl w hn.1 hn.2 hd.1 hd.2
theorem refRight : RCall rightB := fun n d w hn hd => Go.Proofs.YtogjhoipofkogaaDoor.rightRef_any n d _ rfl w hn.1 hn.2 hd.1 hd.2
theorem idx : IdxCall := fun c w => Tryd.strings_IndexByte _ c w
theorem nameIs : NameIs nameB := fun s w hs => (Name_any idx (fun s => parse s.data.toList) (fun s w hs => parse_any s hs w) s hs w).mono fun e w' ⟨he, k, hk⟩ => ⟨he, hk ▸ drew_below w k⟩
theorem refName : NCall nameB := fun s w hs => name_any (fun s => parse s.data.toList) (fun s w hs => parseRef_any s hs w) s hs w
theorem refNameB (s : ByteArray) (w : World) (hs : s.size ≤ maxLen) : Calls Tryd.prog 17 #[.string s] w fun e w' => e = .returned (.bool (nameB s)) ∧ Below w.heap.size w w' := (refName s w hs).mono fun e w' ⟨he, k, hk⟩ => ⟨he, hk ▸ drew_below w k⟩
theorem numText : NumText Tab textL := fun n d a w ht hn hd ha => Go.Proofs.YtogjhoipofkogaaDoor.text_any n d hn hd a ha w ht
theorem refText : TCall textL := fun n d a w hn hd ha => textRef_any n d hn hd a ha w
theorem char_sub {c : UInt8} (h : nameChar c = true) : strChar c = true := by
  have all : ∀ n : Fin 256, nameChar ⟨⟨n⟩⟩ = true → strChar ⟨⟨n⟩⟩ = true := by decide +kernel
  exact all c.toBitVec.toFin h
theorem nameSub : NameSub nameB := fun s h => by
  unfold nameB at h
  simp only [Bool.and_eq_true] at h
  have := h.1.2
  rw [List.all_eq_true] at this ⊢
  exact fun c hc => char_sub (this c hc)

theorem pRight (t : Dt) (v : Value) (w : World) (hat : t.At w v) : Calls Tryd.prog 12 #[v] w fun e w' => e = .returned (.bool (t.right rightB nameB 0)) ∧ Below w.heap.size w w' := ownRight_any rightB nameB numRight nameIs nameSub t v w hat
theorem rRight (t : Dt) (v : Value) (w : World) (hat : t.At w v) : Calls Tryd.prog 13 #[v] w fun e w' => e = .returned (.bool (t.right rightB nameB 0)) ∧ Below w.heap.size w w' := Right_any rightB nameB refRight refName t v w hat
theorem pText (t : Dt) (v : Value) (a : ByteArray) (w : World) (hat : t.At w v) (ht : Tab w) (hlen : t.right rightB nameB 0 = true → (t.text textL).length ≤ 140737488355328) (ha : a.data.toList = t.full rightB nameB textL) :
    Calls Tryd.prog 21 #[v] w fun e w' => e = .returned (.string a) ∧ Below w.heap.size w w' := ownText_any Tab numText tab_lasts pRight t v a w hat ht hlen ha
theorem awake_any (w : World) (ht : Tab w) : Calls Tryd.prog 10 #[] w fun e w' => e = .returned (.bool true) ∧ Below w.heap.size w w' :=
  awake_list w Tab tab_lasts ht rightB nameB textL pText (by decide +kernel) (by decide +kernel) (by decide +kernel) (by decide +kernel)

/-- What a call answers, whatever memory it makes. -/
abbrev Answers (f : FuncId) (args : Array Value) (w : World) (r : Value) : Prop := Calls Tryd.prog f args w fun e w' => e = .returned r ∧ Below w.heap.size w w'

set_option maxHeartbeats 400000 in
set_option maxRecDepth 100000 in
theorem fewLaw_any (t : Dt) (v : Value) (m : Int) (w : World) (h0 : 0 ≤ m) (h1 : m ≤ 100000) (hat : t.At w v) : Answers 11 #[v, .int .i64 m] w (.bool (decide ((t.size : Int) ≤ m))) := by
  have hd : decide (0 ≤ t.few m) = decide ((t.size : Int) ≤ m) := by
    rw [Bool.eq_iff_iff, decide_eq_true_iff, decide_eq_true_iff]; exact t.few_iff m h0
  obtain ⟨k, n, d, s, l⟩ := t
  have C := fun w' (h : (Dt.node k n d s l).At w' v) => Few_any (Dt.node k n d s l) v m w' h0 h1 h
  rw [hd] at C
  obtain ⟨b, hb⟩ : ∃ b, decide (((Dt.node k n d s l).size : Int) ≤ m) = b := ⟨_, rfl⟩
  rw [hb] at C ⊢
  have hat2 := hat
  unfold Dt.At at hat2
  obtain ⟨hk, hn, hd, hs, hlm, p, cap, rfl, hl⟩ := hat2
  have HC := Lib.hid C; clear C
  have HAT := Lib.hid hat; clear hat hl hlm hs hk hn hd
  unfold Answers
  go_enter Tryd.func11, Tryd.ntmps11
  go_wp2_with fail
  refine (HC.out _ ((HAT.out).below ((Below.refl _ _).alloc (Nat.le_refl _) _))).mono ?_
  rintro _ w1 ⟨rfl, hb1⟩
  have HB1 := Lib.hid hb1; clear hb1
  go_wp2_with fail
  go_ret
  exact ⟨rfl, below_after HB1.out⟩

theorem below_then {w w1 w2 : World} (h : Below w.heap.size w w1) (h2 : Below w1.heap.size w1 w2) : Below w.heap.size w w2 := h.trans (h2.mono h.size)
end Go.Proofs.YtogjhoipofkogaaDoor.Dat

/- The law DatumSame. -/
namespace Go.Proofs.YtogjhoipofkogaaDoor.Dat
open Go.RowKit
open Go.Proofs.YtogjhoipofkogaaDoor (textL parse res)
open NumPlain (rightB)
set_option linter.unusedVariables false

theorem no_off {w : World} (b o : Nat) (v : Value) (h : (off w (fun _ => false)).cell? ⟨b, o, none⟩ = some v) : w.cell? ⟨b, o, none⟩ = some v := (off_cell.1 h).2
theorem to_off {w : World} (b o : Nat) (v : Value) (h : w.cell? ⟨b, o, none⟩ = some v) : (off w (fun _ => false)).cell? ⟨b, o, none⟩ = some v := off_cell.2 ⟨rfl, h⟩
/-- A row of data lies there. -/
def RowAt (w : World) (l : List Dt) (p : Option Addr) : Prop := l = [] ∨ ∃ b o, p = some ⟨b, o, none⟩ ∧ Dt.AllAt w l b o
theorem RowAt.on {w w' : World} {l : List Dt} {p : Option Addr} (hc : ∀ b o v, w.cell? ⟨b, o, none⟩ = some v → w'.cell? ⟨b, o, none⟩ = some v) (h : RowAt w l p) : RowAt w' l p := by
  rcases h with h | ⟨b, o, hp, ha⟩
  · exact Or.inl h
  · exact Or.inr ⟨b, o, hp, ha.on hc⟩
theorem RowAt.below {w w' : World} {l : List Dt} {p : Option Addr} (h : RowAt w l p) (hb : Below w.heap.size w w') : RowAt w' l p := h.on fun b o v hv => cell_on hb b o v hv
abbrev box5 (k n d : Int) (s : ByteArray) (p : Option Addr) (len cap : Nat) : Value := .agg #[.int .i64 k, .int .i64 n, .int .i64 d, .string s, .slice p len cap]
theorem pList (l : List Dt) (p : Option Addr) (cap : Nat) (w : World) (hlm : l.length ≤ maxLen) (hsl : Dt.slimAll l) (hl : RowAt w l p) :
    Calls Tryd.prog 25 #[.slice p l.length cap] w fun e w' => (∃ k n d s p len cap, e = .returned (.agg #[.int .i64 k, .int .i64 n, .int .i64 d, .string s, .slice p len cap]) ∧ (Dt.list l).At w' (.agg #[.int .i64 k, .int .i64 n, .int .i64 d, .string s, .slice p len cap])) ∧ Below w.heap.size w w' :=
  (ownList_any (fun _ => false) l p cap w (fun _ _ => rfl) hlm hsl (hl.on to_off)).mono fun e w' ⟨⟨k, n, d, s, p, len, cap, he, hu⟩, hb⟩ => ⟨⟨k, n, d, s, p, len, cap, he, hu.on no_off⟩, hb⟩
theorem rList (l : List Dt) (p : Option Addr) (cap : Nat) (w : World) (hlm : l.length ≤ maxLen) (hl : RowAt w l p) :
    Calls Tryd.prog 26 #[.slice p l.length cap] w fun e w' => (∃ k n d s p len cap, e = .returned (.agg #[.int .i64 k, .int .i64 n, .int .i64 d, .string s, .slice p len cap]) ∧ (Dt.list l).At w' (.agg #[.int .i64 k, .int .i64 n, .int .i64 d, .string s, .slice p len cap])) ∧ Below w.heap.size w w' := by
  refine (List_any (fun _ => false) l p cap w (fun _ _ => rfl) hlm (hl.on to_off)).mono ?_
  rintro e w' ⟨⟨u, rfl, hu⟩, hb⟩
  have hu := hu.on no_off
  refine ⟨?_, hb⟩
  generalize Dt.list l = t at hu ⊢
  obtain ⟨k, n, d, s, r⟩ := t
  have hu2 := hu
  unfold Dt.At at hu
  obtain ⟨-, -, -, -, -, q, cap, rfl, -⟩ := hu
  exact ⟨k, n, d, s, q, r.length, cap, rfl, hu2⟩
theorem lists_alike (t : Dt) (v v' : Value) (w : World) (h : t.At w v) (h' : t.At w v') : Calls Tryd.prog 20 #[v, v'] w fun e w' => e = .returned (.bool true) ∧ Below w.heap.size w w' := by
  have := alike_any t.size t t v v' w (Nat.le_refl _) h h'
  rwa [(Dt.alike_iff t t).2 rfl] at this

set_option maxHeartbeats 8000000 in
set_option maxRecDepth 100000 in
theorem datumSame_any (t t' : Dt) (v v' : Value) (l0 : List Dt) (q : Option Addr) (cq : Nat) (w : World) (htab : Tab w) (hat : t.At w v) (hat' : t'.At w v') (hlm : l0.length ≤ maxLen) (hsl : Dt.slimAll l0) (hl : RowAt w l0 q) :
    Answers 5 #[v, v', .slice q l0.length cq] w (.bool true) := by
  have hA := fun w' (h : Below w.heap.size w w') => awake_any w' (tab_on htab h)
  have F1 := fun w' (hb : Below w.heap.size w w') => fewLaw_any t v 2000 w' (by omega) (by omega) (hat.below hb)
  have F2 := fun w' (hb : Below w.heap.size w w') => fewLaw_any t' v' 2000 w' (by omega) (by omega) (hat'.below hb)
  have CS := fun w' (hb : Below w.heap.size w w') => ownSame_any (fun t => t.right rightB nameB 0) pRight t t' v v' w' (hat.below hb) (hat'.below hb)
  have CR := fun w' (hb : Below w.heap.size w w') => Same_any refRight refName t t' v v' w' (hat.below hb) (hat'.below hb)
  have CL := fun w' (hb : Below w.heap.size w w') => pList l0 q cq w' hlm hsl (hl.below hb)
  have CRL := fun w' (hb : Below w.heap.size w w') => rList l0 q cq w' hlm (hl.below hb)
  unfold Dt.same at CR
  obtain ⟨sm, hsm⟩ : ∃ r, (t.right rightB nameB 0 && t'.right rightB nameB 0 && t.alike t') = r := ⟨_, rfl⟩
  rw [hsm] at CS CR
  obtain ⟨f1, hf1⟩ : ∃ b, decide ((t.size : Int) ≤ 2000) = b := ⟨_, rfl⟩
  obtain ⟨f2, hf2⟩ : ∃ b, decide ((t'.size : Int) ≤ 2000) = b := ⟨_, rfl⟩
  rw [hf1] at F1
  rw [hf2] at F2
  have HA := Lib.hid hA
  have HF1 := Lib.hid F1
  have HF2 := Lib.hid F2
  have HS := Lib.hid CS
  have HRS := Lib.hid CR
  have HL := Lib.hid CL
  have HRL := Lib.hid CRL
  clear hA F1 F2 CS CR CL CRL hsm hf1 hf2 hl hsl
  obtain ⟨k, n, d, s, l⟩ := t
  obtain ⟨k2, n2, d2, s2, l2⟩ := t'
  unfold Dt.At at hat hat'
  obtain ⟨-, -, -, -, -, p, cap, rfl, -⟩ := hat
  obtain ⟨-, -, -, -, -, p2, cap2, rfl, -⟩ := hat'
  unfold Answers
  by_cases h200 : (200 : Int) < (l0.length : Int)
  · go_enter Tryd.func5, Tryd.ntmps5
    go_wp2_with fail
    refine (HA.out _ (below2 w _ _)).mono ?_
    rintro _ w1 ⟨rfl, hb1⟩
    obtain ⟨x1, x2⟩ := two_box hb1
    obtain ⟨a0, a1, a2, a3, a4⟩ := box_cells x1
    obtain ⟨b0, b1, b2, b3, b4⟩ := box_cells x2
    have B1 := Lib.hid ((below2 w _ _).trans (hb1.mono (by rw [sz2]; omega)))
    clear hb1 x1 x2
    go_wp2_with fail
    refine (HF1.out _ B1.out).mono ?_
    rintro _ w2 ⟨rfl, hb⟩
    replace a0 := cell_on hb _ _ _ a0
    replace a1 := cell_on hb _ _ _ a1
    replace a2 := cell_on hb _ _ _ a2
    replace a3 := cell_on hb _ _ _ a3
    replace a4 := cell_on hb _ _ _ a4
    replace b0 := cell_on hb _ _ _ b0
    replace b1 := cell_on hb _ _ _ b1
    replace b2 := cell_on hb _ _ _ b2
    replace b3 := cell_on hb _ _ _ b3
    replace b4 := cell_on hb _ _ _ b4
    have B2 := Lib.hid (below_then B1.out hb)
    clear hb
    cases f1
    · go_wp2_with fail
      go_ret
      exact ⟨rfl, B2.out⟩
    go_wp2_with fail
    refine (HF2.out _ B2.out).mono ?_
    rintro _ w3 ⟨rfl, hb⟩
    replace a0 := cell_on hb _ _ _ a0
    replace a1 := cell_on hb _ _ _ a1
    replace a2 := cell_on hb _ _ _ a2
    replace a3 := cell_on hb _ _ _ a3
    replace a4 := cell_on hb _ _ _ a4
    replace b0 := cell_on hb _ _ _ b0
    replace b1 := cell_on hb _ _ _ b1
    replace b2 := cell_on hb _ _ _ b2
    replace b3 := cell_on hb _ _ _ b3
    replace b4 := cell_on hb _ _ _ b4
    have B3 := Lib.hid (below_then B2.out hb)
    clear hb
    cases f2
    · go_wp2_with fail
      go_ret
      exact ⟨rfl, B3.out⟩
    go_wp2_with fail
    go_ret
    exact ⟨rfl, B3.out⟩
  · go_enter Tryd.func5, Tryd.ntmps5
    go_wp2_with fail
    refine (HA.out _ (below2 w _ _)).mono ?_
    rintro _ w1 ⟨rfl, hb1⟩
    obtain ⟨x1, x2⟩ := two_box hb1
    obtain ⟨a0, a1, a2, a3, a4⟩ := box_cells x1
    obtain ⟨b0, b1, b2, b3, b4⟩ := box_cells x2
    have B1 := Lib.hid ((below2 w _ _).trans (hb1.mono (by rw [sz2]; omega)))
    clear hb1 x1 x2
    go_wp2_with fail
    refine (HF1.out _ B1.out).mono ?_
    rintro _ w2 ⟨rfl, hb⟩
    replace a0 := cell_on hb _ _ _ a0
    replace a1 := cell_on hb _ _ _ a1
    replace a2 := cell_on hb _ _ _ a2
    replace a3 := cell_on hb _ _ _ a3
    replace a4 := cell_on hb _ _ _ a4
    replace b0 := cell_on hb _ _ _ b0
    replace b1 := cell_on hb _ _ _ b1
    replace b2 := cell_on hb _ _ _ b2
    replace b3 := cell_on hb _ _ _ b3
    replace b4 := cell_on hb _ _ _ b4
    have B2 := Lib.hid (below_then B1.out hb)
    clear hb
    cases f1
    · go_wp2_with fail
      go_ret
      exact ⟨rfl, B2.out⟩
    go_wp2_with fail
    refine (HF2.out _ B2.out).mono ?_
    rintro _ w3 ⟨rfl, hb⟩
    replace a0 := cell_on hb _ _ _ a0
    replace a1 := cell_on hb _ _ _ a1
    replace a2 := cell_on hb _ _ _ a2
    replace a3 := cell_on hb _ _ _ a3
    replace a4 := cell_on hb _ _ _ a4
    replace b0 := cell_on hb _ _ _ b0
    replace b1 := cell_on hb _ _ _ b1
    replace b2 := cell_on hb _ _ _ b2
    replace b3 := cell_on hb _ _ _ b3
    replace b4 := cell_on hb _ _ _ b4
    have B3 := Lib.hid (below_then B2.out hb)
    clear hb
    cases f2
    · go_wp2_with fail
      go_ret
      exact ⟨rfl, B3.out⟩
    go_wp2_with fail
    have B4 := (B3.out).drew
    replace a0 : w3.drew.cell? ⟨w.heap.size, 0, none⟩ = some (.int .i64 k) := a0
    replace a1 : w3.drew.cell? ⟨w.heap.size, 1, none⟩ = some (.int .i64 n) := a1
    replace a2 : w3.drew.cell? ⟨w.heap.size, 2, none⟩ = some (.int .i64 d) := a2
    replace a3 : w3.drew.cell? ⟨w.heap.size, 3, none⟩ = some (.string s) := a3
    replace a4 : w3.drew.cell? ⟨w.heap.size, 4, none⟩ = some (.slice p l.length cap) := a4
    replace b0 : w3.drew.cell? ⟨w.heap.size + 1, 0, none⟩ = some (.int .i64 k2) := b0
    replace b1 : w3.drew.cell? ⟨w.heap.size + 1, 1, none⟩ = some (.int .i64 n2) := b1
    replace b2 : w3.drew.cell? ⟨w.heap.size + 1, 2, none⟩ = some (.int .i64 d2) := b2
    replace b3 : w3.drew.cell? ⟨w.heap.size + 1, 3, none⟩ = some (.string s2) := b3
    replace b4 : w3.drew.cell? ⟨w.heap.size + 1, 4, none⟩ = some (.slice p2 l2.length cap2) := b4
    go_region_held3 (fun w' => w'.cell? ⟨w.heap.size, 0, none⟩ = some (.int .i64 k) ∧ w'.cell? ⟨w.heap.size, 1, none⟩ = some (.int .i64 n) ∧ w'.cell? ⟨w.heap.size, 2, none⟩ = some (.int .i64 d) ∧ w'.cell? ⟨w.heap.size, 3, none⟩ = some (.string s) ∧ w'.cell? ⟨w.heap.size, 4, none⟩ = some (.slice p l.length cap) ∧ w'.cell? ⟨w.heap.size + 1, 0, none⟩ = some (.int .i64 k2) ∧ w'.cell? ⟨w.heap.size + 1, 1, none⟩ = some (.int .i64 n2) ∧ w'.cell? ⟨w.heap.size + 1, 2, none⟩ = some (.int .i64 d2) ∧ w'.cell? ⟨w.heap.size + 1, 3, none⟩ = some (.string s2) ∧ w'.cell? ⟨w.heap.size + 1, 4, none⟩ = some (.slice p2 l2.length cap2) ∧ Below w.heap.size w w')
      (first | (refine ⟨?_, ?_, ?_, ?_, ?_, ?_, ?_, ?_, ?_, ?_, ?_⟩ <;> with_reducible assumption) | exact ⟨a0, a1, a2, a3, a4, b0, b1, b2, b3, b4, B4⟩ | go_keep)
      (first
       | (go_at_call 23; refine (HS.out _ (by with_reducible assumption)).mono ?_; rintro _ w' ⟨rfl, hb⟩
          have ka0 : w'.cell? ⟨w.heap.size, 0, none⟩ = some (.int .i64 k) := cell_on hb _ _ _ (by with_reducible assumption)
          have ka1 : w'.cell? ⟨w.heap.size, 1, none⟩ = some (.int .i64 n) := cell_on hb _ _ _ (by with_reducible assumption)
          have ka2 : w'.cell? ⟨w.heap.size, 2, none⟩ = some (.int .i64 d) := cell_on hb _ _ _ (by with_reducible assumption)
          have ka3 : w'.cell? ⟨w.heap.size, 3, none⟩ = some (.string s) := cell_on hb _ _ _ (by with_reducible assumption)
          have ka4 : w'.cell? ⟨w.heap.size, 4, none⟩ = some (.slice p l.length cap) := cell_on hb _ _ _ (by with_reducible assumption)
          have kb0 : w'.cell? ⟨w.heap.size + 1, 0, none⟩ = some (.int .i64 k2) := cell_on hb _ _ _ (by with_reducible assumption)
          have kb1 : w'.cell? ⟨w.heap.size + 1, 1, none⟩ = some (.int .i64 n2) := cell_on hb _ _ _ (by with_reducible assumption)
          have kb2 : w'.cell? ⟨w.heap.size + 1, 2, none⟩ = some (.int .i64 d2) := cell_on hb _ _ _ (by with_reducible assumption)
          have kb3 : w'.cell? ⟨w.heap.size + 1, 3, none⟩ = some (.string s2) := cell_on hb _ _ _ (by with_reducible assumption)
          have kb4 : w'.cell? ⟨w.heap.size + 1, 4, none⟩ = some (.slice p2 l2.length cap2) := cell_on hb _ _ _ (by with_reducible assumption)
          have kB : Below w.heap.size w w' := below_then (by with_reducible assumption) hb
          clear hb)
       | (go_at_call 24; refine (HRS.out _ (by with_reducible assumption)).mono ?_; rintro _ w' ⟨rfl, hb⟩
          have ka0 : w'.cell? ⟨w.heap.size, 0, none⟩ = some (.int .i64 k) := cell_on hb _ _ _ (by with_reducible assumption)
          have ka1 : w'.cell? ⟨w.heap.size, 1, none⟩ = some (.int .i64 n) := cell_on hb _ _ _ (by with_reducible assumption)
          have ka2 : w'.cell? ⟨w.heap.size, 2, none⟩ = some (.int .i64 d) := cell_on hb _ _ _ (by with_reducible assumption)
          have ka3 : w'.cell? ⟨w.heap.size, 3, none⟩ = some (.string s) := cell_on hb _ _ _ (by with_reducible assumption)
          have ka4 : w'.cell? ⟨w.heap.size, 4, none⟩ = some (.slice p l.length cap) := cell_on hb _ _ _ (by with_reducible assumption)
          have kb0 : w'.cell? ⟨w.heap.size + 1, 0, none⟩ = some (.int .i64 k2) := cell_on hb _ _ _ (by with_reducible assumption)
          have kb1 : w'.cell? ⟨w.heap.size + 1, 1, none⟩ = some (.int .i64 n2) := cell_on hb _ _ _ (by with_reducible assumption)
          have kb2 : w'.cell? ⟨w.heap.size + 1, 2, none⟩ = some (.int .i64 d2) := cell_on hb _ _ _ (by with_reducible assumption)
          have kb3 : w'.cell? ⟨w.heap.size + 1, 3, none⟩ = some (.string s2) := cell_on hb _ _ _ (by with_reducible assumption)
          have kb4 : w'.cell? ⟨w.heap.size + 1, 4, none⟩ = some (.slice p2 l2.length cap2) := cell_on hb _ _ _ (by with_reducible assumption)
          have kB : Below w.heap.size w w' := below_then (by with_reducible assumption) hb
          clear hb)
       | (go_at_call 25; refine (HL.out _ (by with_reducible assumption)).mono ?_; rintro _ w' ⟨⟨k3, n3, d3, s3, p3, len3, cap3, rfl, hu⟩, hb⟩
          have ka0 : w'.cell? ⟨w.heap.size, 0, none⟩ = some (.int .i64 k) := cell_on hb _ _ _ (by with_reducible assumption)
          have ka1 : w'.cell? ⟨w.heap.size, 1, none⟩ = some (.int .i64 n) := cell_on hb _ _ _ (by with_reducible assumption)
          have ka2 : w'.cell? ⟨w.heap.size, 2, none⟩ = some (.int .i64 d) := cell_on hb _ _ _ (by with_reducible assumption)
          have ka3 : w'.cell? ⟨w.heap.size, 3, none⟩ = some (.string s) := cell_on hb _ _ _ (by with_reducible assumption)
          have ka4 : w'.cell? ⟨w.heap.size, 4, none⟩ = some (.slice p l.length cap) := cell_on hb _ _ _ (by with_reducible assumption)
          have kb0 : w'.cell? ⟨w.heap.size + 1, 0, none⟩ = some (.int .i64 k2) := cell_on hb _ _ _ (by with_reducible assumption)
          have kb1 : w'.cell? ⟨w.heap.size + 1, 1, none⟩ = some (.int .i64 n2) := cell_on hb _ _ _ (by with_reducible assumption)
          have kb2 : w'.cell? ⟨w.heap.size + 1, 2, none⟩ = some (.int .i64 d2) := cell_on hb _ _ _ (by with_reducible assumption)
          have kb3 : w'.cell? ⟨w.heap.size + 1, 3, none⟩ = some (.string s2) := cell_on hb _ _ _ (by with_reducible assumption)
          have kb4 : w'.cell? ⟨w.heap.size + 1, 4, none⟩ = some (.slice p2 l2.length cap2) := cell_on hb _ _ _ (by with_reducible assumption)
          have kB : Below w.heap.size w w' := below_then (by with_reducible assumption) hb
          have HU1 := Lib.hid hu
          clear hb hu)
       | (go_at_call 26; refine (HRL.out _ (by with_reducible assumption)).mono ?_; rintro _ w' ⟨⟨k4, n4, d4, s4, p4, len4, cap4, rfl, hu⟩, hb⟩
          have ka0 : w'.cell? ⟨w.heap.size, 0, none⟩ = some (.int .i64 k) := cell_on hb _ _ _ (by with_reducible assumption)
          have ka1 : w'.cell? ⟨w.heap.size, 1, none⟩ = some (.int .i64 n) := cell_on hb _ _ _ (by with_reducible assumption)
          have ka2 : w'.cell? ⟨w.heap.size, 2, none⟩ = some (.int .i64 d) := cell_on hb _ _ _ (by with_reducible assumption)
          have ka3 : w'.cell? ⟨w.heap.size, 3, none⟩ = some (.string s) := cell_on hb _ _ _ (by with_reducible assumption)
          have ka4 : w'.cell? ⟨w.heap.size, 4, none⟩ = some (.slice p l.length cap) := cell_on hb _ _ _ (by with_reducible assumption)
          have kb0 : w'.cell? ⟨w.heap.size + 1, 0, none⟩ = some (.int .i64 k2) := cell_on hb _ _ _ (by with_reducible assumption)
          have kb1 : w'.cell? ⟨w.heap.size + 1, 1, none⟩ = some (.int .i64 n2) := cell_on hb _ _ _ (by with_reducible assumption)
          have kb2 : w'.cell? ⟨w.heap.size + 1, 2, none⟩ = some (.int .i64 d2) := cell_on hb _ _ _ (by with_reducible assumption)
          have kb3 : w'.cell? ⟨w.heap.size + 1, 3, none⟩ = some (.string s2) := cell_on hb _ _ _ (by with_reducible assumption)
          have kb4 : w'.cell? ⟨w.heap.size + 1, 4, none⟩ = some (.slice p2 l2.length cap2) := cell_on hb _ _ _ (by with_reducible assumption)
          have kB : Below w.heap.size w w' := below_then (by with_reducible assumption) hb
          have HU2 := Lib.hid hu
          have HU3 := Lib.hid ((HU1.out).below hb)
          clear hb hu)
       | (go_at_call 20; refine (lists_alike _ _ _ _ HU3.out HU2.out).mono ?_; rintro _ w' ⟨rfl, hb⟩
          have ka0 : w'.cell? ⟨w.heap.size, 0, none⟩ = some (.int .i64 k) := cell_on hb _ _ _ (by with_reducible assumption)
          have ka1 : w'.cell? ⟨w.heap.size, 1, none⟩ = some (.int .i64 n) := cell_on hb _ _ _ (by with_reducible assumption)
          have ka2 : w'.cell? ⟨w.heap.size, 2, none⟩ = some (.int .i64 d) := cell_on hb _ _ _ (by with_reducible assumption)
          have ka3 : w'.cell? ⟨w.heap.size, 3, none⟩ = some (.string s) := cell_on hb _ _ _ (by with_reducible assumption)
          have ka4 : w'.cell? ⟨w.heap.size, 4, none⟩ = some (.slice p l.length cap) := cell_on hb _ _ _ (by with_reducible assumption)
          have kb0 : w'.cell? ⟨w.heap.size + 1, 0, none⟩ = some (.int .i64 k2) := cell_on hb _ _ _ (by with_reducible assumption)
          have kb1 : w'.cell? ⟨w.heap.size + 1, 1, none⟩ = some (.int .i64 n2) := cell_on hb _ _ _ (by with_reducible assumption)
          have kb2 : w'.cell? ⟨w.heap.size + 1, 2, none⟩ = some (.int .i64 d2) := cell_on hb _ _ _ (by with_reducible assumption)
          have kb3 : w'.cell? ⟨w.heap.size + 1, 3, none⟩ = some (.string s2) := cell_on hb _ _ _ (by with_reducible assumption)
          have kb4 : w'.cell? ⟨w.heap.size + 1, 4, none⟩ = some (.slice p2 l2.length cap2) := cell_on hb _ _ _ (by with_reducible assumption)
          have kB : Below w.heap.size w w' := below_then (by with_reducible assumption) hb
          clear hb))
    all_goals (go_wp2_with fail)
    all_goals go_ret
    all_goals exact ⟨rfl, by with_reducible assumption⟩
end Go.Proofs.YtogjhoipofkogaaDoor.Dat

/- The law DatumSizes. -/
namespace Go.Proofs.YtogjhoipofkogaaDoor.Dat
open Go.RowKit
set_option linter.unusedVariables false

mutual
theorem Dt.count_eq : ∀ (t : Dt) (deep : Nat), deep + t.size ≤ 1000 → t.count deep = t.size
  | .node k n d s l, deep, h => by
    unfold Dt.size at h
    unfold Dt.count Dt.size
    rw [Dt.countAll_eq l deep (by omega)]
theorem Dt.countAll_eq : ∀ (l : List Dt) (deep : Nat), deep + Dt.sizes l + 1 ≤ 1000 → Dt.countAll l deep = Dt.sizes l
  | [], deep, _ => by unfold Dt.countAll Dt.sizes; rfl
  | t :: r, deep, h => by
    unfold Dt.sizes at h
    unfold Dt.countAll Dt.sizes
    rw [if_pos (by omega), Dt.count_eq t (deep + 1) (by omega), Dt.countAll_eq r deep (by omega)]
end
theorem Dt.count_list : ∀ (l : List Dt) (deep : Nat), (∀ t, t ∈ l → t.size ≤ 100) → deep + l.length + 102 ≤ 1000 → (Dt.list l).count deep = Dt.sizes l + l.length + 1
  | [], deep, _, _ => by simp [Dt.list, Dt.count, Dt.countAll, Dt.sizes]
  | t :: r, deep, h, hd => by
    rw [List.length_cons] at hd
    have h1 := h t (List.mem_cons_self ..)
    have h2 := Dt.count_list r (deep + 1) (fun x hx => h x (List.mem_cons_of_mem _ hx)) (by omega)
    have h3 := Dt.count_eq t (deep + 1) (by omega)
    simp only [Dt.list, Dt.count, Dt.countAll, Dt.sizes, List.length_cons]
    rw [if_pos (by omega), if_pos (by omega), h2, h3]; omega
theorem Dt.size_list : ∀ l : List Dt, (Dt.list l).size = Dt.sizes l + l.length + 1
  | [] => by simp [Dt.list, Dt.size, Dt.sizes]
  | t :: r => by
    have := Dt.size_list r
    simp only [Dt.list, Dt.size, Dt.sizes, List.length_cons]
    omega
theorem Dt.count_vec : ∀ l : List Dt, (∀ t, t ∈ l → t.size ≤ 100) → Dt.countAll l 0 = Dt.sizes l
  | [], _ => by unfold Dt.countAll Dt.sizes; rfl
  | t :: r, h => by
    have h1 := h t (List.mem_cons_self ..)
    have h2 := Dt.count_vec r (fun x hx => h x (List.mem_cons_of_mem _ hx))
    unfold Dt.countAll Dt.sizes
    rw [if_pos (by omega), Dt.count_eq t 1 (by omega), h2]
theorem Dt.sizes_few : ∀ (l : List Dt), (∀ t, t ∈ l → t.size ≤ 100) → Dt.sizes l ≤ l.length * 100
  | [], _ => by simp [Dt.sizes]
  | t :: r, h => by
    have h1 := h t (List.mem_cons_self ..)
    have h2 := Dt.sizes_few r (fun x hx => h x (List.mem_cons_of_mem _ hx))
    unfold Dt.sizes; rw [List.length_cons]; omega
theorem Dt.sizes_step {l : List Dt} {i : Nat} {t : Dt} (h : l[i]? = some t) : Dt.sizes (l.drop i) = t.size + Dt.sizes (l.drop (i + 1)) := by
  rw [Dt.drop_at h]; conv => lhs; unfold Dt.sizes
/-- The data up to here are few. -/
def FewTo (l : List Dt) (i : Nat) : Prop := ∀ (j : Nat) (t : Dt), j < i → l[j]? = some t → t.size ≤ 100
theorem FewTo.step {l : List Dt} {i : Nat} {t : Dt} (h : FewTo l i) (ht : l[i]? = some t) (hs : t.size ≤ 100) : FewTo l (i + 1) := by
  intro j x hj hx
  by_cases e : j = i
  · subst e; rw [ht] at hx; cases hx; exact hs
  · exact h j x (by omega) hx
theorem FewTo.all {l : List Dt} {i : Nat} (h : FewTo l i) (hi : l.length ≤ i) : ∀ t, t ∈ l → t.size ≤ 100 := by
  intro t ht
  obtain ⟨j, hj, rfl⟩ := List.mem_iff_getElem.1 ht
  exact h j _ (by omega) (List.getElem?_eq_getElem hj)
theorem fewRef_any (t : Dt) (v : Value) (m : Int) (w : World) (h0 : 0 ≤ m) (h1 : m ≤ 100000) (hat : t.At w v) : Answers 27 #[v, .int .i64 m] w (.bool (decide ((t.size : Int) ≤ m))) := by
  have hd : decide (0 ≤ t.few m) = decide ((t.size : Int) ≤ m) := by
    rw [Bool.eq_iff_iff, decide_eq_true_iff, decide_eq_true_iff]; exact t.few_iff m h0
  have := Few_any t v m w h0 h1 hat
  rwa [hd] at this
theorem vec_at {w : World} {l : List Dt} {p : Option Addr} {cap : Nat} (hlm : l.length ≤ maxLen) (h : RowAt w l p) : (Dt.node 7 0 0 emp l).At w (.agg #[.int .i64 7, .int .i64 0, .int .i64 0, .string ⟨#[]⟩, .slice p l.length cap]) := by
  unfold Dt.At
  exact ⟨by unfold I64; omega, by unfold I64; omega, by unfold I64; omega, by unfold maxLen; decide, hlm, p, cap, rfl, h⟩

set_option maxHeartbeats 8000000 in
set_option maxRecDepth 100000 in
theorem datumSizes_any (l : List Dt) (p : Option Addr) (cap : Nat) (w : World) (htab : Tab w) (hlm : l.length ≤ maxLen) (hl : RowAt w l p) :
    Answers 8 #[.slice p l.length cap] w (.bool true) := by
  have HA := Lib.hid (awake_any w htab); clear htab
  have HL := Lib.hid hl; clear hl
  have HLM := Lib.hid hlm
  unfold maxLen at hlm
  unfold Answers
  go_enter Tryd.func8, Tryd.ntmps8
  go_wp2_with fail
  refine (HA.out).mono ?_
  rintro _ w1 ⟨rfl, hb1⟩
  have B1 := Lib.hid hb1; clear hb1
  by_cases h50 : (50 : Int) < (l.length : Int)
  · go_wp2_with fail
    go_ret
    exact ⟨rfl, B1.out⟩
  go_wp2_with fail
  go_loopw [4, 5] (fun u x wr => ∃ (c : Nat) (i : Nat), i ≤ l.length ∧ u = .int .i64 c ∧ x = .int .i64 i ∧ c + Dt.sizes (l.drop i) = Dt.sizes l ∧ c ≤ i * 100 ∧ FewTo l i ∧ Below w.heap.size w wr) (fun _ x _ => l.length - (intOf x).toNat)
  case atStart => exact ⟨0, 0, by omega, rfl, rfl, by rw [List.drop_zero]; omega, by omega, (fun j t hj => by omega), B1.out⟩
  case round =>
    obtain ⟨c, i, hi, rfl, rfl, hf, hc, hfew, hb⟩ := hrel
    have HF := Lib.hid hf; clear hf
    have HB := Lib.hid hb; clear hb
    have HFEW := Lib.hid hfew; clear hfew
    by_cases hlt : i < l.length
    · obtain ⟨t, ht⟩ : ∃ t, l[i]? = some t := ⟨l[i], by simp [hlt]⟩
      rcases HL.out with he | ⟨b, o, rfl, hall⟩
      · rw [he] at hlt; simp at hlt
      obtain ⟨v0, v1, v2, v3, v4, d0, d1, d2, d3, d4, hta⟩ := (hall.on (cell_on HB.out)).kid ht
      obtain ⟨kt, nt, dt, st, lt, pt, capt, rfl, rfl, rfl, rfl, rfl, rfl, -, -⟩ := hta.open5
      have C1 := fun w' (h : Below wr.heap.size wr w') => fewLaw_any _ _ 100 w' (by omega) (by omega) (hta.below h)
      have C2 := fun w' (h : Below wr.heap.size wr w') => fewRef_any _ _ 90 w' (by omega) (by omega) (hta.below h)
      have CS := fun (hs : (Dt.node kt nt dt st lt).size ≤ 90000) w' (h : Below wr.heap.size wr w') => ownSize_any _ _ w' hs (hta.below h)
      have hce := (Dt.node kt nt dt st lt).count_eq 0
      have hlen : lt.length ≤ maxLen := by
        unfold Dt.At at hta; exact hta.2.2.2.2.1
      unfold maxLen at hlen
      obtain ⟨sz, hsz⟩ : ∃ r, (Dt.node kt nt dt st lt).size = r := ⟨_, rfl⟩
      rw [hsz] at C1 C2 CS hce
      have HC1 := Lib.hid C1
      have HC2 := Lib.hid C2
      have HT := Lib.hid ht
      have HSZ := Lib.hid hsz
      clear C1 C2 hta hall ht hsz
      by_cases c1 : sz ≤ 100
      · have hd1 : decide ((sz : Int) ≤ 100) = true := decide_eq_true (by omega)
        rw [hce (by omega)] at CS
        have HCS := Lib.hid (CS (by omega)); clear CS hce
        have HC1 := Lib.hid (by have h := HC1.out; rw [hd1] at h; exact h : ∀ w', Below wr.heap.size wr w' → Answers 11 #[.agg #[.int .i64 kt, .int .i64 nt, .int .i64 dt, .string st, .slice pt lt.length capt], .int .i64 100] w' (.bool true))
        clear hd1
        go_wp2_with fail
        refine (HC1.out _ (Below.refl _ _)).mono ?_
        rintro _ w2 ⟨rfl, hb2⟩
        replace d0 := cell_on hb2 _ _ _ d0
        replace d1 := cell_on hb2 _ _ _ d1
        replace d2 := cell_on hb2 _ _ _ d2
        replace d3 := cell_on hb2 _ _ _ d3
        replace d4 := cell_on hb2 _ _ _ d4
        have B2 := Lib.hid hb2; clear hb2
        by_cases hz : (0 : Int) < (lt.length : Int)
        · by_cases c3 : sz ≤ 90
          · have HC2 := Lib.hid (by have h := HC2.out; rw [decide_eq_true (show (sz : Int) ≤ 90 by omega)] at h; exact h : ∀ w', Below wr.heap.size wr w' → Answers 27 #[.agg #[.int .i64 kt, .int .i64 nt, .int .i64 dt, .string st, .slice pt lt.length capt], .int .i64 90] w' (.bool true))
            go_wp2_with fail
            refine (HC2.out _ B2.out).mono ?_
            rintro _ w3 ⟨rfl, hb3⟩
            replace d0 := cell_on hb3 _ _ _ d0
            replace d1 := cell_on hb3 _ _ _ d1
            replace d2 := cell_on hb3 _ _ _ d2
            replace d3 := cell_on hb3 _ _ _ d3
            replace d4 := cell_on hb3 _ _ _ d4
            have B3 := Lib.hid ((B2.out).trans (hb3.mono (B2.out).size)); clear hb3
            go_wp2_with fail
            refine (HCS.out _ B3.out).mono ?_
            rintro _ w5 ⟨rfl, hb5⟩
            have B5 := Lib.hid ((B3.out).trans (hb5.mono (B3.out).size)); clear hb5
            go_wp2_with fail
            go_roundw
            case rel => exact ⟨c + sz, i + 1, by omega, by go_num, by go_num, by have h := HF.out; rw [Dt.sizes_step HT.out, HSZ.out] at h; omega, by omega, (HFEW.out).step HT.out (by rw [HSZ.out]; omega), (HB.out).trans ((B5.out).mono (HB.out).size)⟩
            case measure => simp [intOf]; omega
          · have HC2 := Lib.hid (by have h := HC2.out; rw [decide_eq_false (show ¬ (sz : Int) ≤ 90 by omega)] at h; exact h : ∀ w', Below wr.heap.size wr w' → Answers 27 #[.agg #[.int .i64 kt, .int .i64 nt, .int .i64 dt, .string st, .slice pt lt.length capt], .int .i64 90] w' (.bool false))
            go_wp2_with fail
            refine (HC2.out _ B2.out).mono ?_
            rintro _ w3 ⟨rfl, hb3⟩
            have B3 := Lib.hid ((B2.out).trans (hb3.mono (B2.out).size)); clear hb3
            go_wp2_with fail
            go_ret
            exact ⟨rfl, (HB.out).trans ((B3.out).mono (HB.out).size)⟩
        · have hz0 : (lt.length : Int) ≤ 0 := by omega
          clear hz
          go_wp2_with fail
          refine (HCS.out _ B2.out).mono ?_
          rintro _ w5 ⟨rfl, hb5⟩
          have B5 := Lib.hid ((B2.out).trans (hb5.mono (B2.out).size)); clear hb5
          go_wp2_with fail
          go_roundw
          case rel => exact ⟨c + sz, i + 1, by omega, by go_num, by go_num, by have h := HF.out; rw [Dt.sizes_step HT.out, HSZ.out] at h; omega, by omega, (HFEW.out).step HT.out (by rw [HSZ.out]; omega), (HB.out).trans ((B5.out).mono (HB.out).size)⟩
          case measure => simp [intOf]; omega
      · have HC1 := Lib.hid (by have h := HC1.out; rw [decide_eq_false (show ¬ (sz : Int) ≤ 100 by omega)] at h; exact h : ∀ w', Below wr.heap.size wr w' → Answers 11 #[.agg #[.int .i64 kt, .int .i64 nt, .int .i64 dt, .string st, .slice pt lt.length capt], .int .i64 100] w' (.bool false))
        clear CS hce
        go_wp2_with fail
        refine (HC1.out _ (Below.refl _ _)).mono ?_
        rintro _ w2 ⟨rfl, hb2⟩
        have B2 := Lib.hid hb2; clear hb2
        go_wp2_with fail
        go_ret
        exact ⟨rfl, (HB.out).trans ((B2.out).mono (HB.out).size)⟩
    · have hall := (HFEW.out).all (by omega : l.length ≤ i)
      have hsum := HF.out
      rw [List.drop_of_length_le (by omega : l.length ≤ i)] at hsum
      have hs0 : Dt.sizes [] = 0 := by unfold Dt.sizes; rfl
      have hsz := Dt.sizes_few l hall
      have hcl := Dt.count_list l 0 hall (by omega)
      have hsl := Dt.size_list l
      have hcv := Dt.count_vec l hall
      have hrow : ∀ w', Below wr.heap.size wr w' → RowAt w' l p := fun w' h => ((HL.out).below HB.out).below h
      have CL := pList l p cap wr HLM.out (Dt.slimAll_size l (by omega)) (hrow _ (Below.refl _ _))
      have CS1 := fun (v : Value) w' (h : (Dt.list l).At w' v) => ownSize_any (Dt.list l) v w' (by omega) h
      have CS2 := fun w' (h : Below wr.heap.size wr w') => ownSize_any (Dt.node 7 0 0 emp l) _ w' (by unfold Dt.size; omega) (vec_at (cap := cap) HLM.out (hrow w' h))
      have e7 : (Dt.node 7 0 0 emp l).count 0 = c + 1 := by unfold Dt.count; omega
      have e6 : (Dt.list l).count 0 = c + l.length + 1 := by omega
      rw [e7] at CS2
      rw [e6] at CS1
      have HCL := Lib.hid CL
      have HCS1 := Lib.hid CS1
      have HCS2 := Lib.hid CS2
      have hlen : l.length ≤ 50 := by omega
      have hc50 : c ≤ 5000 := by omega
      clear CL CS1 CS2 e7 e6 hrow hcv hsl hcl hsz hs0 hsum hall
      go_wp2_with fail
      refine (HCL.out).mono ?_
      rintro _ w2 ⟨⟨k2, n2, d2, s2, p2, len2, cap2, rfl, hu⟩, hb2⟩
      have B2 := Lib.hid hb2; clear hb2
      have C := Lib.hid (HCS1.out _ _ hu); clear hu
      go_wp2_with fail
      refine (C.out).mono ?_
      rintro _ w3 ⟨rfl, hb3⟩
      have B3 := Lib.hid ((B2.out).trans (hb3.mono (B2.out).size)); clear hb3
      go_wp2_with fail
      refine (HCS2.out _ B3.out).mono ?_
      rintro _ w4 ⟨rfl, hb4⟩
      have B4 := Lib.hid ((B3.out).trans (hb4.mono (B3.out).size)); clear hb4
      go_wp2_with fail
      go_ret
      exact ⟨rfl, (HB.out).trans ((B4.out).mono (HB.out).size)⟩
end Go.Proofs.YtogjhoipofkogaaDoor.Dat

/- The law DatumParts: what is plain. -/
namespace Go.Proofs.YtogjhoipofkogaaDoor.Dat
open Go.RowKit
open Go.Proofs.YtogjhoipofkogaaDoor (textL)
open NumPlain (rightB)
set_option linter.unusedVariables false

theorem and_low (k : Int) : 0 ≤ bits BinOp.and IntKind.i64 k 1023 ∧ bits BinOp.and IntKind.i64 k 1023 ≤ 1023 := by
  have h : (BitVec.ofInt 64 k &&& BitVec.ofInt 64 1023).toNat ≤ 1023 := by
    rw [BitVec.toNat_and]; exact Nat.le_trans Nat.and_le_right (by decide)
  have e : bits BinOp.and IntKind.i64 k 1023 = IntKind.wrap .i64 ((BitVec.ofInt 64 k &&& BitVec.ofInt 64 1023).toNat : Int) := rfl
  rw [e]
  generalize (BitVec.ofInt 64 k &&& BitVec.ofInt 64 1023).toNat = m at h
  have all : ∀ x : Fin 1024, IntKind.wrap .i64 (x.val : Int) = (x.val : Int) := by decide +kernel
  have e2 : IntKind.wrap .i64 (m : Int) = (m : Int) := all ⟨m, by omega⟩
  rw [e2]; omega
mutual
theorem Dt.right_down {R : Int → Int → Bool} {Nm : ByteArray → Bool} : ∀ (t : Dt) (deep : Nat), t.right R Nm (deep + 1) = true → t.right R Nm deep = true
  | .node k n d s l, deep, h => by
    unfold Dt.right at h ⊢
    simp only [Bool.and_eq_true, decide_eq_true_eq] at h ⊢
    exact ⟨⟨by omega, h.1.2⟩, Dt.rightAll_down l (deep + 1) h.2⟩
theorem Dt.rightAll_down {R : Int → Int → Bool} {Nm : ByteArray → Bool} : ∀ (l : List Dt) (deep : Nat), Dt.rightAll R Nm l (deep + 1) = true → Dt.rightAll R Nm l deep = true
  | [], _, _ => rfl
  | t :: r, deep, h => by
    unfold Dt.rightAll at h ⊢
    simp only [Bool.and_eq_true] at h ⊢
    exact ⟨Dt.right_down t deep h.1, Dt.rightAll_down r deep h.2⟩
end
theorem Dt.rightAll_mem {R : Int → Int → Bool} {Nm : ByteArray → Bool} : ∀ {l : List Dt} {deep : Nat}, Dt.rightAll R Nm l deep = true → ∀ t, t ∈ l → t.right R Nm deep = true
  | [], _, _, t, ht => by cases ht
  | x :: r, deep, h, t, ht => by
    unfold Dt.rightAll at h
    simp only [Bool.and_eq_true] at h
    rcases List.mem_cons.1 ht with rfl | ht
    · exact h.1
    · exact Dt.rightAll_mem h.2 t ht
theorem part_right {k n d : Int} {s : ByteArray} {l : List Dt} (h : (Dt.node k n d s l).right rightB nameB 0 = true) {i : Nat} {t : Dt} (ht : l[i]? = some t) : t.right rightB nameB 0 = true := by
  unfold Dt.right at h
  simp only [Bool.and_eq_true] at h
  exact Dt.right_down t 0 (Dt.rightAll_mem h.2 t (List.mem_of_getElem? ht))
abbrev badD : Dt := .node 9 0 0 emp []
theorem bad_right : badD.right rightB nameB 1 = false := by decide +kernel
theorem set_wrong {k n d : Int} {s : ByteArray} {l : List Dt} {j : Nat} (hj : j < l.length) : (Dt.node k n d s (l.set j badD)).right rightB nameB 0 = false := by
  rw [Bool.eq_false_iff]
  intro h
  unfold Dt.right at h
  simp only [Bool.and_eq_true] at h
  have := Dt.rightAll_mem h.2 badD (List.mem_of_getElem? (i := j) (by simp [hj]))
  rw [bad_right] at this; cases this
/-- Five cells of the row are written anew: another datum lies there. -/
theorem RowIs.put {W : World} {cur : Array Value} {l : List Dt} (h : RowIs W cur l) {i : Nat} {t : Dt} (hi : i < l.length) (hs : l.length * 5 ≤ cur.size) {b0 b1 b2 b3 b4 : Value} (ha : t.At W (.agg #[b0, b1, b2, b3, b4])) :
    RowIs W (((((cur.setIfInBounds (i * 5) b0).setIfInBounds (i * 5 + 1) b1).setIfInBounds (i * 5 + 2) b2).setIfInBounds (i * 5 + 3) b3).setIfInBounds (i * 5 + 4) b4) (l.set i t) := by
  intro j x hx
  by_cases e : j = i
  · subst e
    obtain rfl : t = x := by simpa [hi] using hx
    refine ⟨b0, b1, b2, b3, b4, ?_, ?_, ?_, ?_, ?_, ha⟩
    all_goals
      simp only [Array.getElem?_setIfInBounds, Array.size_setIfInBounds]
      simp
      omega
  · rw [List.getElem?_set_ne (by omega)] at hx
    obtain ⟨v0, v1, v2, v3, v4, c0, c1, c2, c3, c4, hta⟩ := h j x hx
    refine ⟨v0, v1, v2, v3, v4, ?_, ?_, ?_, ?_, ?_, hta⟩
    all_goals
      simp only [Array.getElem?_setIfInBounds]
      rw [if_neg (by omega), if_neg (by omega), if_neg (by omega), if_neg (by omega), if_neg (by omega)]
      assumption
end Go.Proofs.YtogjhoipofkogaaDoor.Dat

/- The law DatumParts. -/
namespace Go.Proofs.YtogjhoipofkogaaDoor.Dat
open Go.RowKit
open Go.Proofs.YtogjhoipofkogaaDoor (textL)
open NumPlain (rightB)
set_option linter.unusedVariables false

theorem low_index (k : Int) (n : Nat) (hn : 0 < n) : ∃ J : Nat, (bits BinOp.and IntKind.i64 k 1023).tmod (n : Int) = (J : Int) ∧ J < n := by
  obtain ⟨h0, h1⟩ := and_low k
  obtain ⟨m, hm⟩ := Int.eq_ofNat_of_zero_le h0
  rw [hm]
  exact ⟨m % n, by first | rfl | exact (Int.ofNat_tmod m n).symm | simp, Nat.mod_lt _ hn⟩
set_option maxHeartbeats 8000000 in
set_option maxRecDepth 100000 in
theorem datumParts_any (t : Dt) (v : Value) (kk : Int) (w : World) (htab : Tab w) (hat : t.At w v) (hkk : I64 kk) : Answers 9 #[v, .int .i64 kk] w (.bool true) := by
  obtain ⟨i0, hi, hz⟩ := Option.map_eq_some_iff.1 Tryd.infoDt
  simp only [Prod.mk.injEq] at hz
  obtain ⟨hz0, hz1, hz2⟩ := hz
  have HI := Lib.hid (And.intro hi (And.intro hz0 (And.intro hz1 hz2))); clear hi hz0 hz1 hz2
  have hA := fun w' (h : Below w.heap.size w w') => awake_any w' (tab_on htab h)
  have F := fun w' (hb : Below w.heap.size w w') => fewLaw_any t v 500 w' (by omega) (by omega) (hat.below hb)
  have DR := fun w' (hb : Below w.heap.size w w') => pRight t v w' (hat.below hb)
  obtain ⟨rt, hrt⟩ : ∃ r, t.right rightB nameB 0 = r := ⟨_, rfl⟩
  obtain ⟨fe, hfe⟩ : ∃ r, decide ((t.size : Int) ≤ 500) = r := ⟨_, rfl⟩
  rw [hrt] at DR
  rw [hfe] at F
  have HA := Lib.hid hA
  have HF := Lib.hid F
  have HDR := Lib.hid DR
  have HRT := Lib.hid hrt
  have HFE := Lib.hid hfe
  have HTAB := Lib.hid htab
  clear hA F DR hrt hfe htab
  obtain ⟨k, n, d, s, l⟩ := t
  unfold Dt.At at hat
  obtain ⟨hk, hn, hd, hs, hlm, p, cap, rfl, hl⟩ := hat
  have HK := Lib.hid (And.intro hk (And.intro hn (And.intro hd hs)))
  have HL := Lib.hid hl
  clear hk hn hd hs hl
  unfold maxLen at hlm
  unfold Answers
  go_enter Tryd.func9, Tryd.ntmps9
  go_wp2_with fail
  refine (HA.out _ ((Below.refl _ _).alloc (Nat.le_refl _) _)).mono ?_
  rintro _ w1 ⟨rfl, hb1⟩
  have hbx := one_box hb1
  obtain ⟨c0, c1, c2, c3, c4⟩ := box_cells hbx
  have B1 := Lib.hid (below_after hb1)
  clear hb1
  go_wp2_with fail
  refine (HF.out _ B1.out).mono ?_
  rintro _ w2 ⟨rfl, hb⟩
  replace c0 := cell_on hb _ _ _ c0
  replace c1 := cell_on hb _ _ _ c1
  replace c2 := cell_on hb _ _ _ c2
  replace c3 := cell_on hb _ _ _ c3
  replace c4 := cell_on hb _ _ _ c4
  replace hbx := block_on hb hbx
  have B2 := Lib.hid (below_then B1.out hb)
  clear hb
  cases fe
  · go_wp2_with fail
    go_ret
    exact ⟨rfl, B2.out⟩
  go_wp2_with fail
  refine (HDR.out _ B2.out).mono ?_
  rintro _ w3 ⟨rfl, hb⟩
  have HBX3 := Lib.hid (block_on hb hbx)
  have hsz3 := lt_of_block (block_on hb hbx)
  have B3 := Lib.hid (below_then B2.out hb)
  clear hb c0 c1 c2 c3 c4 hbx
  have HLEN := Lib.hid (show l.length ≤ 500 from by
    have h := of_decide_eq_true HFE.out
    have h2 := Dt.sizes_len l
    unfold Dt.size at h; omega)
  go_wp2_with fail
  go_loopw [7] (fun x wr => ∃ (i : Nat), i ≤ l.length ∧ x = .int .i64 i ∧ (rt = false → i = 0) ∧ w.heap.size < wr.heap.size ∧ wr.heap[w.heap.size]? = some (.cells #[.int .i64 k, .int .i64 n, .int .i64 d, .string s, .slice p l.length cap] 24 (0, 0)) ∧ Below w.heap.size w wr) (fun x _ => l.length - (intOf x).toNat)
  case atStart => exact ⟨0, by omega, rfl, fun _ => rfl, hsz3, HBX3.out, B3.out⟩
  case round =>
    obtain ⟨i, hi, rfl, hor, hwr, hbx, hb⟩ := hrel
    have HWR := Lib.hid hwr
    have HOR := Lib.hid hor
    have HB := Lib.hid hb
    have HBX := Lib.hid hbx
    obtain ⟨c0, c1, c2, c3, c4⟩ := box_cells hbx
    clear hor hb hbx
    by_cases hlt : i < l.length
    · have hne : ∃ b o, p = some ⟨b, o, none⟩ ∧ Dt.AllAt w l b o := by
        rcases HL.out with he | h
        · rw [he] at hlt; simp at hlt
        · exact h
      cases rt
      · obtain ⟨b, o, rfl, hall⟩ := hne
        obtain ⟨xs, hx, hrow, hxc, hx1⟩ := hall.row
        have HXC := Lib.hid hxc
        have HX := Lib.hid hx
        have HX1 := Lib.hid hx1
        have HROW := Lib.hid hrow
        clear hall hrow hxc hx hx1
        go_wp2_with (at_builtin; refine wpList_append_own _ rfl _ _ 22 rfl wr.heap.size 24 i0 (.agg #[.int .i64 0, .int .i64 0, .int .i64 0, .string ⟨#[]⟩, .slice none 0 0]) 5 64 Tryd.underlying22 HI.out.1 HI.out.2.1 HI.out.2.2.1 HI.out.2.2.2 rfl (by decide) _ _ _ rfl (World.ownsRow_made wr #[] 0 (Nat.le_refl _) (Nat.zero_le _) (by simp)) ⟨b, o, none⟩ l.length cap xs rfl ?qc1 ?qc2 ?qc3 ?qc4 ?qc5 ?qc6 ?_)
        case qc1 => exact HX.out
        case qc2 =>
          intro j u hj
          try rw [Addr.add_lit]
          exact cell_on (box_below _ _) _ _ _ (cell_on HB.out _ _ _ (HXC.out j u hj))
        case qc3 => exact HX1.out
        case qc4 => have := HLEN.out; unfold maxLen; omega
        case qc5 => have := HLEN.out; omega
        intro v' w5 hown hgrow hnil
        have hb5 : Below wr.heap.size wr w5 := (box_below wr _).grown hgrow (by simp) (by intro k hk; simp [Value.ownBlock] at hk; omega)
        have hown2 : w5.ownsRow wr.heap.size 24 5 v' l.length xs := by simpa using hown
        clear hown hgrow
        obtain ⟨hlen5, hv⟩ := hown2
        rcases hv with ⟨rfl, h0⟩ | ⟨g, cp, cur, rfl, hBg, hg, hn5, hm5, hs5, ht5⟩
        · exact absurd rfl hnil
        have HG := Lib.hid hg
        have HBX5 := Lib.hid (block_on hb5 HBX.out)
        have HB5 := Lib.hid hb5
        have hgne : w.heap.size ≠ g := by have := HWR.out; omega
        obtain ⟨J, hJ, hJl⟩ := low_index kk l.length (by omega)
        have HT5 := Lib.hid ht5
        have hri : RowIs w cur l := fun j t ht => by
          have := Dt.Row.is (g := g) (o := 0) HROW.out (fun j u hj => by
            rw [← ht5, List.getElem?_take] at hj
            split at hj
            · simpa using hj
            · cases hj) j t ht
          simpa using this
        obtain ⟨tJ, htJ⟩ : ∃ t, l[J]? = some t := ⟨l[J], by simp [hJl]⟩
        obtain ⟨z0, z1, z2, z3, z4, e0, e1, e2, e3, e4, -⟩ := hri J tJ htJ
        have y0 : w5.cell? ⟨g, J * 5, none⟩ = some z0 := (cell_of_block HG.out).trans e0
        have y1 : w5.cell? ⟨g, J * 5 + 1, none⟩ = some z1 := (cell_of_block HG.out).trans e1
        have y2 : w5.cell? ⟨g, J * 5 + 2, none⟩ = some z2 := (cell_of_block HG.out).trans e2
        have y3 : w5.cell? ⟨g, J * 5 + 3, none⟩ = some z3 := (cell_of_block HG.out).trans e3
        have y4 : w5.cell? ⟨g, J * 5 + 4, none⟩ = some z4 := (cell_of_block HG.out).trans e4
        have f0 := box_frozen HG.out (J * 5)
        have f1 := box_frozen HG.out (J * 5 + 1)
        have f2 := box_frozen HG.out (J * 5 + 2)
        have f3 := box_frozen HG.out (J * 5 + 3)
        have f4 := box_frozen HG.out (J * 5 + 4)
        have HRI := Lib.hid hri
        have HH := Lib.hid (And.intro hn5 (And.intro hm5 hs5))
        clear hb5 hg ht5 hnil hlen5 hri e0 e1 e2 e3 e4 htJ
        go_upto_region 14 with fail
        obtain ⟨W6, hW6⟩ : ∃ W, (((((w5.setCell ⟨g, J * 5, none⟩ (.int .i64 9)).setCell ⟨g, J * 5 + 1, none⟩ (.int .i64 0)).setCell ⟨g, J * 5 + 2, none⟩ (.int .i64 0)).setCell ⟨g, J * 5 + 3, none⟩ (.string ⟨#[]⟩)).setCell ⟨g, J * 5 + 4, none⟩ (.slice none 0 0)) = W := ⟨_, rfl⟩
        have hg6 := set_five_at (i := J * 5) (b0 := .int .i64 9) (b1 := .int .i64 0) (b2 := .int .i64 0) (b3 := .string ⟨#[]⟩) (b4 := .slice none 0 0) HG.out
        have hbx6 := (set_five_at_other (i := J * 5) (b0 := .int .i64 9) (b1 := .int .i64 0) (b2 := .int .i64 0) (b3 := .string ⟨#[]⟩) (b4 := .slice none 0 0) hgne).trans HBX5.out
        rw [hW6] at hbx6 hg6 ⊢
        have HG6 := Lib.hid hg6
        have hb6 : Below wr.heap.size wr W6 := hW6 ▸ (((((HB5.out).setCell (by exact hBg) _).setCell (by exact hBg) _).setCell (by exact hBg) _).setCell (by exact hBg) _).setCell (by exact hBg) _
        have HBX6 := Lib.hid hbx6
        have HB6 := Lib.hid ((HB.out).trans (hb6.mono (by have := HWR.out; omega)))
        obtain ⟨a0, a1, a2, a3, a4⟩ := box_cells hbx6
        have q4 := box_frozen hbx6 4
        clear y0 y1 y2 y3 y4 f0 f1 f2 f3 f4 hbx6 hb6 hW6 hg6
        go_upto_region 15 with fail
        obtain ⟨W7, hW7⟩ : ∃ W, W6.setCell ⟨w.heap.size, 4, none⟩ (.slice (some ⟨g, 0, none⟩) l.length cp) = W := ⟨_, rfl⟩
        have hbx7 : (W6.setCell ⟨w.heap.size, 4, none⟩ (.slice (some ⟨g, 0, none⟩) l.length cp)).heap[w.heap.size]? = some (.cells #[.int .i64 k, .int .i64 n, .int .i64 d, .string s, .slice (some ⟨g, 0, none⟩) l.length cp] 24 (0, 0)) := (heap_setCell_same W6 w.heap.size 4 _ 24 _ HBX6.out).trans (by simp)
        have hg7 := (heap_setCell_other W6 ⟨w.heap.size, 4, none⟩ g (.slice (some ⟨g, 0, none⟩) l.length cp) (by show g ≠ w.heap.size; exact fun e => hgne e.symm)).trans HG6.out
        have hb7 : Below w.heap.size w (W6.setCell ⟨w.heap.size, 4, none⟩ (.slice (some ⟨g, 0, none⟩) l.length cp)) := (HB6.out).setCell (by exact Nat.le_refl _) _
        rw [hW7] at hbx7 hg7 hb7 ⊢
        obtain ⟨hn5, hm5, hs5⟩ := HH.out
        obtain ⟨hk, hn, hd, hs⟩ := HK.out
        have hri7 := ((HRI.out).put (t := badD) hJl (by omega) (leaf_at w 9 0 0 ⟨#[]⟩ (by unfold I64; omega) (by unfold I64; omega) (by unfold I64; omega) (by unfold maxLen; decide))).on (cell_on hb7)
        have hat7 := RowIs.allAt (g := g) (fun j u hj => (cell_of_block hg7).trans hj) hri7
        have hT : (Dt.node k n d s (l.set J badD)).At W7 (.agg #[.int .i64 k, .int .i64 n, .int .i64 d, .string s, .slice (some ⟨g, 0, none⟩) l.length cp]) := by
          unfold Dt.At
          exact ⟨hk, hn, hd, hs, by rw [List.length_set]; unfold maxLen; omega, some ⟨g, 0, none⟩, cp, by rw [List.length_set], Or.inr ⟨g, 0, rfl, hat7⟩⟩
        have C1 := pRight _ _ W7 hT
        rw [set_wrong hJl] at C1
        have C2 := fun w' (h : Below W7.heap.size W7 w') => pText _ _ emp w' (hT.below h) (tab_on HTAB.out (hb7.trans (h.mono hb7.size))) (fun hr => by rw [set_wrong hJl] at hr; cases hr) (by unfold Dt.full; rw [set_wrong hJl]; rfl)
        have HC1 := Lib.hid C1
        have HC2 := Lib.hid C2
        have HB7 := Lib.hid hb7
        clear a0 a1 a2 a3 a4 q4
        obtain ⟨a0, a1, a2, a3, a4⟩ := box_cells hbx7
        clear C1 C2 hT hat7 hri7 hbx7 hg7 hb7 hk hn hd hs hn5 hm5 hs5 hW7
        go_wp2_with fail
        refine (HC1.out).mono ?_
        rintro _ w8 ⟨rfl, hb8⟩
        replace a0 := cell_on hb8 _ _ _ a0
        replace a1 := cell_on hb8 _ _ _ a1
        replace a2 := cell_on hb8 _ _ _ a2
        replace a3 := cell_on hb8 _ _ _ a3
        replace a4 := cell_on hb8 _ _ _ a4
        have HB8 := Lib.hid hb8
        clear hb8
        go_wp2_with fail
        refine (HC2.out _ HB8.out).mono ?_
        rintro _ w9 ⟨rfl, hb9⟩
        have HB9 := Lib.hid (((HB7.out).trans ((HB8.out).mono (HB7.out).size)).trans (hb9.mono ((HB7.out).trans ((HB8.out).mono (HB7.out).size)).size))
        clear hb9
        go_wp2_with fail
        go_ret
        exact ⟨rfl, HB9.out⟩
      · obtain ⟨b, o, rfl, hall⟩ := hne
        obtain ⟨t, ht⟩ : ∃ t, l[i]? = some t := ⟨l[i], by simp [hlt]⟩
        obtain ⟨v0, v1, v2, v3, v4, d0, d1, d2, d3, d4, hta⟩ := (hall.on (cell_on HB.out)).kid ht
        have C := pRight t _ wr hta
        rw [part_right HRT.out ht] at C
        have HC := Lib.hid C
        clear C hta hall ht
        go_wp2_with fail
        refine (HC.out).mono ?_
        rintro _ w4 ⟨rfl, hb4⟩
        have HBX4 := Lib.hid (block_on hb4 HBX.out)
        have hwr4 := hb4.size
        have B4 := Lib.hid ((HB.out).trans (hb4.mono (HB.out).size)); clear hb4
        go_wp2_with fail
        go_roundw
        case rel => exact ⟨i + 1, by omega, by go_num, (fun h => by simp at h), by omega, HBX4.out, B4.out⟩
        case measure => simp [intOf]; omega
    · by_cases hz : 0 < l.length
      · have hne : ∃ b o, p = some ⟨b, o, none⟩ ∧ Dt.AllAt w l b o := by
          rcases HL.out with he | h
          · rw [he] at hz; simp at hz
          · exact h
        cases rt
        · obtain ⟨b, o, rfl, hall⟩ := hne
          obtain ⟨xs, hx, hrow, hxc, hx1⟩ := hall.row
          have HXC := Lib.hid hxc
          have HX := Lib.hid hx
          have HX1 := Lib.hid hx1
          have HROW := Lib.hid hrow
          clear hall hrow hxc hx hx1
          go_wp2_with (at_builtin; refine wpList_append_own _ rfl _ _ 22 rfl wr.heap.size 24 i0 (.agg #[.int .i64 0, .int .i64 0, .int .i64 0, .string ⟨#[]⟩, .slice none 0 0]) 5 64 Tryd.underlying22 HI.out.1 HI.out.2.1 HI.out.2.2.1 HI.out.2.2.2 rfl (by decide) _ _ _ rfl (World.ownsRow_made wr #[] 0 (Nat.le_refl _) (Nat.zero_le _) (by simp)) ⟨b, o, none⟩ l.length cap xs rfl ?qc1 ?qc2 ?qc3 ?qc4 ?qc5 ?qc6 ?_)
          case qc1 => exact HX.out
          case qc2 =>
            intro j u hj
            try rw [Addr.add_lit]
            exact cell_on (box_below _ _) _ _ _ (cell_on HB.out _ _ _ (HXC.out j u hj))
          case qc3 => exact HX1.out
          case qc4 => have := HLEN.out; unfold maxLen; omega
          case qc5 => have := HLEN.out; omega
          intro v' w5 hown hgrow hnil
          have hb5 : Below wr.heap.size wr w5 := (box_below wr _).grown hgrow (by simp) (by intro k hk; simp [Value.ownBlock] at hk; omega)
          have hown2 : w5.ownsRow wr.heap.size 24 5 v' l.length xs := by simpa using hown
          clear hown hgrow
          obtain ⟨hlen5, hv⟩ := hown2
          rcases hv with ⟨rfl, h0⟩ | ⟨g, cp, cur, rfl, hBg, hg, hn5, hm5, hs5, ht5⟩
          · exact absurd rfl hnil
          have HG := Lib.hid hg
          have HBX5 := Lib.hid (block_on hb5 HBX.out)
          have HB5 := Lib.hid hb5
          have hgne : w.heap.size ≠ g := by have := HWR.out; omega
          obtain ⟨J, hJ, hJl⟩ := low_index kk l.length (by omega)
          have HT5 := Lib.hid ht5
          have hri : RowIs w cur l := fun j t ht => by
            have := Dt.Row.is (g := g) (o := 0) HROW.out (fun j u hj => by
              rw [← ht5, List.getElem?_take] at hj
              split at hj
              · simpa using hj
              · cases hj) j t ht
            simpa using this
          obtain ⟨tJ, htJ⟩ : ∃ t, l[J]? = some t := ⟨l[J], by simp [hJl]⟩
          obtain ⟨z0, z1, z2, z3, z4, e0, e1, e2, e3, e4, -⟩ := hri J tJ htJ
          have y0 : w5.cell? ⟨g, J * 5, none⟩ = some z0 := (cell_of_block HG.out).trans e0
          have y1 : w5.cell? ⟨g, J * 5 + 1, none⟩ = some z1 := (cell_of_block HG.out).trans e1
          have y2 : w5.cell? ⟨g, J * 5 + 2, none⟩ = some z2 := (cell_of_block HG.out).trans e2
          have y3 : w5.cell? ⟨g, J * 5 + 3, none⟩ = some z3 := (cell_of_block HG.out).trans e3
          have y4 : w5.cell? ⟨g, J * 5 + 4, none⟩ = some z4 := (cell_of_block HG.out).trans e4
          have f0 := box_frozen HG.out (J * 5)
          have f1 := box_frozen HG.out (J * 5 + 1)
          have f2 := box_frozen HG.out (J * 5 + 2)
          have f3 := box_frozen HG.out (J * 5 + 3)
          have f4 := box_frozen HG.out (J * 5 + 4)
          have HRI := Lib.hid hri
          have HH := Lib.hid (And.intro hn5 (And.intro hm5 hs5))
          clear hb5 hg ht5 hnil hlen5 hri e0 e1 e2 e3 e4 htJ
          go_upto_region 14 with fail
          obtain ⟨W6, hW6⟩ : ∃ W, (((((w5.setCell ⟨g, J * 5, none⟩ (.int .i64 9)).setCell ⟨g, J * 5 + 1, none⟩ (.int .i64 0)).setCell ⟨g, J * 5 + 2, none⟩ (.int .i64 0)).setCell ⟨g, J * 5 + 3, none⟩ (.string ⟨#[]⟩)).setCell ⟨g, J * 5 + 4, none⟩ (.slice none 0 0)) = W := ⟨_, rfl⟩
          have hg6 := set_five_at (i := J * 5) (b0 := .int .i64 9) (b1 := .int .i64 0) (b2 := .int .i64 0) (b3 := .string ⟨#[]⟩) (b4 := .slice none 0 0) HG.out
          have hbx6 := (set_five_at_other (i := J * 5) (b0 := .int .i64 9) (b1 := .int .i64 0) (b2 := .int .i64 0) (b3 := .string ⟨#[]⟩) (b4 := .slice none 0 0) hgne).trans HBX5.out
          rw [hW6] at hbx6 hg6 ⊢
          have HG6 := Lib.hid hg6
          have hb6 : Below wr.heap.size wr W6 := hW6 ▸ (((((HB5.out).setCell (by exact hBg) _).setCell (by exact hBg) _).setCell (by exact hBg) _).setCell (by exact hBg) _).setCell (by exact hBg) _
          have HBX6 := Lib.hid hbx6
          have HB6 := Lib.hid ((HB.out).trans (hb6.mono (by have := HWR.out; omega)))
          obtain ⟨a0, a1, a2, a3, a4⟩ := box_cells hbx6
          have q4 := box_frozen hbx6 4
          clear y0 y1 y2 y3 y4 f0 f1 f2 f3 f4 hbx6 hb6 hW6 hg6
          go_upto_region 15 with fail
          obtain ⟨W7, hW7⟩ : ∃ W, W6.setCell ⟨w.heap.size, 4, none⟩ (.slice (some ⟨g, 0, none⟩) l.length cp) = W := ⟨_, rfl⟩
          have hbx7 : (W6.setCell ⟨w.heap.size, 4, none⟩ (.slice (some ⟨g, 0, none⟩) l.length cp)).heap[w.heap.size]? = some (.cells #[.int .i64 k, .int .i64 n, .int .i64 d, .string s, .slice (some ⟨g, 0, none⟩) l.length cp] 24 (0, 0)) := (heap_setCell_same W6 w.heap.size 4 _ 24 _ HBX6.out).trans (by simp)
          have hg7 := (heap_setCell_other W6 ⟨w.heap.size, 4, none⟩ g (.slice (some ⟨g, 0, none⟩) l.length cp) (by show g ≠ w.heap.size; exact fun e => hgne e.symm)).trans HG6.out
          have hb7 : Below w.heap.size w (W6.setCell ⟨w.heap.size, 4, none⟩ (.slice (some ⟨g, 0, none⟩) l.length cp)) := (HB6.out).setCell (by exact Nat.le_refl _) _
          rw [hW7] at hbx7 hg7 hb7 ⊢
          obtain ⟨hn5, hm5, hs5⟩ := HH.out
          obtain ⟨hk, hn, hd, hs⟩ := HK.out
          have hri7 := ((HRI.out).put (t := badD) hJl (by omega) (leaf_at w 9 0 0 ⟨#[]⟩ (by unfold I64; omega) (by unfold I64; omega) (by unfold I64; omega) (by unfold maxLen; decide))).on (cell_on hb7)
          have hat7 := RowIs.allAt (g := g) (fun j u hj => (cell_of_block hg7).trans hj) hri7
          have hT : (Dt.node k n d s (l.set J badD)).At W7 (.agg #[.int .i64 k, .int .i64 n, .int .i64 d, .string s, .slice (some ⟨g, 0, none⟩) l.length cp]) := by
            unfold Dt.At
            exact ⟨hk, hn, hd, hs, by rw [List.length_set]; unfold maxLen; omega, some ⟨g, 0, none⟩, cp, by rw [List.length_set], Or.inr ⟨g, 0, rfl, hat7⟩⟩
          have C1 := pRight _ _ W7 hT
          rw [set_wrong hJl] at C1
          have C2 := fun w' (h : Below W7.heap.size W7 w') => pText _ _ emp w' (hT.below h) (tab_on HTAB.out (hb7.trans (h.mono hb7.size))) (fun hr => by rw [set_wrong hJl] at hr; cases hr) (by unfold Dt.full; rw [set_wrong hJl]; rfl)
          have HC1 := Lib.hid C1
          have HC2 := Lib.hid C2
          have HB7 := Lib.hid hb7
          clear a0 a1 a2 a3 a4 q4
          obtain ⟨a0, a1, a2, a3, a4⟩ := box_cells hbx7
          clear C1 C2 hT hat7 hri7 hbx7 hg7 hb7 hk hn hd hs hn5 hm5 hs5 hW7
          go_wp2_with fail
          refine (HC1.out).mono ?_
          rintro _ w8 ⟨rfl, hb8⟩
          replace a0 := cell_on hb8 _ _ _ a0
          replace a1 := cell_on hb8 _ _ _ a1
          replace a2 := cell_on hb8 _ _ _ a2
          replace a3 := cell_on hb8 _ _ _ a3
          replace a4 := cell_on hb8 _ _ _ a4
          have HB8 := Lib.hid hb8
          clear hb8
          go_wp2_with fail
          refine (HC2.out _ HB8.out).mono ?_
          rintro _ w9 ⟨rfl, hb9⟩
          have HB9 := Lib.hid (((HB7.out).trans ((HB8.out).mono (HB7.out).size)).trans (hb9.mono ((HB7.out).trans ((HB8.out).mono (HB7.out).size)).size))
          clear hb9
          go_wp2_with fail
          go_ret
          exact ⟨rfl, HB9.out⟩
        · obtain ⟨b, o, rfl, hall⟩ := hne
          obtain ⟨xs, hx, hrow, hxc, hx1⟩ := hall.row
          have HXC := Lib.hid hxc
          have HX := Lib.hid hx
          have HX1 := Lib.hid hx1
          have HROW := Lib.hid hrow
          clear hall hrow hxc hx hx1
          go_wp2_with (at_builtin; refine wpList_append_own _ rfl _ _ 22 rfl wr.heap.size 24 i0 (.agg #[.int .i64 0, .int .i64 0, .int .i64 0, .string ⟨#[]⟩, .slice none 0 0]) 5 64 Tryd.underlying22 HI.out.1 HI.out.2.1 HI.out.2.2.1 HI.out.2.2.2 rfl (by decide) _ _ _ rfl (World.ownsRow_made wr #[] 0 (Nat.le_refl _) (Nat.zero_le _) (by simp)) ⟨b, o, none⟩ l.length cap xs rfl ?qc1 ?qc2 ?qc3 ?qc4 ?qc5 ?qc6 ?_)
          case qc1 => exact HX.out
          case qc2 =>
            intro j u hj
            try rw [Addr.add_lit]
            exact cell_on (box_below _ _) _ _ _ (cell_on HB.out _ _ _ (HXC.out j u hj))
          case qc3 => exact HX1.out
          case qc4 => have := HLEN.out; unfold maxLen; omega
          case qc5 => have := HLEN.out; omega
          intro v' w5 hown hgrow hnil
          have hb5 : Below wr.heap.size wr w5 := (box_below wr _).grown hgrow (by simp) (by intro k hk; simp [Value.ownBlock] at hk; omega)
          have hown2 : w5.ownsRow wr.heap.size 24 5 v' l.length xs := by simpa using hown
          clear hown hgrow
          obtain ⟨hlen5, hv⟩ := hown2
          rcases hv with ⟨rfl, h0⟩ | ⟨g, cp, cur, rfl, hBg, hg, hn5, hm5, hs5, ht5⟩
          · exact absurd rfl hnil
          have HG := Lib.hid hg
          have HBX5 := Lib.hid (block_on hb5 HBX.out)
          have HB5 := Lib.hid hb5
          have hgne : w.heap.size ≠ g := by have := HWR.out; omega
          obtain ⟨J, hJ, hJl⟩ := low_index kk l.length (by omega)
          have HT5 := Lib.hid ht5
          have hri : RowIs w cur l := fun j t ht => by
            have := Dt.Row.is (g := g) (o := 0) HROW.out (fun j u hj => by
              rw [← ht5, List.getElem?_take] at hj
              split at hj
              · simpa using hj
              · cases hj) j t ht
            simpa using this
          obtain ⟨tJ, htJ⟩ : ∃ t, l[J]? = some t := ⟨l[J], by simp [hJl]⟩
          obtain ⟨z0, z1, z2, z3, z4, e0, e1, e2, e3, e4, -⟩ := hri J tJ htJ
          have y0 : w5.cell? ⟨g, J * 5, none⟩ = some z0 := (cell_of_block HG.out).trans e0
          have y1 : w5.cell? ⟨g, J * 5 + 1, none⟩ = some z1 := (cell_of_block HG.out).trans e1
          have y2 : w5.cell? ⟨g, J * 5 + 2, none⟩ = some z2 := (cell_of_block HG.out).trans e2
          have y3 : w5.cell? ⟨g, J * 5 + 3, none⟩ = some z3 := (cell_of_block HG.out).trans e3
          have y4 : w5.cell? ⟨g, J * 5 + 4, none⟩ = some z4 := (cell_of_block HG.out).trans e4
          have f0 := box_frozen HG.out (J * 5)
          have f1 := box_frozen HG.out (J * 5 + 1)
          have f2 := box_frozen HG.out (J * 5 + 2)
          have f3 := box_frozen HG.out (J * 5 + 3)
          have f4 := box_frozen HG.out (J * 5 + 4)
          have HRI := Lib.hid hri
          have HH := Lib.hid (And.intro hn5 (And.intro hm5 hs5))
          clear hb5 hg ht5 hnil hlen5 hri e0 e1 e2 e3 e4 htJ
          go_upto_region 14 with fail
          obtain ⟨W6, hW6⟩ : ∃ W, (((((w5.setCell ⟨g, J * 5, none⟩ (.int .i64 9)).setCell ⟨g, J * 5 + 1, none⟩ (.int .i64 0)).setCell ⟨g, J * 5 + 2, none⟩ (.int .i64 0)).setCell ⟨g, J * 5 + 3, none⟩ (.string ⟨#[]⟩)).setCell ⟨g, J * 5 + 4, none⟩ (.slice none 0 0)) = W := ⟨_, rfl⟩
          have hg6 := set_five_at (i := J * 5) (b0 := .int .i64 9) (b1 := .int .i64 0) (b2 := .int .i64 0) (b3 := .string ⟨#[]⟩) (b4 := .slice none 0 0) HG.out
          have hbx6 := (set_five_at_other (i := J * 5) (b0 := .int .i64 9) (b1 := .int .i64 0) (b2 := .int .i64 0) (b3 := .string ⟨#[]⟩) (b4 := .slice none 0 0) hgne).trans HBX5.out
          rw [hW6] at hbx6 hg6 ⊢
          have HG6 := Lib.hid hg6
          have hb6 : Below wr.heap.size wr W6 := hW6 ▸ (((((HB5.out).setCell (by exact hBg) _).setCell (by exact hBg) _).setCell (by exact hBg) _).setCell (by exact hBg) _).setCell (by exact hBg) _
          have HBX6 := Lib.hid hbx6
          have HB6 := Lib.hid ((HB.out).trans (hb6.mono (by have := HWR.out; omega)))
          obtain ⟨a0, a1, a2, a3, a4⟩ := box_cells hbx6
          have q4 := box_frozen hbx6 4
          clear y0 y1 y2 y3 y4 f0 f1 f2 f3 f4 hbx6 hb6 hW6 hg6
          go_upto_region 15 with fail
          obtain ⟨W7, hW7⟩ : ∃ W, W6.setCell ⟨w.heap.size, 4, none⟩ (.slice (some ⟨g, 0, none⟩) l.length cp) = W := ⟨_, rfl⟩
          have hbx7 : (W6.setCell ⟨w.heap.size, 4, none⟩ (.slice (some ⟨g, 0, none⟩) l.length cp)).heap[w.heap.size]? = some (.cells #[.int .i64 k, .int .i64 n, .int .i64 d, .string s, .slice (some ⟨g, 0, none⟩) l.length cp] 24 (0, 0)) := (heap_setCell_same W6 w.heap.size 4 _ 24 _ HBX6.out).trans (by simp)
          have hg7 := (heap_setCell_other W6 ⟨w.heap.size, 4, none⟩ g (.slice (some ⟨g, 0, none⟩) l.length cp) (by show g ≠ w.heap.size; exact fun e => hgne e.symm)).trans HG6.out
          have hb7 : Below w.heap.size w (W6.setCell ⟨w.heap.size, 4, none⟩ (.slice (some ⟨g, 0, none⟩) l.length cp)) := (HB6.out).setCell (by exact Nat.le_refl _) _
          rw [hW7] at hbx7 hg7 hb7 ⊢
          obtain ⟨hn5, hm5, hs5⟩ := HH.out
          obtain ⟨hk, hn, hd, hs⟩ := HK.out
          have hri7 := ((HRI.out).put (t := badD) hJl (by omega) (leaf_at w 9 0 0 ⟨#[]⟩ (by unfold I64; omega) (by unfold I64; omega) (by unfold I64; omega) (by unfold maxLen; decide))).on (cell_on hb7)
          have hat7 := RowIs.allAt (g := g) (fun j u hj => (cell_of_block hg7).trans hj) hri7
          have hT : (Dt.node k n d s (l.set J badD)).At W7 (.agg #[.int .i64 k, .int .i64 n, .int .i64 d, .string s, .slice (some ⟨g, 0, none⟩) l.length cp]) := by
            unfold Dt.At
            exact ⟨hk, hn, hd, hs, by rw [List.length_set]; unfold maxLen; omega, some ⟨g, 0, none⟩, cp, by rw [List.length_set], Or.inr ⟨g, 0, rfl, hat7⟩⟩
          have C1 := pRight _ _ W7 hT
          rw [set_wrong hJl] at C1
          have C2 := fun w' (h : Below W7.heap.size W7 w') => pText _ _ emp w' (hT.below h) (tab_on HTAB.out (hb7.trans (h.mono hb7.size))) (fun hr => by rw [set_wrong hJl] at hr; cases hr) (by unfold Dt.full; rw [set_wrong hJl]; rfl)
          have HC1 := Lib.hid C1
          have HC2 := Lib.hid C2
          have HB7 := Lib.hid hb7
          clear a0 a1 a2 a3 a4 q4
          obtain ⟨a0, a1, a2, a3, a4⟩ := box_cells hbx7
          clear C1 C2 hT hat7 hri7 hbx7 hg7 hb7 hk hn hd hs hn5 hm5 hs5 hW7
          go_wp2_with fail
          refine (HC1.out).mono ?_
          rintro _ w8 ⟨rfl, hb8⟩
          replace a0 := cell_on hb8 _ _ _ a0
          replace a1 := cell_on hb8 _ _ _ a1
          replace a2 := cell_on hb8 _ _ _ a2
          replace a3 := cell_on hb8 _ _ _ a3
          replace a4 := cell_on hb8 _ _ _ a4
          have HB8 := Lib.hid hb8
          clear hb8
          go_wp2_with fail
          refine (HC2.out _ HB8.out).mono ?_
          rintro _ w9 ⟨rfl, hb9⟩
          have HB9 := Lib.hid (((HB7.out).trans ((HB8.out).mono (HB7.out).size)).trans (hb9.mono ((HB7.out).trans ((HB8.out).mono (HB7.out).size)).size))
          clear hb9
          go_wp2_with fail
          go_ret
          exact ⟨rfl, HB9.out⟩
      · have hz0 : (l.length : Int) ≤ 0 := by omega
        clear hz
        cases rt
        · go_wp2_with fail
          go_ret
          exact ⟨rfl, HB.out⟩
        · go_wp2_with fail
          go_ret
          exact ⟨rfl, HB.out⟩
end Go.Proofs.YtogjhoipofkogaaDoor.Dat

/- What the cards' forms hand over: a datum, a row of data; and that it reads behind the call as it did. -/
namespace Go.Proofs.YtogjhoipofkogaaDoor.Dat
open Go.ChangeShapes Go.WideShapes Go.ChangeAt Go.RowKit
open Go.ChangeMaps (open_string shut_string)
set_option linter.unusedVariables false
variable {H : Type} {enc : TypeId × Value → H}

theorem laidOut : laidOutB Tryd.prog = true := by kernel_rfl
theorem open_datum {w : World} {base : Nat} {b2 : Nat} {sp : Nat → Bool} {held : Bool} {v : Value} {d : DataW H} {p : List MemPlace} (hval : Value.okWide Tryd.prog w .any b2 24 v) (hd : DataW.Trod enc Tryd.prog w base sp held 24 v d p) :
    ∃ t : Dt, t.At w v ∧ (Light 24 d → t.thin reachBytes) := by
  obtain ⟨cs, rfl, _⟩ := okWide_struct Tryd.underlying24 hval
  obtain ⟨fuel, hf⟩ := hd
  obtain ⟨t, h1, h2⟩ := open_dt (enc := enc) (w := w) (base := base) (spare := sp) (held := held) fuel fuel (Nat.le_refl _) _ _ hf
  exact ⟨t, by simpa [Value.cells] using h1, h2⟩
theorem open_data {w : World} {base : Nat} {b2 : Nat} {sp : Nat → Bool} {held : Bool} {v : Value} {d : DataW H} {p : List MemPlace} (hval : Value.okWide Tryd.prog w .any b2 22 v) (hd : DataW.Trod enc Tryd.prog w base sp held 22 v d p) :
    ∃ (l : List Dt) (q : Option Addr) (cap : Nat), v = .slice q l.length cap ∧ l.length ≤ maxLen ∧ (l = [] ∨ ∃ b o, q = some ⟨b, o, none⟩ ∧ Dt.AllAt w l b o) ∧ (Light 22 d → Dt.thinAll reachBytes l) := by
  obtain ⟨a0, len, cap, rfl⟩ := okWide_slice Tryd.underlying22 hval
  obtain ⟨fuel, hf⟩ := hd
  obtain ⟨l, q, c, h1, h2, h3, h4⟩ := open_dts (enc := enc) (w := w) (base := base) (spare := sp) (held := held) (fun n hn => open_dt n n (Nat.le_refl _)) hf
  refine ⟨l, q, c, ?_, h2, h3, h4⟩
  simpa [Value.cells] using h1
theorem datum_stays {W W' : World} {v : Value} {d : DataW H} {p : List MemPlace} (h : DataW.Trod enc Tryd.prog W 0 (fun _ => true) true 24 v d p) (hb : Below W.heap.size W W') (hlt : ∀ x ∈ p, x.block < W.heap.size) :
    DataW.Trod enc Tryd.prog W' 0 (fun b => decide (b < W.heap.size)) true 24 v d p := Below.trod laidOut (by kernel_rfl) (of_decide_eq_true (by kernel_rfl)) h hb hlt
theorem data_stay {W W' : World} {v : Value} {d : DataW H} {p : List MemPlace} (h : DataW.Trod enc Tryd.prog W 0 (fun _ => true) true 22 v d p) (hb : Below W.heap.size W W') (hlt : ∀ x ∈ p, x.block < W.heap.size) :
    DataW.Trod enc Tryd.prog W' 0 (fun b => decide (b < W.heap.size)) true 22 v d p := Below.trod laidOut (by kernel_rfl) (of_decide_eq_true (by kernel_rfl)) h hb hlt
end Go.Proofs.YtogjhoipofkogaaDoor.Dat


namespace Go.Proofs.YtogjhoipofkogaaDoor.datumParts
open Go.ChangeShapes Go.WideShapes Go.ChangeAt Go.RowKit
open Go.ChangeMaps (open_string shut_string)
open Go.Proofs.YtogjhoipofkogaaDoor.Dat

set_option maxRecDepth 100000 in
theorem lifted (os : Os) (started : os.Started) (H : Type) (enc : TypeId × Value → H) :
    ReturnsInHanded {} Tryd.checked os 9 .any (fun w args => (Rows.datumPartsSpec.pre enc Tryd.prog Tryd.f9 [] false w args ∧ laidMetH Tryd.prog laid3 w) ∧ sizedMet enc Tryd.prog Tryd.f9 (OpenSpec.ofChange Rows.datumPartsSpec) false w args)
      (Rows.datumPartsSpec.post enc Tryd.prog Tryd.f9 false true false false) := by
  refine returnsInHanded_of_change_and (C := Tryd.checked) (X := fun w _ => laidMetH Tryd.prog laid3 w) (fun _ _ _ hh h => h.of_heap hh) own started (by kernel_rfl) Tryd.func9
    (ChangeSpec.witness_shaped (enc := enc) (C := Tryd.checked) (os := os) (X := fun w _ => laidMetH Tryd.prog laid3 w) false (World.doorLaid Tryd.prog 24 os) #[.agg #[.int .i64 0, .int .i64 0, .int .i64 0, .string ⟨#[]⟩, .slice none 0 0], .int .i64 0] 8 rfl (World.shaped_of_RefB (by kernel_rfl) (by kernel_rfl)) (by kernel_rfl) (by kernel_rfl) (by kernel_rfl) (door_met os _)) ?_
  intro W base args ds gs before hval0 hW _ _ hL _
  have hval : ∀ (j : Nat) t v, Tryd.f9.params[j]? = some t → args[j]? = some v → Value.okWide Tryd.prog W .any base t v := hval0
  have hW' := hW
  obtain ⟨p, q, hA0, hV, rfl, hfz, hnd⟩ := hW
  have hA : DataW.TrodAll enc Tryd.prog W 0 (fun _ => true) true Tryd.f9.params.toList args.toList ds p := hA0
  rw [Tryd.params9] at hA hval
  obtain ⟨v0, vs0, d0, ds0, p0, q0, hargs, rfl, rfl, h0, r0⟩ := trodAll_cons hA
  obtain ⟨v1, vs1, d1, ds1, p1, q1, rfl, rfl, rfl, h1, r1⟩ := trodAll_cons r0
  obtain ⟨rfl, rfl, rfl⟩ := trodAll_nil r1
  obtain rfl : args = #[v0, v1] := by cases args; simp_all
  obtain ⟨rfl, rfl⟩ := trodVars_none hV
  have h0k := h0
  obtain ⟨t, hat, _⟩ := open_datum (hval 0 24 v0 rfl rfl) h0
  obtain ⟨kk, rfl, rfl, rfl, wk⟩ := open_int Tryd.underlying3 (hval 1 3 v1 rfl rfl) h1
  clear hA0 hval0
  simp only [List.append_nil] at hW'
  have hlt : ∀ x ∈ p0, x.block < W.heap.size := fun x hx => by simpa using hW'.lt x (by simpa using hx)
  refine (datumParts_any t v0 kk W (tab_of_laid hL) hat (wf64 wk)).mono fun e W' ⟨he, hnx⟩ => ?_
  subst he
  refine ⟨_, rfl, _, _, _, [], p0 ++ ([] ++ []), [], hW', ?_, ?_, rfl, hnx.frame _, fun h => by cases h⟩
  · exact trodAll_cons_mk (shut_bool Tryd.underlying4 _) trodAll_mk0
  · exact trodAll_cons_mk (datum_stays h0k hnx hlt) (trodAll_cons_mk (shut_int Tryd.underlying3 wk) trodAll_mk0)

theorem row_holds : Rows.DatumPartsSaid :=
  OpenClaim.holds_of_wide 9 Tryd.f9 rfl rfl rfl rfl rfl rfl rfl ⟨rfl, rfl, rfl, rfl, rfl⟩ rfl rfl rfl rfl rfl (by kernel_rfl) Tryd.func9 (by kernel_rfl)
    (of_decide_eq_true (by kernel_rfl)) (by unfold Func.isWrapper; first | (rw [if_pos (by decide +kernel)]; kernel_rfl) | (rw [if_neg (by decide +kernel)]; exact ⟨rfl, rfl⟩))
    (fun os started H enc _ => lifted os started H enc)

theorem proved : Rows.DatumPartsCardSaid :=
  Claim7.holds_tied_plain_at .later [] [.data, .data, .data] true (true, "9cd326114bfcf088dd36561ad8f7ec39dec4ef692204a86c0d795625ebcebf87") false
    row_holds (fun _ h => by cases h) (by kernel_rfl) (fun _ h => by cases h) datumParts_row_tie rfl ⟨rfl, rfl⟩ (by kernel_rfl) rfl
    (fun f fn hf hfn => by
      obtain rfl : f = 9 := Option.some.inj ((show Tryd.prog.funcNamed "corbel/corbellaw02.DatumParts" = some 9 by kernel_rfl).symm.trans hf) |>.symm
      obtain rfl : fn = Tryd.f9 := (Option.some.inj (Tryd.func9.symm.trans hfn)).symm
      exact ⟨by kernel_rfl, fun j t ht => by
        rw [Tryd.params9] at ht
        have hm : t ∈ [24, 3] := by simpa using Array.mem_of_getElem? ht
        have hall : ([24, 3].all fun u => !Tryd.prog.wantsStandIn u) = true := by kernel_rfl
        exact (show Tryd.prog.wantsStandIn t = false by simpa using List.all_eq_true.1 hall t hm)⟩)
    (by kernel_rfl)
#print axioms proved
end Go.Proofs.YtogjhoipofkogaaDoor.datumParts
