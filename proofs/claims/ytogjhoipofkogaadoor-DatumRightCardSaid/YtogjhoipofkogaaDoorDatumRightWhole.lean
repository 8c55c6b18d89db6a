/- DatumRight: whether any datum is right, how many data it has, whether any text is a name: the program's answers are the reference's, for all inputs, with no condition beyond the three listed tables of Go's own library, which the card ties to the program's text. -/
import Derived.Test.YtogjhoipofkogaaDoorDatVp
import Derived.Test.YtogjhoipofkogaaDoorDatVn
import Derived.Deep.RegionHeld3
import Derived.Deep.Cut
import Derived.Deep.CutRange
import Derived.Test.YtogjhoipofkogaaDoorDatVb
import Derived.Test.YtogjhoipofkogaaDoorDatVd
import Derived.Test.YtogjhoipofkogaaDoorDatVe
import Derived.Test.YtogjhoipofkogaaDoorDatQ
import Derived.Test.YtogjhoipofkogaaDoorDatZ
import Derived.Test.YtogjhoipofkogaaDoorDatS
import Derived.Test.YtogjhoipofkogaaDoorShelf
import Derived.Test.YtogjhoipofkogaaDoorLaid
import Derived.Test.YtogjhoipofkogaaDoorDatO
import Derived.Carry
import Derived.SevenTiedAt
import Derived.Test.YtogjhoipofkogaaDoorCards

/- The laws' common part: awake, its two calls of List. -/
namespace Go.Proofs.YtogjhoipofkogaaDoor.Dat
open Go.RowKit
set_option linter.unusedVariables false

abbrev emp : ByteArray := ⟨#[]⟩
abbrev aOne : Dt := .node 0 1 1 emp []
abbrev aTwo : Dt := .node 0 2 1 emp []
abbrev aX : Dt := .node 2 0 0 ⟨#[120]⟩ []
abbrev aA : Dt := .node 3 0 0 ⟨#[97]⟩ []
abbrev Zb : Obj := .cells #[.int .i64 0, .int .i64 0, .int .i64 0, .string ⟨#[]⟩, .slice none 0 0] 24 (0, 0)
abbrev Ob : Obj := .cells #[.int .i64 0, .int .i64 1, .int .i64 1, .string ⟨#[]⟩, .slice none 0 0] 24 (0, 0)
abbrev Ab : Obj := .cells #[.int .i64 3, .int .i64 0, .int .i64 0, .string ⟨#[97]⟩, .slice none 0 0] 24 (0, 0)
theorem leaf_at (w : World) (k n d : Int) (s : ByteArray) (hk : I64 k) (hn : I64 n) (hd : I64 d) (hs : s.size ≤ maxLen) : (Dt.node k n d s []).At w (.agg #[.int .i64 k, .int .i64 n, .int .i64 d, .string s, .slice none 0 0]) := by
  unfold Dt.At
  exact ⟨hk, hn, hd, hs, by simp, none, 0, rfl, Or.inl rfl⟩
theorem at_new_eq {w : World} {o : Obj} {k : Nat} (h : k = w.heap.size) : (w.alloc o).heap[k]? = some o := by subst h; exact at_new w o
theorem at_old {w : World} {o x : Obj} {k : Nat} (h : w.heap[k]? = some x) : (w.alloc o).heap[k]? = some x := block_on (box_below _ _) h
/-- All old blocks but this one. -/
abbrev X1 (g n : Nat) (b : Nat) : Bool := b != g && decide (b < n)
/-- All old blocks but these two, and what came between. -/
abbrev X2 (g n m g2 k : Nat) (b : Nat) : Bool := (b != g && decide (b < n)) || (b != g2 && decide (m ≤ b) && decide (b < k))
abbrev lA : Dt := Dt.list [aA]
abbrev lAll : Dt := Dt.list [aOne, aX, lA]

theorem list_one (g : Nat) (W : World) (h : W.heap[g]? = some Ab) :
    Calls Tryd.prog 25 #[.slice (some ⟨g, 0, none⟩) 1 1] W fun e w' => (∃ k n d s p len cap, e = .returned (.agg #[.int .i64 k, .int .i64 n, .int .i64 d, .string s, .slice p len cap]) ∧ lA.At (off w' (X1 g W.heap.size)) (.agg #[.int .i64 k, .int .i64 n, .int .i64 d, .string s, .slice p len cap])) ∧ Below W.heap.size W w' := by
  have hc : ∀ j v, #[Value.int .i64 3, .int .i64 0, .int .i64 0, .string ⟨#[97]⟩, .slice none 0 0][j]? = some v → (off W (X1 g W.heap.size)).cell? ⟨g, j, none⟩ = some v := fun j v hj => off_cell.2 ⟨by simp [X1], by rw [cell_of_block h]; exact hj⟩
  refine ownList_any (X1 g W.heap.size) [aA] _ _ W (fun b hb => by simp [X1]; omega) (by simp [maxLen]) (Dt.slimAll_size _ (by simp [Dt.sizes, Dt.size])) (Or.inr ⟨g, 0, rfl, ?_⟩)
  unfold Dt.AllAt
  exact ⟨⟨_, _, _, _, _, hc 0 _ rfl, hc 1 _ rfl, hc 2 _ rfl, hc 3 _ rfl, hc 4 _ rfl, leaf_at _ _ _ _ _ (by unfold I64; omega) (by unfold I64; omega) (by unfold I64; omega) (by unfold maxLen; decide)⟩, by unfold Dt.AllAt; trivial⟩
theorem list_three (g2 : Nat) (W : World) (X : Nat → Bool) (hX : ∀ b, W.heap.size ≤ b → X b = false) (hg : X g2 = false) (k n d : Int) (s : ByteArray) (p : Option Addr) (len cap : Nat)
    (h : W.heap[g2]? = some (.cells #[.int .i64 0, .int .i64 1, .int .i64 1, .string ⟨#[]⟩, .slice none 0 0, .int .i64 2, .int .i64 0, .int .i64 0, .string ⟨#[120]⟩, .slice none 0 0, .int .i64 k, .int .i64 n, .int .i64 d, .string s, .slice p len cap] 24 (0, 0)))
    (ht : lA.At (off W X) (.agg #[.int .i64 k, .int .i64 n, .int .i64 d, .string s, .slice p len cap])) :
    Calls Tryd.prog 25 #[.slice (some ⟨g2, 0, none⟩) 3 3] W fun e w' => (∃ k n d s p len cap, e = .returned (.agg #[.int .i64 k, .int .i64 n, .int .i64 d, .string s, .slice p len cap]) ∧ lAll.At (off w' X) (.agg #[.int .i64 k, .int .i64 n, .int .i64 d, .string s, .slice p len cap])) ∧ Below W.heap.size W w' := by
  have hc : ∀ j v, #[Value.int .i64 0, .int .i64 1, .int .i64 1, .string ⟨#[]⟩, .slice none 0 0, .int .i64 2, .int .i64 0, .int .i64 0, .string ⟨#[120]⟩, .slice none 0 0, .int .i64 k, .int .i64 n, .int .i64 d, .string s, .slice p len cap][j]? = some v → (off W X).cell? ⟨g2, j, none⟩ = some v := fun j v hj => off_cell.2 ⟨hg, by rw [cell_of_block h]; exact hj⟩
  refine ownList_any X [aOne, aX, lA] _ _ W hX (by simp [maxLen]) (Dt.slimAll_size _ (by simp [Dt.sizes, Dt.size, Dt.list])) (Or.inr ⟨g2, 0, rfl, ?_⟩)
  unfold Dt.AllAt
  refine ⟨⟨_, _, _, _, _, hc 0 _ rfl, hc 1 _ rfl, hc 2 _ rfl, hc 3 _ rfl, hc 4 _ rfl, leaf_at _ _ _ _ _ (by unfold I64; omega) (by unfold I64; omega) (by unfold I64; omega) (by unfold maxLen; decide)⟩, ?_⟩
  unfold Dt.AllAt
  refine ⟨⟨_, _, _, _, _, hc 5 _ rfl, hc 6 _ rfl, hc 7 _ rfl, hc 8 _ rfl, hc 9 _ rfl, leaf_at _ _ _ _ _ (by unfold I64; omega) (by unfold I64; omega) (by unfold I64; omega) (by unfold maxLen; decide)⟩, ?_⟩
  unfold Dt.AllAt
  exact ⟨⟨_, _, _, _, _, hc 10 _ rfl, hc 11 _ rfl, hc 12 _ rfl, hc 13 _ rfl, hc 14 _ rfl, ht⟩, by unfold Dt.AllAt; trivial⟩
theorem two_on {t : Dt} {u : Value} {w1 W : World} {g n g2 : Nat} (h : t.At (off w1 (X1 g n)) u) (hb : Below w1.heap.size w1 W) : t.At (off W (X2 g n w1.heap.size g2 W.heap.size)) u :=
  h.on (off_on (fun b hb hx => by simp [X1, X2] at hx ⊢; refine ⟨hx, fun _ h => by omega⟩) fun b hb' _ => hb.block b hb')
theorem two_no {g n m g2 k : Nat} (hn : n ≤ k) (hm : m ≤ k) : ∀ b, k ≤ b → X2 g n m g2 k b = false := by
  intro b hb
  simp [X2]; omega
theorem two_own {g n m g2 k : Nat} (h1 : n ≤ g2) : X2 g n m g2 k g2 = false := by
  simp [X2]; omega
end Go.Proofs.YtogjhoipofkogaaDoor.Dat

/- awake: the list is made. -/
namespace Go.Proofs.YtogjhoipofkogaaDoor.Dat
open Go.RowKit
set_option linter.unusedVariables false
theorem at_drew {w : World} {k : Nat} {x : Obj} (h : w.heap[k]? = some x) : w.drew.heap[k]? = some x := h
theorem sz1 (w : World) (o : Obj) : (w.alloc o).heap.size = w.heap.size + 1 := by simp
theorem sz2 (w : World) (o o' : Obj) : ((w.alloc o).alloc o').heap.size = w.heap.size + 2 := by simp
theorem below2 (w : World) (o o' : Obj) : Below w.heap.size w ((w.alloc o).alloc o') := (box_below w o).alloc (by simp) o'
theorem list_oneN (g N : Nat) (W : World) (hN : W.heap.size = N) (h : W.heap[g]? = some Ab) :
    Calls Tryd.prog 25 #[.slice (some ⟨g, 0, none⟩) 1 1] W fun e w' => (∃ k n d s p len cap, e = .returned (.agg #[.int .i64 k, .int .i64 n, .int .i64 d, .string s, .slice p len cap]) ∧ lA.At (off w' (X1 g N)) (.agg #[.int .i64 k, .int .i64 n, .int .i64 d, .string s, .slice p len cap])) ∧ Below N W w' := by
  subst hN; exact list_one g W h
theorem list_threeN (g2 N g K : Nat) (w1 W : World) (hK : W.heap.size = K) (hg : w1.heap.size ≤ g2) (hN : N ≤ w1.heap.size) (hb : Below w1.heap.size w1 W) (k n d : Int) (s : ByteArray) (p : Option Addr) (len cap : Nat)
    (h : W.heap[g2]? = some (Obj.cells #[.int .i64 0, .int .i64 1, .int .i64 1, .string ⟨#[]⟩, .slice none 0 0, .int .i64 2, .int .i64 0, .int .i64 0, .string ⟨#[120]⟩, .slice none 0 0, .int .i64 k, .int .i64 n, .int .i64 d, .string s, .slice p len cap] 24)) (hu : lA.At (off w1 (X1 g N)) (.agg #[.int .i64 k, .int .i64 n, .int .i64 d, .string s, .slice p len cap])) :
    Calls Tryd.prog 25 #[.slice (some ⟨g2, 0, none⟩) 3 3] W fun e w' => (∃ k n d s p len cap, e = .returned (.agg #[.int .i64 k, .int .i64 n, .int .i64 d, .string s, .slice p len cap]) ∧ lAll.At (off w' (X2 g N w1.heap.size g2 K)) (.agg #[.int .i64 k, .int .i64 n, .int .i64 d, .string s, .slice p len cap])) ∧ Below K W w' := by
  subst hK
  have hs := hb.size
  exact list_three g2 W (X2 g N w1.heap.size g2 W.heap.size) (two_no (by omega) hs) (two_own (by omega)) k n d s p len cap h (two_on hu hb)
/-- The list is made: its box, the number's box. -/
def MadeAt (w : World) (s2 : Value) (wx : World) : Prop :=
  ∃ (B : Nat) (k n d : Int) (s : ByteArray) (p : Option Addr) (len cap : Nat), s2 = .pointer (some ⟨B, 0, none⟩) ∧ wx.heap[B]? = some (.cells #[.int .i64 k, .int .i64 n, .int .i64 d, .string s, .slice p len cap] 24 (0, 0)) ∧
      lAll.At wx (.agg #[.int .i64 k, .int .i64 n, .int .i64 d, .string s, .slice p len cap]) ∧ wx.heap[w.heap.size]? = some Ob ∧ Below w.heap.size w wx
theorem made_store {w w2 : World} {bz : Nat} {X : Nat → Bool} {k n d : Int} {s : ByteArray} {p : Option Addr} {len cap : Nat} (hz : w2.heap[bz]? = some Zb) (hX : X bz = true) (hu : lAll.At (off w2 X) (.agg #[.int .i64 k, .int .i64 n, .int .i64 d, .string s, .slice p len cap]))
    (hob : w2.heap[w.heap.size]? = some Ob) (hb : Below w.heap.size w w2) (hw : w.heap.size < bz) :
    MadeAt w (.pointer (some ⟨bz, 0, none⟩)) (((((w2.setCell ⟨bz, 0, none⟩ (.int .i64 k)).setCell ⟨bz, 1, none⟩ (.int .i64 n)).setCell ⟨bz, 2, none⟩ (.int .i64 d)).setCell ⟨bz, 3, none⟩ (.string s)).setCell ⟨bz, 4, none⟩ (.slice p len cap)) := by
  refine ⟨bz, k, n, d, s, p, len, cap, rfl, set_five hz, ?_, (set_five_other (by omega)).trans hob, set_five_below hb (by omega)⟩
  refine hu.on fun b o v hv => ?_
  obtain ⟨h0, hc⟩ := off_cell.1 hv
  have hne : b ≠ bz := by rintro rfl; rw [hX] at h0; cases h0
  unfold World.cell? at hc ⊢
  rw [set_five_other hne]; exact hc
theorem made_new {w w2 : World} {X : Nat → Bool} {k n d : Int} {s : ByteArray} {p : Option Addr} {len cap : Nat} (hu : lAll.At (off w2 X) (.agg #[.int .i64 k, .int .i64 n, .int .i64 d, .string s, .slice p len cap]))
    (hob : w2.heap[w.heap.size]? = some Ob) (hb : Below w.heap.size w w2) (hw : w.heap.size < w2.heap.size) :
    MadeAt w (.pointer (some ⟨w2.heap.size, 0, none⟩)) (w2.alloc (.cells #[.int .i64 k, .int .i64 n, .int .i64 d, .string s, .slice p len cap] 24)) := by
  refine ⟨w2.heap.size, k, n, d, s, p, len, cap, rfl, at_new _ _, ?_, at_old hob, hb.alloc (Nat.le_of_lt hw) _⟩
  refine hu.on fun b o v hv => ?_
  obtain ⟨h0, hc⟩ := off_cell.1 hv
  have hl := cell_lt hc
  have hk := (box_below w2 (.cells #[.int .i64 k, .int .i64 n, .int .i64 d, .string s, .slice p len cap] 24)).block b hl
  unfold World.cell? at hc ⊢
  rw [hk]; exact hc
theorem x2_of {g n m g2 k b : Nat} (h : X1 g n b = true) : X2 g n m g2 k b = true := by
  have h' : (b != g && decide (b < n)) = true := h
  show ((b != g && decide (b < n)) || _) = true
  rw [h']; rfl
theorem num_set {w2 : World} {a bz : Nat} {b0 b1 b2 b3 b4 : Value} (h : w2.heap[a]? = some Ob) (hne : a ≠ bz) :
    (((((w2.setCell ⟨bz, 0, none⟩ b0).setCell ⟨bz, 1, none⟩ b1).setCell ⟨bz, 2, none⟩ b2).setCell ⟨bz, 3, none⟩ b3).setCell ⟨bz, 4, none⟩ b4).cell? ⟨a, 0, none⟩ = some (.int .i64 0) ∧ (((((w2.setCell ⟨bz, 0, none⟩ b0).setCell ⟨bz, 1, none⟩ b1).setCell ⟨bz, 2, none⟩ b2).setCell ⟨bz, 3, none⟩ b3).setCell ⟨bz, 4, none⟩ b4).cell? ⟨a, 1, none⟩ = some (.int .i64 1) ∧ (((((w2.setCell ⟨bz, 0, none⟩ b0).setCell ⟨bz, 1, none⟩ b1).setCell ⟨bz, 2, none⟩ b2).setCell ⟨bz, 3, none⟩ b3).setCell ⟨bz, 4, none⟩ b4).cell? ⟨a, 2, none⟩ = some (.int .i64 1) ∧ (((((w2.setCell ⟨bz, 0, none⟩ b0).setCell ⟨bz, 1, none⟩ b1).setCell ⟨bz, 2, none⟩ b2).setCell ⟨bz, 3, none⟩ b3).setCell ⟨bz, 4, none⟩ b4).cell? ⟨a, 3, none⟩ = some (.string ⟨#[]⟩) ∧ (((((w2.setCell ⟨bz, 0, none⟩ b0).setCell ⟨bz, 1, none⟩ b1).setCell ⟨bz, 2, none⟩ b2).setCell ⟨bz, 3, none⟩ b3).setCell ⟨bz, 4, none⟩ b4).cell? ⟨a, 4, none⟩ = some (.slice none 0 0) :=
  box_cells ((set_five_other hne).trans h)
abbrev Pb : Obj := .cells #[.int .i64 0, .int .i64 1, .int .i64 1, .string ⟨#[]⟩, .slice none 0 0, .int .i64 0, .int .i64 2, .int .i64 1, .string ⟨#[]⟩, .slice none 0 0] 24 (0, 0)
theorem pair_at (w : World) : (Dt.node 6 0 0 emp [aOne, aTwo]).At (w.alloc Pb) (.agg #[.int .i64 6, .int .i64 0, .int .i64 0, .string ⟨#[]⟩, .slice (some ⟨w.heap.size, 0, none⟩) 2 2]) := by
  have hc : ∀ j v, #[Value.int .i64 0, .int .i64 1, .int .i64 1, .string ⟨#[]⟩, .slice none 0 0, .int .i64 0, .int .i64 2, .int .i64 1, .string ⟨#[]⟩, .slice none 0 0][j]? = some v → (w.alloc Pb).cell? ⟨w.heap.size, j, none⟩ = some v := fun j v hj => by rw [cell_of_block (at_new w Pb)]; exact hj
  unfold Dt.At
  refine ⟨by unfold I64; omega, by unfold I64; omega, by unfold I64; omega, by unfold maxLen; decide, by simp [maxLen], some ⟨w.heap.size, 0, none⟩, 2, rfl, Or.inr ⟨w.heap.size, 0, rfl, ?_⟩⟩
  unfold Dt.AllAt
  refine ⟨⟨_, _, _, _, _, hc 0 _ rfl, hc 1 _ rfl, hc 2 _ rfl, hc 3 _ rfl, hc 4 _ rfl, leaf_at _ _ _ _ _ (by unfold I64; omega) (by unfold I64; omega) (by unfold I64; omega) (by unfold maxLen; decide)⟩, ?_⟩
  unfold Dt.AllAt
  refine ⟨⟨_, _, _, _, _, hc 5 _ rfl, hc 6 _ rfl, hc 7 _ rfl, hc 8 _ rfl, hc 9 _ rfl, leaf_at _ _ _ _ _ (by unfold I64; omega) (by unfold I64; omega) (by unfold I64; omega) (by unfold maxLen; decide)⟩, ?_⟩
  unfold Dt.AllAt; trivial
theorem x2_mid (a m : Nat) : X2 (a + 1) (a + 2) m (m + 1) (m + 2) m = true := by simp [X2]
theorem x2_end (a m : Nat) : X2 (a + 1) (a + 2) m m (m + 2) (m + 1) = true := by simp [X2]
set_option maxHeartbeats 16000000 in
set_option maxRecDepth 100000 in
theorem awake_list (w : World) (T : World → Prop) (hL : Lasts T) (ht : T w) (R : Int → Int → Bool) (Nm : ByteArray → Bool) (NT : Int → Int → List UInt8)
    (hX : ∀ (t : Dt) (v : Value) (a : ByteArray) (w : World), t.At w v → T w → (t.right R Nm 0 = true → (t.text NT).length ≤ 140737488355328) → a.data.toList = t.full R Nm NT → Calls Tryd.prog 21 #[v] w fun e w' => e = .returned (.string a) ∧ Below w.heap.size w w')
    (g1 : (lAll.text NT).length ≤ 140737488355328) (e1 : [40, 49, 32, 120, 32, 40, 34, 97, 34, 41, 41] = lAll.full R Nm NT)
    (g2 : (Dt.text NT (.node 6 0 0 emp [aOne, aTwo])).length ≤ 140737488355328) (e2 : [40, 49, 32, 46, 32, 50, 41] = Dt.full R Nm NT (.node 6 0 0 emp [aOne, aTwo])) :
    Calls Tryd.prog 10 #[] w fun e w' => e = .returned (.bool true) ∧ Below w.heap.size w w' := by
  have HX := Lib.hid hX
  have HL := Lib.hid hL
  have HT := Lib.hid ht
  have HG1 := Lib.hid g1
  have HE1 := Lib.hid e1
  have HG2 := Lib.hid g2
  have HE2 := Lib.hid e2
  clear hX hL ht g1 e1 g2 e2
  go_enter Tryd.func10, Tryd.ntmps10
  go_wp2_with fail
  go_cut [2] from 4 to 10 (fun s2 wx => MadeAt w s2 wx)
  case first =>
    have f0 : (w.alloc Ob).cell? ⟨w.heap.size, 0, none⟩ = some (.int .i64 0) := by simp
    have f1 : (w.alloc Ob).cell? ⟨w.heap.size, 1, none⟩ = some (.int .i64 1) := by simp
    have f2 : (w.alloc Ob).cell? ⟨w.heap.size, 2, none⟩ = some (.int .i64 1) := by simp
    have f3 : (w.alloc Ob).cell? ⟨w.heap.size, 3, none⟩ = some (.string ⟨#[]⟩) := by simp
    have f4 : (w.alloc Ob).cell? ⟨w.heap.size, 4, none⟩ = some (.slice none 0 0) := by simp
    have hob := at_new w Ob
    have hs0 : (w.alloc Ob).heap.size = w.heap.size + 1 := by simp
    have hb0 := box_below w Ob
    obtain ⟨W, hW⟩ : ∃ W, w.alloc Ob = W := ⟨_, rfl⟩
    rw [hW] at f0 f1 f2 f3 f4 hob hs0 hb0
    rw [show (w.alloc (.cells #[.int .i64 0, .int .i64 1, .int .i64 1, .string ⟨#[]⟩, .slice none 0 0] 24)) = W from hW]
    have HOB := Lib.hid hob
    have HB0 := Lib.hid hb0
    have HS0 := Lib.hid hs0
    clear hW hob hb0
    go_region_held3 (fun w' => w'.cell? ⟨w.heap.size, 0, none⟩ = some (.int .i64 0) ∧ w'.cell? ⟨w.heap.size, 1, none⟩ = some (.int .i64 1) ∧ w'.cell? ⟨w.heap.size, 2, none⟩ = some (.int .i64 1) ∧ w'.cell? ⟨w.heap.size, 3, none⟩ = some (.string ⟨#[]⟩) ∧ w'.cell? ⟨w.heap.size, 4, none⟩ = some (.slice none 0 0))
      (with_reducible (first | (refine ⟨?_, ?_, ?_, ?_, ?_⟩ <;> assumption) | exact box_cells (at_drew HOB.out) | exact box_cells (at_drew HW1.out) | exact box_cells (at_drew HW2.out) | exact box_cells (at_drew (at_old HOB.out)) | exact box_cells (at_old HOB.out) | exact box_cells (at_drew (at_old (at_old HOB.out))) | exact box_cells (at_old (at_old HOB.out)) | exact box_cells (at_drew (at_old HW1.out)) | exact box_cells (at_old HW1.out) | exact box_cells (at_drew (at_old (at_old HW1.out))) | exact box_cells (at_old (at_old HW1.out)) | exact box_cells HW1.out | exact box_cells HW2.out | exact box_cells (at_old HW2.out) | exact num_set HW2.out (by omega) | exact num_set HW2.out (by have := HN1.out; omega) | exact num_set (at_old HW2.out) (by have := HN2.out; omega)))
      (first
        | (go_at_call 25
           with_reducible refine Calls.mono (list_oneN (w.heap.size + 2) (w.heap.size + 3) ((W.alloc (.cells #[.int .i64 0, .int .i64 0, .int .i64 0, .string ⟨#[]⟩, .slice none 0 0] 24)).alloc (.cells #[.int .i64 3, .int .i64 0, .int .i64 0, .string ⟨#[97]⟩, .slice none 0 0] 24)).drew ?_ ?_) ?_
           · exact ((sz2 W _ _).trans (by rw [HS0.out]))
           · exact at_drew (at_new_eq (by rw [sz1, HS0.out]))
           rintro e w1 ⟨⟨k, n, d, s, p, len, cap, rfl, hu⟩, hb⟩
           have HU := Lib.hid hu
           have HW1 := Lib.hid (show w1.heap[w.heap.size]? = some Ob from (hb.block _ (by omega)).trans (at_drew (at_old (at_old HOB.out))))
           have HB1 := Lib.hid (show Below w.heap.size w w1 from ((HB0.out).trans ((below2 W _ _).mono (by rw [HS0.out]; omega)).drew).trans (hb.mono (by omega)))
           have HN1 := Lib.hid (show w.heap.size + 3 ≤ w1.heap.size from Nat.le_trans (Nat.le_of_eq (Eq.symm ((sz2 W _ _).trans (by rw [HS0.out])))) hb.size)
           have HZ1 := Lib.hid (show w1.heap[w.heap.size + 1]? = some Zb from (hb.block _ (by omega)).trans (at_drew (at_old (at_new_eq (HS0.out).symm))))
           have HX1 := Lib.hid (show X1 (w.heap.size + 2) (w.heap.size + 3) (w.heap.size + 1) = true from by simp [X1])
           obtain ⟨k0, k1, k2, k3, k4⟩ := box_cells HW1.out
           clear hu hb)
        | (go_at_call 25
           with_reducible refine Calls.mono (list_oneN (w.heap.size + 1) (w.heap.size + 3) ((W.alloc (.cells #[.int .i64 3, .int .i64 0, .int .i64 0, .string ⟨#[97]⟩, .slice none 0 0] 24)).alloc (.cells #[.int .i64 0, .int .i64 0, .int .i64 0, .string ⟨#[]⟩, .slice none 0 0] 24)).drew ?_ ?_) ?_
           · exact ((sz2 W _ _).trans (by rw [HS0.out]))
           · exact at_drew (at_old (at_new_eq (HS0.out).symm))
           rintro e w1 ⟨⟨k, n, d, s, p, len, cap, rfl, hu⟩, hb⟩
           have HU := Lib.hid hu
           have HW1 := Lib.hid (show w1.heap[w.heap.size]? = some Ob from (hb.block _ (by omega)).trans (at_drew (at_old (at_old HOB.out))))
           have HB1 := Lib.hid (show Below w.heap.size w w1 from ((HB0.out).trans ((below2 W _ _).mono (by rw [HS0.out]; omega)).drew).trans (hb.mono (by omega)))
           have HN1 := Lib.hid (show w.heap.size + 3 ≤ w1.heap.size from Nat.le_trans (Nat.le_of_eq (Eq.symm ((sz2 W _ _).trans (by rw [HS0.out])))) hb.size)
           have HZ1 := Lib.hid (show w1.heap[w.heap.size + 2]? = some Zb from (hb.block _ (by omega)).trans (at_drew (at_new_eq (by rw [sz1, HS0.out]))))
           have HX1 := Lib.hid (show X1 (w.heap.size + 1) (w.heap.size + 3) (w.heap.size + 2) = true from by simp [X1])
           obtain ⟨k0, k1, k2, k3, k4⟩ := box_cells HW1.out
           clear hu hb)
        | (go_at_call 25
           with_reducible refine Calls.mono (list_oneN (w.heap.size + 1) (w.heap.size + 2) (W.alloc (.cells #[.int .i64 3, .int .i64 0, .int .i64 0, .string ⟨#[97]⟩, .slice none 0 0] 24)).drew ?_ ?_) ?_
           · exact ((sz1 W _).trans (by rw [HS0.out]))
           · exact at_drew (at_new_eq (HS0.out).symm)
           rintro e w1 ⟨⟨k, n, d, s, p, len, cap, rfl, hu⟩, hb⟩
           have HU := Lib.hid hu
           have HW1 := Lib.hid (show w1.heap[w.heap.size]? = some Ob from (hb.block _ (by omega)).trans (at_drew (at_old HOB.out)))
           have HB1 := Lib.hid (show Below w.heap.size w w1 from ((HB0.out).trans ((box_below W _).mono (by rw [HS0.out]; omega)).drew).trans (hb.mono (by omega)))
           have HN1 := Lib.hid (show w.heap.size + 2 ≤ w1.heap.size from Nat.le_trans (Nat.le_of_eq (Eq.symm ((sz1 W _).trans (by rw [HS0.out])))) hb.size)
           obtain ⟨k0, k1, k2, k3, k4⟩ := box_cells HW1.out
           clear hu hb)
        | (go_at_call 25
           with_reducible refine Calls.mono (list_threeN (w1.heap.size) _ _ (w1.heap.size + 1) w1 (w1.alloc _) ?_ ?_ ?_ ?_ _ _ _ _ _ _ _ ?_ HU.out) ?_
           · exact (sz1 w1 _)
           · exact (Nat.le_refl _)
           · exact HN1.out
           · exact (box_below w1 _)
           · exact (at_new w1 _)
           rintro e w2 ⟨⟨k2, n2, d2, s2, p2, len2, cap2, rfl, hu⟩, hb⟩
           have HU2 := Lib.hid hu
           have HN := HN1.out
           have HW2 := Lib.hid (show w2.heap[w.heap.size]? = some Ob from (hb.block _ (by omega)).trans (at_old HW1.out))
           have HB2 := Lib.hid (show Below w.heap.size w w2 from ((HB1.out).trans ((box_below w1 _).mono (by omega))).trans (hb.mono (by omega)))
           have HN2 := Lib.hid (show w.heap.size < w2.heap.size from by have h : w1.heap.size + 1 ≤ w2.heap.size := Nat.le_trans (Nat.le_of_eq (Eq.symm (sz1 w1 _))) hb.size; omega)
           have HZ2 := Lib.hid ((hb.block _ (by omega)).trans ((at_old HZ1.out)))
           have HX2 := Lib.hid (x2_of (m := w1.heap.size) (g2 := w1.heap.size) (k := w1.heap.size + 1) (HX1.out))
           obtain ⟨y0, y1, y2, y3, y4⟩ := box_cells HZ2.out
           have q0 := box_frozen HZ2.out 0
           have q1 := box_frozen HZ2.out 1
           have q2 := box_frozen HZ2.out 2
           have q3 := box_frozen HZ2.out 3
           have q4 := box_frozen HZ2.out 4
           obtain ⟨m0, m1, m2, m3, m4⟩ := box_cells HW2.out
           clear hu hb HN)
        | (go_at_call 25
           with_reducible refine Calls.mono (list_threeN (w1.heap.size + 1) _ _ (w1.heap.size + 2) w1 ((w1.alloc (.cells #[.int .i64 0, .int .i64 0, .int .i64 0, .string ⟨#[]⟩, .slice none 0 0] 24)).alloc _) ?_ ?_ ?_ ?_ _ _ _ _ _ _ _ ?_ HU.out) ?_
           · exact (sz2 w1 _ _)
           · exact (Nat.le_succ _)
           · exact HN1.out
           · exact (below2 w1 _ _)
           · exact (at_new_eq (sz1 w1 _).symm)
           rintro e w2 ⟨⟨k2, n2, d2, s2, p2, len2, cap2, rfl, hu⟩, hb⟩
           have HU2 := Lib.hid hu
           have HN := HN1.out
           have HW2 := Lib.hid (show w2.heap[w.heap.size]? = some Ob from (hb.block _ (by omega)).trans (at_old (at_old HW1.out)))
           have HB2 := Lib.hid (show Below w.heap.size w w2 from ((HB1.out).trans ((below2 w1 _ _).mono (by omega))).trans (hb.mono (by omega)))
           have HN2 := Lib.hid (show w.heap.size < w2.heap.size from by have h : w1.heap.size + 2 ≤ w2.heap.size := Nat.le_trans (Nat.le_of_eq (Eq.symm (sz2 w1 _ _))) hb.size; omega)
           have HZ2 := Lib.hid ((hb.block w1.heap.size (by omega)).trans ((at_old (at_new w1 Zb))))
           have HX2 := Lib.hid (x2_mid w.heap.size w1.heap.size)
           obtain ⟨y0, y1, y2, y3, y4⟩ := box_cells HZ2.out
           have q0 := box_frozen HZ2.out 0
           have q1 := box_frozen HZ2.out 1
           have q2 := box_frozen HZ2.out 2
           have q3 := box_frozen HZ2.out 3
           have q4 := box_frozen HZ2.out 4
           obtain ⟨m0, m1, m2, m3, m4⟩ := box_cells HW2.out
           clear hu hb HN)
        | (go_at_call 25
           with_reducible refine Calls.mono (list_threeN (w1.heap.size) _ _ (w1.heap.size + 2) w1 ((w1.alloc _).alloc (.cells #[.int .i64 0, .int .i64 0, .int .i64 0, .string ⟨#[]⟩, .slice none 0 0] 24)) ?_ ?_ ?_ ?_ _ _ _ _ _ _ _ ?_ HU.out) ?_
           · exact (sz2 w1 _ _)
           · exact (Nat.le_refl _)
           · exact HN1.out
           · exact (below2 w1 _ _)
           · exact (at_old (at_new w1 _))
           rintro e w2 ⟨⟨k2, n2, d2, s2, p2, len2, cap2, rfl, hu⟩, hb⟩
           have HU2 := Lib.hid hu
           have HN := HN1.out
           have HW2 := Lib.hid (show w2.heap[w.heap.size]? = some Ob from (hb.block _ (by omega)).trans (at_old (at_old HW1.out)))
           have HB2 := Lib.hid (show Below w.heap.size w w2 from ((HB1.out).trans ((below2 w1 _ _).mono (by omega))).trans (hb.mono (by omega)))
           have HN2 := Lib.hid (show w.heap.size < w2.heap.size from by have h : w1.heap.size + 2 ≤ w2.heap.size := Nat.le_trans (Nat.le_of_eq (Eq.symm (sz2 w1 _ _))) hb.size; omega)
           have HZ2 := Lib.hid ((hb.block (w1.heap.size + 1) (by omega)).trans ((at_new_eq (sz1 w1 _).symm)))
           have HX2 := Lib.hid (x2_end w.heap.size w1.heap.size)
           obtain ⟨y0, y1, y2, y3, y4⟩ := box_cells HZ2.out
           have q0 := box_frozen HZ2.out 0
           have q1 := box_frozen HZ2.out 1
           have q2 := box_frozen HZ2.out 2
           have q3 := box_frozen HZ2.out 3
           have q4 := box_frozen HZ2.out 4
           obtain ⟨m0, m1, m2, m3, m4⟩ := box_cells HW2.out
           clear hu hb HN)
        | (go_at_call 25
           with_reducible refine Calls.mono (list_threeN (w1.heap.size) _ _ (w1.heap.size + 1) w1 (w1.alloc _) ?_ ?_ ?_ ?_ _ _ _ _ _ _ _ ?_ HU.out) ?_
           · exact (sz1 w1 _)
           · exact (Nat.le_refl _)
           · exact HN1.out
           · exact (box_below w1 _)
           · exact (at_new w1 _)
           rintro e w2 ⟨⟨k2, n2, d2, s2, p2, len2, cap2, rfl, hu⟩, hb⟩
           have HU2 := Lib.hid hu
           have HN := HN1.out
           have HW2 := Lib.hid (show w2.heap[w.heap.size]? = some Ob from (hb.block _ (by omega)).trans (at_old HW1.out))
           have HB2 := Lib.hid (show Below w.heap.size w w2 from ((HB1.out).trans ((box_below w1 _).mono (by omega))).trans (hb.mono (by omega)))
           have HN2 := Lib.hid (show w.heap.size < w2.heap.size from by have h : w1.heap.size + 1 ≤ w2.heap.size := Nat.le_trans (Nat.le_of_eq (Eq.symm (sz1 w1 _))) hb.size; omega)
           obtain ⟨m0, m1, m2, m3, m4⟩ := box_cells HW2.out
           clear hu hb HN))
    all_goals (go_wp2_with fail)
    all_goals go_meet
    all_goals first
      | with_reducible exact made_store HZ2.out HX2.out HU2.out HW2.out HB2.out (by omega)
      | with_reducible exact made_store HZ2.out HX2.out HU2.out HW2.out HB2.out (by have := HN1.out; omega)
      | with_reducible exact made_new HU2.out HW2.out HB2.out HN2.out
  case rest =>
    obtain ⟨B, k, n, d, s, p, len, cap, rfl, hbx, hat, hob, hb⟩ := hcut
    obtain ⟨c0, c1, c2, c3, c4⟩ := box_cells hbx
    have HAT := Lib.hid hat
    have HOB := Lib.hid hob
    have HB := Lib.hid hb
    have hlt := lt_of_block hob
    have C1 := Lib.hid (HX.out lAll _ ⟨#[40, 49, 32, 120, 32, 40, 34, 97, 34, 41, 41]⟩ wc hat (HL.out _ _ HT.out hb) (fun _ => HG1.out) HE1.out)
    clear hbx hat hob hb
    go_wp2_with fail
    refine C1.out.mono ?_
    rintro e w3 ⟨rfl, hb3⟩
    obtain ⟨m0, m1, m2, m3, m4⟩ := box_cells (block_on hb3 HOB.out)
    have HB3 := Lib.hid ((HB.out).trans (hb3.mono (by omega)))
    have hlt3 : w.heap.size < w3.heap.size := by have := hb3.size; omega
    clear hb3
    go_wp2_with fail
    have C2 := Lib.hid (HX.out (.node 6 0 0 emp [aOne, aTwo]) (.agg #[.int .i64 6, .int .i64 0, .int .i64 0, .string ⟨#[]⟩, .slice (some ⟨w3.heap.size, 0, none⟩) 2 2]) ⟨#[40, 49, 32, 46, 32, 50, 41]⟩ (w3.alloc Pb) (pair_at w3) (HL.out _ _ HT.out ((HB3.out).alloc (Nat.le_of_lt hlt3) _)) (fun _ => HG2.out) HE2.out)
    refine C2.out.mono ?_
    rintro e w4 ⟨rfl, hb4⟩
    have HB4 := Lib.hid (((HB3.out).alloc (Nat.le_of_lt hlt3) _).trans (hb4.mono (Nat.le_trans (Nat.le_of_lt hlt3) (Nat.le_trans (Nat.le_succ _) (Nat.le_of_eq (sz1 _ _).symm)))))
    clear hb4
    go_wp2_with fail
    go_ret
    exact ⟨rfl, HB4.out⟩
end Go.Proofs.YtogjhoipofkogaaDoor.Dat

/- What the program's and the reference's functions answer at this seat; the laws' common part. -/
namespace Go.Proofs.YtogjhoipofkogaaDoor.Dat
open Go.RowKit
open Go.Proofs.YtogjhoipofkogaaDoor (textL parse res)
open NumPlain (rightB)
set_option linter.unusedVariables false

abbrev Tab (w : World) : Prop := Lib.TabIs Tryd.prog w "internal/strconv.uint64pow10" .u64 Lib.pow10Tab
theorem tab_lasts : Lasts Tab := fun _ _ h hb => tab_on h hb
theorem drew_below (w : World) (k : Nat) : Below w.heap.size w (w.drewN k) := ⟨rfl, rfl, rfl, Nat.le_refl _, fun _ _ => rfl⟩
theorem numRight : NumRight rightB := fun n d w hn hd => Go.Proofs.YtogjhoipofkogaaDoor.right_any n d _ rfl w hn.1 hn.2 hd.1 hd.2
theorem refRight : RCall rightB := fun n d w hn hd => Go.Proofs.YtogjhoipofkogaaDoor.rightRef_any n d _ rfl w hn.1 hn.2 hd.1 hd.2
theorem idx : IdxCall := fun c w => Tryd.strings_IndexByte _ c w
theorem nameIs : NameIs nameB := fun s w hs => (Name_any idx (fun s => parse s.data.toList) (fun s w hs => parse_any s hs w) s hs w).mono fun e w' ⟨he, k, hk⟩ => ⟨he, hk ▸ drew_below w k⟩
theorem refName : NCall nameB := fun s w hs => name_any (fun s => parse s.data.toList) (fun s w hs => parseRef_any s hs w) s hs w
theorem refNameB (s : ByteArray) (w : World) (hs : s.size ≤ maxLen) : Calls Tryd.prog 17 #[.string s] w fun e w' => e = .returned (.bool (nameB s)) ∧ Below w.heap.size w w' := (refName s w hs).mono fun e w' ⟨he, k, hk⟩ => ⟨he, hk ▸ drew_below w k⟩
theorem numText : NumText Tab textL := fun n d a w ht hn hd ha => Go.Proofs.YtogjhoipofkogaaDoor.text_any n d hn hd a ha w ht
theorem refText : TCall textL := fun n d a w hn hd ha => textRef_any n d hn hd a ha w
theorem char_sub {c : UInt8} (h : nameChar c = true) : strChar c = true := by
  have all : ∀ n : Fin 256, nameChar ⟨⟨n⟩⟩ = true → strChar ⟨⟨n⟩⟩ = true := by decide +kernel
  exact all c.toBitVec.toFin h
theorem nameSub : NameSub nameB := fun s h => by
  unfold nameB at h
  simp only [Bool.and_eq_true] at h
  have := h.1.2
  rw [List.all_eq_true] at this ⊢
  exact fun c hc => char_sub (this c hc)

theorem pRight (t : Dt) (v : Value) (w : World) (hat : t.At w v) : Calls Tryd.prog 12 #[v] w fun e w' => e = .returned (.bool (t.right rightB nameB 0)) ∧ Below w.heap.size w w' := ownRight_any rightB nameB numRight nameIs nameSub t v w hat
theorem rRight (t : Dt) (v : Value) (w : World) (hat : t.At w v) : Calls Tryd.prog 13 #[v] w fun e w' => e = .returned (.bool (t.right rightB nameB 0)) ∧ Below w.heap.size w w' := Right_any rightB nameB refRight refName t v w hat
theorem pText (t : Dt) (v : Value) (a : ByteArray) (w : World) (hat : t.At w v) (ht : Tab w) (hlen : t.right rightB nameB 0 = true → (t.text textL).length ≤ 140737488355328) (ha : a.data.toList = t.full rightB nameB textL) :
    Calls Tryd.prog 21 #[v] w fun e w' => e = .returned (.string a) ∧ Below w.heap.size w w' := ownText_any Tab numText tab_lasts pRight t v a w hat ht hlen ha
theorem awake_any (w : World) (ht : Tab w) : Calls Tryd.prog 10 #[] w fun e w' => e = .returned (.bool true) ∧ Below w.heap.size w w' :=
  awake_list w Tab tab_lasts ht rightB nameB textL pText (by decide +kernel) (by decide +kernel) (by decide +kernel) (by decide +kernel)

/-- What a call answers, whatever memory it makes. -/
abbrev Answers (f : FuncId) (args : Array Value) (w : World) (r : Value) : Prop := Calls Tryd.prog f args w fun e w' => e = .returned r ∧ Below w.heap.size w w'

set_option maxHeartbeats 400000 in
set_option maxRecDepth 100000 in
theorem fewLaw_any (t : Dt) (v : Value) (m : Int) (w : World) (h0 : 0 ≤ m) (h1 : m ≤ 100000) (hat : t.At w v) : Answers 11 #[v, .int .i64 m] w (.bool (decide ((t.size : Int) ≤ m))) := by
  have hd : decide (0 ≤ t.few m) = decide ((t.size : Int) ≤ m) := by
    rw [Bool.eq_iff_iff, decide_eq_true_iff, decide_eq_true_iff]; exact t.few_iff m h0
  obtain ⟨k, n, d, s, l⟩ := t
  have C := fun w' (h : (Dt.node k n d s l).At w' v) => Few_any (Dt.node k n d s l) v m w' h0 h1 h
  rw [hd] at C
  obtain ⟨b, hb⟩ : ∃ b, decide (((Dt.node k n d s l).size : Int) ≤ m) = b := ⟨_, rfl⟩
  rw [hb] at C ⊢
  have hat2 := hat
  unfold Dt.At at hat2
  obtain ⟨hk, hn, hd, hs, hlm, p, cap, rfl, hl⟩ := hat2
  have HC := Lib.hid C; clear C
  have HAT := Lib.hid hat; clear hat hl hlm hs hk hn hd
  unfold Answers
  go_enter Tryd.func11, Tryd.ntmps11
  go_wp2_with fail
  refine (HC.out _ ((HAT.out).below ((Below.refl _ _).alloc (Nat.le_refl _) _))).mono ?_
  rintro _ w1 ⟨rfl, hb1⟩
  have HB1 := Lib.hid hb1; clear hb1
  go_wp2_with fail
  go_ret
  exact ⟨rfl, below_after HB1.out⟩

theorem below_then {w w1 w2 : World} (h : Below w.heap.size w w1) (h2 : Below w1.heap.size w1 w2) : Below w.heap.size w w2 := h.trans (h2.mono h.size)
end Go.Proofs.YtogjhoipofkogaaDoor.Dat

/- The law DatumRight. -/
namespace Go.Proofs.YtogjhoipofkogaaDoor.Dat
open Go.RowKit
open Go.Proofs.YtogjhoipofkogaaDoor (textL parse res)
open NumPlain (rightB)
set_option linter.unusedVariables false

set_option maxHeartbeats 4000000 in
set_option maxRecDepth 100000 in
theorem datumRight_any (t : Dt) (v : Value) (s : ByteArray) (w : World) (htab : Tab w) (hat : t.At w v) (hs : s.size ≤ maxLen) : Answers 3 #[v, .string s] w (.bool true) := by
  have hA := fun w' (h : Below w.heap.size w w') => awake_any w' (tab_on htab h)
  have hDR := fun (t : Dt) (v : Value) (w : World) (h : t.At w v) => pRight t v w h
  have hRR := fun (t : Dt) (v : Value) (w : World) (h : t.At w v) => rRight t v w h
  have hDS := fun (t : Dt) (v : Value) (w : World) (hb : t.size ≤ 90000) (h : t.At w v) => ownSize_any t v w hb h
  have hRS := fun (t : Dt) (v : Value) (w : World) (hb : t.size ≤ 100000) (h : t.At w v) => Size_any t v w hb h
  have hDN := nameIs
  have hRN := refNameB
  have F := fun w' (hb : Below w.heap.size w w') => fewLaw_any t v 3000 w' (by omega) (by omega) (hat.below hb)
  have DR := fun w' (hb : Below w.heap.size w w') => hDR t v w' (hat.below hb)
  have RR := fun w' (hb : Below w.heap.size w w') => hRR t v w' (hat.below hb)
  have DS := fun h w' (hb : Below w.heap.size w w') => hDS t v w' h (hat.below hb)
  have RS := fun h w' (hb : Below w.heap.size w w') => hRS t v w' h (hat.below hb)
  have DN := fun w' => hDN s w' hs
  have RN := fun w' => hRN s w' hs
  have cl := t.count_le 0
  obtain ⟨rt, hrt⟩ : ∃ r, t.right rightB nameB 0 = r := ⟨_, rfl⟩
  obtain ⟨ct, hct⟩ : ∃ r, t.count 0 = r := ⟨_, rfl⟩
  obtain ⟨nm, hnm⟩ : ∃ r, nameB s = r := ⟨_, rfl⟩
  rw [hrt] at DR RR
  rw [hct] at DS RS cl
  rw [hnm] at DN RN
  have HA := Lib.hid hA
  have HDR := Lib.hid DR
  have HRR := Lib.hid RR
  have HDN := Lib.hid DN
  have HRN := Lib.hid RN
  unfold Answers
  by_cases hf : (t.size : Int) ≤ 3000
  · have hq : decide ((t.size : Int) ≤ 3000) = true := decide_eq_true hf
    rw [hq] at F
    have hct2 : ct ≤ 3000 := by omega
    have HDS := Lib.hid (DS (by omega))
    have HRS := Lib.hid (RS (by omega))
    have HF := Lib.hid F
    clear F DR RR DS RS DN RN hA hDR hRR hDS hRS hDN hRN cl hrt hct hnm hf hq hs
    obtain ⟨k, n, d, s', l⟩ := t
    unfold Dt.At at hat
    obtain ⟨-, -, -, -, -, p, cap, rfl, -⟩ := hat
    go_enter Tryd.func3, Tryd.ntmps3
    go_wp2_with fail
    refine (HA.out _ (by first | exact Below.refl _ _ | exact (Below.refl _ _).alloc (Nat.le_refl _) _ | exact ((Below.refl _ _).alloc (Nat.le_refl _) _).drew)).mono ?_
    rintro _ w1 ⟨rfl, hb1⟩
    obtain ⟨c0, c1, c2, c3, c4⟩ := box_cells (one_box hb1)
    have B1 := Lib.hid (below_after hb1); clear hb1
    go_wp2_with fail
    refine (HF.out _ B1.out).mono ?_
    rintro _ w2 ⟨rfl, hb2⟩
    replace c0 := cell_on hb2 _ _ _ c0
    replace c1 := cell_on hb2 _ _ _ c1
    replace c2 := cell_on hb2 _ _ _ c2
    replace c3 := cell_on hb2 _ _ _ c3
    replace c4 := cell_on hb2 _ _ _ c4
    have B2 := (B1.out).trans (hb2.mono (B1.out).size)
    have B3 := B2.drew
    clear hb2 B1
    go_wp2_with fail
    go_region_held3 (fun w' => w'.cell? ⟨w.heap.size, 0, none⟩ = some (.int .i64 k) ∧ w'.cell? ⟨w.heap.size, 1, none⟩ = some (.int .i64 n) ∧ w'.cell? ⟨w.heap.size, 2, none⟩ = some (.int .i64 d) ∧ w'.cell? ⟨w.heap.size, 3, none⟩ = some (.string s') ∧ w'.cell? ⟨w.heap.size, 4, none⟩ = some (.slice p l.length cap) ∧ Below w.heap.size w w')
      (first | exact ⟨c0, c1, c2, c3, c4, B3⟩ | (refine ⟨?_, ?_, ?_, ?_, ?_, ?_⟩ <;> assumption) | go_keep)
      (first
       | (go_at_call 12; refine (HDR.out _ (by assumption)).mono ?_; rintro _ w' ⟨rfl, hb⟩
          have k0 : w'.cell? ⟨w.heap.size, 0, none⟩ = some (.int .i64 k) := cell_on hb _ _ _ (by assumption)
          have k1 : w'.cell? ⟨w.heap.size, 1, none⟩ = some (.int .i64 n) := cell_on hb _ _ _ (by assumption)
          have k2 : w'.cell? ⟨w.heap.size, 2, none⟩ = some (.int .i64 d) := cell_on hb _ _ _ (by assumption)
          have k3 : w'.cell? ⟨w.heap.size, 3, none⟩ = some (.string s') := cell_on hb _ _ _ (by assumption)
          have k4 : w'.cell? ⟨w.heap.size, 4, none⟩ = some (.slice p l.length cap) := cell_on hb _ _ _ (by assumption)
          have k5 : Below w.heap.size w w' := below_then (by assumption) hb
          clear hb)
       | (go_at_call 13; refine (HRR.out _ (by assumption)).mono ?_; rintro _ w' ⟨rfl, hb⟩
          have k0 : w'.cell? ⟨w.heap.size, 0, none⟩ = some (.int .i64 k) := cell_on hb _ _ _ (by assumption)
          have k1 : w'.cell? ⟨w.heap.size, 1, none⟩ = some (.int .i64 n) := cell_on hb _ _ _ (by assumption)
          have k2 : w'.cell? ⟨w.heap.size, 2, none⟩ = some (.int .i64 d) := cell_on hb _ _ _ (by assumption)
          have k3 : w'.cell? ⟨w.heap.size, 3, none⟩ = some (.string s') := cell_on hb _ _ _ (by assumption)
          have k4 : w'.cell? ⟨w.heap.size, 4, none⟩ = some (.slice p l.length cap) := cell_on hb _ _ _ (by assumption)
          have k5 : Below w.heap.size w w' := below_then (by assumption) hb
          clear hb)
       | (go_at_call 14; refine (HDS.out _ (by assumption)).mono ?_; rintro _ w' ⟨rfl, hb⟩
          have k0 : w'.cell? ⟨w.heap.size, 0, none⟩ = some (.int .i64 k) := cell_on hb _ _ _ (by assumption)
          have k1 : w'.cell? ⟨w.heap.size, 1, none⟩ = some (.int .i64 n) := cell_on hb _ _ _ (by assumption)
          have k2 : w'.cell? ⟨w.heap.size, 2, none⟩ = some (.int .i64 d) := cell_on hb _ _ _ (by assumption)
          have k3 : w'.cell? ⟨w.heap.size, 3, none⟩ = some (.string s') := cell_on hb _ _ _ (by assumption)
          have k4 : w'.cell? ⟨w.heap.size, 4, none⟩ = some (.slice p l.length cap) := cell_on hb _ _ _ (by assumption)
          have k5 : Below w.heap.size w w' := below_then (by assumption) hb
          clear hb)
       | (go_at_call 15; refine (HRS.out _ (by assumption)).mono ?_; rintro _ w' ⟨rfl, hb⟩
          have k0 : w'.cell? ⟨w.heap.size, 0, none⟩ = some (.int .i64 k) := cell_on hb _ _ _ (by assumption)
          have k1 : w'.cell? ⟨w.heap.size, 1, none⟩ = some (.int .i64 n) := cell_on hb _ _ _ (by assumption)
          have k2 : w'.cell? ⟨w.heap.size, 2, none⟩ = some (.int .i64 d) := cell_on hb _ _ _ (by assumption)
          have k3 : w'.cell? ⟨w.heap.size, 3, none⟩ = some (.string s') := cell_on hb _ _ _ (by assumption)
          have k4 : w'.cell? ⟨w.heap.size, 4, none⟩ = some (.slice p l.length cap) := cell_on hb _ _ _ (by assumption)
          have k5 : Below w.heap.size w w' := below_then (by assumption) hb
          clear hb)
       | (go_at_call 16; refine (HDN.out _).mono ?_; rintro _ w' ⟨rfl, hb⟩
          have k0 : w'.cell? ⟨w.heap.size, 0, none⟩ = some (.int .i64 k) := cell_on hb _ _ _ (by assumption)
          have k1 : w'.cell? ⟨w.heap.size, 1, none⟩ = some (.int .i64 n) := cell_on hb _ _ _ (by assumption)
          have k2 : w'.cell? ⟨w.heap.size, 2, none⟩ = some (.int .i64 d) := cell_on hb _ _ _ (by assumption)
          have k3 : w'.cell? ⟨w.heap.size, 3, none⟩ = some (.string s') := cell_on hb _ _ _ (by assumption)
          have k4 : w'.cell? ⟨w.heap.size, 4, none⟩ = some (.slice p l.length cap) := cell_on hb _ _ _ (by assumption)
          have k5 : Below w.heap.size w w' := below_then (by assumption) hb
          clear hb)
       | (go_at_call 17; refine (HRN.out _).mono ?_; rintro _ w' ⟨rfl, hb⟩
          have k0 : w'.cell? ⟨w.heap.size, 0, none⟩ = some (.int .i64 k) := cell_on hb _ _ _ (by assumption)
          have k1 : w'.cell? ⟨w.heap.size, 1, none⟩ = some (.int .i64 n) := cell_on hb _ _ _ (by assumption)
          have k2 : w'.cell? ⟨w.heap.size, 2, none⟩ = some (.int .i64 d) := cell_on hb _ _ _ (by assumption)
          have k3 : w'.cell? ⟨w.heap.size, 3, none⟩ = some (.string s') := cell_on hb _ _ _ (by assumption)
          have k4 : w'.cell? ⟨w.heap.size, 4, none⟩ = some (.slice p l.length cap) := cell_on hb _ _ _ (by assumption)
          have k5 : Below w.heap.size w w' := below_then (by assumption) hb
          clear hb))
    go_wp2_with fail
    go_ret
    exact ⟨rfl, by assumption⟩
  · have hq : decide ((t.size : Int) ≤ 3000) = false := decide_eq_false hf
    rw [hq] at F
    have HF := Lib.hid F
    clear F DR RR DS RS DN RN hA hDR hRR hDS hRS hDN hRN cl hrt hct hnm hf hq hs HDR HRR HDN HRN
    obtain ⟨k, n, d, s', l⟩ := t
    unfold Dt.At at hat
    obtain ⟨-, -, -, -, -, p, cap, rfl, -⟩ := hat
    go_enter Tryd.func3, Tryd.ntmps3
    go_wp2_with fail
    refine (HA.out _ (by first | exact Below.refl _ _ | exact (Below.refl _ _).alloc (Nat.le_refl _) _ | exact ((Below.refl _ _).alloc (Nat.le_refl _) _).drew)).mono ?_
    rintro _ w1 ⟨rfl, hb1⟩
    obtain ⟨c0, c1, c2, c3, c4⟩ := box_cells (one_box hb1)
    have B1 := Lib.hid (below_after hb1); clear hb1
    go_wp2_with fail
    refine (HF.out _ B1.out).mono ?_
    rintro _ w2 ⟨rfl, hb2⟩
    have B2 := Lib.hid ((B1.out).trans (hb2.mono (B1.out).size)); clear hb2
    go_wp2_with fail
    go_ret
    exact ⟨rfl, B2.out⟩
end Go.Proofs.YtogjhoipofkogaaDoor.Dat

/- What the cards' forms hand over: a datum, a row of data; and that it reads behind the call as it did. -/
namespace Go.Proofs.YtogjhoipofkogaaDoor.Dat
open Go.ChangeShapes Go.WideShapes Go.ChangeAt Go.RowKit
open Go.ChangeMaps (open_string shut_string)
set_option linter.unusedVariables false
variable {H : Type} {enc : TypeId × Value → H}

theorem laidOut : laidOutB Tryd.prog = true := by kernel_rfl
theorem open_datum {w : World} {base : Nat} {b2 : Nat} {sp : Nat → Bool} {held : Bool} {v : Value} {d : DataW H} {p : List MemPlace} (hval : Value.okWide Tryd.prog w .any b2 24 v) (hd : DataW.Trod enc Tryd.prog w base sp held 24 v d p) :
    ∃ t : Dt, t.At w v ∧ (Light 24 d → t.thin reachBytes) := by
  obtain ⟨cs, rfl, _⟩ := okWide_struct Tryd.underlying24 hval
  obtain ⟨fuel, hf⟩ := hd
  obtain ⟨t, h1, h2⟩ := open_dt (enc := enc) (w := w) (base := base) (spare := sp) (held := held) fuel fuel (Nat.le_refl _) _ _ hf
  exact ⟨t, by simpa [Value.cells] using h1, h2⟩
theorem open_data {w : World} {base : Nat} {b2 : Nat} {sp : Nat → Bool} {held : Bool} {v : Value} {d : DataW H} {p : List MemPlace} (hval : Value.okWide Tryd.prog w .any b2 22 v) (hd : DataW.Trod enc Tryd.prog w base sp held 22 v d p) :
    ∃ (l : List Dt) (q : Option Addr) (cap : Nat), v = .slice q l.length cap ∧ l.length ≤ maxLen ∧ (l = [] ∨ ∃ b o, q = some ⟨b, o, none⟩ ∧ Dt.AllAt w l b o) ∧ (Light 22 d → Dt.thinAll reachBytes l) := by
  obtain ⟨a0, len, cap, rfl⟩ := okWide_slice Tryd.underlying22 hval
  obtain ⟨fuel, hf⟩ := hd
  obtain ⟨l, q, c, h1, h2, h3, h4⟩ := open_dts (enc := enc) (w := w) (base := base) (spare := sp) (held := held) (fun n hn => open_dt n n (Nat.le_refl _)) hf
  refine ⟨l, q, c, ?_, h2, h3, h4⟩
  simpa [Value.cells] using h1
theorem datum_stays {W W' : World} {v : Value} {d : DataW H} {p : List MemPlace} (h : DataW.Trod enc Tryd.prog W 0 (fun _ => true) true 24 v d p) (hb : Below W.heap.size W W') (hlt : ∀ x ∈ p, x.block < W.heap.size) :
    DataW.Trod enc Tryd.prog W' 0 (fun b => decide (b < W.heap.size)) true 24 v d p := Below.trod laidOut (by kernel_rfl) (of_decide_eq_true (by kernel_rfl)) h hb hlt
theorem data_stay {W W' : World} {v : Value} {d : DataW H} {p : List MemPlace} (h : DataW.Trod enc Tryd.prog W 0 (fun _ => true) true 22 v d p) (hb : Below W.heap.size W W') (hlt : ∀ x ∈ p, x.block < W.heap.size) :
    DataW.Trod enc Tryd.prog W' 0 (fun b => decide (b < W.heap.size)) true 22 v d p := Below.trod laidOut (by kernel_rfl) (of_decide_eq_true (by kernel_rfl)) h hb hlt
end Go.Proofs.YtogjhoipofkogaaDoor.Dat


namespace Go.Proofs.YtogjhoipofkogaaDoor.datumRight
open Go.ChangeShapes Go.WideShapes Go.ChangeAt Go.RowKit
open Go.ChangeMaps (open_string shut_string)
open Go.Proofs.YtogjhoipofkogaaDoor.Dat

set_option maxRecDepth 100000 in
theorem lifted (os : Os) (started : os.Started) (H : Type) (enc : TypeId × Value → H) :
    ReturnsInHanded {} Tryd.checked os 3 .any (fun w args => (Rows.datumRightSpec.pre enc Tryd.prog Tryd.f3 [] false w args ∧ laidMetH Tryd.prog laid3 w) ∧ sizedMet enc Tryd.prog Tryd.f3 (OpenSpec.ofChange Rows.datumRightSpec) false w args)
      (Rows.datumRightSpec.post enc Tryd.prog Tryd.f3 false true false false) := by
  refine returnsInHanded_of_change_and (C := Tryd.checked) (X := fun w _ => laidMetH Tryd.prog laid3 w) (fun _ _ _ hh h => h.of_heap hh) own started (by kernel_rfl) Tryd.func3
    (ChangeSpec.witness_shaped (enc := enc) (C := Tryd.checked) (os := os) (X := fun w _ => laidMetH Tryd.prog laid3 w) false (World.doorLaid Tryd.prog 24 os) #[.agg #[.int .i64 0, .int .i64 0, .int .i64 0, .string ⟨#[]⟩, .slice none 0 0], .string ⟨#[]⟩] 8 rfl (World.shaped_of_RefB (by kernel_rfl) (by kernel_rfl)) (by kernel_rfl) (by kernel_rfl) (by kernel_rfl) (door_met os _)) ?_
  intro W base args ds gs before hval0 hW _ _ hL _
  have hval : ∀ (j : Nat) t v, Tryd.f3.params[j]? = some t → args[j]? = some v → Value.okWide Tryd.prog W .any base t v := hval0
  have hW' := hW
  obtain ⟨p, q, hA0, hV, rfl, hfz, hnd⟩ := hW
  have hA : DataW.TrodAll enc Tryd.prog W 0 (fun _ => true) true Tryd.f3.params.toList args.toList ds p := hA0
  rw [Tryd.params3] at hA hval
  obtain ⟨v0, vs0, d0, ds0, p0, q0, hargs, rfl, rfl, h0, r0⟩ := trodAll_cons hA
  obtain ⟨v1, vs1, d1, ds1, p1, q1, rfl, rfl, rfl, h1, r1⟩ := trodAll_cons r0
  obtain ⟨rfl, rfl, rfl⟩ := trodAll_nil r1
  obtain rfl : args = #[v0, v1] := by cases args; simp_all
  obtain ⟨rfl, rfl⟩ := trodVars_none hV
  have h0k := h0
  obtain ⟨t, hat, _⟩ := open_datum (hval 0 24 v0 rfl rfl) h0
  obtain ⟨s, rfl, rfl, rfl, hs⟩ := open_string Tryd.underlying9 (hval 1 9 v1 rfl rfl) h1
  clear hA0 hval0
  simp only [List.append_nil] at hW'
  have hlt : ∀ x ∈ p0, x.block < W.heap.size := fun x hx => by simpa using hW'.lt x (by simpa using hx)
  refine (datumRight_any t v0 s W (tab_of_laid hL) hat hs).mono fun e W' ⟨he, hnx⟩ => ?_
  subst he
  refine ⟨_, rfl, _, _, _, [], p0 ++ ([] ++ []), [], hW', ?_, ?_, rfl, hnx.frame _, fun h => by cases h⟩
  · exact trodAll_cons_mk (shut_bool Tryd.underlying4 _) trodAll_mk0
  · exact trodAll_cons_mk (datum_stays h0k hnx hlt) (trodAll_cons_mk (shut_string Tryd.underlying9 hs) trodAll_mk0)

theorem row_holds : Rows.DatumRightSaid :=
  OpenClaim.holds_of_wide 3 Tryd.f3 rfl rfl rfl rfl rfl rfl rfl ⟨rfl, rfl, rfl, rfl, rfl⟩ rfl rfl rfl rfl rfl (by kernel_rfl) Tryd.func3 (by kernel_rfl)
    (of_decide_eq_true (by kernel_rfl)) (by unfold Func.isWrapper; first | (rw [if_pos (by decide +kernel)]; kernel_rfl) | (rw [if_neg (by decide +kernel)]; exact ⟨rfl, rfl⟩))
    (fun os started H enc _ => lifted os started H enc)

theorem proved : Rows.DatumRightCardSaid :=
  Claim7.holds_tied_plain_at .later [] [.data, .data, .data] true (true, "9cd326114bfcf088dd36561ad8f7ec39dec4ef692204a86c0d795625ebcebf87") false
    row_holds (fun _ h => by cases h) (by kernel_rfl) (fun _ h => by cases h) datumRight_row_tie rfl ⟨rfl, rfl⟩ (by kernel_rfl) rfl
    (fun f fn hf hfn => by
      obtain rfl : f = 3 := Option.some.inj ((show Tryd.prog.funcNamed "corbel/corbellaw02.DatumRight" = some 3 by kernel_rfl).symm.trans hf) |>.symm
      obtain rfl : fn = Tryd.f3 := (Option.some.inj (Tryd.func3.symm.trans hfn)).symm
      exact ⟨by kernel_rfl, fun j t ht => by
        rw [Tryd.params3] at ht
        have hm : t ∈ [24, 9] := by simpa using Array.mem_of_getElem? ht
        have hall : ([24, 9].all fun u => !Tryd.prog.wantsStandIn u) = true := by kernel_rfl
        exact (show Tryd.prog.wantsStandIn t = false by simpa using List.all_eq_true.1 hall t hm)⟩)
    (by kernel_rfl)
#print axioms proved
end Go.Proofs.YtogjhoipofkogaaDoor.datumRight
