/- awake: the list is made. -/
import Derived.Test.YtabofebepefbgaaDoorDatWa
namespace Go.Proofs.YtabofebepefbgaaDoor.Dat
open Go.RowKit
set_option linter.unusedVariables false
theorem at_drew {w : World} {k : Nat} {x : Obj} (h : w.heap[k]? = some x) : w.drew.heap[k]? = some x := h
theorem sz1 (w : World) (o : Obj) : (w.alloc o).heap.size = w.heap.size + 1 := by simp
theorem sz2 (w : World) (o o' : Obj) : ((w.alloc o).alloc o').heap.size = w.heap.size + 2 := by simp
theorem below2 (w : World) (o o' : Obj) : Below w.heap.size w ((w.alloc o).alloc o') := (box_below w o).alloc (by simp) o'
theorem list_oneN (g N : Nat) (W : World) (hN : W.heap.size = N) (h : W.heap[g]? = some Ab) :
    Calls Tryd.prog 30 #[.slice (some ⟨g, 0, none⟩) 1 1] W fun e w' => (∃ k n d s p len cap, e = .returned (.agg #[.int .i64 k, .int .i64 n, .int .i64 d, .string s, .slice p len cap]) ∧ lA.At (off w' (X1 g N)) (.agg #[.int .i64 k, .int .i64 n, .int .i64 d, .string s, .slice p len cap])) ∧ Below N W w' := by
  subst hN; exact list_one g W h
theorem list_threeN (g2 N g K : Nat) (w1 W : World) (hK : W.heap.size = K) (hg : w1.heap.size ≤ g2) (hN : N ≤ w1.heap.size) (hb : Below w1.heap.size w1 W) (k n d : Int) (s : ByteArray) (p : Option Addr) (len cap : Nat)
    (h : W.heap[g2]? = some (Obj.cells #[.int .i64 0, .int .i64 1, .int .i64 1, .string ⟨#[]⟩, .slice none 0 0, .int .i64 2, .int .i64 0, .int .i64 0, .string ⟨#[120]⟩, .slice none 0 0, .int .i64 k, .int .i64 n, .int .i64 d, .string s, .slice p len cap] 24)) (hu : lA.At (off w1 (X1 g N)) (.agg #[.int .i64 k, .int .i64 n, .int .i64 d, .string s, .slice p len cap])) :
    Calls Tryd.prog 30 #[.slice (some ⟨g2, 0, none⟩) 3 3] W fun e w' => (∃ k n d s p len cap, e = .returned (.agg #[.int .i64 k, .int .i64 n, .int .i64 d, .string s, .slice p len cap]) ∧ lAll.At (off w' (X2 g N w1.heap.size g2 K)) (.agg #[.int .i64 k, .int .i64 n, .int .i64 d, .string s, .slice p len cap])) ∧ Below K W w' := by
  subst hK
  have hs := hb.size
  exact list_three g2 W (X2 g N w1.heap.size g2 W.heap.size) (two_no (by omega) hs) (two_own (by omega)) k n d s p len cap h (two_on hu hb)
/-- The list is made: its box, the number's box. -/
def MadeAt (w : World) (s2 : Value) (wx : World) : Prop :=
  ∃ (B : Nat) (k n d : Int) (s : ByteArray) (p : Option Addr) (len cap : Nat), s2 = .pointer (some ⟨B, 0, none⟩) ∧ wx.heap[B]? = some (.cells #[.int .i64 k, .int .i64 n, .int .i64 d, .string s, .slice p len cap] 24 (0, 0)) ∧
      lAll.At wx (.agg #[.int .i64 k, .int .i64 n, .int .i64 d, .string s, .slice p len cap]) ∧ wx.heap[w.heap.size]? = some Ob ∧ Below w.heap.size w wx
theorem made_store {w w2 : World} {bz : Nat} {X : Nat → Bool} {k n d : Int} {s : ByteArray} {p : Option Addr} {len cap : Nat} (hz : w2.heap[bz]? = some Zb) (hX : X bz = true) (hu : lAll.At (off w2 X) (.agg #[.int .i64 k, .int .i64 n, .int .i64 d, .string s, .slice p len cap]))
    (hob : w2.heap[w.heap.size]? = some Ob) (hb : Below w.heap.size w w2) (hw : w.heap.size < bz) :
    MadeAt w (.pointer (some ⟨bz, 0, none⟩)) (((((w2.setCell ⟨bz, 0, none⟩ (.int .i64 k)).setCell ⟨bz, 1, none⟩ (.int .i64 n)).setCell ⟨bz, 2, none⟩ (.int .i64 d)).setCell ⟨bz, 3, none⟩ (.string s)).setCell ⟨bz, 4, none⟩ (.slice p len cap)) := by
  refine ⟨bz, k, n, d, s, p, len, cap, rfl, set_five hz, ?_, (set_five_other (by omega)).trans hob, set_five_below hb (by omega)⟩
  refine hu.on fun b o v hv => ?_
  obtain ⟨h0, hc⟩ := off_cell.1 hv
  have hne : b ≠ bz := by rintro rfl; rw [hX] at h0; cases h0
  unfold World.cell? at hc ⊢
  rw [set_five_other hne]; exact hc
theorem made_new {w w2 : World} {X : Nat → Bool} {k n d : Int} {s : ByteArray} {p : Option Addr} {len cap : Nat} (hu : lAll.At (off w2 X) (.agg #[.int .i64 k, .int .i64 n, .int .i64 d, .string s, .slice p len cap]))
    (hob : w2.heap[w.heap.size]? = some Ob) (hb : Below w.heap.size w w2) (hw : w.heap.size < w2.heap.size) :
    MadeAt w (.pointer (some ⟨w2.heap.size, 0, none⟩)) (w2.alloc (.cells #[.int .i64 k, .int .i64 n, .int .i64 d, .string s, .slice p len cap] 24)) := by
  refine ⟨w2.heap.size, k, n, d, s, p, len, cap, rfl, at_new _ _, ?_, at_old hob, hb.alloc (Nat.le_of_lt hw) _⟩
  refine hu.on fun b o v hv => ?_
  obtain ⟨h0, hc⟩ := off_cell.1 hv
  have hl := cell_lt hc
  have hk := (box_below w2 (.cells #[.int .i64 k, .int .i64 n, .int .i64 d, .string s, .slice p len cap] 24)).block b hl
  unfold World.cell? at hc ⊢
  rw [hk]; exact hc
theorem x2_of {g n m g2 k b : Nat} (h : X1 g n b = true) : X2 g n m g2 k b = true := by
  have h' : (b != g && decide (b < n)) = true := h
  show ((b != g && decide (b < n)) || _) = true
  rw [h']; rfl
theorem num_set {w2 : World} {a bz : Nat} {b0 b1 b2 b3 b4 : Value} (h : w2.heap[a]? = some Ob) (hne : a ≠ bz) :
    (((((w2.setCell ⟨bz, 0, none⟩ b0).setCell ⟨bz, 1, none⟩ b1).setCell ⟨bz, 2, none⟩ b2).setCell ⟨bz, 3, none⟩ b3).setCell ⟨bz, 4, none⟩ b4).cell? ⟨a, 0, none⟩ = some (.int .i64 0) ∧ (((((w2.setCell ⟨bz, 0, none⟩ b0).setCell ⟨bz, 1, none⟩ b1).setCell ⟨bz, 2, none⟩ b2).setCell ⟨bz, 3, none⟩ b3).setCell ⟨bz, 4, none⟩ b4).cell? ⟨a, 1, none⟩ = some (.int .i64 1) ∧ (((((w2.setCell ⟨bz, 0, none⟩ b0).setCell ⟨bz, 1, none⟩ b1).setCell ⟨bz, 2, none⟩ b2).setCell ⟨bz, 3, none⟩ b3).setCell ⟨bz, 4, none⟩ b4).cell? ⟨a, 2, none⟩ = some (.int .i64 1) ∧ (((((w2.setCell ⟨bz, 0, none⟩ b0).setCell ⟨bz, 1, none⟩ b1).setCell ⟨bz, 2, none⟩ b2).setCell ⟨bz, 3, none⟩ b3).setCell ⟨bz, 4, none⟩ b4).cell? ⟨a, 3, none⟩ = some (.string ⟨#[]⟩) ∧ (((((w2.setCell ⟨bz, 0, none⟩ b0).setCell ⟨bz, 1, none⟩ b1).setCell ⟨bz, 2, none⟩ b2).setCell ⟨bz, 3, none⟩ b3).setCell ⟨bz, 4, none⟩ b4).cell? ⟨a, 4, none⟩ = some (.slice none 0 0) :=
  box_cells ((set_five_other hne).trans h)
abbrev Pb : Obj := .cells #[.int .i64 0, .int .i64 1, .int .i64 1, .string ⟨#[]⟩, .slice none 0 0, .int .i64 0, .int .i64 2, .int .i64 1, .string ⟨#[]⟩, .slice none 0 0] 24 (0, 0)
theorem pair_at (w : World) : (Dt.node 6 0 0 emp [aOne, aTwo]).At (w.alloc Pb) (.agg #[.int .i64 6, .int .i64 0, .int .i64 0, .string ⟨#[]⟩, .slice (some ⟨w.heap.size, 0, none⟩) 2 2]) := by
  have hc : ∀ j v, #[Value.int .i64 0, .int .i64 1, .int .i64 1, .string ⟨#[]⟩, .slice none 0 0, .int .i64 0, .int .i64 2, .int .i64 1, .string ⟨#[]⟩, .slice none 0 0][j]? = some v → (w.alloc Pb).cell? ⟨w.heap.size, j, none⟩ = some v := fun j v hj => by rw [cell_of_block (at_new w Pb)]; exact hj
  unfold Dt.At
  refine ⟨by unfold I64; omega, by unfold I64; omega, by unfold I64; omega, by unfold maxLen; decide, by simp [maxLen], some ⟨w.heap.size, 0, none⟩, 2, rfl, Or.inr ⟨w.heap.size, 0, rfl, ?_⟩⟩
  unfold Dt.AllAt
  refine ⟨⟨_, _, _, _, _, hc 0 _ rfl, hc 1 _ rfl, hc 2 _ rfl, hc 3 _ rfl, hc 4 _ rfl, leaf_at _ _ _ _ _ (by unfold I64; omega) (by unfold I64; omega) (by unfold I64; omega) (by unfold maxLen; decide)⟩, ?_⟩
  unfold Dt.AllAt
  refine ⟨⟨_, _, _, _, _, hc 5 _ rfl, hc 6 _ rfl, hc 7 _ rfl, hc 8 _ rfl, hc 9 _ rfl, leaf_at _ _ _ _ _ (by unfold I64; omega) (by unfold I64; omega) (by unfold I64; omega) (by unfold maxLen; decide)⟩, ?_⟩
  unfold Dt.AllAt; trivial
theorem x2_mid (a m : Nat) : X2 (a + 1) (a + 2) m (m + 1) (m + 2) m = true := by simp [X2]
theorem x2_end (a m : Nat) : X2 (a + 1) (a + 2) m m (m + 2) (m + 1) = true := by simp [X2]
set_option maxHeartbeats 16000000 in
set_option maxRecDepth 100000 in
theorem awake_list (w : World) (T : World → Prop) (hL : Lasts T) (ht : T w) (R : Int → Int → Bool) (Nm : ByteArray → Bool) (NT : Int → Int → List UInt8)
    (hX : ∀ (t : Dt) (v : Value) (a : ByteArray) (w : World), t.At w v → T w → (t.right R Nm 0 = true → (t.text NT).length ≤ 140737488355328) → a.data.toList = t.full R Nm NT → Calls Tryd.prog 15 #[v] w fun e w' => e = .returned (.string a) ∧ Below w.heap.size w w')
    (g1 : (lAll.text NT).length ≤ 140737488355328) (e1 : [40, 49, 32, 120, 32, 40, 34, 97, 34, 41, 41] = lAll.full R Nm NT)
    (g2 : (Dt.text NT (.node 6 0 0 emp [aOne, aTwo])).length ≤ 140737488355328) (e2 : [40, 49, 32, 46, 32, 50, 41] = Dt.full R Nm NT (.node 6 0 0 emp [aOne, aTwo])) :
    Calls Tryd.prog 10 #[] w fun e w' => e = .returned (.bool true) ∧ Below w.heap.size w w' := by
  have HX := Lib.hid hX
  have HL := Lib.hid hL
  have HT := Lib.hid ht
  have HG1 := Lib.hid g1
  have HE1 := Lib.hid e1
  have HG2 := Lib.hid g2
  have HE2 := Lib.hid e2
  clear hX hL ht g1 e1 g2 e2
  go_enter Tryd.func10, Tryd.ntmps10
  go_wp2_with fail
  go_cut [2] from 4 to 10 (fun s2 wx => MadeAt w s2 wx)
  case first =>
    have f0 : (w.alloc Ob).cell? ⟨w.heap.size, 0, none⟩ = some (.int .i64 0) := by simp
    have f1 : (w.alloc Ob).cell? ⟨w.heap.size, 1, none⟩ = some (.int .i64 1) := by simp
    have f2 : (w.alloc Ob).cell? ⟨w.heap.size, 2, none⟩ = some (.int .i64 1) := by simp
    have f3 : (w.alloc Ob).cell? ⟨w.heap.size, 3, none⟩ = some (.string ⟨#[]⟩) := by simp
    have f4 : (w.alloc Ob).cell? ⟨w.heap.size, 4, none⟩ = some (.slice none 0 0) := by simp
    have hob := at_new w Ob
    have hs0 : (w.alloc Ob).heap.size = w.heap.size + 1 := by simp
    have hb0 := box_below w Ob
    obtain ⟨W, hW⟩ : ∃ W, w.alloc Ob = W := ⟨_, rfl⟩
    rw [hW] at f0 f1 f2 f3 f4 hob hs0 hb0
    rw [show (w.alloc (.cells #[.int .i64 0, .int .i64 1, .int .i64 1, .string ⟨#[]⟩, .slice none 0 0] 24)) = W from hW]
    have HOB := Lib.hid hob
    have HB0 := Lib.hid hb0
    have HS0 := Lib.hid hs0
    clear hW hob hb0
    go_region_held3 (fun w' => w'.cell? ⟨w.heap.size, 0, none⟩ = some (.int .i64 0) ∧ w'.cell? ⟨w.heap.size, 1, none⟩ = some (.int .i64 1) ∧ w'.cell? ⟨w.heap.size, 2, none⟩ = some (.int .i64 1) ∧ w'.cell? ⟨w.heap.size, 3, none⟩ = some (.string ⟨#[]⟩) ∧ w'.cell? ⟨w.heap.size, 4, none⟩ = some (.slice none 0 0))
      (with_reducible (first | (refine ⟨?_, ?_, ?_, ?_, ?_⟩ <;> assumption) | exact box_cells (at_drew HOB.out) | exact box_cells (at_drew HW1.out) | exact box_cells (at_drew HW2.out) | exact box_cells (at_drew (at_old HOB.out)) | exact box_cells (at_old HOB.out) | exact box_cells (at_drew (at_old (at_old HOB.out))) | exact box_cells (at_old (at_old HOB.out)) | exact box_cells (at_drew (at_old HW1.out)) | exact box_cells (at_old HW1.out) | exact box_cells (at_drew (at_old (at_old HW1.out))) | exact box_cells (at_old (at_old HW1.out)) | exact box_cells HW1.out | exact box_cells HW2.out | exact box_cells (at_old HW2.out) | exact num_set HW2.out (by omega) | exact num_set HW2.out (by have := HN1.out; omega) | exact num_set (at_old HW2.out) (by have := HN2.out; omega)))
      (first
        | (go_at_call 30
           with_reducible refine Calls.mono (list_oneN (w.heap.size + 2) (w.heap.size + 3) ((W.alloc (.cells #[.int .i64 0, .int .i64 0, .int .i64 0, .string ⟨#[]⟩, .slice none 0 0] 24)).alloc (.cells #[.int .i64 3, .int .i64 0, .int .i64 0, .string ⟨#[97]⟩, .slice none 0 0] 24)).drew ?_ ?_) ?_
           · exact ((sz2 W _ _).trans (by rw [HS0.out]))
           · exact at_drew (at_new_eq (by rw [sz1, HS0.out]))
           rintro e w1 ⟨⟨k, n, d, s, p, len, cap, rfl, hu⟩, hb⟩
           have HU := Lib.hid hu
           have HW1 := Lib.hid (show w1.heap[w.heap.size]? = some Ob from (hb.block _ (by omega)).trans (at_drew (at_old (at_old HOB.out))))
           have HB1 := Lib.hid (show Below w.heap.size w w1 from ((HB0.out).trans ((below2 W _ _).mono (by rw [HS0.out]; omega)).drew).trans (hb.mono (by omega)))
           have HN1 := Lib.hid (show w.heap.size + 3 ≤ w1.heap.size from Nat.le_trans (Nat.le_of_eq (Eq.symm ((sz2 W _ _).trans (by rw [HS0.out])))) hb.size)
           have HZ1 := Lib.hid (show w1.heap[w.heap.size + 1]? = some Zb from (hb.block _ (by omega)).trans (at_drew (at_old (at_new_eq (HS0.out).symm))))
           have HX1 := Lib.hid (show X1 (w.heap.size + 2) (w.heap.size + 3) (w.heap.size + 1) = true from by simp [X1])
           obtain ⟨k0, k1, k2, k3, k4⟩ := box_cells HW1.out
           clear hu hb)
        | (go_at_call 30
           with_reducible refine Calls.mono (list_oneN (w.heap.size + 1) (w.heap.size + 3) ((W.alloc (.cells #[.int .i64 3, .int .i64 0, .int .i64 0, .string ⟨#[97]⟩, .slice none 0 0] 24)).alloc (.cells #[.int .i64 0, .int .i64 0, .int .i64 0, .string ⟨#[]⟩, .slice none 0 0] 24)).drew ?_ ?_) ?_
           · exact ((sz2 W _ _).trans (by rw [HS0.out]))
           · exact at_drew (at_old (at_new_eq (HS0.out).symm))
           rintro e w1 ⟨⟨k, n, d, s, p, len, cap, rfl, hu⟩, hb⟩
           have HU := Lib.hid hu
           have HW1 := Lib.hid (show w1.heap[w.heap.size]? = some Ob from (hb.block _ (by omega)).trans (at_drew (at_old (at_old HOB.out))))
           have HB1 := Lib.hid (show Below w.heap.size w w1 from ((HB0.out).trans ((below2 W _ _).mono (by rw [HS0.out]; omega)).drew).trans (hb.mono (by omega)))
           have HN1 := Lib.hid (show w.heap.size + 3 ≤ w1.heap.size from Nat.le_trans (Nat.le_of_eq (Eq.symm ((sz2 W _ _).trans (by rw [HS0.out])))) hb.size)
           have HZ1 := Lib.hid (show w1.heap[w.heap.size + 2]? = some Zb from (hb.block _ (by omega)).trans (at_drew (at_new_eq (by rw [sz1, HS0.out]))))
           have HX1 := Lib.hid (show X1 (w.heap.size + 1) (w.heap.size + 3) (w.heap.size + 2) = true from by simp [X1])
           obtain ⟨k0, k1, k2, k3, k4⟩ := box_cells HW1.out
           clear hu hb)
        | (go_at_call 30
           with_reducible refine Calls.mono (list_oneN (w.heap.size + 1) (w.heap.size + 2) (W.alloc (.cells #[.int .i64 3, .int .i64 0, .int .i64 0, .string ⟨#[97]⟩, .slice none 0 0] 24)).drew ?_ ?_) ?_
           · exact ((sz1 W _).trans (by rw [HS0.out]))
           · exact at_drew (at_new_eq (HS0.out).symm)
           rintro e w1 ⟨⟨k, n, d, s, p, len, cap, rfl, hu⟩, hb⟩
           have HU := Lib.hid hu
           have HW1 := Lib.hid (show w1.heap[w.heap.size]? = some Ob from (hb.block _ (by omega)).trans (at_drew (at_old HOB.out)))
           have HB1 := Lib.hid (show Below w.heap.size w w1 from ((HB0.out).trans ((box_below W _).mono (by rw [HS0.out]; omega)).drew).trans (hb.mono (by omega)))
           have HN1 := Lib.hid (show w.heap.size + 2 ≤ w1.heap.size from Nat.le_trans (Nat.le_of_eq (Eq.symm ((sz1 W _).trans (by rw [HS0.out])))) hb.size)
           obtain ⟨k0, k1, k2, k3, k4⟩ := box_cells HW1.out
           clear hu hb)
        | (go_at_call 30
           with_reducible refine Calls.mono (list_threeN (w1.heap.size) _ _ (w1.heap.size + 1) w1 (w1.alloc _) ?_ ?_ ?_ ?_ _ _ _ _ _ _ _ ?_ HU.out) ?_
           · exact (sz1 w1 _)
           · exact (Nat.le_refl _)
           · exact HN1.out
           · exact (box_below w1 _)
           · exact (at_new w1 _)
           rintro e w2 ⟨⟨k2, n2, d2, s2, p2, len2, cap2, rfl, hu⟩, hb⟩
           have HU2 := Lib.hid hu
           have HN := HN1.out
           have HW2 := Lib.hid (show w2.heap[w.heap.size]? = some Ob from (hb.block _ (by omega)).trans (at_old HW1.out))
           have HB2 := Lib.hid (show Below w.heap.size w w2 from ((HB1.out).trans ((box_below w1 _).mono (by omega))).trans (hb.mono (by omega)))
           have HN2 := Lib.hid (show w.heap.size < w2.heap.size from by have h : w1.heap.size + 1 ≤ w2.heap.size := Nat.le_trans (Nat.le_of_eq (Eq.symm (sz1 w1 _))) hb.size; omega)
           have HZ2 := Lib.hid ((hb.block _ (by omega)).trans ((at_old HZ1.out)))
           have HX2 := Lib.hid (x2_of (m := w1.heap.size) (g2 := w1.heap.size) (k := w1.heap.size + 1) (HX1.out))
           obtain ⟨y0, y1, y2, y3, y4⟩ := box_cells HZ2.out
           have q0 := box_frozen HZ2.out 0
           have q1 := box_frozen HZ2.out 1
           have q2 := box_frozen HZ2.out 2
           have q3 := box_frozen HZ2.out 3
           have q4 := box_frozen HZ2.out 4
           obtain ⟨m0, m1, m2, m3, m4⟩ := box_cells HW2.out
           clear hu hb HN)
        | (go_at_call 30
           with_reducible refine Calls.mono (list_threeN (w1.heap.size + 1) _ _ (w1.heap.size + 2) w1 ((w1.alloc (.cells #[.int .i64 0, .int .i64 0, .int .i64 0, .string ⟨#[]⟩, .slice none 0 0] 24)).alloc _) ?_ ?_ ?_ ?_ _ _ _ _ _ _ _ ?_ HU.out) ?_
           · exact (sz2 w1 _ _)
           · exact (Nat.le_succ _)
           · exact HN1.out
           · exact (below2 w1 _ _)
           · exact (at_new_eq (sz1 w1 _).symm)
           rintro e w2 ⟨⟨k2, n2, d2, s2, p2, len2, cap2, rfl, hu⟩, hb⟩
           have HU2 := Lib.hid hu
           have HN := HN1.out
           have HW2 := Lib.hid (show w2.heap[w.heap.size]? = some Ob from (hb.block _ (by omega)).trans (at_old (at_old HW1.out)))
           have HB2 := Lib.hid (show Below w.heap.size w w2 from ((HB1.out).trans ((below2 w1 _ _).mono (by omega))).trans (hb.mono (by omega)))
           have HN2 := Lib.hid (show w.heap.size < w2.heap.size from by have h : w1.heap.size + 2 ≤ w2.heap.size := Nat.le_trans (Nat.le_of_eq (Eq.symm (sz2 w1 _ _))) hb.size; omega)
           have HZ2 := Lib.hid ((hb.block w1.heap.size (by omega)).trans ((at_old (at_new w1 Zb))))
           have HX2 := Lib.hid (x2_mid w.heap.size w1.heap.size)
           obtain ⟨y0, y1, y2, y3, y4⟩ := box_cells HZ2.out
           have q0 := box_frozen HZ2.out 0
           have q1 := box_frozen HZ2.out 1
           have q2 := box_frozen HZ2.out 2
           have q3 := box_frozen HZ2.out 3
           have q4 := box_frozen HZ2.out 4
           obtain ⟨m0, m1, m2, m3, m4⟩ := box_cells HW2.out
           clear hu hb HN)
        | (go_at_call 30
           with_reducible refine Calls.mono (list_threeN (w1.heap.size) _ _ (w1.heap.size + 2) w1 ((w1.alloc _).alloc (.cells #[.int .i64 0, .int .i64 0, .int .i64 0, .string ⟨#[]⟩, .slice none 0 0] 24)) ?_ ?_ ?_ ?_ _ _ _ _ _ _ _ ?_ HU.out) ?_
           · exact (sz2 w1 _ _)
           · exact (Nat.le_refl _)
           · exact HN1.out
           · exact (below2 w1 _ _)
           · exact (at_old (at_new w1 _))
           rintro e w2 ⟨⟨k2, n2, d2, s2, p2, len2, cap2, rfl, hu⟩, hb⟩
           have HU2 := Lib.hid hu
           have HN := HN1.out
           have HW2 := Lib.hid (show w2.heap[w.heap.size]? = some Ob from (hb.block _ (by omega)).trans (at_old (at_old HW1.out)))
           have HB2 := Lib.hid (show Below w.heap.size w w2 from ((HB1.out).trans ((below2 w1 _ _).mono (by omega))).trans (hb.mono (by omega)))
           have HN2 := Lib.hid (show w.heap.size < w2.heap.size from by have h : w1.heap.size + 2 ≤ w2.heap.size := Nat.le_trans (Nat.le_of_eq (Eq.symm (sz2 w1 _ _))) hb.size; omega)
           have HZ2 := Lib.hid ((hb.block (w1.heap.size + 1) (by omega)).trans ((at_new_eq (sz1 w1 _).symm)))
           have HX2 := Lib.hid (x2_end w.heap.size w1.heap.size)
           obtain ⟨y0, y1, y2, y3, y4⟩ := box_cells HZ2.out
           have q0 := box_frozen HZ2.out 0
           have q1 := box_frozen HZ2.out 1
           have q2 := box_frozen HZ2.out 2
           have q3 := box_frozen HZ2.out 3
           have q4 := box_frozen HZ2.out 4
           obtain ⟨m0, m1, m2, m3, m4⟩ := box_cells HW2.out
           clear hu hb HN)
        | (go_at_call 30
           with_reducible refine Calls.mono (list_threeN (w1.heap.size) _ _ (w1.heap.size + 1) w1 (w1.alloc _) ?_ ?_ ?_ ?_ _ _ _ _ _ _ _ ?_ HU.out) ?_
           · exact (sz1 w1 _)
           · exact (Nat.le_refl _)
           · exact HN1.out
           · exact (box_below w1 _)
           · exact (at_new w1 _)
           rintro e w2 ⟨⟨k2, n2, d2, s2, p2, len2, cap2, rfl, hu⟩, hb⟩
           have HU2 := Lib.hid hu
           have HN := HN1.out
           have HW2 := Lib.hid (show w2.heap[w.heap.size]? = some Ob from (hb.block _ (by omega)).trans (at_old HW1.out))
           have HB2 := Lib.hid (show Below w.heap.size w w2 from ((HB1.out).trans ((box_below w1 _).mono (by omega))).trans (hb.mono (by omega)))
           have HN2 := Lib.hid (show w.heap.size < w2.heap.size from by have h : w1.heap.size + 1 ≤ w2.heap.size := Nat.le_trans (Nat.le_of_eq (Eq.symm (sz1 w1 _))) hb.size; omega)
           obtain ⟨m0, m1, m2, m3, m4⟩ := box_cells HW2.out
           clear hu hb HN))
    all_goals (go_wp2_with fail)
    all_goals go_meet
    all_goals first
      | with_reducible exact made_store HZ2.out HX2.out HU2.out HW2.out HB2.out (by omega)
      | with_reducible exact made_store HZ2.out HX2.out HU2.out HW2.out HB2.out (by have := HN1.out; omega)
      | with_reducible exact made_new HU2.out HW2.out HB2.out HN2.out
  case rest =>
    obtain ⟨B, k, n, d, s, p, len, cap, rfl, hbx, hat, hob, hb⟩ := hcut
    obtain ⟨c0, c1, c2, c3, c4⟩ := box_cells hbx
    have HAT := Lib.hid hat
    have HOB := Lib.hid hob
    have HB := Lib.hid hb
    have hlt := lt_of_block hob
    have C1 := Lib.hid (HX.out lAll _ ⟨#[40, 49, 32, 120, 32, 40, 34, 97, 34, 41, 41]⟩ wc hat (HL.out _ _ HT.out hb) (fun _ => HG1.out) HE1.out)
    clear hbx hat hob hb
    go_wp2_with fail
    refine C1.out.mono ?_
    rintro e w3 ⟨rfl, hb3⟩
    obtain ⟨m0, m1, m2, m3, m4⟩ := box_cells (block_on hb3 HOB.out)
    have HB3 := Lib.hid ((HB.out).trans (hb3.mono (by omega)))
    have hlt3 : w.heap.size < w3.heap.size := by have := hb3.size; omega
    clear hb3
    go_wp2_with fail
    have C2 := Lib.hid (HX.out (.node 6 0 0 emp [aOne, aTwo]) (.agg #[.int .i64 6, .int .i64 0, .int .i64 0, .string ⟨#[]⟩, .slice (some ⟨w3.heap.size, 0, none⟩) 2 2]) ⟨#[40, 49, 32, 46, 32, 50, 41]⟩ (w3.alloc Pb) (pair_at w3) (HL.out _ _ HT.out ((HB3.out).alloc (Nat.le_of_lt hlt3) _)) (fun _ => HG2.out) HE2.out)
    refine C2.out.mono ?_
    rintro e w4 ⟨rfl, hb4⟩
    have HB4 := Lib.hid (((HB3.out).alloc (Nat.le_of_lt hlt3) _).trans (hb4.mono (Nat.le_trans (Nat.le_of_lt hlt3) (Nat.le_trans (Nat.le_succ _) (Nat.le_of_eq (sz1 _ _).symm)))))
    clear hb4
    go_wp2_with fail
    go_ret
    exact ⟨rfl, HB4.out⟩
end Go.Proofs.YtabofebepefbgaaDoor.Dat
