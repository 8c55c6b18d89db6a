/- The walk of the statement NumBack: one theorem a way. -/
import Derived.Test.YtfkeiokoghaciaaDoorTexts
namespace Go.Proofs.YtfkeiokoghaciaaDoor
open Go.RowKit NumPlain
set_option linter.unusedVariables false

/-- The four cells of the array that comes in. -/
def cells4 (x0 x1 x2 x3 : Int) : Array Value := #[.int .i64 x0, .int .i64 x1, .int .i64 x2, .int .i64 x3]
theorem below_box (w : World) (o : Obj) (k : Nat) : Below w.heap.size w ((w.alloc o).drewN k) := ((Below.refl w.heap.size w).alloc (Nat.le_refl _) o).trans ((below_drewN (w.alloc o) k).mono (by show w.heap.size ≤ (w.heap.push o).size; simp))
theorem below_on {w w' : World} {o : Obj} {k : Nat} (h : Below ((w.alloc o).drewN k).heap.size ((w.alloc o).drewN k) w') (j : Nat) : Below w.heap.size w (w'.drewN j) :=
  ((below_box w o k).trans (h.mono (by show w.heap.size ≤ (w.heap.push o).size; simp))).trans ((below_drewN w' j).mono (Nat.le_trans (below_box w o k).size h.size))
theorem parse_is (t : ByteArray) (ht : t.size ≤ maxLen) (x y : Int) (ok : Bool) (hp : parse t.data.toList = (x, y, ok)) (w : World) :
    Calls Tryd.prog 6 #[.string t] w fun e w' => e = .returned (.tuple #[.int .i64 x, .int .i64 y, .bool ok]) ∧ ∃ k, w' = w.drewN k := by
  have h := parse_any t ht w
  rw [hp] at h; exact h

set_option maxRecDepth 100000 in
set_option maxHeartbeats 2000000 in
theorem back_bad (x0 x1 x2 x3 : Int) (b0 : I64 x0) (b1 : I64 x1) (b2 : I64 x2) (b3 : I64 x3) (n d i m e j : Int) (cn : -2147483647 ≤ n ∧ n ≤ 2147483647) (cd : -2147483647 ≤ d ∧ d ≤ 2147483647) (ci : -2147483647 ≤ i ∧ i ≤ 2147483647) (cm : -2147483647 ≤ m ∧ m ≤ 2147483647) (ce : -2147483647 ≤ e ∧ e ≤ 2147483647) (cj : -2147483647 ≤ j ∧ j ≤ 2147483647)
    (hi : mk x0 x1 = (n, d, i))
    (hj : mk x2 x3 = (m, e, j))
    (q : (i + j != 0) = true) (w : World) (htab : Lib.TabIs Tryd.prog w "internal/strconv.uint64pow10" .u64 Lib.pow10Tab) :
    Calls Tryd.prog 4 #[.agg (cells4 x0 x1 x2 x3)] w fun e w' => e = .returned (.bool true) ∧ Below w.heap.size w w' := by
  obtain ⟨b00, b01⟩ := b0
  obtain ⟨b10, b11⟩ := b1
  obtain ⟨b20, b21⟩ := b2
  obtain ⟨b30, b31⟩ := b3
  obtain ⟨cn0, cn1⟩ := cn
  obtain ⟨cd0, cd1⟩ := cd
  obtain ⟨ci0, ci1⟩ := ci
  obtain ⟨cm0, cm1⟩ := cm
  obtain ⟨ce0, ce1⟩ := ce
  obtain ⟨cj0, cj1⟩ := cj
  have HTAB := Lib.hid htab; clear htab
  have HI := Lib.hid hi; clear hi
  have HJ := Lib.hid hj; clear hj
  unfold cells4
  go_enter Tryd.func4, Tryd.ntmps4
  go_wp2_with fail
  refine (awake_true _).mono ?_
  rintro _ w' ⟨rfl, k0, rfl⟩
  go_wp2_with fail
  refine (make_any x0 x1 _ HI.out _ (by omega) (by omega) (by omega) (by omega)).mono ?_
  rintro _ w' ⟨rfl, k1, rfl⟩
  unfold three
  go_wp2_with fail
  refine (make_any x2 x3 _ HJ.out _ (by omega) (by omega) (by omega) (by omega)).mono ?_
  rintro _ w' ⟨rfl, k2, rfl⟩
  unfold three
  go_wp2_with fail
  go_ret
  exact ⟨rfl, below_box _ _ _⟩

set_option maxRecDepth 100000 in
set_option maxHeartbeats 2000000 in
theorem back_nnl (x0 x1 x2 x3 : Int) (b0 : I64 x0) (b1 : I64 x1) (b2 : I64 x2) (b3 : I64 x3) (n d m e : Int) (cn : -2147483647 ≤ n ∧ n ≤ 2147483647) (cd : -2147483647 ≤ d ∧ d ≤ 2147483647) (cm : -2147483647 ≤ m ∧ m ≤ 2147483647) (ce : -2147483647 ≤ e ∧ e ≤ 2147483647) (t : ByteArray)
    (hi : mk x0 x1 = (n, d, 0))
    (hj : mk x2 x3 = (m, e, 0))
    (ha : addF n d m e = (0, 0, 3))
    (hc : mulF n d m e = (0, 0, 3))
    (ht : t.data.toList = textL n d)
    (hp : parse t.data.toList = (n, d, true))
    (hs : t.size ≤ maxLen)
    (hf : lessF n d m e = true)
    (hg : lessF m e n d = false)
    (qn : (n != m) = true) (w : World) (htab : Lib.TabIs Tryd.prog w "internal/strconv.uint64pow10" .u64 Lib.pow10Tab) :
    Calls Tryd.prog 4 #[.agg (cells4 x0 x1 x2 x3)] w fun e w' => e = .returned (.bool true) ∧ Below w.heap.size w w' := by
  obtain ⟨b00, b01⟩ := b0
  obtain ⟨b10, b11⟩ := b1
  obtain ⟨b20, b21⟩ := b2
  obtain ⟨b30, b31⟩ := b3
  obtain ⟨cn0, cn1⟩ := cn
  obtain ⟨cd0, cd1⟩ := cd
  obtain ⟨cm0, cm1⟩ := cm
  obtain ⟨ce0, ce1⟩ := ce
  have HTAB := Lib.hid htab; clear htab
  have HI := Lib.hid hi; clear hi
  have HJ := Lib.hid hj; clear hj
  have HA := Lib.hid ha; clear ha
  have HC := Lib.hid hc; clear hc
  have HT := Lib.hid ht; clear ht
  have HP := Lib.hid hp; clear hp
  have HS := Lib.hid hs; clear hs
  have HF := Lib.hid hf; clear hf
  have HG := Lib.hid hg; clear hg
  unfold cells4
  go_enter Tryd.func4, Tryd.ntmps4
  go_wp2_with fail
  refine (awake_true _).mono ?_
  rintro _ w' ⟨rfl, k0, rfl⟩
  go_wp2_with fail
  refine (make_any x0 x1 _ HI.out _ (by omega) (by omega) (by omega) (by omega)).mono ?_
  rintro _ w' ⟨rfl, k1, rfl⟩
  unfold three
  go_wp2_with fail
  refine (make_any x2 x3 _ HJ.out _ (by omega) (by omega) (by omega) (by omega)).mono ?_
  rintro _ w' ⟨rfl, k2, rfl⟩
  unfold three
  go_wp2_with fail
  refine (add_any n d m e _ HA.out _ ⟨by omega, by omega⟩ ⟨by omega, by omega⟩ ⟨by omega, by omega⟩ ⟨by omega, by omega⟩).mono ?_
  rintro _ w' ⟨rfl, k3, rfl⟩
  unfold three
  go_wp2_with fail
  refine (mul_any n d m e _ HC.out _ ⟨by omega, by omega⟩ ⟨by omega, by omega⟩ ⟨by omega, by omega⟩ ⟨by omega, by omega⟩).mono ?_
  rintro _ w' ⟨rfl, k5, rfl⟩
  unfold three
  go_wp2_with fail
  refine (text_any n d ⟨by omega, by omega⟩ ⟨by omega, by omega⟩ t HT.out _ (tab_on HTAB.out (below_box _ _ _))).mono ?_
  rintro _ w1 ⟨rfl, hb1⟩
  have HB1 := Lib.hid (below_on hb1); clear hb1
  go_wp2_with fail
  refine (parse_is t HS.out _ _ _ HP.out _).mono ?_
  rintro _ w' ⟨rfl, k7, rfl⟩
  go_wp2_with fail
  refine (less_any n d m e _ HF.out _ ⟨by omega, by omega⟩ ⟨by omega, by omega⟩ ⟨by omega, by omega⟩ ⟨by omega, by omega⟩).mono ?_
  rintro _ w' ⟨rfl, rfl⟩
  go_wp2_with fail
  refine (less_any m e n d _ HG.out _ ⟨by omega, by omega⟩ ⟨by omega, by omega⟩ ⟨by omega, by omega⟩ ⟨by omega, by omega⟩).mono ?_
  rintro _ w' ⟨rfl, rfl⟩
  go_wp2_with fail
  go_ret
  exact ⟨rfl, HB1.out _⟩

set_option maxRecDepth 100000 in
set_option maxHeartbeats 2000000 in
theorem back_nnk (x0 x1 x2 x3 : Int) (b0 : I64 x0) (b1 : I64 x1) (b2 : I64 x2) (b3 : I64 x3) (n d e : Int) (cn : -2147483647 ≤ n ∧ n ≤ 2147483647) (cd : -2147483647 ≤ d ∧ d ≤ 2147483647) (ce : -2147483647 ≤ e ∧ e ≤ 2147483647) (t : ByteArray)
    (hi : mk x0 x1 = (n, d, 0))
    (hj : mk x2 x3 = (n, e, 0))
    (ha : addF n d n e = (0, 0, 3))
    (hc : mulF n d n e = (0, 0, 3))
    (ht : t.data.toList = textL n d)
    (hp : parse t.data.toList = (n, d, true))
    (hs : t.size ≤ maxLen)
    (hf : lessF n d n e = true)
    (hg : lessF n e n d = false)
    (qd : (d != e) = true) (w : World) (htab : Lib.TabIs Tryd.prog w "internal/strconv.uint64pow10" .u64 Lib.pow10Tab) :
    Calls Tryd.prog 4 #[.agg (cells4 x0 x1 x2 x3)] w fun e w' => e = .returned (.bool true) ∧ Below w.heap.size w w' := by
  obtain ⟨b00, b01⟩ := b0
  obtain ⟨b10, b11⟩ := b1
  obtain ⟨b20, b21⟩ := b2
  obtain ⟨b30, b31⟩ := b3
  obtain ⟨cn0, cn1⟩ := cn
  obtain ⟨cd0, cd1⟩ := cd
  obtain ⟨ce0, ce1⟩ := ce
  have HTAB := Lib.hid htab; clear htab
  have HI := Lib.hid hi; clear hi
  have HJ := Lib.hid hj; clear hj
  have HA := Lib.hid ha; clear ha
  have HC := Lib.hid hc; clear hc
  have HT := Lib.hid ht; clear ht
  have HP := Lib.hid hp; clear hp
  have HS := Lib.hid hs; clear hs
  have HF := Lib.hid hf; clear hf
  have HG := Lib.hid hg; clear hg
  unfold cells4
  go_enter Tryd.func4, Tryd.ntmps4
  go_wp2_with fail
  refine (awake_true _).mono ?_
  rintro _ w' ⟨rfl, k0, rfl⟩
  go_wp2_with fail
  refine (make_any x0 x1 _ HI.out _ (by omega) (by omega) (by omega) (by omega)).mono ?_
  rintro _ w' ⟨rfl, k1, rfl⟩
  unfold three
  go_wp2_with fail
  refine (make_any x2 x3 _ HJ.out _ (by omega) (by omega) (by omega) (by omega)).mono ?_
  rintro _ w' ⟨rfl, k2, rfl⟩
  unfold three
  go_wp2_with fail
  refine (add_any n d n e _ HA.out _ ⟨by omega, by omega⟩ ⟨by omega, by omega⟩ ⟨by omega, by omega⟩ ⟨by omega, by omega⟩).mono ?_
  rintro _ w' ⟨rfl, k3, rfl⟩
  unfold three
  go_wp2_with fail
  refine (mul_any n d n e _ HC.out _ ⟨by omega, by omega⟩ ⟨by omega, by omega⟩ ⟨by omega, by omega⟩ ⟨by omega, by omega⟩).mono ?_
  rintro _ w' ⟨rfl, k5, rfl⟩
  unfold three
  go_wp2_with fail
  refine (text_any n d ⟨by omega, by omega⟩ ⟨by omega, by omega⟩ t HT.out _ (tab_on HTAB.out (below_box _ _ _))).mono ?_
  rintro _ w1 ⟨rfl, hb1⟩
  have HB1 := Lib.hid (below_on hb1); clear hb1
  go_wp2_with fail
  refine (parse_is t HS.out _ _ _ HP.out _).mono ?_
  rintro _ w' ⟨rfl, k7, rfl⟩
  go_wp2_with fail
  refine (less_any n d n e _ HF.out _ ⟨by omega, by omega⟩ ⟨by omega, by omega⟩ ⟨by omega, by omega⟩ ⟨by omega, by omega⟩).mono ?_
  rintro _ w' ⟨rfl, rfl⟩
  go_wp2_with fail
  refine (less_any n e n d _ HG.out _ ⟨by omega, by omega⟩ ⟨by omega, by omega⟩ ⟨by omega, by omega⟩ ⟨by omega, by omega⟩).mono ?_
  rintro _ w' ⟨rfl, rfl⟩
  go_wp2_with fail
  go_ret
  exact ⟨rfl, HB1.out _⟩

set_option maxRecDepth 100000 in
set_option maxHeartbeats 2000000 in
theorem back_nne (x0 x1 x2 x3 : Int) (b0 : I64 x0) (b1 : I64 x1) (b2 : I64 x2) (b3 : I64 x3) (n d : Int) (cn : -2147483647 ≤ n ∧ n ≤ 2147483647) (cd : -2147483647 ≤ d ∧ d ≤ 2147483647) (t : ByteArray)
    (hi : mk x0 x1 = (n, d, 0))
    (hj : mk x2 x3 = (n, d, 0))
    (ha : addF n d n d = (0, 0, 3))
    (hc : mulF n d n d = (0, 0, 3))
    (ht : t.data.toList = textL n d)
    (hp : parse t.data.toList = (n, d, true))
    (hs : t.size ≤ maxLen)
    (hf : lessF n d n d = false)
    (hg : lessF n d n d = false) (w : World) (htab : Lib.TabIs Tryd.prog w "internal/strconv.uint64pow10" .u64 Lib.pow10Tab) :
    Calls Tryd.prog 4 #[.agg (cells4 x0 x1 x2 x3)] w fun e w' => e = .returned (.bool true) ∧ Below w.heap.size w w' := by
  obtain ⟨b00, b01⟩ := b0
  obtain ⟨b10, b11⟩ := b1
  obtain ⟨b20, b21⟩ := b2
  obtain ⟨b30, b31⟩ := b3
  obtain ⟨cn0, cn1⟩ := cn
  obtain ⟨cd0, cd1⟩ := cd
  have HTAB := Lib.hid htab; clear htab
  have HI := Lib.hid hi; clear hi
  have HJ := Lib.hid hj; clear hj
  have HA := Lib.hid ha; clear ha
  have HC := Lib.hid hc; clear hc
  have HT := Lib.hid ht; clear ht
  have HP := Lib.hid hp; clear hp
  have HS := Lib.hid hs; clear hs
  have HF := Lib.hid hf; clear hf
  have HG := Lib.hid hg; clear hg
  unfold cells4
  go_enter Tryd.func4, Tryd.ntmps4
  go_wp2_with fail
  refine (awake_true _).mono ?_
  rintro _ w' ⟨rfl, k0, rfl⟩
  go_wp2_with fail
  refine (make_any x0 x1 _ HI.out _ (by omega) (by omega) (by omega) (by omega)).mono ?_
  rintro _ w' ⟨rfl, k1, rfl⟩
  unfold three
  go_wp2_with fail
  refine (make_any x2 x3 _ HJ.out _ (by omega) (by omega) (by omega) (by omega)).mono ?_
  rintro _ w' ⟨rfl, k2, rfl⟩
  unfold three
  go_wp2_with fail
  refine (add_any n d n d _ HA.out _ ⟨by omega, by omega⟩ ⟨by omega, by omega⟩ ⟨by omega, by omega⟩ ⟨by omega, by omega⟩).mono ?_
  rintro _ w' ⟨rfl, k3, rfl⟩
  unfold three
  go_wp2_with fail
  refine (mul_any n d n d _ HC.out _ ⟨by omega, by omega⟩ ⟨by omega, by omega⟩ ⟨by omega, by omega⟩ ⟨by omega, by omega⟩).mono ?_
  rintro _ w' ⟨rfl, k5, rfl⟩
  unfold three
  go_wp2_with fail
  refine (text_any n d ⟨by omega, by omega⟩ ⟨by omega, by omega⟩ t HT.out _ (tab_on HTAB.out (below_box _ _ _))).mono ?_
  rintro _ w1 ⟨rfl, hb1⟩
  have HB1 := Lib.hid (below_on hb1); clear hb1
  go_wp2_with fail
  refine (parse_is t HS.out _ _ _ HP.out _).mono ?_
  rintro _ w' ⟨rfl, k7, rfl⟩
  go_wp2_with fail
  refine (less_any n d n d _ HF.out _ ⟨by omega, by omega⟩ ⟨by omega, by omega⟩ ⟨by omega, by omega⟩ ⟨by omega, by omega⟩).mono ?_
  rintro _ w' ⟨rfl, rfl⟩
  go_wp2_with fail
  refine (less_any n d n d _ HG.out _ ⟨by omega, by omega⟩ ⟨by omega, by omega⟩ ⟨by omega, by omega⟩ ⟨by omega, by omega⟩).mono ?_
  rintro _ w' ⟨rfl, rfl⟩
  go_wp2_with fail
  go_ret
  exact ⟨rfl, HB1.out _⟩

set_option maxRecDepth 100000 in
set_option maxHeartbeats 2000000 in
theorem back_nng (x0 x1 x2 x3 : Int) (b0 : I64 x0) (b1 : I64 x1) (b2 : I64 x2) (b3 : I64 x3) (n d m e : Int) (cn : -2147483647 ≤ n ∧ n ≤ 2147483647) (cd : -2147483647 ≤ d ∧ d ≤ 2147483647) (cm : -2147483647 ≤ m ∧ m ≤ 2147483647) (ce : -2147483647 ≤ e ∧ e ≤ 2147483647) (t : ByteArray)
    (hi : mk x0 x1 = (n, d, 0))
    (hj : mk x2 x3 = (m, e, 0))
    (ha : addF n d m e = (0, 0, 3))
    (hc : mulF n d m e = (0, 0, 3))
    (ht : t.data.toList = textL n d)
    (hp : parse t.data.toList = (n, d, true))
    (hs : t.size ≤ maxLen)
    (hf : lessF n d m e = false)
    (hg : lessF m e n d = true) (w : World) (htab : Lib.TabIs Tryd.prog w "internal/strconv.uint64pow10" .u64 Lib.pow10Tab) :
    Calls Tryd.prog 4 #[.agg (cells4 x0 x1 x2 x3)] w fun e w' => e = .returned (.bool true) ∧ Below w.heap.size w w' := by
  obtain ⟨b00, b01⟩ := b0
  obtain ⟨b10, b11⟩ := b1
  obtain ⟨b20, b21⟩ := b2
  obtain ⟨b30, b31⟩ := b3
  obtain ⟨cn0, cn1⟩ := cn
  obtain ⟨cd0, cd1⟩ := cd
  obtain ⟨cm0, cm1⟩ := cm
  obtain ⟨ce0, ce1⟩ := ce
  have HTAB := Lib.hid htab; clear htab
  have HI := Lib.hid hi; clear hi
  have HJ := Lib.hid hj; clear hj
  have HA := Lib.hid ha; clear ha
  have HC := Lib.hid hc; clear hc
  have HT := Lib.hid ht; clear ht
  have HP := Lib.hid hp; clear hp
  have HS := Lib.hid hs; clear hs
  have HF := Lib.hid hf; clear hf
  have HG := Lib.hid hg; clear hg
  unfold cells4
  go_enter Tryd.func4, Tryd.ntmps4
  go_wp2_with fail
  refine (awake_true _).mono ?_
  rintro _ w' ⟨rfl, k0, rfl⟩
  go_wp2_with fail
  refine (make_any x0 x1 _ HI.out _ (by omega) (by omega) (by omega) (by omega)).mono ?_
  rintro _ w' ⟨rfl, k1, rfl⟩
  unfold three
  go_wp2_with fail
  refine (make_any x2 x3 _ HJ.out _ (by omega) (by omega) (by omega) (by omega)).mono ?_
  rintro _ w' ⟨rfl, k2, rfl⟩
  unfold three
  go_wp2_with fail
  refine (add_any n d m e _ HA.out _ ⟨by omega, by omega⟩ ⟨by omega, by omega⟩ ⟨by omega, by omega⟩ ⟨by omega, by omega⟩).mono ?_
  rintro _ w' ⟨rfl, k3, rfl⟩
  unfold three
  go_wp2_with fail
  refine (mul_any n d m e _ HC.out _ ⟨by omega, by omega⟩ ⟨by omega, by omega⟩ ⟨by omega, by omega⟩ ⟨by omega, by omega⟩).mono ?_
  rintro _ w' ⟨rfl, k5, rfl⟩
  unfold three
  go_wp2_with fail
  refine (text_any n d ⟨by omega, by omega⟩ ⟨by omega, by omega⟩ t HT.out _ (tab_on HTAB.out (below_box _ _ _))).mono ?_
  rintro _ w1 ⟨rfl, hb1⟩
  have HB1 := Lib.hid (below_on hb1); clear hb1
  go_wp2_with fail
  refine (parse_is t HS.out _ _ _ HP.out _).mono ?_
  rintro _ w' ⟨rfl, k7, rfl⟩
  go_wp2_with fail
  refine (less_any n d m e _ HF.out _ ⟨by omega, by omega⟩ ⟨by omega, by omega⟩ ⟨by omega, by omega⟩ ⟨by omega, by omega⟩).mono ?_
  rintro _ w' ⟨rfl, rfl⟩
  go_wp2_with fail
  refine (less_any m e n d _ HG.out _ ⟨by omega, by omega⟩ ⟨by omega, by omega⟩ ⟨by omega, by omega⟩ ⟨by omega, by omega⟩).mono ?_
  rintro _ w' ⟨rfl, rfl⟩
  go_wp2_with fail
  go_ret
  exact ⟨rfl, HB1.out _⟩

set_option maxRecDepth 100000 in
set_option maxHeartbeats 2000000 in
theorem back_nzl (x0 x1 x2 x3 : Int) (b0 : I64 x0) (b1 : I64 x1) (b2 : I64 x2) (b3 : I64 x3) (n d e p1 p2 : Int) (cn : -2147483647 ≤ n ∧ n ≤ 2147483647) (cd : -2147483647 ≤ d ∧ d ≤ 2147483647) (ce : -2147483647 ≤ e ∧ e ≤ 2147483647) (cp1 : -2147483647 ≤ p1 ∧ p1 ≤ 2147483647) (cp2 : -2147483647 ≤ p2 ∧ p2 ≤ 2147483647) (t : ByteArray)
    (hi : mk x0 x1 = (n, d, 0))
    (hj : mk x2 x3 = (0, e, 0))
    (ha : addF n d 0 e = (0, 0, 3))
    (hc : mulF n d 0 e = (p1, p2, 0))
    (ht : t.data.toList = textL n d)
    (hp : parse t.data.toList = (n, d, true))
    (hs : t.size ≤ maxLen)
    (hf : lessF n d 0 e = true)
    (hg : lessF 0 e n d = false)
    (qn : (n != 0) = true) (w : World) (htab : Lib.TabIs Tryd.prog w "internal/strconv.uint64pow10" .u64 Lib.pow10Tab) :
    Calls Tryd.prog 4 #[.agg (cells4 x0 x1 x2 x3)] w fun e w' => e = .returned (.bool true) ∧ Below w.heap.size w w' := by
  obtain ⟨b00, b01⟩ := b0
  obtain ⟨b10, b11⟩ := b1
  obtain ⟨b20, b21⟩ := b2
  obtain ⟨b30, b31⟩ := b3
  obtain ⟨cn0, cn1⟩ := cn
  obtain ⟨cd0, cd1⟩ := cd
  obtain ⟨ce0, ce1⟩ := ce
  obtain ⟨cp10, cp11⟩ := cp1
  obtain ⟨cp20, cp21⟩ := cp2
  have HTAB := Lib.hid htab; clear htab
  have HI := Lib.hid hi; clear hi
  have HJ := Lib.hid hj; clear hj
  have HA := Lib.hid ha; clear ha
  have HC := Lib.hid hc; clear hc
  have HT := Lib.hid ht; clear ht
  have HP := Lib.hid hp; clear hp
  have HS := Lib.hid hs; clear hs
  have HF := Lib.hid hf; clear hf
  have HG := Lib.hid hg; clear hg
  unfold cells4
  go_enter Tryd.func4, Tryd.ntmps4
  go_wp2_with fail
  refine (awake_true _).mono ?_
  rintro _ w' ⟨rfl, k0, rfl⟩
  go_wp2_with fail
  refine (make_any x0 x1 _ HI.out _ (by omega) (by omega) (by omega) (by omega)).mono ?_
  rintro _ w' ⟨rfl, k1, rfl⟩
  unfold three
  go_wp2_with fail
  refine (make_any x2 x3 _ HJ.out _ (by omega) (by omega) (by omega) (by omega)).mono ?_
  rintro _ w' ⟨rfl, k2, rfl⟩
  unfold three
  go_wp2_with fail
  refine (add_any n d 0 e _ HA.out _ ⟨by omega, by omega⟩ ⟨by omega, by omega⟩ ⟨by omega, by omega⟩ ⟨by omega, by omega⟩).mono ?_
  rintro _ w' ⟨rfl, k3, rfl⟩
  unfold three
  go_wp2_with fail
  refine (mul_any n d 0 e _ HC.out _ ⟨by omega, by omega⟩ ⟨by omega, by omega⟩ ⟨by omega, by omega⟩ ⟨by omega, by omega⟩).mono ?_
  rintro _ w' ⟨rfl, k5, rfl⟩
  unfold three
  go_wp2_with fail
  refine (text_any n d ⟨by omega, by omega⟩ ⟨by omega, by omega⟩ t HT.out _ (tab_on HTAB.out (below_box _ _ _))).mono ?_
  rintro _ w1 ⟨rfl, hb1⟩
  have HB1 := Lib.hid (below_on hb1); clear hb1
  go_wp2_with fail
  refine (parse_is t HS.out _ _ _ HP.out _).mono ?_
  rintro _ w' ⟨rfl, k7, rfl⟩
  go_wp2_with fail
  refine (less_any n d 0 e _ HF.out _ ⟨by omega, by omega⟩ ⟨by omega, by omega⟩ ⟨by omega, by omega⟩ ⟨by omega, by omega⟩).mono ?_
  rintro _ w' ⟨rfl, rfl⟩
  go_wp2_with fail
  refine (less_any 0 e n d _ HG.out _ ⟨by omega, by omega⟩ ⟨by omega, by omega⟩ ⟨by omega, by omega⟩ ⟨by omega, by omega⟩).mono ?_
  rintro _ w' ⟨rfl, rfl⟩
  go_wp2_with fail
  go_ret
  exact ⟨rfl, HB1.out _⟩

set_option maxRecDepth 100000 in
set_option maxHeartbeats 2000000 in
theorem back_nzk (x0 x1 x2 x3 : Int) (b0 : I64 x0) (b1 : I64 x1) (b2 : I64 x2) (b3 : I64 x3) (d e p1 p2 : Int) (cd : -2147483647 ≤ d ∧ d ≤ 2147483647) (ce : -2147483647 ≤ e ∧ e ≤ 2147483647) (cp1 : -2147483647 ≤ p1 ∧ p1 ≤ 2147483647) (cp2 : -2147483647 ≤ p2 ∧ p2 ≤ 2147483647) (t : ByteArray)
    (hi : mk x0 x1 = (0, d, 0))
    (hj : mk x2 x3 = (0, e, 0))
    (ha : addF 0 d 0 e = (0, 0, 3))
    (hc : mulF 0 d 0 e = (p1, p2, 0))
    (ht : t.data.toList = textL 0 d)
    (hp : parse t.data.toList = (0, d, true))
    (hs : t.size ≤ maxLen)
    (hf : lessF 0 d 0 e = true)
    (hg : lessF 0 e 0 d = false)
    (qd : (d != e) = true) (w : World) (htab : Lib.TabIs Tryd.prog w "internal/strconv.uint64pow10" .u64 Lib.pow10Tab) :
    Calls Tryd.prog 4 #[.agg (cells4 x0 x1 x2 x3)] w fun e w' => e = .returned (.bool true) ∧ Below w.heap.size w w' := by
  obtain ⟨b00, b01⟩ := b0
  obtain ⟨b10, b11⟩ := b1
  obtain ⟨b20, b21⟩ := b2
  obtain ⟨b30, b31⟩ := b3
  obtain ⟨cd0, cd1⟩ := cd
  obtain ⟨ce0, ce1⟩ := ce
  obtain ⟨cp10, cp11⟩ := cp1
  obtain ⟨cp20, cp21⟩ := cp2
  have HTAB := Lib.hid htab; clear htab
  have HI := Lib.hid hi; clear hi
  have HJ := Lib.hid hj; clear hj
  have HA := Lib.hid ha; clear ha
  have HC := Lib.hid hc; clear hc
  have HT := Lib.hid ht; clear ht
  have HP := Lib.hid hp; clear hp
  have HS := Lib.hid hs; clear hs
  have HF := Lib.hid hf; clear hf
  have HG := Lib.hid hg; clear hg
  unfold cells4
  go_enter Tryd.func4, Tryd.ntmps4
  go_wp2_with fail
  refine (awake_true _).mono ?_
  rintro _ w' ⟨rfl, k0, rfl⟩
  go_wp2_with fail
  refine (make_any x0 x1 _ HI.out _ (by omega) (by omega) (by omega) (by omega)).mono ?_
  rintro _ w' ⟨rfl, k1, rfl⟩
  unfold three
  go_wp2_with fail
  refine (make_any x2 x3 _ HJ.out _ (by omega) (by omega) (by omega) (by omega)).mono ?_
  rintro _ w' ⟨rfl, k2, rfl⟩
  unfold three
  go_wp2_with fail
  refine (add_any 0 d 0 e _ HA.out _ ⟨by omega, by omega⟩ ⟨by omega, by omega⟩ ⟨by omega, by omega⟩ ⟨by omega, by omega⟩).mono ?_
  rintro _ w' ⟨rfl, k3, rfl⟩
  unfold three
  go_wp2_with fail
  refine (mul_any 0 d 0 e _ HC.out _ ⟨by omega, by omega⟩ ⟨by omega, by omega⟩ ⟨by omega, by omega⟩ ⟨by omega, by omega⟩).mono ?_
  rintro _ w' ⟨rfl, k5, rfl⟩
  unfold three
  go_wp2_with fail
  refine (text_any 0 d ⟨by omega, by omega⟩ ⟨by omega, by omega⟩ t HT.out _ (tab_on HTAB.out (below_box _ _ _))).mono ?_
  rintro _ w1 ⟨rfl, hb1⟩
  have HB1 := Lib.hid (below_on hb1); clear hb1
  go_wp2_with fail
  refine (parse_is t HS.out _ _ _ HP.out _).mono ?_
  rintro _ w' ⟨rfl, k7, rfl⟩
  go_wp2_with fail
  refine (less_any 0 d 0 e _ HF.out _ ⟨by omega, by omega⟩ ⟨by omega, by omega⟩ ⟨by omega, by omega⟩ ⟨by omega, by omega⟩).mono ?_
  rintro _ w' ⟨rfl, rfl⟩
  go_wp2_with fail
  refine (less_any 0 e 0 d _ HG.out _ ⟨by omega, by omega⟩ ⟨by omega, by omega⟩ ⟨by omega, by omega⟩ ⟨by omega, by omega⟩).mono ?_
  rintro _ w' ⟨rfl, rfl⟩
  go_wp2_with fail
  go_ret
  exact ⟨rfl, HB1.out _⟩

set_option maxRecDepth 100000 in
set_option maxHeartbeats 2000000 in
theorem back_nze (x0 x1 x2 x3 : Int) (b0 : I64 x0) (b1 : I64 x1) (b2 : I64 x2) (b3 : I64 x3) (d p1 p2 : Int) (cd : -2147483647 ≤ d ∧ d ≤ 2147483647) (cp1 : -2147483647 ≤ p1 ∧ p1 ≤ 2147483647) (cp2 : -2147483647 ≤ p2 ∧ p2 ≤ 2147483647) (t : ByteArray)
    (hi : mk x0 x1 = (0, d, 0))
    (hj : mk x2 x3 = (0, d, 0))
    (ha : addF 0 d 0 d = (0, 0, 3))
    (hc : mulF 0 d 0 d = (p1, p2, 0))
    (ht : t.data.toList = textL 0 d)
    (hp : parse t.data.toList = (0, d, true))
    (hs : t.size ≤ maxLen)
    (hf : lessF 0 d 0 d = false)
    (hg : lessF 0 d 0 d = false) (w : World) (htab : Lib.TabIs Tryd.prog w "internal/strconv.uint64pow10" .u64 Lib.pow10Tab) :
    Calls Tryd.prog 4 #[.agg (cells4 x0 x1 x2 x3)] w fun e w' => e = .returned (.bool true) ∧ Below w.heap.size w w' := by
  obtain ⟨b00, b01⟩ := b0
  obtain ⟨b10, b11⟩ := b1
  obtain ⟨b20, b21⟩ := b2
  obtain ⟨b30, b31⟩ := b3
  obtain ⟨cd0, cd1⟩ := cd
  obtain ⟨cp10, cp11⟩ := cp1
  obtain ⟨cp20, cp21⟩ := cp2
  have HTAB := Lib.hid htab; clear htab
  have HI := Lib.hid hi; clear hi
  have HJ := Lib.hid hj; clear hj
  have HA := Lib.hid ha; clear ha
  have HC := Lib.hid hc; clear hc
  have HT := Lib.hid ht; clear ht
  have HP := Lib.hid hp; clear hp
  have HS := Lib.hid hs; clear hs
  have HF := Lib.hid hf; clear hf
  have HG := Lib.hid hg; clear hg
  unfold cells4
  go_enter Tryd.func4, Tryd.ntmps4
  go_wp2_with fail
  refine (awake_true _).mono ?_
  rintro _ w' ⟨rfl, k0, rfl⟩
  go_wp2_with fail
  refine (make_any x0 x1 _ HI.out _ (by omega) (by omega) (by omega) (by omega)).mono ?_
  rintro _ w' ⟨rfl, k1, rfl⟩
  unfold three
  go_wp2_with fail
  refine (make_any x2 x3 _ HJ.out _ (by omega) (by omega) (by omega) (by omega)).mono ?_
  rintro _ w' ⟨rfl, k2, rfl⟩
  unfold three
  go_wp2_with fail
  refine (add_any 0 d 0 d _ HA.out _ ⟨by omega, by omega⟩ ⟨by omega, by omega⟩ ⟨by omega, by omega⟩ ⟨by omega, by omega⟩).mono ?_
  rintro _ w' ⟨rfl, k3, rfl⟩
  unfold three
  go_wp2_with fail
  refine (mul_any 0 d 0 d _ HC.out _ ⟨by omega, by omega⟩ ⟨by omega, by omega⟩ ⟨by omega, by omega⟩ ⟨by omega, by omega⟩).mono ?_
  rintro _ w' ⟨rfl, k5, rfl⟩
  unfold three
  go_wp2_with fail
  refine (text_any 0 d ⟨by omega, by omega⟩ ⟨by omega, by omega⟩ t HT.out _ (tab_on HTAB.out (below_box _ _ _))).mono ?_
  rintro _ w1 ⟨rfl, hb1⟩
  have HB1 := Lib.hid (below_on hb1); clear hb1
  go_wp2_with fail
  refine (parse_is t HS.out _ _ _ HP.out _).mono ?_
  rintro _ w' ⟨rfl, k7, rfl⟩
  go_wp2_with fail
  refine (less_any 0 d 0 d _ HF.out _ ⟨by omega, by omega⟩ ⟨by omega, by omega⟩ ⟨by omega, by omega⟩ ⟨by omega, by omega⟩).mono ?_
  rintro _ w' ⟨rfl, rfl⟩
  go_wp2_with fail
  refine (less_any 0 d 0 d _ HG.out _ ⟨by omega, by omega⟩ ⟨by omega, by omega⟩ ⟨by omega, by omega⟩ ⟨by omega, by omega⟩).mono ?_
  rintro _ w' ⟨rfl, rfl⟩
  go_wp2_with fail
  go_ret
  exact ⟨rfl, HB1.out _⟩

set_option maxRecDepth 100000 in
set_option maxHeartbeats 2000000 in
theorem back_nzg (x0 x1 x2 x3 : Int) (b0 : I64 x0) (b1 : I64 x1) (b2 : I64 x2) (b3 : I64 x3) (n d e p1 p2 : Int) (cn : -2147483647 ≤ n ∧ n ≤ 2147483647) (cd : -2147483647 ≤ d ∧ d ≤ 2147483647) (ce : -2147483647 ≤ e ∧ e ≤ 2147483647) (cp1 : -2147483647 ≤ p1 ∧ p1 ≤ 2147483647) (cp2 : -2147483647 ≤ p2 ∧ p2 ≤ 2147483647) (t : ByteArray)
    (hi : mk x0 x1 = (n, d, 0))
    (hj : mk x2 x3 = (0, e, 0))
    (ha : addF n d 0 e = (0, 0, 3))
    (hc : mulF n d 0 e = (p1, p2, 0))
    (ht : t.data.toList = textL n d)
    (hp : parse t.data.toList = (n, d, true))
    (hs : t.size ≤ maxLen)
    (hf : lessF n d 0 e = false)
    (hg : lessF 0 e n d = true) (w : World) (htab : Lib.TabIs Tryd.prog w "internal/strconv.uint64pow10" .u64 Lib.pow10Tab) :
    Calls Tryd.prog 4 #[.agg (cells4 x0 x1 x2 x3)] w fun e w' => e = .returned (.bool true) ∧ Below w.heap.size w w' := by
  obtain ⟨b00, b01⟩ := b0
  obtain ⟨b10, b11⟩ := b1
  obtain ⟨b20, b21⟩ := b2
  obtain ⟨b30, b31⟩ := b3
  obtain ⟨cn0, cn1⟩ := cn
  obtain ⟨cd0, cd1⟩ := cd
  obtain ⟨ce0, ce1⟩ := ce
  obtain ⟨cp10, cp11⟩ := cp1
  obtain ⟨cp20, cp21⟩ := cp2
  have HTAB := Lib.hid htab; clear htab
  have HI := Lib.hid hi; clear hi
  have HJ := Lib.hid hj; clear hj
  have HA := Lib.hid ha; clear ha
  have HC := Lib.hid hc; clear hc
  have HT := Lib.hid ht; clear ht
  have HP := Lib.hid hp; clear hp
  have HS := Lib.hid hs; clear hs
  have HF := Lib.hid hf; clear hf
  have HG := Lib.hid hg; clear hg
  unfold cells4
  go_enter Tryd.func4, Tryd.ntmps4
  go_wp2_with fail
  refine (awake_true _).mono ?_
  rintro _ w' ⟨rfl, k0, rfl⟩
  go_wp2_with fail
  refine (make_any x0 x1 _ HI.out _ (by omega) (by omega) (by omega) (by omega)).mono ?_
  rintro _ w' ⟨rfl, k1, rfl⟩
  unfold three
  go_wp2_with fail
  refine (make_any x2 x3 _ HJ.out _ (by omega) (by omega) (by omega) (by omega)).mono ?_
  rintro _ w' ⟨rfl, k2, rfl⟩
  unfold three
  go_wp2_with fail
  refine (add_any n d 0 e _ HA.out _ ⟨by omega, by omega⟩ ⟨by omega, by omega⟩ ⟨by omega, by omega⟩ ⟨by omega, by omega⟩).mono ?_
  rintro _ w' ⟨rfl, k3, rfl⟩
  unfold three
  go_wp2_with fail
  refine (mul_any n d 0 e _ HC.out _ ⟨by omega, by omega⟩ ⟨by omega, by omega⟩ ⟨by omega, by omega⟩ ⟨by omega, by omega⟩).mono ?_
  rintro _ w' ⟨rfl, k5, rfl⟩
  unfold three
  go_wp2_with fail
  refine (text_any n d ⟨by omega, by omega⟩ ⟨by omega, by omega⟩ t HT.out _ (tab_on HTAB.out (below_box _ _ _))).mono ?_
  rintro _ w1 ⟨rfl, hb1⟩
  have HB1 := Lib.hid (below_on hb1); clear hb1
  go_wp2_with fail
  refine (parse_is t HS.out _ _ _ HP.out _).mono ?_
  rintro _ w' ⟨rfl, k7, rfl⟩
  go_wp2_with fail
  refine (less_any n d 0 e _ HF.out _ ⟨by omega, by omega⟩ ⟨by omega, by omega⟩ ⟨by omega, by omega⟩ ⟨by omega, by omega⟩).mono ?_
  rintro _ w' ⟨rfl, rfl⟩
  go_wp2_with fail
  refine (less_any 0 e n d _ HG.out _ ⟨by omega, by omega⟩ ⟨by omega, by omega⟩ ⟨by omega, by omega⟩ ⟨by omega, by omega⟩).mono ?_
  rintro _ w' ⟨rfl, rfl⟩
  go_wp2_with fail
  go_ret
  exact ⟨rfl, HB1.out _⟩

set_option maxRecDepth 100000 in
set_option maxHeartbeats 2000000 in
theorem back_nyl (x0 x1 x2 x3 : Int) (b0 : I64 x0) (b1 : I64 x1) (b2 : I64 x2) (b3 : I64 x3) (n d m e p1 p2 : Int) (cn : -2147483647 ≤ n ∧ n ≤ 2147483647) (cd : -2147483647 ≤ d ∧ d ≤ 2147483647) (cm : -2147483647 ≤ m ∧ m ≤ 2147483647) (ce : -2147483647 ≤ e ∧ e ≤ 2147483647) (cp1 : -2147483647 ≤ p1 ∧ p1 ≤ 2147483647) (cp2 : -2147483647 ≤ p2 ∧ p2 ≤ 2147483647) (t : ByteArray)
    (hi : mk x0 x1 = (n, d, 0))
    (hj : mk x2 x3 = (m, e, 0))
    (ha : addF n d m e = (0, 0, 3))
    (hc : mulF n d m e = (p1, p2, 0))
    (hd : divF p1 p2 m e = (n, d, 0))
    (qm : (m != 0) = true)
    (ht : t.data.toList = textL n d)
    (hp : parse t.data.toList = (n, d, true))
    (hs : t.size ≤ maxLen)
    (hf : lessF n d m e = true)
    (hg : lessF m e n d = false)
    (qn : (n != m) = true) (w : World) (htab : Lib.TabIs Tryd.prog w "internal/strconv.uint64pow10" .u64 Lib.pow10Tab) :
    Calls Tryd.prog 4 #[.agg (cells4 x0 x1 x2 x3)] w fun e w' => e = .returned (.bool true) ∧ Below w.heap.size w w' := by
  obtain ⟨b00, b01⟩ := b0
  obtain ⟨b10, b11⟩ := b1
  obtain ⟨b20, b21⟩ := b2
  obtain ⟨b30, b31⟩ := b3
  obtain ⟨cn0, cn1⟩ := cn
  obtain ⟨cd0, cd1⟩ := cd
  obtain ⟨cm0, cm1⟩ := cm
  obtain ⟨ce0, ce1⟩ := ce
  obtain ⟨cp10, cp11⟩ := cp1
  obtain ⟨cp20, cp21⟩ := cp2
  have HTAB := Lib.hid htab; clear htab
  have HI := Lib.hid hi; clear hi
  have HJ := Lib.hid hj; clear hj
  have HA := Lib.hid ha; clear ha
  have HC := Lib.hid hc; clear hc
  have HD := Lib.hid hd; clear hd
  have HT := Lib.hid ht; clear ht
  have HP := Lib.hid hp; clear hp
  have HS := Lib.hid hs; clear hs
  have HF := Lib.hid hf; clear hf
  have HG := Lib.hid hg; clear hg
  unfold cells4
  go_enter Tryd.func4, Tryd.ntmps4
  go_wp2_with fail
  refine (awake_true _).mono ?_
  rintro _ w' ⟨rfl, k0, rfl⟩
  go_wp2_with fail
  refine (make_any x0 x1 _ HI.out _ (by omega) (by omega) (by omega) (by omega)).mono ?_
  rintro _ w' ⟨rfl, k1, rfl⟩
  unfold three
  go_wp2_with fail
  refine (make_any x2 x3 _ HJ.out _ (by omega) (by omega) (by omega) (by omega)).mono ?_
  rintro _ w' ⟨rfl, k2, rfl⟩
  unfold three
  go_wp2_with fail
  refine (add_any n d m e _ HA.out _ ⟨by omega, by omega⟩ ⟨by omega, by omega⟩ ⟨by omega, by omega⟩ ⟨by omega, by omega⟩).mono ?_
  rintro _ w' ⟨rfl, k3, rfl⟩
  unfold three
  go_wp2_with fail
  refine (mul_any n d m e _ HC.out _ ⟨by omega, by omega⟩ ⟨by omega, by omega⟩ ⟨by omega, by omega⟩ ⟨by omega, by omega⟩).mono ?_
  rintro _ w' ⟨rfl, k5, rfl⟩
  unfold three
  go_wp2_with fail
  refine (div_any p1 p2 m e _ HD.out _ ⟨by omega, by omega⟩ ⟨by omega, by omega⟩ ⟨by omega, by omega⟩ ⟨by omega, by omega⟩).mono ?_
  rintro _ w' ⟨rfl, k6, rfl⟩
  unfold three
  go_wp2_with fail
  refine (text_any n d ⟨by omega, by omega⟩ ⟨by omega, by omega⟩ t HT.out _ (tab_on HTAB.out (below_box _ _ _))).mono ?_
  rintro _ w1 ⟨rfl, hb1⟩
  have HB1 := Lib.hid (below_on hb1); clear hb1
  go_wp2_with fail
  refine (parse_is t HS.out _ _ _ HP.out _).mono ?_
  rintro _ w' ⟨rfl, k7, rfl⟩
  go_wp2_with fail
  refine (less_any n d m e _ HF.out _ ⟨by omega, by omega⟩ ⟨by omega, by omega⟩ ⟨by omega, by omega⟩ ⟨by omega, by omega⟩).mono ?_
  rintro _ w' ⟨rfl, rfl⟩
  go_wp2_with fail
  refine (less_any m e n d _ HG.out _ ⟨by omega, by omega⟩ ⟨by omega, by omega⟩ ⟨by omega, by omega⟩ ⟨by omega, by omega⟩).mono ?_
  rintro _ w' ⟨rfl, rfl⟩
  go_wp2_with fail
  go_ret
  exact ⟨rfl, HB1.out _⟩

set_option maxRecDepth 100000 in
set_option maxHeartbeats 2000000 in
theorem back_nyk (x0 x1 x2 x3 : Int) (b0 : I64 x0) (b1 : I64 x1) (b2 : I64 x2) (b3 : I64 x3) (n d e p1 p2 : Int) (cn : -2147483647 ≤ n ∧ n ≤ 2147483647) (cd : -2147483647 ≤ d ∧ d ≤ 2147483647) (ce : -2147483647 ≤ e ∧ e ≤ 2147483647) (cp1 : -2147483647 ≤ p1 ∧ p1 ≤ 2147483647) (cp2 : -2147483647 ≤ p2 ∧ p2 ≤ 2147483647) (t : ByteArray)
    (hi : mk x0 x1 = (n, d, 0))
    (hj : mk x2 x3 = (n, e, 0))
    (ha : addF n d n e = (0, 0, 3))
    (hc : mulF n d n e = (p1, p2, 0))
    (hd : divF p1 p2 n e = (n, d, 0))
    (qm : (n != 0) = true)
    (ht : t.data.toList = textL n d)
    (hp : parse t.data.toList = (n, d, true))
    (hs : t.size ≤ maxLen)
    (hf : lessF n d n e = true)
    (hg : lessF n e n d = false)
    (qd : (d != e) = true) (w : World) (htab : Lib.TabIs Tryd.prog w "internal/strconv.uint64pow10" .u64 Lib.pow10Tab) :
    Calls Tryd.prog 4 #[.agg (cells4 x0 x1 x2 x3)] w fun e w' => e = .returned (.bool true) ∧ Below w.heap.size w w' := by
  obtain ⟨b00, b01⟩ := b0
  obtain ⟨b10, b11⟩ := b1
  obtain ⟨b20, b21⟩ := b2
  obtain ⟨b30, b31⟩ := b3
  obtain ⟨cn0, cn1⟩ := cn
  obtain ⟨cd0, cd1⟩ := cd
  obtain ⟨ce0, ce1⟩ := ce
  obtain ⟨cp10, cp11⟩ := cp1
  obtain ⟨cp20, cp21⟩ := cp2
  have HTAB := Lib.hid htab; clear htab
  have HI := Lib.hid hi; clear hi
  have HJ := Lib.hid hj; clear hj
  have HA := Lib.hid ha; clear ha
  have HC := Lib.hid hc; clear hc
  have HD := Lib.hid hd; clear hd
  have HT := Lib.hid ht; clear ht
  have HP := Lib.hid hp; clear hp
  have HS := Lib.hid hs; clear hs
  have HF := Lib.hid hf; clear hf
  have HG := Lib.hid hg; clear hg
  unfold cells4
  go_enter Tryd.func4, Tryd.ntmps4
  go_wp2_with fail
  refine (awake_true _).mono ?_
  rintro _ w' ⟨rfl, k0, rfl⟩
  go_wp2_with fail
  refine (make_any x0 x1 _ HI.out _ (by omega) (by omega) (by omega) (by omega)).mono ?_
  rintro _ w' ⟨rfl, k1, rfl⟩
  unfold three
  go_wp2_with fail
  refine (make_any x2 x3 _ HJ.out _ (by omega) (by omega) (by omega) (by omega)).mono ?_
  rintro _ w' ⟨rfl, k2, rfl⟩
  unfold three
  go_wp2_with fail
  refine (add_any n d n e _ HA.out _ ⟨by omega, by omega⟩ ⟨by omega, by omega⟩ ⟨by omega, by omega⟩ ⟨by omega, by omega⟩).mono ?_
  rintro _ w' ⟨rfl, k3, rfl⟩
  unfold three
  go_wp2_with fail
  refine (mul_any n d n e _ HC.out _ ⟨by omega, by omega⟩ ⟨by omega, by omega⟩ ⟨by omega, by omega⟩ ⟨by omega, by omega⟩).mono ?_
  rintro _ w' ⟨rfl, k5, rfl⟩
  unfold three
  go_wp2_with fail
  refine (div_any p1 p2 n e _ HD.out _ ⟨by omega, by omega⟩ ⟨by omega, by omega⟩ ⟨by omega, by omega⟩ ⟨by omega, by omega⟩).mono ?_
  rintro _ w' ⟨rfl, k6, rfl⟩
  unfold three
  go_wp2_with fail
  refine (text_any n d ⟨by omega, by omega⟩ ⟨by omega, by omega⟩ t HT.out _ (tab_on HTAB.out (below_box _ _ _))).mono ?_
  rintro _ w1 ⟨rfl, hb1⟩
  have HB1 := Lib.hid (below_on hb1); clear hb1
  go_wp2_with fail
  refine (parse_is t HS.out _ _ _ HP.out _).mono ?_
  rintro _ w' ⟨rfl, k7, rfl⟩
  go_wp2_with fail
  refine (less_any n d n e _ HF.out _ ⟨by omega, by omega⟩ ⟨by omega, by omega⟩ ⟨by omega, by omega⟩ ⟨by omega, by omega⟩).mono ?_
  rintro _ w' ⟨rfl, rfl⟩
  go_wp2_with fail
  refine (less_any n e n d _ HG.out _ ⟨by omega, by omega⟩ ⟨by omega, by omega⟩ ⟨by omega, by omega⟩ ⟨by omega, by omega⟩).mono ?_
  rintro _ w' ⟨rfl, rfl⟩
  go_wp2_with fail
  go_ret
  exact ⟨rfl, HB1.out _⟩

set_option maxRecDepth 100000 in
set_option maxHeartbeats 2000000 in
theorem back_nye (x0 x1 x2 x3 : Int) (b0 : I64 x0) (b1 : I64 x1) (b2 : I64 x2) (b3 : I64 x3) (n d p1 p2 : Int) (cn : -2147483647 ≤ n ∧ n ≤ 2147483647) (cd : -2147483647 ≤ d ∧ d ≤ 2147483647) (cp1 : -2147483647 ≤ p1 ∧ p1 ≤ 2147483647) (cp2 : -2147483647 ≤ p2 ∧ p2 ≤ 2147483647) (t : ByteArray)
    (hi : mk x0 x1 = (n, d, 0))
    (hj : mk x2 x3 = (n, d, 0))
    (ha : addF n d n d = (0, 0, 3))
    (hc : mulF n d n d = (p1, p2, 0))
    (hd : divF p1 p2 n d = (n, d, 0))
    (qm : (n != 0) = true)
    (ht : t.data.toList = textL n d)
    (hp : parse t.data.toList = (n, d, true))
    (hs : t.size ≤ maxLen)
    (hf : lessF n d n d = false)
    (hg : lessF n d n d = false) (w : World) (htab : Lib.TabIs Tryd.prog w "internal/strconv.uint64pow10" .u64 Lib.pow10Tab) :
    Calls Tryd.prog 4 #[.agg (cells4 x0 x1 x2 x3)] w fun e w' => e = .returned (.bool true) ∧ Below w.heap.size w w' := by
  obtain ⟨b00, b01⟩ := b0
  obtain ⟨b10, b11⟩ := b1
  obtain ⟨b20, b21⟩ := b2
  obtain ⟨b30, b31⟩ := b3
  obtain ⟨cn0, cn1⟩ := cn
  obtain ⟨cd0, cd1⟩ := cd
  obtain ⟨cp10, cp11⟩ := cp1
  obtain ⟨cp20, cp21⟩ := cp2
  have HTAB := Lib.hid htab; clear htab
  have HI := Lib.hid hi; clear hi
  have HJ := Lib.hid hj; clear hj
  have HA := Lib.hid ha; clear ha
  have HC := Lib.hid hc; clear hc
  have HD := Lib.hid hd; clear hd
  have HT := Lib.hid ht; clear ht
  have HP := Lib.hid hp; clear hp
  have HS := Lib.hid hs; clear hs
  have HF := Lib.hid hf; clear hf
  have HG := Lib.hid hg; clear hg
  unfold cells4
  go_enter Tryd.func4, Tryd.ntmps4
  go_wp2_with fail
  refine (awake_true _).mono ?_
  rintro _ w' ⟨rfl, k0, rfl⟩
  go_wp2_with fail
  refine (make_any x0 x1 _ HI.out _ (by omega) (by omega) (by omega) (by omega)).mono ?_
  rintro _ w' ⟨rfl, k1, rfl⟩
  unfold three
  go_wp2_with fail
  refine (make_any x2 x3 _ HJ.out _ (by omega) (by omega) (by omega) (by omega)).mono ?_
  rintro _ w' ⟨rfl, k2, rfl⟩
  unfold three
  go_wp2_with fail
  refine (add_any n d n d _ HA.out _ ⟨by omega, by omega⟩ ⟨by omega, by omega⟩ ⟨by omega, by omega⟩ ⟨by omega, by omega⟩).mono ?_
  rintro _ w' ⟨rfl, k3, rfl⟩
  unfold three
  go_wp2_with fail
  refine (mul_any n d n d _ HC.out _ ⟨by omega, by omega⟩ ⟨by omega, by omega⟩ ⟨by omega, by omega⟩ ⟨by omega, by omega⟩).mono ?_
  rintro _ w' ⟨rfl, k5, rfl⟩
  unfold three
  go_wp2_with fail
  refine (div_any p1 p2 n d _ HD.out _ ⟨by omega, by omega⟩ ⟨by omega, by omega⟩ ⟨by omega, by omega⟩ ⟨by omega, by omega⟩).mono ?_
  rintro _ w' ⟨rfl, k6, rfl⟩
  unfold three
  go_wp2_with fail
  refine (text_any n d ⟨by omega, by omega⟩ ⟨by omega, by omega⟩ t HT.out _ (tab_on HTAB.out (below_box _ _ _))).mono ?_
  rintro _ w1 ⟨rfl, hb1⟩
  have HB1 := Lib.hid (below_on hb1); clear hb1
  go_wp2_with fail
  refine (parse_is t HS.out _ _ _ HP.out _).mono ?_
  rintro _ w' ⟨rfl, k7, rfl⟩
  go_wp2_with fail
  refine (less_any n d n d _ HF.out _ ⟨by omega, by omega⟩ ⟨by omega, by omega⟩ ⟨by omega, by omega⟩ ⟨by omega, by omega⟩).mono ?_
  rintro _ w' ⟨rfl, rfl⟩
  go_wp2_with fail
  refine (less_any n d n d _ HG.out _ ⟨by omega, by omega⟩ ⟨by omega, by omega⟩ ⟨by omega, by omega⟩ ⟨by omega, by omega⟩).mono ?_
  rintro _ w' ⟨rfl, rfl⟩
  go_wp2_with fail
  go_ret
  exact ⟨rfl, HB1.out _⟩

set_option maxRecDepth 100000 in
set_option maxHeartbeats 2000000 in
theorem back_nyg (x0 x1 x2 x3 : Int) (b0 : I64 x0) (b1 : I64 x1) (b2 : I64 x2) (b3 : I64 x3) (n d m e p1 p2 : Int) (cn : -2147483647 ≤ n ∧ n ≤ 2147483647) (cd : -2147483647 ≤ d ∧ d ≤ 2147483647) (cm : -2147483647 ≤ m ∧ m ≤ 2147483647) (ce : -2147483647 ≤ e ∧ e ≤ 2147483647) (cp1 : -2147483647 ≤ p1 ∧ p1 ≤ 2147483647) (cp2 : -2147483647 ≤ p2 ∧ p2 ≤ 2147483647) (t : ByteArray)
    (hi : mk x0 x1 = (n, d, 0))
    (hj : mk x2 x3 = (m, e, 0))
    (ha : addF n d m e = (0, 0, 3))
    (hc : mulF n d m e = (p1, p2, 0))
    (hd : divF p1 p2 m e = (n, d, 0))
    (qm : (m != 0) = true)
    (ht : t.data.toList = textL n d)
    (hp : parse t.data.toList = (n, d, true))
    (hs : t.size ≤ maxLen)
    (hf : lessF n d m e = false)
    (hg : lessF m e n d = true) (w : World) (htab : Lib.TabIs Tryd.prog w "internal/strconv.uint64pow10" .u64 Lib.pow10Tab) :
    Calls Tryd.prog 4 #[.agg (cells4 x0 x1 x2 x3)] w fun e w' => e = .returned (.bool true) ∧ Below w.heap.size w w' := by
  obtain ⟨b00, b01⟩ := b0
  obtain ⟨b10, b11⟩ := b1
  obtain ⟨b20, b21⟩ := b2
  obtain ⟨b30, b31⟩ := b3
  obtain ⟨cn0, cn1⟩ := cn
  obtain ⟨cd0, cd1⟩ := cd
  obtain ⟨cm0, cm1⟩ := cm
  obtain ⟨ce0, ce1⟩ := ce
  obtain ⟨cp10, cp11⟩ := cp1
  obtain ⟨cp20, cp21⟩ := cp2
  have HTAB := Lib.hid htab; clear htab
  have HI := Lib.hid hi; clear hi
  have HJ := Lib.hid hj; clear hj
  have HA := Lib.hid ha; clear ha
  have HC := Lib.hid hc; clear hc
  have HD := Lib.hid hd; clear hd
  have HT := Lib.hid ht; clear ht
  have HP := Lib.hid hp; clear hp
  have HS := Lib.hid hs; clear hs
  have HF := Lib.hid hf; clear hf
  have HG := Lib.hid hg; clear hg
  unfold cells4
  go_enter Tryd.func4, Tryd.ntmps4
  go_wp2_with fail
  refine (awake_true _).mono ?_
  rintro _ w' ⟨rfl, k0, rfl⟩
  go_wp2_with fail
  refine (make_any x0 x1 _ HI.out _ (by omega) (by omega) (by omega) (by omega)).mono ?_
  rintro _ w' ⟨rfl, k1, rfl⟩
  unfold three
  go_wp2_with fail
  refine (make_any x2 x3 _ HJ.out _ (by omega) (by omega) (by omega) (by omega)).mono ?_
  rintro _ w' ⟨rfl, k2, rfl⟩
  unfold three
  go_wp2_with fail
  refine (add_any n d m e _ HA.out _ ⟨by omega, by omega⟩ ⟨by omega, by omega⟩ ⟨by omega, by omega⟩ ⟨by omega, by omega⟩).mono ?_
  rintro _ w' ⟨rfl, k3, rfl⟩
  unfold three
  go_wp2_with fail
  refine (mul_any n d m e _ HC.out _ ⟨by omega, by omega⟩ ⟨by omega, by omega⟩ ⟨by omega, by omega⟩ ⟨by omega, by omega⟩).mono ?_
  rintro _ w' ⟨rfl, k5, rfl⟩
  unfold three
  go_wp2_with fail
  refine (div_any p1 p2 m e _ HD.out _ ⟨by omega, by omega⟩ ⟨by omega, by omega⟩ ⟨by omega, by omega⟩ ⟨by omega, by omega⟩).mono ?_
  rintro _ w' ⟨rfl, k6, rfl⟩
  unfold three
  go_wp2_with fail
  refine (text_any n d ⟨by omega, by omega⟩ ⟨by omega, by omega⟩ t HT.out _ (tab_on HTAB.out (below_box _ _ _))).mono ?_
  rintro _ w1 ⟨rfl, hb1⟩
  have HB1 := Lib.hid (below_on hb1); clear hb1
  go_wp2_with fail
  refine (parse_is t HS.out _ _ _ HP.out _).mono ?_
  rintro _ w' ⟨rfl, k7, rfl⟩
  go_wp2_with fail
  refine (less_any n d m e _ HF.out _ ⟨by omega, by omega⟩ ⟨by omega, by omega⟩ ⟨by omega, by omega⟩ ⟨by omega, by omega⟩).mono ?_
  rintro _ w' ⟨rfl, rfl⟩
  go_wp2_with fail
  refine (less_any m e n d _ HG.out _ ⟨by omega, by omega⟩ ⟨by omega, by omega⟩ ⟨by omega, by omega⟩ ⟨by omega, by omega⟩).mono ?_
  rintro _ w' ⟨rfl, rfl⟩
  go_wp2_with fail
  go_ret
  exact ⟨rfl, HB1.out _⟩

end Go.Proofs.YtfkeiokoghaciaaDoor
