/- The walk of the statement NumBack: the other ways. -/
import Derived.Test.YtfkeiokoghaciaaDoorBackN
namespace Go.Proofs.YtfkeiokoghaciaaDoor
open Go.RowKit NumPlain
set_option linter.unusedVariables false

set_option maxRecDepth 100000 in
set_option maxHeartbeats 2000000 in
theorem back_ynl (x0 x1 x2 x3 : Int) (b0 : I64 x0) (b1 : I64 x1) (b2 : I64 x2) (b3 : I64 x3) (n d m e a1 a2 : Int) (cn : -2147483647 ≤ n ∧ n ≤ 2147483647) (cd : -2147483647 ≤ d ∧ d ≤ 2147483647) (cm : -2147483647 ≤ m ∧ m ≤ 2147483647) (ce : -2147483647 ≤ e ∧ e ≤ 2147483647) (ca1 : -2147483647 ≤ a1 ∧ a1 ≤ 2147483647) (ca2 : -2147483647 ≤ a2 ∧ a2 ≤ 2147483647) (t : ByteArray)
    (hi : mk x0 x1 = (n, d, 0))
    (hj : mk x2 x3 = (m, e, 0))
    (ha : addF n d m e = (a1, a2, 0))
    (hb : subF a1 a2 m e = (n, d, 0))
    (hc : mulF n d m e = (0, 0, 3))
    (ht : t.data.toList = textL n d)
    (hp : parse t.data.toList = (n, d, true))
    (hs : t.size ≤ maxLen)
    (hf : lessF n d m e = true)
    (hg : lessF m e n d = false)
    (qn : (n != m) = true) (w : World) (htab : Lib.TabIs Tryd.prog w "internal/strconv.uint64pow10" .u64 Lib.pow10Tab) :
    Calls Tryd.prog 4 #[.agg (cells4 x0 x1 x2 x3)] w fun e w' => e = .returned (.bool true) ∧ Below w.heap.size w w' := by
  obtain ⟨b00, b01⟩ := b0
  obtain ⟨b10, b11⟩ := b1
  obtain ⟨b20, b21⟩ := b2
  obtain ⟨b30, b31⟩ := b3
  obtain ⟨cn0, cn1⟩ := cn
  obtain ⟨cd0, cd1⟩ := cd
  obtain ⟨cm0, cm1⟩ := cm
  obtain ⟨ce0, ce1⟩ := ce
  obtain ⟨ca10, ca11⟩ := ca1
  obtain ⟨ca20, ca21⟩ := ca2
  have HTAB := Lib.hid htab; clear htab
  have HI := Lib.hid hi; clear hi
  have HJ := Lib.hid hj; clear hj
  have HA := Lib.hid ha; clear ha
  have HB := Lib.hid hb; clear hb
  have HC := Lib.hid hc; clear hc
  have HT := Lib.hid ht; clear ht
  have HP := Lib.hid hp; clear hp
  have HS := Lib.hid hs; clear hs
  have HF := Lib.hid hf; clear hf
  have HG := Lib.hid hg; clear hg
  unfold cells4
  go_enter Tryd.func4, Tryd.ntmps4
  go_wp2_with fail
  refine (awake_true _).mono ?_
  rintro _ w' ⟨rfl, k0, rfl⟩
  go_wp2_with fail
  refine (make_any x0 x1 _ HI.out _ (by omega) (by omega) (by omega) (by omega)).mono ?_
  rintro _ w' ⟨rfl, k1, rfl⟩
  unfold three
  go_wp2_with fail
  refine (make_any x2 x3 _ HJ.out _ (by omega) (by omega) (by omega) (by omega)).mono ?_
  rintro _ w' ⟨rfl, k2, rfl⟩
  unfold three
  go_wp2_with fail
  refine (add_any n d m e _ HA.out _ ⟨by omega, by omega⟩ ⟨by omega, by omega⟩ ⟨by omega, by omega⟩ ⟨by omega, by omega⟩).mono ?_
  rintro _ w' ⟨rfl, k3, rfl⟩
  unfold three
  go_wp2_with fail
  refine (sub_any a1 a2 m e _ HB.out _ ⟨by omega, by omega⟩ ⟨by omega, by omega⟩ ⟨by omega, by omega⟩ ⟨by omega, by omega⟩).mono ?_
  rintro _ w' ⟨rfl, k4, rfl⟩
  unfold three
  go_wp2_with fail
  refine (mul_any n d m e _ HC.out _ ⟨by omega, by omega⟩ ⟨by omega, by omega⟩ ⟨by omega, by omega⟩ ⟨by omega, by omega⟩).mono ?_
  rintro _ w' ⟨rfl, k5, rfl⟩
  unfold three
  go_wp2_with fail
  refine (text_any n d ⟨by omega, by omega⟩ ⟨by omega, by omega⟩ t HT.out _ (tab_on HTAB.out (below_box _ _ _))).mono ?_
  rintro _ w1 ⟨rfl, hb1⟩
  have HB1 := Lib.hid (below_on hb1); clear hb1
  go_wp2_with fail
  refine (parse_is t HS.out _ _ _ HP.out _).mono ?_
  rintro _ w' ⟨rfl, k7, rfl⟩
  go_wp2_with fail
  refine (less_any n d m e _ HF.out _ ⟨by omega, by omega⟩ ⟨by omega, by omega⟩ ⟨by omega, by omega⟩ ⟨by omega, by omega⟩).mono ?_
  rintro _ w' ⟨rfl, rfl⟩
  go_wp2_with fail
  refine (less_any m e n d _ HG.out _ ⟨by omega, by omega⟩ ⟨by omega, by omega⟩ ⟨by omega, by omega⟩ ⟨by omega, by omega⟩).mono ?_
  rintro _ w' ⟨rfl, rfl⟩
  go_wp2_with fail
  go_ret
  exact ⟨rfl, HB1.out _⟩

set_option maxRecDepth 100000 in
set_option maxHeartbeats 2000000 in
theorem back_ynk (x0 x1 x2 x3 : Int) (b0 : I64 x0) (b1 : I64 x1) (b2 : I64 x2) (b3 : I64 x3) (n d e a1 a2 : Int) (cn : -2147483647 ≤ n ∧ n ≤ 2147483647) (cd : -2147483647 ≤ d ∧ d ≤ 2147483647) (ce : -2147483647 ≤ e ∧ e ≤ 2147483647) (ca1 : -2147483647 ≤ a1 ∧ a1 ≤ 2147483647) (ca2 : -2147483647 ≤ a2 ∧ a2 ≤ 2147483647) (t : ByteArray)
    (hi : mk x0 x1 = (n, d, 0))
    (hj : mk x2 x3 = (n, e, 0))
    (ha : addF n d n e = (a1, a2, 0))
    (hb : subF a1 a2 n e = (n, d, 0))
    (hc : mulF n d n e = (0, 0, 3))
    (ht : t.data.toList = textL n d)
    (hp : parse t.data.toList = (n, d, true))
    (hs : t.size ≤ maxLen)
    (hf : lessF n d n e = true)
    (hg : lessF n e n d = false)
    (qd : (d != e) = true) (w : World) (htab : Lib.TabIs Tryd.prog w "internal/strconv.uint64pow10" .u64 Lib.pow10Tab) :
    Calls Tryd.prog 4 #[.agg (cells4 x0 x1 x2 x3)] w fun e w' => e = .returned (.bool true) ∧ Below w.heap.size w w' := by
  obtain ⟨b00, b01⟩ := b0
  obtain ⟨b10, b11⟩ := b1
  obtain ⟨b20, b21⟩ := b2
  obtain ⟨b30, b31⟩ := b3
  obtain ⟨cn0, cn1⟩ := cn
  obtain ⟨cd0, cd1⟩ := cd
  obtain ⟨ce0, ce1⟩ := ce
  obtain ⟨ca10, ca11⟩ := ca1
  obtain ⟨ca20, ca21⟩ := ca2
  have HTAB := Lib.hid htab; clear htab
  have HI := Lib.hid hi; clear hi
  have HJ := Lib.hid hj; clear hj
  have HA := Lib.hid ha; clear ha
  have HB := Lib.hid hb; clear hb
  have HC := Lib.hid hc; clear hc
  have HT := Lib.hid ht; clear ht
  have HP := Lib.hid hp; clear hp
  have HS := Lib.hid hs; clear hs
  have HF := Lib.hid hf; clear hf
  have HG := Lib.hid hg; clear hg
  unfold cells4
  go_enter Tryd.func4, Tryd.ntmps4
  go_wp2_with fail
  refine (awake_true _).mono ?_
  rintro _ w' ⟨rfl, k0, rfl⟩
  go_wp2_with fail
  refine (make_any x0 x1 _ HI.out _ (by omega) (by omega) (by omega) (by omega)).mono ?_
  rintro _ w' ⟨rfl, k1, rfl⟩
  unfold three
  go_wp2_with fail
  refine (make_any x2 x3 _ HJ.out _ (by omega) (by omega) (by omega) (by omega)).mono ?_
  rintro _ w' ⟨rfl, k2, rfl⟩
  unfold three
  go_wp2_with fail
  refine (add_any n d n e _ HA.out _ ⟨by omega, by omega⟩ ⟨by omega, by omega⟩ ⟨by omega, by omega⟩ ⟨by omega, by omega⟩).mono ?_
  rintro _ w' ⟨rfl, k3, rfl⟩
  unfold three
  go_wp2_with fail
  refine (sub_any a1 a2 n e _ HB.out _ ⟨by omega, by omega⟩ ⟨by omega, by omega⟩ ⟨by omega, by omega⟩ ⟨by omega, by omega⟩).mono ?_
  rintro _ w' ⟨rfl, k4, rfl⟩
  unfold three
  go_wp2_with fail
  refine (mul_any n d n e _ HC.out _ ⟨by omega, by omega⟩ ⟨by omega, by omega⟩ ⟨by omega, by omega⟩ ⟨by omega, by omega⟩).mono ?_
  rintro _ w' ⟨rfl, k5, rfl⟩
  unfold three
  go_wp2_with fail
  refine (text_any n d ⟨by omega, by omega⟩ ⟨by omega, by omega⟩ t HT.out _ (tab_on HTAB.out (below_box _ _ _))).mono ?_
  rintro _ w1 ⟨rfl, hb1⟩
  have HB1 := Lib.hid (below_on hb1); clear hb1
  go_wp2_with fail
  refine (parse_is t HS.out _ _ _ HP.out _).mono ?_
  rintro _ w' ⟨rfl, k7, rfl⟩
  go_wp2_with fail
  refine (less_any n d n e _ HF.out _ ⟨by omega, by omega⟩ ⟨by omega, by omega⟩ ⟨by omega, by omega⟩ ⟨by omega, by omega⟩).mono ?_
  rintro _ w' ⟨rfl, rfl⟩
  go_wp2_with fail
  refine (less_any n e n d _ HG.out _ ⟨by omega, by omega⟩ ⟨by omega, by omega⟩ ⟨by omega, by omega⟩ ⟨by omega, by omega⟩).mono ?_
  rintro _ w' ⟨rfl, rfl⟩
  go_wp2_with fail
  go_ret
  exact ⟨rfl, HB1.out _⟩

set_option maxRecDepth 100000 in
set_option maxHeartbeats 2000000 in
theorem back_yne (x0 x1 x2 x3 : Int) (b0 : I64 x0) (b1 : I64 x1) (b2 : I64 x2) (b3 : I64 x3) (n d a1 a2 : Int) (cn : -2147483647 ≤ n ∧ n ≤ 2147483647) (cd : -2147483647 ≤ d ∧ d ≤ 2147483647) (ca1 : -2147483647 ≤ a1 ∧ a1 ≤ 2147483647) (ca2 : -2147483647 ≤ a2 ∧ a2 ≤ 2147483647) (t : ByteArray)
    (hi : mk x0 x1 = (n, d, 0))
    (hj : mk x2 x3 = (n, d, 0))
    (ha : addF n d n d = (a1, a2, 0))
    (hb : subF a1 a2 n d = (n, d, 0))
    (hc : mulF n d n d = (0, 0, 3))
    (ht : t.data.toList = textL n d)
    (hp : parse t.data.toList = (n, d, true))
    (hs : t.size ≤ maxLen)
    (hf : lessF n d n d = false)
    (hg : lessF n d n d = false) (w : World) (htab : Lib.TabIs Tryd.prog w "internal/strconv.uint64pow10" .u64 Lib.pow10Tab) :
    Calls Tryd.prog 4 #[.agg (cells4 x0 x1 x2 x3)] w fun e w' => e = .returned (.bool true) ∧ Below w.heap.size w w' := by
  obtain ⟨b00, b01⟩ := b0
  obtain ⟨b10, b11⟩ := b1
  obtain ⟨b20, b21⟩ := b2
  obtain ⟨b30, b31⟩ := b3
  obtain ⟨cn0, cn1⟩ := cn
  obtain ⟨cd0, cd1⟩ := cd
  obtain ⟨ca10, ca11⟩ := ca1
  obtain ⟨ca20, ca21⟩ := ca2
  have HTAB := Lib.hid htab; clear htab
  have HI := Lib.hid hi; clear hi
  have HJ := Lib.hid hj; clear hj
  have HA := Lib.hid ha; clear ha
  have HB := Lib.hid hb; clear hb
  have HC := Lib.hid hc; clear hc
  have HT := Lib.hid ht; clear ht
  have HP := Lib.hid hp; clear hp
  have HS := Lib.hid hs; clear hs
  have HF := Lib.hid hf; clear hf
  have HG := Lib.hid hg; clear hg
  unfold cells4
  go_enter Tryd.func4, Tryd.ntmps4
  go_wp2_with fail
  refine (awake_true _).mono ?_
  rintro _ w' ⟨rfl, k0, rfl⟩
  go_wp2_with fail
  refine (make_any x0 x1 _ HI.out _ (by omega) (by omega) (by omega) (by omega)).mono ?_
  rintro _ w' ⟨rfl, k1, rfl⟩
  unfold three
  go_wp2_with fail
  refine (make_any x2 x3 _ HJ.out _ (by omega) (by omega) (by omega) (by omega)).mono ?_
  rintro _ w' ⟨rfl, k2, rfl⟩
  unfold three
  go_wp2_with fail
  refine (add_any n d n d _ HA.out _ ⟨by omega, by omega⟩ ⟨by omega, by omega⟩ ⟨by omega, by omega⟩ ⟨by omega, by omega⟩).mono ?_
  rintro _ w' ⟨rfl, k3, rfl⟩
  unfold three
  go_wp2_with fail
  refine (sub_any a1 a2 n d _ HB.out _ ⟨by omega, by omega⟩ ⟨by omega, by omega⟩ ⟨by omega, by omega⟩ ⟨by omega, by omega⟩).mono ?_
  rintro _ w' ⟨rfl, k4, rfl⟩
  unfold three
  go_wp2_with fail
  refine (mul_any n d n d _ HC.out _ ⟨by omega, by omega⟩ ⟨by omega, by omega⟩ ⟨by omega, by omega⟩ ⟨by omega, by omega⟩).mono ?_
  rintro _ w' ⟨rfl, k5, rfl⟩
  unfold three
  go_wp2_with fail
  refine (text_any n d ⟨by omega, by omega⟩ ⟨by omega, by omega⟩ t HT.out _ (tab_on HTAB.out (below_box _ _ _))).mono ?_
  rintro _ w1 ⟨rfl, hb1⟩
  have HB1 := Lib.hid (below_on hb1); clear hb1
  go_wp2_with fail
  refine (parse_is t HS.out _ _ _ HP.out _).mono ?_
  rintro _ w' ⟨rfl, k7, rfl⟩
  go_wp2_with fail
  refine (less_any n d n d _ HF.out _ ⟨by omega, by omega⟩ ⟨by omega, by omega⟩ ⟨by omega, by omega⟩ ⟨by omega, by omega⟩).mono ?_
  rintro _ w' ⟨rfl, rfl⟩
  go_wp2_with fail
  refine (less_any n d n d _ HG.out _ ⟨by omega, by omega⟩ ⟨by omega, by omega⟩ ⟨by omega, by omega⟩ ⟨by omega, by omega⟩).mono ?_
  rintro _ w' ⟨rfl, rfl⟩
  go_wp2_with fail
  go_ret
  exact ⟨rfl, HB1.out _⟩

set_option maxRecDepth 100000 in
set_option maxHeartbeats 2000000 in
theorem back_yng (x0 x1 x2 x3 : Int) (b0 : I64 x0) (b1 : I64 x1) (b2 : I64 x2) (b3 : I64 x3) (n d m e a1 a2 : Int) (cn : -2147483647 ≤ n ∧ n ≤ 2147483647) (cd : -2147483647 ≤ d ∧ d ≤ 2147483647) (cm : -2147483647 ≤ m ∧ m ≤ 2147483647) (ce : -2147483647 ≤ e ∧ e ≤ 2147483647) (ca1 : -2147483647 ≤ a1 ∧ a1 ≤ 2147483647) (ca2 : -2147483647 ≤ a2 ∧ a2 ≤ 2147483647) (t : ByteArray)
    (hi : mk x0 x1 = (n, d, 0))
    (hj : mk x2 x3 = (m, e, 0))
    (ha : addF n d m e = (a1, a2, 0))
    (hb : subF a1 a2 m e = (n, d, 0))
    (hc : mulF n d m e = (0, 0, 3))
    (ht : t.data.toList = textL n d)
    (hp : parse t.data.toList = (n, d, true))
    (hs : t.size ≤ maxLen)
    (hf : lessF n d m e = false)
    (hg : lessF m e n d = true) (w : World) (htab : Lib.TabIs Tryd.prog w "internal/strconv.uint64pow10" .u64 Lib.pow10Tab) :
    Calls Tryd.prog 4 #[.agg (cells4 x0 x1 x2 x3)] w fun e w' => e = .returned (.bool true) ∧ Below w.heap.size w w' := by
  obtain ⟨b00, b01⟩ := b0
  obtain ⟨b10, b11⟩ := b1
  obtain ⟨b20, b21⟩ := b2
  obtain ⟨b30, b31⟩ := b3
  obtain ⟨cn0, cn1⟩ := cn
  obtain ⟨cd0, cd1⟩ := cd
  obtain ⟨cm0, cm1⟩ := cm
  obtain ⟨ce0, ce1⟩ := ce
  obtain ⟨ca10, ca11⟩ := ca1
  obtain ⟨ca20, ca21⟩ := ca2
  have HTAB := Lib.hid htab; clear htab
  have HI := Lib.hid hi; clear hi
  have HJ := Lib.hid hj; clear hj
  have HA := Lib.hid ha; clear ha
  have HB := Lib.hid hb; clear hb
  have HC := Lib.hid hc; clear hc
  have HT := Lib.hid ht; clear ht
  have HP := Lib.hid hp; clear hp
  have HS := Lib.hid hs; clear hs
  have HF := Lib.hid hf; clear hf
  have HG := Lib.hid hg; clear hg
  unfold cells4
  go_enter Tryd.func4, Tryd.ntmps4
  go_wp2_with fail
  refine (awake_true _).mono ?_
  rintro _ w' ⟨rfl, k0, rfl⟩
  go_wp2_with fail
  refine (make_any x0 x1 _ HI.out _ (by omega) (by omega) (by omega) (by omega)).mono ?_
  rintro _ w' ⟨rfl, k1, rfl⟩
  unfold three
  go_wp2_with fail
  refine (make_any x2 x3 _ HJ.out _ (by omega) (by omega) (by omega) (by omega)).mono ?_
  rintro _ w' ⟨rfl, k2, rfl⟩
  unfold three
  go_wp2_with fail
  refine (add_any n d m e _ HA.out _ ⟨by omega, by omega⟩ ⟨by omega, by omega⟩ ⟨by omega, by omega⟩ ⟨by omega, by omega⟩).mono ?_
  rintro _ w' ⟨rfl, k3, rfl⟩
  unfold three
  go_wp2_with fail
  refine (sub_any a1 a2 m e _ HB.out _ ⟨by omega, by omega⟩ ⟨by omega, by omega⟩ ⟨by omega, by omega⟩ ⟨by omega, by omega⟩).mono ?_
  rintro _ w' ⟨rfl, k4, rfl⟩
  unfold three
  go_wp2_with fail
  refine (mul_any n d m e _ HC.out _ ⟨by omega, by omega⟩ ⟨by omega, by omega⟩ ⟨by omega, by omega⟩ ⟨by omega, by omega⟩).mono ?_
  rintro _ w' ⟨rfl, k5, rfl⟩
  unfold three
  go_wp2_with fail
  refine (text_any n d ⟨by omega, by omega⟩ ⟨by omega, by omega⟩ t HT.out _ (tab_on HTAB.out (below_box _ _ _))).mono ?_
  rintro _ w1 ⟨rfl, hb1⟩
  have HB1 := Lib.hid (below_on hb1); clear hb1
  go_wp2_with fail
  refine (parse_is t HS.out _ _ _ HP.out _).mono ?_
  rintro _ w' ⟨rfl, k7, rfl⟩
  go_wp2_with fail
  refine (less_any n d m e _ HF.out _ ⟨by omega, by omega⟩ ⟨by omega, by omega⟩ ⟨by omega, by omega⟩ ⟨by omega, by omega⟩).mono ?_
  rintro _ w' ⟨rfl, rfl⟩
  go_wp2_with fail
  refine (less_any m e n d _ HG.out _ ⟨by omega, by omega⟩ ⟨by omega, by omega⟩ ⟨by omega, by omega⟩ ⟨by omega, by omega⟩).mono ?_
  rintro _ w' ⟨rfl, rfl⟩
  go_wp2_with fail
  go_ret
  exact ⟨rfl, HB1.out _⟩

set_option maxRecDepth 100000 in
set_option maxHeartbeats 2000000 in
theorem back_yzl (x0 x1 x2 x3 : Int) (b0 : I64 x0) (b1 : I64 x1) (b2 : I64 x2) (b3 : I64 x3) (n d e a1 a2 p1 p2 : Int) (cn : -2147483647 ≤ n ∧ n ≤ 2147483647) (cd : -2147483647 ≤ d ∧ d ≤ 2147483647) (ce : -2147483647 ≤ e ∧ e ≤ 2147483647) (ca1 : -2147483647 ≤ a1 ∧ a1 ≤ 2147483647) (ca2 : -2147483647 ≤ a2 ∧ a2 ≤ 2147483647) (cp1 : -2147483647 ≤ p1 ∧ p1 ≤ 2147483647) (cp2 : -2147483647 ≤ p2 ∧ p2 ≤ 2147483647) (t : ByteArray)
    (hi : mk x0 x1 = (n, d, 0))
    (hj : mk x2 x3 = (0, e, 0))
    (ha : addF n d 0 e = (a1, a2, 0))
    (hb : subF a1 a2 0 e = (n, d, 0))
    (hc : mulF n d 0 e = (p1, p2, 0))
    (ht : t.data.toList = textL n d)
    (hp : parse t.data.toList = (n, d, true))
    (hs : t.size ≤ maxLen)
    (hf : lessF n d 0 e = true)
    (hg : lessF 0 e n d = false)
    (qn : (n != 0) = true) (w : World) (htab : Lib.TabIs Tryd.prog w "internal/strconv.uint64pow10" .u64 Lib.pow10Tab) :
    Calls Tryd.prog 4 #[.agg (cells4 x0 x1 x2 x3)] w fun e w' => e = .returned (.bool true) ∧ Below w.heap.size w w' := by
  obtain ⟨b00, b01⟩ := b0
  obtain ⟨b10, b11⟩ := b1
  obtain ⟨b20, b21⟩ := b2
  obtain ⟨b30, b31⟩ := b3
  obtain ⟨cn0, cn1⟩ := cn
  obtain ⟨cd0, cd1⟩ := cd
  obtain ⟨ce0, ce1⟩ := ce
  obtain ⟨ca10, ca11⟩ := ca1
  obtain ⟨ca20, ca21⟩ := ca2
  obtain ⟨cp10, cp11⟩ := cp1
  obtain ⟨cp20, cp21⟩ := cp2
  have HTAB := Lib.hid htab; clear htab
  have HI := Lib.hid hi; clear hi
  have HJ := Lib.hid hj; clear hj
  have HA := Lib.hid ha; clear ha
  have HB := Lib.hid hb; clear hb
  have HC := Lib.hid hc; clear hc
  have HT := Lib.hid ht; clear ht
  have HP := Lib.hid hp; clear hp
  have HS := Lib.hid hs; clear hs
  have HF := Lib.hid hf; clear hf
  have HG := Lib.hid hg; clear hg
  unfold cells4
  go_enter Tryd.func4, Tryd.ntmps4
  go_wp2_with fail
  refine (awake_true _).mono ?_
  rintro _ w' ⟨rfl, k0, rfl⟩
  go_wp2_with fail
  refine (make_any x0 x1 _ HI.out _ (by omega) (by omega) (by omega) (by omega)).mono ?_
  rintro _ w' ⟨rfl, k1, rfl⟩
  unfold three
  go_wp2_with fail
  refine (make_any x2 x3 _ HJ.out _ (by omega) (by omega) (by omega) (by omega)).mono ?_
  rintro _ w' ⟨rfl, k2, rfl⟩
  unfold three
  go_wp2_with fail
  refine (add_any n d 0 e _ HA.out _ ⟨by omega, by omega⟩ ⟨by omega, by omega⟩ ⟨by omega, by omega⟩ ⟨by omega, by omega⟩).mono ?_
  rintro _ w' ⟨rfl, k3, rfl⟩
  unfold three
  go_wp2_with fail
  refine (sub_any a1 a2 0 e _ HB.out _ ⟨by omega, by omega⟩ ⟨by omega, by omega⟩ ⟨by omega, by omega⟩ ⟨by omega, by omega⟩).mono ?_
  rintro _ w' ⟨rfl, k4, rfl⟩
  unfold three
  go_wp2_with fail
  refine (mul_any n d 0 e _ HC.out _ ⟨by omega, by omega⟩ ⟨by omega, by omega⟩ ⟨by omega, by omega⟩ ⟨by omega, by omega⟩).mono ?_
  rintro _ w' ⟨rfl, k5, rfl⟩
  unfold three
  go_wp2_with fail
  refine (text_any n d ⟨by omega, by omega⟩ ⟨by omega, by omega⟩ t HT.out _ (tab_on HTAB.out (below_box _ _ _))).mono ?_
  rintro _ w1 ⟨rfl, hb1⟩
  have HB1 := Lib.hid (below_on hb1); clear hb1
  go_wp2_with fail
  refine (parse_is t HS.out _ _ _ HP.out _).mono ?_
  rintro _ w' ⟨rfl, k7, rfl⟩
  go_wp2_with fail
  refine (less_any n d 0 e _ HF.out _ ⟨by omega, by omega⟩ ⟨by omega, by omega⟩ ⟨by omega, by omega⟩ ⟨by omega, by omega⟩).mono ?_
  rintro _ w' ⟨rfl, rfl⟩
  go_wp2_with fail
  refine (less_any 0 e n d _ HG.out _ ⟨by omega, by omega⟩ ⟨by omega, by omega⟩ ⟨by omega, by omega⟩ ⟨by omega, by omega⟩).mono ?_
  rintro _ w' ⟨rfl, rfl⟩
  go_wp2_with fail
  go_ret
  exact ⟨rfl, HB1.out _⟩

set_option maxRecDepth 100000 in
set_option maxHeartbeats 2000000 in
theorem back_yzk (x0 x1 x2 x3 : Int) (b0 : I64 x0) (b1 : I64 x1) (b2 : I64 x2) (b3 : I64 x3) (d e a1 a2 p1 p2 : Int) (cd : -2147483647 ≤ d ∧ d ≤ 2147483647) (ce : -2147483647 ≤ e ∧ e ≤ 2147483647) (ca1 : -2147483647 ≤ a1 ∧ a1 ≤ 2147483647) (ca2 : -2147483647 ≤ a2 ∧ a2 ≤ 2147483647) (cp1 : -2147483647 ≤ p1 ∧ p1 ≤ 2147483647) (cp2 : -2147483647 ≤ p2 ∧ p2 ≤ 2147483647) (t : ByteArray)
    (hi : mk x0 x1 = (0, d, 0))
    (hj : mk x2 x3 = (0, e, 0))
    (ha : addF 0 d 0 e = (a1, a2, 0))
    (hb : subF a1 a2 0 e = (0, d, 0))
    (hc : mulF 0 d 0 e = (p1, p2, 0))
    (ht : t.data.toList = textL 0 d)
    (hp : parse t.data.toList = (0, d, true))
    (hs : t.size ≤ maxLen)
    (hf : lessF 0 d 0 e = true)
    (hg : lessF 0 e 0 d = false)
    (qd : (d != e) = true) (w : World) (htab : Lib.TabIs Tryd.prog w "internal/strconv.uint64pow10" .u64 Lib.pow10Tab) :
    Calls Tryd.prog 4 #[.agg (cells4 x0 x1 x2 x3)] w fun e w' => e = .returned (.bool true) ∧ Below w.heap.size w w' := by
  obtain ⟨b00, b01⟩ := b0
  obtain ⟨b10, b11⟩ := b1
  obtain ⟨b20, b21⟩ := b2
  obtain ⟨b30, b31⟩ := b3
  obtain ⟨cd0, cd1⟩ := cd
  obtain ⟨ce0, ce1⟩ := ce
  obtain ⟨ca10, ca11⟩ := ca1
  obtain ⟨ca20, ca21⟩ := ca2
  obtain ⟨cp10, cp11⟩ := cp1
  obtain ⟨cp20, cp21⟩ := cp2
  have HTAB := Lib.hid htab; clear htab
  have HI := Lib.hid hi; clear hi
  have HJ := Lib.hid hj; clear hj
  have HA := Lib.hid ha; clear ha
  have HB := Lib.hid hb; clear hb
  have HC := Lib.hid hc; clear hc
  have HT := Lib.hid ht; clear ht
  have HP := Lib.hid hp; clear hp
  have HS := Lib.hid hs; clear hs
  have HF := Lib.hid hf; clear hf
  have HG := Lib.hid hg; clear hg
  unfold cells4
  go_enter Tryd.func4, Tryd.ntmps4
  go_wp2_with fail
  refine (awake_true _).mono ?_
  rintro _ w' ⟨rfl, k0, rfl⟩
  go_wp2_with fail
  refine (make_any x0 x1 _ HI.out _ (by omega) (by omega) (by omega) (by omega)).mono ?_
  rintro _ w' ⟨rfl, k1, rfl⟩
  unfold three
  go_wp2_with fail
  refine (make_any x2 x3 _ HJ.out _ (by omega) (by omega) (by omega) (by omega)).mono ?_
  rintro _ w' ⟨rfl, k2, rfl⟩
  unfold three
  go_wp2_with fail
  refine (add_any 0 d 0 e _ HA.out _ ⟨by omega, by omega⟩ ⟨by omega, by omega⟩ ⟨by omega, by omega⟩ ⟨by omega, by omega⟩).mono ?_
  rintro _ w' ⟨rfl, k3, rfl⟩
  unfold three
  go_wp2_with fail
  refine (sub_any a1 a2 0 e _ HB.out _ ⟨by omega, by omega⟩ ⟨by omega, by omega⟩ ⟨by omega, by omega⟩ ⟨by omega, by omega⟩).mono ?_
  rintro _ w' ⟨rfl, k4, rfl⟩
  unfold three
  go_wp2_with fail
  refine (mul_any 0 d 0 e _ HC.out _ ⟨by omega, by omega⟩ ⟨by omega, by omega⟩ ⟨by omega, by omega⟩ ⟨by omega, by omega⟩).mono ?_
  rintro _ w' ⟨rfl, k5, rfl⟩
  unfold three
  go_wp2_with fail
  refine (text_any 0 d ⟨by omega, by omega⟩ ⟨by omega, by omega⟩ t HT.out _ (tab_on HTAB.out (below_box _ _ _))).mono ?_
  rintro _ w1 ⟨rfl, hb1⟩
  have HB1 := Lib.hid (below_on hb1); clear hb1
  go_wp2_with fail
  refine (parse_is t HS.out _ _ _ HP.out _).mono ?_
  rintro _ w' ⟨rfl, k7, rfl⟩
  go_wp2_with fail
  refine (less_any 0 d 0 e _ HF.out _ ⟨by omega, by omega⟩ ⟨by omega, by omega⟩ ⟨by omega, by omega⟩ ⟨by omega, by omega⟩).mono ?_
  rintro _ w' ⟨rfl, rfl⟩
  go_wp2_with fail
  refine (less_any 0 e 0 d _ HG.out _ ⟨by omega, by omega⟩ ⟨by omega, by omega⟩ ⟨by omega, by omega⟩ ⟨by omega, by omega⟩).mono ?_
  rintro _ w' ⟨rfl, rfl⟩
  go_wp2_with fail
  go_ret
  exact ⟨rfl, HB1.out _⟩

set_option maxRecDepth 100000 in
set_option maxHeartbeats 2000000 in
theorem back_yze (x0 x1 x2 x3 : Int) (b0 : I64 x0) (b1 : I64 x1) (b2 : I64 x2) (b3 : I64 x3) (d a1 a2 p1 p2 : Int) (cd : -2147483647 ≤ d ∧ d ≤ 2147483647) (ca1 : -2147483647 ≤ a1 ∧ a1 ≤ 2147483647) (ca2 : -2147483647 ≤ a2 ∧ a2 ≤ 2147483647) (cp1 : -2147483647 ≤ p1 ∧ p1 ≤ 2147483647) (cp2 : -2147483647 ≤ p2 ∧ p2 ≤ 2147483647) (t : ByteArray)
    (hi : mk x0 x1 = (0, d, 0))
    (hj : mk x2 x3 = (0, d, 0))
    (ha : addF 0 d 0 d = (a1, a2, 0))
    (hb : subF a1 a2 0 d = (0, d, 0))
    (hc : mulF 0 d 0 d = (p1, p2, 0))
    (ht : t.data.toList = textL 0 d)
    (hp : parse t.data.toList = (0, d, true))
    (hs : t.size ≤ maxLen)
    (hf : lessF 0 d 0 d = false)
    (hg : lessF 0 d 0 d = false) (w : World) (htab : Lib.TabIs Tryd.prog w "internal/strconv.uint64pow10" .u64 Lib.pow10Tab) :
    Calls Tryd.prog 4 #[.agg (cells4 x0 x1 x2 x3)] w fun e w' => e = .returned (.bool true) ∧ Below w.heap.size w w' := by
  obtain ⟨b00, b01⟩ := b0
  obtain ⟨b10, b11⟩ := b1
  obtain ⟨b20, b21⟩ := b2
  obtain ⟨b30, b31⟩ := b3
  obtain ⟨cd0, cd1⟩ := cd
  obtain ⟨ca10, ca11⟩ := ca1
  obtain ⟨ca20, ca21⟩ := ca2
  obtain ⟨cp10, cp11⟩ := cp1
  obtain ⟨cp20, cp21⟩ := cp2
  have HTAB := Lib.hid htab; clear htab
  have HI := Lib.hid hi; clear hi
  have HJ := Lib.hid hj; clear hj
  have HA := Lib.hid ha; clear ha
  have HB := Lib.hid hb; clear hb
  have HC := Lib.hid hc; clear hc
  have HT := Lib.hid ht; clear ht
  have HP := Lib.hid hp; clear hp
  have HS := Lib.hid hs; clear hs
  have HF := Lib.hid hf; clear hf
  have HG := Lib.hid hg; clear hg
  unfold cells4
  go_enter Tryd.func4, Tryd.ntmps4
  go_wp2_with fail
  refine (awake_true _).mono ?_
  rintro _ w' ⟨rfl, k0, rfl⟩
  go_wp2_with fail
  refine (make_any x0 x1 _ HI.out _ (by omega) (by omega) (by omega) (by omega)).mono ?_
  rintro _ w' ⟨rfl, k1, rfl⟩
  unfold three
  go_wp2_with fail
  refine (make_any x2 x3 _ HJ.out _ (by omega) (by omega) (by omega) (by omega)).mono ?_
  rintro _ w' ⟨rfl, k2, rfl⟩
  unfold three
  go_wp2_with fail
  refine (add_any 0 d 0 d _ HA.out _ ⟨by omega, by omega⟩ ⟨by omega, by omega⟩ ⟨by omega, by omega⟩ ⟨by omega, by omega⟩).mono ?_
  rintro _ w' ⟨rfl, k3, rfl⟩
  unfold three
  go_wp2_with fail
  refine (sub_any a1 a2 0 d _ HB.out _ ⟨by omega, by omega⟩ ⟨by omega, by omega⟩ ⟨by omega, by omega⟩ ⟨by omega, by omega⟩).mono ?_
  rintro _ w' ⟨rfl, k4, rfl⟩
  unfold three
  go_wp2_with fail
  refine (mul_any 0 d 0 d _ HC.out _ ⟨by omega, by omega⟩ ⟨by omega, by omega⟩ ⟨by omega, by omega⟩ ⟨by omega, by omega⟩).mono ?_
  rintro _ w' ⟨rfl, k5, rfl⟩
  unfold three
  go_wp2_with fail
  refine (text_any 0 d ⟨by omega, by omega⟩ ⟨by omega, by omega⟩ t HT.out _ (tab_on HTAB.out (below_box _ _ _))).mono ?_
  rintro _ w1 ⟨rfl, hb1⟩
  have HB1 := Lib.hid (below_on hb1); clear hb1
  go_wp2_with fail
  refine (parse_is t HS.out _ _ _ HP.out _).mono ?_
  rintro _ w' ⟨rfl, k7, rfl⟩
  go_wp2_with fail
  refine (less_any 0 d 0 d _ HF.out _ ⟨by omega, by omega⟩ ⟨by omega, by omega⟩ ⟨by omega, by omega⟩ ⟨by omega, by omega⟩).mono ?_
  rintro _ w' ⟨rfl, rfl⟩
  go_wp2_with fail
  refine (less_any 0 d 0 d _ HG.out _ ⟨by omega, by omega⟩ ⟨by omega, by omega⟩ ⟨by omega, by omega⟩ ⟨by omega, by omega⟩).mono ?_
  rintro _ w' ⟨rfl, rfl⟩
  go_wp2_with fail
  go_ret
  exact ⟨rfl, HB1.out _⟩

set_option maxRecDepth 100000 in
set_option maxHeartbeats 2000000 in
theorem back_yzg (x0 x1 x2 x3 : Int) (b0 : I64 x0) (b1 : I64 x1) (b2 : I64 x2) (b3 : I64 x3) (n d e a1 a2 p1 p2 : Int) (cn : -2147483647 ≤ n ∧ n ≤ 2147483647) (cd : -2147483647 ≤ d ∧ d ≤ 2147483647) (ce : -2147483647 ≤ e ∧ e ≤ 2147483647) (ca1 : -2147483647 ≤ a1 ∧ a1 ≤ 2147483647) (ca2 : -2147483647 ≤ a2 ∧ a2 ≤ 2147483647) (cp1 : -2147483647 ≤ p1 ∧ p1 ≤ 2147483647) (cp2 : -2147483647 ≤ p2 ∧ p2 ≤ 2147483647) (t : ByteArray)
    (hi : mk x0 x1 = (n, d, 0))
    (hj : mk x2 x3 = (0, e, 0))
    (ha : addF n d 0 e = (a1, a2, 0))
    (hb : subF a1 a2 0 e = (n, d, 0))
    (hc : mulF n d 0 e = (p1, p2, 0))
    (ht : t.data.toList = textL n d)
    (hp : parse t.data.toList = (n, d, true))
    (hs : t.size ≤ maxLen)
    (hf : lessF n d 0 e = false)
    (hg : lessF 0 e n d = true) (w : World) (htab : Lib.TabIs Tryd.prog w "internal/strconv.uint64pow10" .u64 Lib.pow10Tab) :
    Calls Tryd.prog 4 #[.agg (cells4 x0 x1 x2 x3)] w fun e w' => e = .returned (.bool true) ∧ Below w.heap.size w w' := by
  obtain ⟨b00, b01⟩ := b0
  obtain ⟨b10, b11⟩ := b1
  obtain ⟨b20, b21⟩ := b2
  obtain ⟨b30, b31⟩ := b3
  obtain ⟨cn0, cn1⟩ := cn
  obtain ⟨cd0, cd1⟩ := cd
  obtain ⟨ce0, ce1⟩ := ce
  obtain ⟨ca10, ca11⟩ := ca1
  obtain ⟨ca20, ca21⟩ := ca2
  obtain ⟨cp10, cp11⟩ := cp1
  obtain ⟨cp20, cp21⟩ := cp2
  have HTAB := Lib.hid htab; clear htab
  have HI := Lib.hid hi; clear hi
  have HJ := Lib.hid hj; clear hj
  have HA := Lib.hid ha; clear ha
  have HB := Lib.hid hb; clear hb
  have HC := Lib.hid hc; clear hc
  have HT := Lib.hid ht; clear ht
  have HP := Lib.hid hp; clear hp
  have HS := Lib.hid hs; clear hs
  have HF := Lib.hid hf; clear hf
  have HG := Lib.hid hg; clear hg
  unfold cells4
  go_enter Tryd.func4, Tryd.ntmps4
  go_wp2_with fail
  refine (awake_true _).mono ?_
  rintro _ w' ⟨rfl, k0, rfl⟩
  go_wp2_with fail
  refine (make_any x0 x1 _ HI.out _ (by omega) (by omega) (by omega) (by omega)).mono ?_
  rintro _ w' ⟨rfl, k1, rfl⟩
  unfold three
  go_wp2_with fail
  refine (make_any x2 x3 _ HJ.out _ (by omega) (by omega) (by omega) (by omega)).mono ?_
  rintro _ w' ⟨rfl, k2, rfl⟩
  unfold three
  go_wp2_with fail
  refine (add_any n d 0 e _ HA.out _ ⟨by omega, by omega⟩ ⟨by omega, by omega⟩ ⟨by omega, by omega⟩ ⟨by omega, by omega⟩).mono ?_
  rintro _ w' ⟨rfl, k3, rfl⟩
  unfold three
  go_wp2_with fail
  refine (sub_any a1 a2 0 e _ HB.out _ ⟨by omega, by omega⟩ ⟨by omega, by omega⟩ ⟨by omega, by omega⟩ ⟨by omega, by omega⟩).mono ?_
  rintro _ w' ⟨rfl, k4, rfl⟩
  unfold three
  go_wp2_with fail
  refine (mul_any n d 0 e _ HC.out _ ⟨by omega, by omega⟩ ⟨by omega, by omega⟩ ⟨by omega, by omega⟩ ⟨by omega, by omega⟩).mono ?_
  rintro _ w' ⟨rfl, k5, rfl⟩
  unfold three
  go_wp2_with fail
  refine (text_any n d ⟨by omega, by omega⟩ ⟨by omega, by omega⟩ t HT.out _ (tab_on HTAB.out (below_box _ _ _))).mono ?_
  rintro _ w1 ⟨rfl, hb1⟩
  have HB1 := Lib.hid (below_on hb1); clear hb1
  go_wp2_with fail
  refine (parse_is t HS.out _ _ _ HP.out _).mono ?_
  rintro _ w' ⟨rfl, k7, rfl⟩
  go_wp2_with fail
  refine (less_any n d 0 e _ HF.out _ ⟨by omega, by omega⟩ ⟨by omega, by omega⟩ ⟨by omega, by omega⟩ ⟨by omega, by omega⟩).mono ?_
  rintro _ w' ⟨rfl, rfl⟩
  go_wp2_with fail
  refine (less_any 0 e n d _ HG.out _ ⟨by omega, by omega⟩ ⟨by omega, by omega⟩ ⟨by omega, by omega⟩ ⟨by omega, by omega⟩).mono ?_
  rintro _ w' ⟨rfl, rfl⟩
  go_wp2_with fail
  go_ret
  exact ⟨rfl, HB1.out _⟩

set_option maxRecDepth 100000 in
set_option maxHeartbeats 2000000 in
theorem back_yyl (x0 x1 x2 x3 : Int) (b0 : I64 x0) (b1 : I64 x1) (b2 : I64 x2) (b3 : I64 x3) (n d m e a1 a2 p1 p2 : Int) (cn : -2147483647 ≤ n ∧ n ≤ 2147483647) (cd : -2147483647 ≤ d ∧ d ≤ 2147483647) (cm : -2147483647 ≤ m ∧ m ≤ 2147483647) (ce : -2147483647 ≤ e ∧ e ≤ 2147483647) (ca1 : -2147483647 ≤ a1 ∧ a1 ≤ 2147483647) (ca2 : -2147483647 ≤ a2 ∧ a2 ≤ 2147483647) (cp1 : -2147483647 ≤ p1 ∧ p1 ≤ 2147483647) (cp2 : -2147483647 ≤ p2 ∧ p2 ≤ 2147483647) (t : ByteArray)
    (hi : mk x0 x1 = (n, d, 0))
    (hj : mk x2 x3 = (m, e, 0))
    (ha : addF n d m e = (a1, a2, 0))
    (hb : subF a1 a2 m e = (n, d, 0))
    (hc : mulF n d m e = (p1, p2, 0))
    (hd : divF p1 p2 m e = (n, d, 0))
    (qm : (m != 0) = true)
    (ht : t.data.toList = textL n d)
    (hp : parse t.data.toList = (n, d, true))
    (hs : t.size ≤ maxLen)
    (hf : lessF n d m e = true)
    (hg : lessF m e n d = false)
    (qn : (n != m) = true) (w : World) (htab : Lib.TabIs Tryd.prog w "internal/strconv.uint64pow10" .u64 Lib.pow10Tab) :
    Calls Tryd.prog 4 #[.agg (cells4 x0 x1 x2 x3)] w fun e w' => e = .returned (.bool true) ∧ Below w.heap.size w w' := by
  obtain ⟨b00, b01⟩ := b0
  obtain ⟨b10, b11⟩ := b1
  obtain ⟨b20, b21⟩ := b2
  obtain ⟨b30, b31⟩ := b3
  obtain ⟨cn0, cn1⟩ := cn
  obtain ⟨cd0, cd1⟩ := cd
  obtain ⟨cm0, cm1⟩ := cm
  obtain ⟨ce0, ce1⟩ := ce
  obtain ⟨ca10, ca11⟩ := ca1
  obtain ⟨ca20, ca21⟩ := ca2
  obtain ⟨cp10, cp11⟩ := cp1
  obtain ⟨cp20, cp21⟩ := cp2
  have HTAB := Lib.hid htab; clear htab
  have HI := Lib.hid hi; clear hi
  have HJ := Lib.hid hj; clear hj
  have HA := Lib.hid ha; clear ha
  have HB := Lib.hid hb; clear hb
  have HC := Lib.hid hc; clear hc
  have HD := Lib.hid hd; clear hd
  have HT := Lib.hid ht; clear ht
  have HP := Lib.hid hp; clear hp
  have HS := Lib.hid hs; clear hs
  have HF := Lib.hid hf; clear hf
  have HG := Lib.hid hg; clear hg
  unfold cells4
  go_enter Tryd.func4, Tryd.ntmps4
  go_wp2_with fail
  refine (awake_true _).mono ?_
  rintro _ w' ⟨rfl, k0, rfl⟩
  go_wp2_with fail
  refine (make_any x0 x1 _ HI.out _ (by omega) (by omega) (by omega) (by omega)).mono ?_
  rintro _ w' ⟨rfl, k1, rfl⟩
  unfold three
  go_wp2_with fail
  refine (make_any x2 x3 _ HJ.out _ (by omega) (by omega) (by omega) (by omega)).mono ?_
  rintro _ w' ⟨rfl, k2, rfl⟩
  unfold three
  go_wp2_with fail
  refine (add_any n d m e _ HA.out _ ⟨by omega, by omega⟩ ⟨by omega, by omega⟩ ⟨by omega, by omega⟩ ⟨by omega, by omega⟩).mono ?_
  rintro _ w' ⟨rfl, k3, rfl⟩
  unfold three
  go_wp2_with fail
  refine (sub_any a1 a2 m e _ HB.out _ ⟨by omega, by omega⟩ ⟨by omega, by omega⟩ ⟨by omega, by omega⟩ ⟨by omega, by omega⟩).mono ?_
  rintro _ w' ⟨rfl, k4, rfl⟩
  unfold three
  go_wp2_with fail
  refine (mul_any n d m e _ HC.out _ ⟨by omega, by omega⟩ ⟨by omega, by omega⟩ ⟨by omega, by omega⟩ ⟨by omega, by omega⟩).mono ?_
  rintro _ w' ⟨rfl, k5, rfl⟩
  unfold three
  go_wp2_with fail
  refine (div_any p1 p2 m e _ HD.out _ ⟨by omega, by omega⟩ ⟨by omega, by omega⟩ ⟨by omega, by omega⟩ ⟨by omega, by omega⟩).mono ?_
  rintro _ w' ⟨rfl, k6, rfl⟩
  unfold three
  go_wp2_with fail
  refine (text_any n d ⟨by omega, by omega⟩ ⟨by omega, by omega⟩ t HT.out _ (tab_on HTAB.out (below_box _ _ _))).mono ?_
  rintro _ w1 ⟨rfl, hb1⟩
  have HB1 := Lib.hid (below_on hb1); clear hb1
  go_wp2_with fail
  refine (parse_is t HS.out _ _ _ HP.out _).mono ?_
  rintro _ w' ⟨rfl, k7, rfl⟩
  go_wp2_with fail
  refine (less_any n d m e _ HF.out _ ⟨by omega, by omega⟩ ⟨by omega, by omega⟩ ⟨by omega, by omega⟩ ⟨by omega, by omega⟩).mono ?_
  rintro _ w' ⟨rfl, rfl⟩
  go_wp2_with fail
  refine (less_any m e n d _ HG.out _ ⟨by omega, by omega⟩ ⟨by omega, by omega⟩ ⟨by omega, by omega⟩ ⟨by omega, by omega⟩).mono ?_
  rintro _ w' ⟨rfl, rfl⟩
  go_wp2_with fail
  go_ret
  exact ⟨rfl, HB1.out _⟩

set_option maxRecDepth 100000 in
set_option maxHeartbeats 2000000 in
theorem back_yyk (x0 x1 x2 x3 : Int) (b0 : I64 x0) (b1 : I64 x1) (b2 : I64 x2) (b3 : I64 x3) (n d e a1 a2 p1 p2 : Int) (cn : -2147483647 ≤ n ∧ n ≤ 2147483647) (cd : -2147483647 ≤ d ∧ d ≤ 2147483647) (ce : -2147483647 ≤ e ∧ e ≤ 2147483647) (ca1 : -2147483647 ≤ a1 ∧ a1 ≤ 2147483647) (ca2 : -2147483647 ≤ a2 ∧ a2 ≤ 2147483647) (cp1 : -2147483647 ≤ p1 ∧ p1 ≤ 2147483647) (cp2 : -2147483647 ≤ p2 ∧ p2 ≤ 2147483647) (t : ByteArray)
    (hi : mk x0 x1 = (n, d, 0))
    (hj : mk x2 x3 = (n, e, 0))
    (ha : addF n d n e = (a1, a2, 0))
    (hb : subF a1 a2 n e = (n, d, 0))
    (hc : mulF n d n e = (p1, p2, 0))
    (hd : divF p1 p2 n e = (n, d, 0))
    (qm : (n != 0) = true)
    (ht : t.data.toList = textL n d)
    (hp : parse t.data.toList = (n, d, true))
    (hs : t.size ≤ maxLen)
    (hf : lessF n d n e = true)
    (hg : lessF n e n d = false)
    (qd : (d != e) = true) (w : World) (htab : Lib.TabIs Tryd.prog w "internal/strconv.uint64pow10" .u64 Lib.pow10Tab) :
    Calls Tryd.prog 4 #[.agg (cells4 x0 x1 x2 x3)] w fun e w' => e = .returned (.bool true) ∧ Below w.heap.size w w' := by
  obtain ⟨b00, b01⟩ := b0
  obtain ⟨b10, b11⟩ := b1
  obtain ⟨b20, b21⟩ := b2
  obtain ⟨b30, b31⟩ := b3
  obtain ⟨cn0, cn1⟩ := cn
  obtain ⟨cd0, cd1⟩ := cd
  obtain ⟨ce0, ce1⟩ := ce
  obtain ⟨ca10, ca11⟩ := ca1
  obtain ⟨ca20, ca21⟩ := ca2
  obtain ⟨cp10, cp11⟩ := cp1
  obtain ⟨cp20, cp21⟩ := cp2
  have HTAB := Lib.hid htab; clear htab
  have HI := Lib.hid hi; clear hi
  have HJ := Lib.hid hj; clear hj
  have HA := Lib.hid ha; clear ha
  have HB := Lib.hid hb; clear hb
  have HC := Lib.hid hc; clear hc
  have HD := Lib.hid hd; clear hd
  have HT := Lib.hid ht; clear ht
  have HP := Lib.hid hp; clear hp
  have HS := Lib.hid hs; clear hs
  have HF := Lib.hid hf; clear hf
  have HG := Lib.hid hg; clear hg
  unfold cells4
  go_enter Tryd.func4, Tryd.ntmps4
  go_wp2_with fail
  refine (awake_true _).mono ?_
  rintro _ w' ⟨rfl, k0, rfl⟩
  go_wp2_with fail
  refine (make_any x0 x1 _ HI.out _ (by omega) (by omega) (by omega) (by omega)).mono ?_
  rintro _ w' ⟨rfl, k1, rfl⟩
  unfold three
  go_wp2_with fail
  refine (make_any x2 x3 _ HJ.out _ (by omega) (by omega) (by omega) (by omega)).mono ?_
  rintro _ w' ⟨rfl, k2, rfl⟩
  unfold three
  go_wp2_with fail
  refine (add_any n d n e _ HA.out _ ⟨by omega, by omega⟩ ⟨by omega, by omega⟩ ⟨by omega, by omega⟩ ⟨by omega, by omega⟩).mono ?_
  rintro _ w' ⟨rfl, k3, rfl⟩
  unfold three
  go_wp2_with fail
  refine (sub_any a1 a2 n e _ HB.out _ ⟨by omega, by omega⟩ ⟨by omega, by omega⟩ ⟨by omega, by omega⟩ ⟨by omega, by omega⟩).mono ?_
  rintro _ w' ⟨rfl, k4, rfl⟩
  unfold three
  go_wp2_with fail
  refine (mul_any n d n e _ HC.out _ ⟨by omega, by omega⟩ ⟨by omega, by omega⟩ ⟨by omega, by omega⟩ ⟨by omega, by omega⟩).mono ?_
  rintro _ w' ⟨rfl, k5, rfl⟩
  unfold three
  go_wp2_with fail
  refine (div_any p1 p2 n e _ HD.out _ ⟨by omega, by omega⟩ ⟨by omega, by omega⟩ ⟨by omega, by omega⟩ ⟨by omega, by omega⟩).mono ?_
  rintro _ w' ⟨rfl, k6, rfl⟩
  unfold three
  go_wp2_with fail
  refine (text_any n d ⟨by omega, by omega⟩ ⟨by omega, by omega⟩ t HT.out _ (tab_on HTAB.out (below_box _ _ _))).mono ?_
  rintro _ w1 ⟨rfl, hb1⟩
  have HB1 := Lib.hid (below_on hb1); clear hb1
  go_wp2_with fail
  refine (parse_is t HS.out _ _ _ HP.out _).mono ?_
  rintro _ w' ⟨rfl, k7, rfl⟩
  go_wp2_with fail
  refine (less_any n d n e _ HF.out _ ⟨by omega, by omega⟩ ⟨by omega, by omega⟩ ⟨by omega, by omega⟩ ⟨by omega, by omega⟩).mono ?_
  rintro _ w' ⟨rfl, rfl⟩
  go_wp2_with fail
  refine (less_any n e n d _ HG.out _ ⟨by omega, by omega⟩ ⟨by omega, by omega⟩ ⟨by omega, by omega⟩ ⟨by omega, by omega⟩).mono ?_
  rintro _ w' ⟨rfl, rfl⟩
  go_wp2_with fail
  go_ret
  exact ⟨rfl, HB1.out _⟩

set_option maxRecDepth 100000 in
set_option maxHeartbeats 2000000 in
theorem back_yye (x0 x1 x2 x3 : Int) (b0 : I64 x0) (b1 : I64 x1) (b2 : I64 x2) (b3 : I64 x3) (n d a1 a2 p1 p2 : Int) (cn : -2147483647 ≤ n ∧ n ≤ 2147483647) (cd : -2147483647 ≤ d ∧ d ≤ 2147483647) (ca1 : -2147483647 ≤ a1 ∧ a1 ≤ 2147483647) (ca2 : -2147483647 ≤ a2 ∧ a2 ≤ 2147483647) (cp1 : -2147483647 ≤ p1 ∧ p1 ≤ 2147483647) (cp2 : -2147483647 ≤ p2 ∧ p2 ≤ 2147483647) (t : ByteArray)
    (hi : mk x0 x1 = (n, d, 0))
    (hj : mk x2 x3 = (n, d, 0))
    (ha : addF n d n d = (a1, a2, 0))
    (hb : subF a1 a2 n d = (n, d, 0))
    (hc : mulF n d n d = (p1, p2, 0))
    (hd : divF p1 p2 n d = (n, d, 0))
    (qm : (n != 0) = true)
    (ht : t.data.toList = textL n d)
    (hp : parse t.data.toList = (n, d, true))
    (hs : t.size ≤ maxLen)
    (hf : lessF n d n d = false)
    (hg : lessF n d n d = false) (w : World) (htab : Lib.TabIs Tryd.prog w "internal/strconv.uint64pow10" .u64 Lib.pow10Tab) :
    Calls Tryd.prog 4 #[.agg (cells4 x0 x1 x2 x3)] w fun e w' => e = .returned (.bool true) ∧ Below w.heap.size w w' := by
  obtain ⟨b00, b01⟩ := b0
  obtain ⟨b10, b11⟩ := b1
  obtain ⟨b20, b21⟩ := b2
  obtain ⟨b30, b31⟩ := b3
  obtain ⟨cn0, cn1⟩ := cn
  obtain ⟨cd0, cd1⟩ := cd
  obtain ⟨ca10, ca11⟩ := ca1
  obtain ⟨ca20, ca21⟩ := ca2
  obtain ⟨cp10, cp11⟩ := cp1
  obtain ⟨cp20, cp21⟩ := cp2
  have HTAB := Lib.hid htab; clear htab
  have HI := Lib.hid hi; clear hi
  have HJ := Lib.hid hj; clear hj
  have HA := Lib.hid ha; clear ha
  have HB := Lib.hid hb; clear hb
  have HC := Lib.hid hc; clear hc
  have HD := Lib.hid hd; clear hd
  have HT := Lib.hid ht; clear ht
  have HP := Lib.hid hp; clear hp
  have HS := Lib.hid hs; clear hs
  have HF := Lib.hid hf; clear hf
  have HG := Lib.hid hg; clear hg
  unfold cells4
  go_enter Tryd.func4, Tryd.ntmps4
  go_wp2_with fail
  refine (awake_true _).mono ?_
  rintro _ w' ⟨rfl, k0, rfl⟩
  go_wp2_with fail
  refine (make_any x0 x1 _ HI.out _ (by omega) (by omega) (by omega) (by omega)).mono ?_
  rintro _ w' ⟨rfl, k1, rfl⟩
  unfold three
  go_wp2_with fail
  refine (make_any x2 x3 _ HJ.out _ (by omega) (by omega) (by omega) (by omega)).mono ?_
  rintro _ w' ⟨rfl, k2, rfl⟩
  unfold three
  go_wp2_with fail
  refine (add_any n d n d _ HA.out _ ⟨by omega, by omega⟩ ⟨by omega, by omega⟩ ⟨by omega, by omega⟩ ⟨by omega, by omega⟩).mono ?_
  rintro _ w' ⟨rfl, k3, rfl⟩
  unfold three
  go_wp2_with fail
  refine (sub_any a1 a2 n d _ HB.out _ ⟨by omega, by omega⟩ ⟨by omega, by omega⟩ ⟨by omega, by omega⟩ ⟨by omega, by omega⟩).mono ?_
  rintro _ w' ⟨rfl, k4, rfl⟩
  unfold three
  go_wp2_with fail
  refine (mul_any n d n d _ HC.out _ ⟨by omega, by omega⟩ ⟨by omega, by omega⟩ ⟨by omega, by omega⟩ ⟨by omega, by omega⟩).mono ?_
  rintro _ w' ⟨rfl, k5, rfl⟩
  unfold three
  go_wp2_with fail
  refine (div_any p1 p2 n d _ HD.out _ ⟨by omega, by omega⟩ ⟨by omega, by omega⟩ ⟨by omega, by omega⟩ ⟨by omega, by omega⟩).mono ?_
  rintro _ w' ⟨rfl, k6, rfl⟩
  unfold three
  go_wp2_with fail
  refine (text_any n d ⟨by omega, by omega⟩ ⟨by omega, by omega⟩ t HT.out _ (tab_on HTAB.out (below_box _ _ _))).mono ?_
  rintro _ w1 ⟨rfl, hb1⟩
  have HB1 := Lib.hid (below_on hb1); clear hb1
  go_wp2_with fail
  refine (parse_is t HS.out _ _ _ HP.out _).mono ?_
  rintro _ w' ⟨rfl, k7, rfl⟩
  go_wp2_with fail
  refine (less_any n d n d _ HF.out _ ⟨by omega, by omega⟩ ⟨by omega, by omega⟩ ⟨by omega, by omega⟩ ⟨by omega, by omega⟩).mono ?_
  rintro _ w' ⟨rfl, rfl⟩
  go_wp2_with fail
  refine (less_any n d n d _ HG.out _ ⟨by omega, by omega⟩ ⟨by omega, by omega⟩ ⟨by omega, by omega⟩ ⟨by omega, by omega⟩).mono ?_
  rintro _ w' ⟨rfl, rfl⟩
  go_wp2_with fail
  go_ret
  exact ⟨rfl, HB1.out _⟩

set_option maxRecDepth 100000 in
set_option maxHeartbeats 2000000 in
theorem back_yyg (x0 x1 x2 x3 : Int) (b0 : I64 x0) (b1 : I64 x1) (b2 : I64 x2) (b3 : I64 x3) (n d m e a1 a2 p1 p2 : Int) (cn : -2147483647 ≤ n ∧ n ≤ 2147483647) (cd : -2147483647 ≤ d ∧ d ≤ 2147483647) (cm : -2147483647 ≤ m ∧ m ≤ 2147483647) (ce : -2147483647 ≤ e ∧ e ≤ 2147483647) (ca1 : -2147483647 ≤ a1 ∧ a1 ≤ 2147483647) (ca2 : -2147483647 ≤ a2 ∧ a2 ≤ 2147483647) (cp1 : -2147483647 ≤ p1 ∧ p1 ≤ 2147483647) (cp2 : -2147483647 ≤ p2 ∧ p2 ≤ 2147483647) (t : ByteArray)
    (hi : mk x0 x1 = (n, d, 0))
    (hj : mk x2 x3 = (m, e, 0))
    (ha : addF n d m e = (a1, a2, 0))
    (hb : subF a1 a2 m e = (n, d, 0))
    (hc : mulF n d m e = (p1, p2, 0))
    (hd : divF p1 p2 m e = (n, d, 0))
    (qm : (m != 0) = true)
    (ht : t.data.toList = textL n d)
    (hp : parse t.data.toList = (n, d, true))
    (hs : t.size ≤ maxLen)
    (hf : lessF n d m e = false)
    (hg : lessF m e n d = true) (w : World) (htab : Lib.TabIs Tryd.prog w "internal/strconv.uint64pow10" .u64 Lib.pow10Tab) :
    Calls Tryd.prog 4 #[.agg (cells4 x0 x1 x2 x3)] w fun e w' => e = .returned (.bool true) ∧ Below w.heap.size w w' := by
  obtain ⟨b00, b01⟩ := b0
  obtain ⟨b10, b11⟩ := b1
  obtain ⟨b20, b21⟩ := b2
  obtain ⟨b30, b31⟩ := b3
  obtain ⟨cn0, cn1⟩ := cn
  obtain ⟨cd0, cd1⟩ := cd
  obtain ⟨cm0, cm1⟩ := cm
  obtain ⟨ce0, ce1⟩ := ce
  obtain ⟨ca10, ca11⟩ := ca1
  obtain ⟨ca20, ca21⟩ := ca2
  obtain ⟨cp10, cp11⟩ := cp1
  obtain ⟨cp20, cp21⟩ := cp2
  have HTAB := Lib.hid htab; clear htab
  have HI := Lib.hid hi; clear hi
  have HJ := Lib.hid hj; clear hj
  have HA := Lib.hid ha; clear ha
  have HB := Lib.hid hb; clear hb
  have HC := Lib.hid hc; clear hc
  have HD := Lib.hid hd; clear hd
  have HT := Lib.hid ht; clear ht
  have HP := Lib.hid hp; clear hp
  have HS := Lib.hid hs; clear hs
  have HF := Lib.hid hf; clear hf
  have HG := Lib.hid hg; clear hg
  unfold cells4
  go_enter Tryd.func4, Tryd.ntmps4
  go_wp2_with fail
  refine (awake_true _).mono ?_
  rintro _ w' ⟨rfl, k0, rfl⟩
  go_wp2_with fail
  refine (make_any x0 x1 _ HI.out _ (by omega) (by omega) (by omega) (by omega)).mono ?_
  rintro _ w' ⟨rfl, k1, rfl⟩
  unfold three
  go_wp2_with fail
  refine (make_any x2 x3 _ HJ.out _ (by omega) (by omega) (by omega) (by omega)).mono ?_
  rintro _ w' ⟨rfl, k2, rfl⟩
  unfold three
  go_wp2_with fail
  refine (add_any n d m e _ HA.out _ ⟨by omega, by omega⟩ ⟨by omega, by omega⟩ ⟨by omega, by omega⟩ ⟨by omega, by omega⟩).mono ?_
  rintro _ w' ⟨rfl, k3, rfl⟩
  unfold three
  go_wp2_with fail
  refine (sub_any a1 a2 m e _ HB.out _ ⟨by omega, by omega⟩ ⟨by omega, by omega⟩ ⟨by omega, by omega⟩ ⟨by omega, by omega⟩).mono ?_
  rintro _ w' ⟨rfl, k4, rfl⟩
  unfold three
  go_wp2_with fail
  refine (mul_any n d m e _ HC.out _ ⟨by omega, by omega⟩ ⟨by omega, by omega⟩ ⟨by omega, by omega⟩ ⟨by omega, by omega⟩).mono ?_
  rintro _ w' ⟨rfl, k5, rfl⟩
  unfold three
  go_wp2_with fail
  refine (div_any p1 p2 m e _ HD.out _ ⟨by omega, by omega⟩ ⟨by omega, by omega⟩ ⟨by omega, by omega⟩ ⟨by omega, by omega⟩).mono ?_
  rintro _ w' ⟨rfl, k6, rfl⟩
  unfold three
  go_wp2_with fail
  refine (text_any n d ⟨by omega, by omega⟩ ⟨by omega, by omega⟩ t HT.out _ (tab_on HTAB.out (below_box _ _ _))).mono ?_
  rintro _ w1 ⟨rfl, hb1⟩
  have HB1 := Lib.hid (below_on hb1); clear hb1
  go_wp2_with fail
  refine (parse_is t HS.out _ _ _ HP.out _).mono ?_
  rintro _ w' ⟨rfl, k7, rfl⟩
  go_wp2_with fail
  refine (less_any n d m e _ HF.out _ ⟨by omega, by omega⟩ ⟨by omega, by omega⟩ ⟨by omega, by omega⟩ ⟨by omega, by omega⟩).mono ?_
  rintro _ w' ⟨rfl, rfl⟩
  go_wp2_with fail
  refine (less_any m e n d _ HG.out _ ⟨by omega, by omega⟩ ⟨by omega, by omega⟩ ⟨by omega, by omega⟩ ⟨by omega, by omega⟩).mono ?_
  rintro _ w' ⟨rfl, rfl⟩
  go_wp2_with fail
  go_ret
  exact ⟨rfl, HB1.out _⟩

end Go.Proofs.YtfkeiokoghaciaaDoor
