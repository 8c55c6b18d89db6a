/- The walk of the statement NumOrder: one theorem a way. -/
import Derived.Test.YtfkeiokoghaciaaRingAll
namespace Go.Proofs.Ytfkeiokoghaciaa
open Go.RowKit NumPlain

set_option maxRecDepth 100000 in
set_option maxHeartbeats 2000000 in
theorem order_bad (x0 x1 x2 x3 x4 x5 : Int) (b0 : I64 x0) (b1 : I64 x1) (b2 : I64 x2) (b3 : I64 x3) (b4 : I64 x4) (b5 : I64 x5) (n d i m e j o f k : Int) (cn : -2147483647 ≤ n ∧ n ≤ 2147483647) (cd : -2147483647 ≤ d ∧ d ≤ 2147483647) (ci : -2147483647 ≤ i ∧ i ≤ 2147483647) (cm : -2147483647 ≤ m ∧ m ≤ 2147483647) (ce : -2147483647 ≤ e ∧ e ≤ 2147483647) (cj : -2147483647 ≤ j ∧ j ≤ 2147483647) (co : -2147483647 ≤ o ∧ o ≤ 2147483647) (cf : -2147483647 ≤ f ∧ f ≤ 2147483647) (ck : -2147483647 ≤ k ∧ k ≤ 2147483647)
    (hi : mk x0 x1 = (n, d, i))
    (hj : mk x2 x3 = (m, e, j))
    (hk : mk x4 x5 = (o, f, k))
    (q : (i + j + k != 0) = true) (w : World) :
    Calls Try.prog 6 #[.agg (cells6 x0 x1 x2 x3 x4 x5)] w fun e w' => e = .returned (.bool true) ∧ Grown w w' := by
  obtain ⟨b00, b01⟩ := b0
  obtain ⟨b10, b11⟩ := b1
  obtain ⟨b20, b21⟩ := b2
  obtain ⟨b30, b31⟩ := b3
  obtain ⟨b40, b41⟩ := b4
  obtain ⟨b50, b51⟩ := b5
  obtain ⟨cn0, cn1⟩ := cn
  obtain ⟨cd0, cd1⟩ := cd
  obtain ⟨ci0, ci1⟩ := ci
  obtain ⟨cm0, cm1⟩ := cm
  obtain ⟨ce0, ce1⟩ := ce
  obtain ⟨cj0, cj1⟩ := cj
  obtain ⟨co0, co1⟩ := co
  obtain ⟨cf0, cf1⟩ := cf
  obtain ⟨ck0, ck1⟩ := ck
  have HI := Lib.hid hi; clear hi
  have HJ := Lib.hid hj; clear hj
  have HK := Lib.hid hk; clear hk
  unfold cells6
  go_enter Try.func6, Try.ntmps6
  go_wp2_with fail
  refine (awake_true _).mono ?_
  rintro _ w' ⟨rfl, k0, rfl⟩
  go_wp2_with fail
  refine (make_any x0 x1 _ HI.out _ (by omega) (by omega) (by omega) (by omega)).mono ?_
  rintro _ w' ⟨rfl, k1, rfl⟩
  unfold three
  go_wp2_with fail
  refine (make_any x2 x3 _ HJ.out _ (by omega) (by omega) (by omega) (by omega)).mono ?_
  rintro _ w' ⟨rfl, k2, rfl⟩
  unfold three
  go_wp2_with fail
  refine (make_any x4 x5 _ HK.out _ (by omega) (by omega) (by omega) (by omega)).mono ?_
  rintro _ w' ⟨rfl, k3, rfl⟩
  unfold three
  go_wp2_with fail
  go_ret
  exact ⟨rfl, (((Grown.refl _).alloc _ _).drewN' _)⟩

set_option maxRecDepth 100000 in
set_option maxHeartbeats 2000000 in
theorem order_nxnx (x0 x1 x2 x3 x4 x5 : Int) (b0 : I64 x0) (b1 : I64 x1) (b2 : I64 x2) (b3 : I64 x3) (b4 : I64 x4) (b5 : I64 x5) (bc ac : Bool) (n d m e o f : Int) (t2 : Int × Int × Int) (cn : -2147483647 ≤ n ∧ n ≤ 2147483647) (cd : -2147483647 ≤ d ∧ d ≤ 2147483647) (cm : -2147483647 ≤ m ∧ m ≤ 2147483647) (ce : -2147483647 ≤ e ∧ e ≤ 2147483647) (co : -2147483647 ≤ o ∧ o ≤ 2147483647) (cf : -2147483647 ≤ f ∧ f ≤ 2147483647)
    (hi : mk x0 x1 = (n, d, 0))
    (hj : mk x2 x3 = (m, e, 0))
    (hk : mk x4 x5 = (o, f, 0))
    (ha : lessF n d m e = false)
    (hb : lessF m e o f = bc)
    (hc : lessF n d o f = ac)
    (hd : addF n d o f = (0, 0, 3))
    (he : addF m e o f = t2)
    (hg : lessF n d n d = false) (w : World) :
    Calls Try.prog 6 #[.agg (cells6 x0 x1 x2 x3 x4 x5)] w fun e w' => e = .returned (.bool true) ∧ Grown w w' := by
  obtain ⟨b00, b01⟩ := b0
  obtain ⟨b10, b11⟩ := b1
  obtain ⟨b20, b21⟩ := b2
  obtain ⟨b30, b31⟩ := b3
  obtain ⟨b40, b41⟩ := b4
  obtain ⟨b50, b51⟩ := b5
  obtain ⟨cn0, cn1⟩ := cn
  obtain ⟨cd0, cd1⟩ := cd
  obtain ⟨cm0, cm1⟩ := cm
  obtain ⟨ce0, ce1⟩ := ce
  obtain ⟨co0, co1⟩ := co
  obtain ⟨cf0, cf1⟩ := cf
  have HI := Lib.hid hi; clear hi
  have HJ := Lib.hid hj; clear hj
  have HK := Lib.hid hk; clear hk
  have HA := Lib.hid ha; clear ha
  have HB := Lib.hid hb; clear hb
  have HC := Lib.hid hc; clear hc
  have HD := Lib.hid hd; clear hd
  have HE := Lib.hid he; clear he
  have HG := Lib.hid hg; clear hg
  unfold cells6
  go_enter Try.func6, Try.ntmps6
  go_wp2_with fail
  refine (awake_true _).mono ?_
  rintro _ w' ⟨rfl, k0, rfl⟩
  go_wp2_with fail
  refine (make_any x0 x1 _ HI.out _ (by omega) (by omega) (by omega) (by omega)).mono ?_
  rintro _ w' ⟨rfl, k1, rfl⟩
  unfold three
  go_wp2_with fail
  refine (make_any x2 x3 _ HJ.out _ (by omega) (by omega) (by omega) (by omega)).mono ?_
  rintro _ w' ⟨rfl, k2, rfl⟩
  unfold three
  go_wp2_with fail
  refine (make_any x4 x5 _ HK.out _ (by omega) (by omega) (by omega) (by omega)).mono ?_
  rintro _ w' ⟨rfl, k3, rfl⟩
  unfold three
  go_wp2_with fail
  refine (less_any n d m e _ HA.out _ ⟨by omega, by omega⟩ ⟨by omega, by omega⟩ ⟨by omega, by omega⟩ ⟨by omega, by omega⟩).mono ?_
  rintro _ w' ⟨rfl, rfl⟩
  go_wp2_with fail
  refine (less_any m e o f _ HB.out _ ⟨by omega, by omega⟩ ⟨by omega, by omega⟩ ⟨by omega, by omega⟩ ⟨by omega, by omega⟩).mono ?_
  rintro _ w' ⟨rfl, rfl⟩
  go_wp2_with fail
  refine (less_any n d o f _ HC.out _ ⟨by omega, by omega⟩ ⟨by omega, by omega⟩ ⟨by omega, by omega⟩ ⟨by omega, by omega⟩).mono ?_
  rintro _ w' ⟨rfl, rfl⟩
  go_wp2_with fail
  refine (add_any n d o f _ HD.out _ ⟨by omega, by omega⟩ ⟨by omega, by omega⟩ ⟨by omega, by omega⟩ ⟨by omega, by omega⟩).mono ?_
  rintro _ w' ⟨rfl, k4, rfl⟩
  unfold three
  go_wp2_with fail
  refine (add_any m e o f _ HE.out _ ⟨by omega, by omega⟩ ⟨by omega, by omega⟩ ⟨by omega, by omega⟩ ⟨by omega, by omega⟩).mono ?_
  rintro _ w' ⟨rfl, k5, rfl⟩
  unfold three
  go_wp2_with fail
  refine (less_any n d n d _ HG.out _ ⟨by omega, by omega⟩ ⟨by omega, by omega⟩ ⟨by omega, by omega⟩ ⟨by omega, by omega⟩).mono ?_
  rintro _ w' ⟨rfl, rfl⟩
  go_wp2_with fail
  go_ret
  exact ⟨rfl, (((Grown.refl _).alloc _ _).drewN' _)⟩

set_option maxRecDepth 100000 in
set_option maxHeartbeats 2000000 in
theorem order_nxyn (x0 x1 x2 x3 x4 x5 : Int) (b0 : I64 x0) (b1 : I64 x1) (b2 : I64 x2) (b3 : I64 x3) (b4 : I64 x4) (b5 : I64 x5) (bc ac : Bool) (n d m e o f a1 a2 : Int) (cn : -2147483647 ≤ n ∧ n ≤ 2147483647) (cd : -2147483647 ≤ d ∧ d ≤ 2147483647) (cm : -2147483647 ≤ m ∧ m ≤ 2147483647) (ce : -2147483647 ≤ e ∧ e ≤ 2147483647) (co : -2147483647 ≤ o ∧ o ≤ 2147483647) (cf : -2147483647 ≤ f ∧ f ≤ 2147483647) (ca1 : -2147483647 ≤ a1 ∧ a1 ≤ 2147483647) (ca2 : -2147483647 ≤ a2 ∧ a2 ≤ 2147483647)
    (hi : mk x0 x1 = (n, d, 0))
    (hj : mk x2 x3 = (m, e, 0))
    (hk : mk x4 x5 = (o, f, 0))
    (ha : lessF n d m e = false)
    (hb : lessF m e o f = bc)
    (hc : lessF n d o f = ac)
    (hd : addF n d o f = (a1, a2, 0))
    (he : addF m e o f = (0, 0, 3))
    (hg : lessF n d n d = false) (w : World) :
    Calls Try.prog 6 #[.agg (cells6 x0 x1 x2 x3 x4 x5)] w fun e w' => e = .returned (.bool true) ∧ Grown w w' := by
  obtain ⟨b00, b01⟩ := b0
  obtain ⟨b10, b11⟩ := b1
  obtain ⟨b20, b21⟩ := b2
  obtain ⟨b30, b31⟩ := b3
  obtain ⟨b40, b41⟩ := b4
  obtain ⟨b50, b51⟩ := b5
  obtain ⟨cn0, cn1⟩ := cn
  obtain ⟨cd0, cd1⟩ := cd
  obtain ⟨cm0, cm1⟩ := cm
  obtain ⟨ce0, ce1⟩ := ce
  obtain ⟨co0, co1⟩ := co
  obtain ⟨cf0, cf1⟩ := cf
  obtain ⟨ca10, ca11⟩ := ca1
  obtain ⟨ca20, ca21⟩ := ca2
  have HI := Lib.hid hi; clear hi
  have HJ := Lib.hid hj; clear hj
  have HK := Lib.hid hk; clear hk
  have HA := Lib.hid ha; clear ha
  have HB := Lib.hid hb; clear hb
  have HC := Lib.hid hc; clear hc
  have HD := Lib.hid hd; clear hd
  have HE := Lib.hid he; clear he
  have HG := Lib.hid hg; clear hg
  unfold cells6
  go_enter Try.func6, Try.ntmps6
  go_wp2_with fail
  refine (awake_true _).mono ?_
  rintro _ w' ⟨rfl, k0, rfl⟩
  go_wp2_with fail
  refine (make_any x0 x1 _ HI.out _ (by omega) (by omega) (by omega) (by omega)).mono ?_
  rintro _ w' ⟨rfl, k1, rfl⟩
  unfold three
  go_wp2_with fail
  refine (make_any x2 x3 _ HJ.out _ (by omega) (by omega) (by omega) (by omega)).mono ?_
  rintro _ w' ⟨rfl, k2, rfl⟩
  unfold three
  go_wp2_with fail
  refine (make_any x4 x5 _ HK.out _ (by omega) (by omega) (by omega) (by omega)).mono ?_
  rintro _ w' ⟨rfl, k3, rfl⟩
  unfold three
  go_wp2_with fail
  refine (less_any n d m e _ HA.out _ ⟨by omega, by omega⟩ ⟨by omega, by omega⟩ ⟨by omega, by omega⟩ ⟨by omega, by omega⟩).mono ?_
  rintro _ w' ⟨rfl, rfl⟩
  go_wp2_with fail
  refine (less_any m e o f _ HB.out _ ⟨by omega, by omega⟩ ⟨by omega, by omega⟩ ⟨by omega, by omega⟩ ⟨by omega, by omega⟩).mono ?_
  rintro _ w' ⟨rfl, rfl⟩
  go_wp2_with fail
  refine (less_any n d o f _ HC.out _ ⟨by omega, by omega⟩ ⟨by omega, by omega⟩ ⟨by omega, by omega⟩ ⟨by omega, by omega⟩).mono ?_
  rintro _ w' ⟨rfl, rfl⟩
  go_wp2_with fail
  refine (add_any n d o f _ HD.out _ ⟨by omega, by omega⟩ ⟨by omega, by omega⟩ ⟨by omega, by omega⟩ ⟨by omega, by omega⟩).mono ?_
  rintro _ w' ⟨rfl, k4, rfl⟩
  unfold three
  go_wp2_with fail
  refine (add_any m e o f _ HE.out _ ⟨by omega, by omega⟩ ⟨by omega, by omega⟩ ⟨by omega, by omega⟩ ⟨by omega, by omega⟩).mono ?_
  rintro _ w' ⟨rfl, k5, rfl⟩
  unfold three
  go_wp2_with fail
  refine (less_any n d n d _ HG.out _ ⟨by omega, by omega⟩ ⟨by omega, by omega⟩ ⟨by omega, by omega⟩ ⟨by omega, by omega⟩).mono ?_
  rintro _ w' ⟨rfl, rfl⟩
  go_wp2_with fail
  go_ret
  exact ⟨rfl, (((Grown.refl _).alloc _ _).drewN' _)⟩

set_option maxRecDepth 100000 in
set_option maxHeartbeats 2000000 in
theorem order_nxyy (x0 x1 x2 x3 x4 x5 : Int) (b0 : I64 x0) (b1 : I64 x1) (b2 : I64 x2) (b3 : I64 x3) (b4 : I64 x4) (b5 : I64 x5) (bc ac : Bool) (n d m e o f a1 a2 g1 g2 : Int) (cn : -2147483647 ≤ n ∧ n ≤ 2147483647) (cd : -2147483647 ≤ d ∧ d ≤ 2147483647) (cm : -2147483647 ≤ m ∧ m ≤ 2147483647) (ce : -2147483647 ≤ e ∧ e ≤ 2147483647) (co : -2147483647 ≤ o ∧ o ≤ 2147483647) (cf : -2147483647 ≤ f ∧ f ≤ 2147483647) (ca1 : -2147483647 ≤ a1 ∧ a1 ≤ 2147483647) (ca2 : -2147483647 ≤ a2 ∧ a2 ≤ 2147483647) (cg1 : -2147483647 ≤ g1 ∧ g1 ≤ 2147483647) (cg2 : -2147483647 ≤ g2 ∧ g2 ≤ 2147483647)
    (hi : mk x0 x1 = (n, d, 0))
    (hj : mk x2 x3 = (m, e, 0))
    (hk : mk x4 x5 = (o, f, 0))
    (ha : lessF n d m e = false)
    (hb : lessF m e o f = bc)
    (hc : lessF n d o f = ac)
    (hd : addF n d o f = (a1, a2, 0))
    (he : addF m e o f = (g1, g2, 0))
    (hf : lessF a1 a2 g1 g2 = false)
    (hg : lessF n d n d = false) (w : World) :
    Calls Try.prog 6 #[.agg (cells6 x0 x1 x2 x3 x4 x5)] w fun e w' => e = .returned (.bool true) ∧ Grown w w' := by
  obtain ⟨b00, b01⟩ := b0
  obtain ⟨b10, b11⟩ := b1
  obtain ⟨b20, b21⟩ := b2
  obtain ⟨b30, b31⟩ := b3
  obtain ⟨b40, b41⟩ := b4
  obtain ⟨b50, b51⟩ := b5
  obtain ⟨cn0, cn1⟩ := cn
  obtain ⟨cd0, cd1⟩ := cd
  obtain ⟨cm0, cm1⟩ := cm
  obtain ⟨ce0, ce1⟩ := ce
  obtain ⟨co0, co1⟩ := co
  obtain ⟨cf0, cf1⟩ := cf
  obtain ⟨ca10, ca11⟩ := ca1
  obtain ⟨ca20, ca21⟩ := ca2
  obtain ⟨cg10, cg11⟩ := cg1
  obtain ⟨cg20, cg21⟩ := cg2
  have HI := Lib.hid hi; clear hi
  have HJ := Lib.hid hj; clear hj
  have HK := Lib.hid hk; clear hk
  have HA := Lib.hid ha; clear ha
  have HB := Lib.hid hb; clear hb
  have HC := Lib.hid hc; clear hc
  have HD := Lib.hid hd; clear hd
  have HE := Lib.hid he; clear he
  have HF := Lib.hid hf; clear hf
  have HG := Lib.hid hg; clear hg
  unfold cells6
  go_enter Try.func6, Try.ntmps6
  go_wp2_with fail
  refine (awake_true _).mono ?_
  rintro _ w' ⟨rfl, k0, rfl⟩
  go_wp2_with fail
  refine (make_any x0 x1 _ HI.out _ (by omega) (by omega) (by omega) (by omega)).mono ?_
  rintro _ w' ⟨rfl, k1, rfl⟩
  unfold three
  go_wp2_with fail
  refine (make_any x2 x3 _ HJ.out _ (by omega) (by omega) (by omega) (by omega)).mono ?_
  rintro _ w' ⟨rfl, k2, rfl⟩
  unfold three
  go_wp2_with fail
  refine (make_any x4 x5 _ HK.out _ (by omega) (by omega) (by omega) (by omega)).mono ?_
  rintro _ w' ⟨rfl, k3, rfl⟩
  unfold three
  go_wp2_with fail
  refine (less_any n d m e _ HA.out _ ⟨by omega, by omega⟩ ⟨by omega, by omega⟩ ⟨by omega, by omega⟩ ⟨by omega, by omega⟩).mono ?_
  rintro _ w' ⟨rfl, rfl⟩
  go_wp2_with fail
  refine (less_any m e o f _ HB.out _ ⟨by omega, by omega⟩ ⟨by omega, by omega⟩ ⟨by omega, by omega⟩ ⟨by omega, by omega⟩).mono ?_
  rintro _ w' ⟨rfl, rfl⟩
  go_wp2_with fail
  refine (less_any n d o f _ HC.out _ ⟨by omega, by omega⟩ ⟨by omega, by omega⟩ ⟨by omega, by omega⟩ ⟨by omega, by omega⟩).mono ?_
  rintro _ w' ⟨rfl, rfl⟩
  go_wp2_with fail
  refine (add_any n d o f _ HD.out _ ⟨by omega, by omega⟩ ⟨by omega, by omega⟩ ⟨by omega, by omega⟩ ⟨by omega, by omega⟩).mono ?_
  rintro _ w' ⟨rfl, k4, rfl⟩
  unfold three
  go_wp2_with fail
  refine (add_any m e o f _ HE.out _ ⟨by omega, by omega⟩ ⟨by omega, by omega⟩ ⟨by omega, by omega⟩ ⟨by omega, by omega⟩).mono ?_
  rintro _ w' ⟨rfl, k5, rfl⟩
  unfold three
  go_wp2_with fail
  refine (less_any a1 a2 g1 g2 _ HF.out _ ⟨by omega, by omega⟩ ⟨by omega, by omega⟩ ⟨by omega, by omega⟩ ⟨by omega, by omega⟩).mono ?_
  rintro _ w' ⟨rfl, rfl⟩
  go_wp2_with fail
  refine (less_any n d n d _ HG.out _ ⟨by omega, by omega⟩ ⟨by omega, by omega⟩ ⟨by omega, by omega⟩ ⟨by omega, by omega⟩).mono ?_
  rintro _ w' ⟨rfl, rfl⟩
  go_wp2_with fail
  go_ret
  exact ⟨rfl, (((Grown.refl _).alloc _ _).drewN' _)⟩

set_option maxRecDepth 100000 in
set_option maxHeartbeats 2000000 in
theorem order_ynnx (x0 x1 x2 x3 x4 x5 : Int) (b0 : I64 x0) (b1 : I64 x1) (b2 : I64 x2) (b3 : I64 x3) (b4 : I64 x4) (b5 : I64 x5) (ac : Bool) (n d m e o f : Int) (t2 : Int × Int × Int) (cn : -2147483647 ≤ n ∧ n ≤ 2147483647) (cd : -2147483647 ≤ d ∧ d ≤ 2147483647) (cm : -2147483647 ≤ m ∧ m ≤ 2147483647) (ce : -2147483647 ≤ e ∧ e ≤ 2147483647) (co : -2147483647 ≤ o ∧ o ≤ 2147483647) (cf : -2147483647 ≤ f ∧ f ≤ 2147483647)
    (hi : mk x0 x1 = (n, d, 0))
    (hj : mk x2 x3 = (m, e, 0))
    (hk : mk x4 x5 = (o, f, 0))
    (ha : lessF n d m e = true)
    (hb : lessF m e o f = false)
    (hc : lessF n d o f = ac)
    (hd : addF n d o f = (0, 0, 3))
    (he : addF m e o f = t2)
    (hg : lessF n d n d = false)
    (hh : lessF m e n d = false) (w : World) :
    Calls Try.prog 6 #[.agg (cells6 x0 x1 x2 x3 x4 x5)] w fun e w' => e = .returned (.bool true) ∧ Grown w w' := by
  obtain ⟨b00, b01⟩ := b0
  obtain ⟨b10, b11⟩ := b1
  obtain ⟨b20, b21⟩ := b2
  obtain ⟨b30, b31⟩ := b3
  obtain ⟨b40, b41⟩ := b4
  obtain ⟨b50, b51⟩ := b5
  obtain ⟨cn0, cn1⟩ := cn
  obtain ⟨cd0, cd1⟩ := cd
  obtain ⟨cm0, cm1⟩ := cm
  obtain ⟨ce0, ce1⟩ := ce
  obtain ⟨co0, co1⟩ := co
  obtain ⟨cf0, cf1⟩ := cf
  have HI := Lib.hid hi; clear hi
  have HJ := Lib.hid hj; clear hj
  have HK := Lib.hid hk; clear hk
  have HA := Lib.hid ha; clear ha
  have HB := Lib.hid hb; clear hb
  have HC := Lib.hid hc; clear hc
  have HD := Lib.hid hd; clear hd
  have HE := Lib.hid he; clear he
  have HG := Lib.hid hg; clear hg
  have HH := Lib.hid hh; clear hh
  unfold cells6
  go_enter Try.func6, Try.ntmps6
  go_wp2_with fail
  refine (awake_true _).mono ?_
  rintro _ w' ⟨rfl, k0, rfl⟩
  go_wp2_with fail
  refine (make_any x0 x1 _ HI.out _ (by omega) (by omega) (by omega) (by omega)).mono ?_
  rintro _ w' ⟨rfl, k1, rfl⟩
  unfold three
  go_wp2_with fail
  refine (make_any x2 x3 _ HJ.out _ (by omega) (by omega) (by omega) (by omega)).mono ?_
  rintro _ w' ⟨rfl, k2, rfl⟩
  unfold three
  go_wp2_with fail
  refine (make_any x4 x5 _ HK.out _ (by omega) (by omega) (by omega) (by omega)).mono ?_
  rintro _ w' ⟨rfl, k3, rfl⟩
  unfold three
  go_wp2_with fail
  refine (less_any n d m e _ HA.out _ ⟨by omega, by omega⟩ ⟨by omega, by omega⟩ ⟨by omega, by omega⟩ ⟨by omega, by omega⟩).mono ?_
  rintro _ w' ⟨rfl, rfl⟩
  go_wp2_with fail
  refine (less_any m e o f _ HB.out _ ⟨by omega, by omega⟩ ⟨by omega, by omega⟩ ⟨by omega, by omega⟩ ⟨by omega, by omega⟩).mono ?_
  rintro _ w' ⟨rfl, rfl⟩
  go_wp2_with fail
  refine (less_any n d o f _ HC.out _ ⟨by omega, by omega⟩ ⟨by omega, by omega⟩ ⟨by omega, by omega⟩ ⟨by omega, by omega⟩).mono ?_
  rintro _ w' ⟨rfl, rfl⟩
  go_wp2_with fail
  refine (add_any n d o f _ HD.out _ ⟨by omega, by omega⟩ ⟨by omega, by omega⟩ ⟨by omega, by omega⟩ ⟨by omega, by omega⟩).mono ?_
  rintro _ w' ⟨rfl, k4, rfl⟩
  unfold three
  go_wp2_with fail
  refine (add_any m e o f _ HE.out _ ⟨by omega, by omega⟩ ⟨by omega, by omega⟩ ⟨by omega, by omega⟩ ⟨by omega, by omega⟩).mono ?_
  rintro _ w' ⟨rfl, k5, rfl⟩
  unfold three
  go_wp2_with fail
  refine (less_any n d n d _ HG.out _ ⟨by omega, by omega⟩ ⟨by omega, by omega⟩ ⟨by omega, by omega⟩ ⟨by omega, by omega⟩).mono ?_
  rintro _ w' ⟨rfl, rfl⟩
  go_wp2_with fail
  refine (less_any m e n d _ HH.out _ ⟨by omega, by omega⟩ ⟨by omega, by omega⟩ ⟨by omega, by omega⟩ ⟨by omega, by omega⟩).mono ?_
  rintro _ w' ⟨rfl, rfl⟩
  go_wp2_with fail
  go_ret
  exact ⟨rfl, (((Grown.refl _).alloc _ _).drewN' _)⟩

set_option maxRecDepth 100000 in
set_option maxHeartbeats 2000000 in
theorem order_ynyn (x0 x1 x2 x3 x4 x5 : Int) (b0 : I64 x0) (b1 : I64 x1) (b2 : I64 x2) (b3 : I64 x3) (b4 : I64 x4) (b5 : I64 x5) (ac : Bool) (n d m e o f a1 a2 : Int) (cn : -2147483647 ≤ n ∧ n ≤ 2147483647) (cd : -2147483647 ≤ d ∧ d ≤ 2147483647) (cm : -2147483647 ≤ m ∧ m ≤ 2147483647) (ce : -2147483647 ≤ e ∧ e ≤ 2147483647) (co : -2147483647 ≤ o ∧ o ≤ 2147483647) (cf : -2147483647 ≤ f ∧ f ≤ 2147483647) (ca1 : -2147483647 ≤ a1 ∧ a1 ≤ 2147483647) (ca2 : -2147483647 ≤ a2 ∧ a2 ≤ 2147483647)
    (hi : mk x0 x1 = (n, d, 0))
    (hj : mk x2 x3 = (m, e, 0))
    (hk : mk x4 x5 = (o, f, 0))
    (ha : lessF n d m e = true)
    (hb : lessF m e o f = false)
    (hc : lessF n d o f = ac)
    (hd : addF n d o f = (a1, a2, 0))
    (he : addF m e o f = (0, 0, 3))
    (hg : lessF n d n d = false)
    (hh : lessF m e n d = false) (w : World) :
    Calls Try.prog 6 #[.agg (cells6 x0 x1 x2 x3 x4 x5)] w fun e w' => e = .returned (.bool true) ∧ Grown w w' := by
  obtain ⟨b00, b01⟩ := b0
  obtain ⟨b10, b11⟩ := b1
  obtain ⟨b20, b21⟩ := b2
  obtain ⟨b30, b31⟩ := b3
  obtain ⟨b40, b41⟩ := b4
  obtain ⟨b50, b51⟩ := b5
  obtain ⟨cn0, cn1⟩ := cn
  obtain ⟨cd0, cd1⟩ := cd
  obtain ⟨cm0, cm1⟩ := cm
  obtain ⟨ce0, ce1⟩ := ce
  obtain ⟨co0, co1⟩ := co
  obtain ⟨cf0, cf1⟩ := cf
  obtain ⟨ca10, ca11⟩ := ca1
  obtain ⟨ca20, ca21⟩ := ca2
  have HI := Lib.hid hi; clear hi
  have HJ := Lib.hid hj; clear hj
  have HK := Lib.hid hk; clear hk
  have HA := Lib.hid ha; clear ha
  have HB := Lib.hid hb; clear hb
  have HC := Lib.hid hc; clear hc
  have HD := Lib.hid hd; clear hd
  have HE := Lib.hid he; clear he
  have HG := Lib.hid hg; clear hg
  have HH := Lib.hid hh; clear hh
  unfold cells6
  go_enter Try.func6, Try.ntmps6
  go_wp2_with fail
  refine (awake_true _).mono ?_
  rintro _ w' ⟨rfl, k0, rfl⟩
  go_wp2_with fail
  refine (make_any x0 x1 _ HI.out _ (by omega) (by omega) (by omega) (by omega)).mono ?_
  rintro _ w' ⟨rfl, k1, rfl⟩
  unfold three
  go_wp2_with fail
  refine (make_any x2 x3 _ HJ.out _ (by omega) (by omega) (by omega) (by omega)).mono ?_
  rintro _ w' ⟨rfl, k2, rfl⟩
  unfold three
  go_wp2_with fail
  refine (make_any x4 x5 _ HK.out _ (by omega) (by omega) (by omega) (by omega)).mono ?_
  rintro _ w' ⟨rfl, k3, rfl⟩
  unfold three
  go_wp2_with fail
  refine (less_any n d m e _ HA.out _ ⟨by omega, by omega⟩ ⟨by omega, by omega⟩ ⟨by omega, by omega⟩ ⟨by omega, by omega⟩).mono ?_
  rintro _ w' ⟨rfl, rfl⟩
  go_wp2_with fail
  refine (less_any m e o f _ HB.out _ ⟨by omega, by omega⟩ ⟨by omega, by omega⟩ ⟨by omega, by omega⟩ ⟨by omega, by omega⟩).mono ?_
  rintro _ w' ⟨rfl, rfl⟩
  go_wp2_with fail
  refine (less_any n d o f _ HC.out _ ⟨by omega, by omega⟩ ⟨by omega, by omega⟩ ⟨by omega, by omega⟩ ⟨by omega, by omega⟩).mono ?_
  rintro _ w' ⟨rfl, rfl⟩
  go_wp2_with fail
  refine (add_any n d o f _ HD.out _ ⟨by omega, by omega⟩ ⟨by omega, by omega⟩ ⟨by omega, by omega⟩ ⟨by omega, by omega⟩).mono ?_
  rintro _ w' ⟨rfl, k4, rfl⟩
  unfold three
  go_wp2_with fail
  refine (add_any m e o f _ HE.out _ ⟨by omega, by omega⟩ ⟨by omega, by omega⟩ ⟨by omega, by omega⟩ ⟨by omega, by omega⟩).mono ?_
  rintro _ w' ⟨rfl, k5, rfl⟩
  unfold three
  go_wp2_with fail
  refine (less_any n d n d _ HG.out _ ⟨by omega, by omega⟩ ⟨by omega, by omega⟩ ⟨by omega, by omega⟩ ⟨by omega, by omega⟩).mono ?_
  rintro _ w' ⟨rfl, rfl⟩
  go_wp2_with fail
  refine (less_any m e n d _ HH.out _ ⟨by omega, by omega⟩ ⟨by omega, by omega⟩ ⟨by omega, by omega⟩ ⟨by omega, by omega⟩).mono ?_
  rintro _ w' ⟨rfl, rfl⟩
  go_wp2_with fail
  go_ret
  exact ⟨rfl, (((Grown.refl _).alloc _ _).drewN' _)⟩

set_option maxRecDepth 100000 in
set_option maxHeartbeats 2000000 in
theorem order_ynyy (x0 x1 x2 x3 x4 x5 : Int) (b0 : I64 x0) (b1 : I64 x1) (b2 : I64 x2) (b3 : I64 x3) (b4 : I64 x4) (b5 : I64 x5) (ac : Bool) (n d m e o f a1 a2 g1 g2 : Int) (cn : -2147483647 ≤ n ∧ n ≤ 2147483647) (cd : -2147483647 ≤ d ∧ d ≤ 2147483647) (cm : -2147483647 ≤ m ∧ m ≤ 2147483647) (ce : -2147483647 ≤ e ∧ e ≤ 2147483647) (co : -2147483647 ≤ o ∧ o ≤ 2147483647) (cf : -2147483647 ≤ f ∧ f ≤ 2147483647) (ca1 : -2147483647 ≤ a1 ∧ a1 ≤ 2147483647) (ca2 : -2147483647 ≤ a2 ∧ a2 ≤ 2147483647) (cg1 : -2147483647 ≤ g1 ∧ g1 ≤ 2147483647) (cg2 : -2147483647 ≤ g2 ∧ g2 ≤ 2147483647)
    (hi : mk x0 x1 = (n, d, 0))
    (hj : mk x2 x3 = (m, e, 0))
    (hk : mk x4 x5 = (o, f, 0))
    (ha : lessF n d m e = true)
    (hb : lessF m e o f = false)
    (hc : lessF n d o f = ac)
    (hd : addF n d o f = (a1, a2, 0))
    (he : addF m e o f = (g1, g2, 0))
    (hf : lessF a1 a2 g1 g2 = true)
    (hg : lessF n d n d = false)
    (hh : lessF m e n d = false) (w : World) :
    Calls Try.prog 6 #[.agg (cells6 x0 x1 x2 x3 x4 x5)] w fun e w' => e = .returned (.bool true) ∧ Grown w w' := by
  obtain ⟨b00, b01⟩ := b0
  obtain ⟨b10, b11⟩ := b1
  obtain ⟨b20, b21⟩ := b2
  obtain ⟨b30, b31⟩ := b3
  obtain ⟨b40, b41⟩ := b4
  obtain ⟨b50, b51⟩ := b5
  obtain ⟨cn0, cn1⟩ := cn
  obtain ⟨cd0, cd1⟩ := cd
  obtain ⟨cm0, cm1⟩ := cm
  obtain ⟨ce0, ce1⟩ := ce
  obtain ⟨co0, co1⟩ := co
  obtain ⟨cf0, cf1⟩ := cf
  obtain ⟨ca10, ca11⟩ := ca1
  obtain ⟨ca20, ca21⟩ := ca2
  obtain ⟨cg10, cg11⟩ := cg1
  obtain ⟨cg20, cg21⟩ := cg2
  have HI := Lib.hid hi; clear hi
  have HJ := Lib.hid hj; clear hj
  have HK := Lib.hid hk; clear hk
  have HA := Lib.hid ha; clear ha
  have HB := Lib.hid hb; clear hb
  have HC := Lib.hid hc; clear hc
  have HD := Lib.hid hd; clear hd
  have HE := Lib.hid he; clear he
  have HF := Lib.hid hf; clear hf
  have HG := Lib.hid hg; clear hg
  have HH := Lib.hid hh; clear hh
  unfold cells6
  go_enter Try.func6, Try.ntmps6
  go_wp2_with fail
  refine (awake_true _).mono ?_
  rintro _ w' ⟨rfl, k0, rfl⟩
  go_wp2_with fail
  refine (make_any x0 x1 _ HI.out _ (by omega) (by omega) (by omega) (by omega)).mono ?_
  rintro _ w' ⟨rfl, k1, rfl⟩
  unfold three
  go_wp2_with fail
  refine (make_any x2 x3 _ HJ.out _ (by omega) (by omega) (by omega) (by omega)).mono ?_
  rintro _ w' ⟨rfl, k2, rfl⟩
  unfold three
  go_wp2_with fail
  refine (make_any x4 x5 _ HK.out _ (by omega) (by omega) (by omega) (by omega)).mono ?_
  rintro _ w' ⟨rfl, k3, rfl⟩
  unfold three
  go_wp2_with fail
  refine (less_any n d m e _ HA.out _ ⟨by omega, by omega⟩ ⟨by omega, by omega⟩ ⟨by omega, by omega⟩ ⟨by omega, by omega⟩).mono ?_
  rintro _ w' ⟨rfl, rfl⟩
  go_wp2_with fail
  refine (less_any m e o f _ HB.out _ ⟨by omega, by omega⟩ ⟨by omega, by omega⟩ ⟨by omega, by omega⟩ ⟨by omega, by omega⟩).mono ?_
  rintro _ w' ⟨rfl, rfl⟩
  go_wp2_with fail
  refine (less_any n d o f _ HC.out _ ⟨by omega, by omega⟩ ⟨by omega, by omega⟩ ⟨by omega, by omega⟩ ⟨by omega, by omega⟩).mono ?_
  rintro _ w' ⟨rfl, rfl⟩
  go_wp2_with fail
  refine (add_any n d o f _ HD.out _ ⟨by omega, by omega⟩ ⟨by omega, by omega⟩ ⟨by omega, by omega⟩ ⟨by omega, by omega⟩).mono ?_
  rintro _ w' ⟨rfl, k4, rfl⟩
  unfold three
  go_wp2_with fail
  refine (add_any m e o f _ HE.out _ ⟨by omega, by omega⟩ ⟨by omega, by omega⟩ ⟨by omega, by omega⟩ ⟨by omega, by omega⟩).mono ?_
  rintro _ w' ⟨rfl, k5, rfl⟩
  unfold three
  go_wp2_with fail
  refine (less_any a1 a2 g1 g2 _ HF.out _ ⟨by omega, by omega⟩ ⟨by omega, by omega⟩ ⟨by omega, by omega⟩ ⟨by omega, by omega⟩).mono ?_
  rintro _ w' ⟨rfl, rfl⟩
  go_wp2_with fail
  refine (less_any n d n d _ HG.out _ ⟨by omega, by omega⟩ ⟨by omega, by omega⟩ ⟨by omega, by omega⟩ ⟨by omega, by omega⟩).mono ?_
  rintro _ w' ⟨rfl, rfl⟩
  go_wp2_with fail
  refine (less_any m e n d _ HH.out _ ⟨by omega, by omega⟩ ⟨by omega, by omega⟩ ⟨by omega, by omega⟩ ⟨by omega, by omega⟩).mono ?_
  rintro _ w' ⟨rfl, rfl⟩
  go_wp2_with fail
  go_ret
  exact ⟨rfl, (((Grown.refl _).alloc _ _).drewN' _)⟩

set_option maxRecDepth 100000 in
set_option maxHeartbeats 2000000 in
theorem order_yynx (x0 x1 x2 x3 x4 x5 : Int) (b0 : I64 x0) (b1 : I64 x1) (b2 : I64 x2) (b3 : I64 x3) (b4 : I64 x4) (b5 : I64 x5) (n d m e o f : Int) (t2 : Int × Int × Int) (cn : -2147483647 ≤ n ∧ n ≤ 2147483647) (cd : -2147483647 ≤ d ∧ d ≤ 2147483647) (cm : -2147483647 ≤ m ∧ m ≤ 2147483647) (ce : -2147483647 ≤ e ∧ e ≤ 2147483647) (co : -2147483647 ≤ o ∧ o ≤ 2147483647) (cf : -2147483647 ≤ f ∧ f ≤ 2147483647)
    (hi : mk x0 x1 = (n, d, 0))
    (hj : mk x2 x3 = (m, e, 0))
    (hk : mk x4 x5 = (o, f, 0))
    (ha : lessF n d m e = true)
    (hb : lessF m e o f = true)
    (hc : lessF n d o f = true)
    (hd : addF n d o f = (0, 0, 3))
    (he : addF m e o f = t2)
    (hg : lessF n d n d = false)
    (hh : lessF m e n d = false) (w : World) :
    Calls Try.prog 6 #[.agg (cells6 x0 x1 x2 x3 x4 x5)] w fun e w' => e = .returned (.bool true) ∧ Grown w w' := by
  obtain ⟨b00, b01⟩ := b0
  obtain ⟨b10, b11⟩ := b1
  obtain ⟨b20, b21⟩ := b2
  obtain ⟨b30, b31⟩ := b3
  obtain ⟨b40, b41⟩ := b4
  obtain ⟨b50, b51⟩ := b5
  obtain ⟨cn0, cn1⟩ := cn
  obtain ⟨cd0, cd1⟩ := cd
  obtain ⟨cm0, cm1⟩ := cm
  obtain ⟨ce0, ce1⟩ := ce
  obtain ⟨co0, co1⟩ := co
  obtain ⟨cf0, cf1⟩ := cf
  have HI := Lib.hid hi; clear hi
  have HJ := Lib.hid hj; clear hj
  have HK := Lib.hid hk; clear hk
  have HA := Lib.hid ha; clear ha
  have HB := Lib.hid hb; clear hb
  have HC := Lib.hid hc; clear hc
  have HD := Lib.hid hd; clear hd
  have HE := Lib.hid he; clear he
  have HG := Lib.hid hg; clear hg
  have HH := Lib.hid hh; clear hh
  unfold cells6
  go_enter Try.func6, Try.ntmps6
  go_wp2_with fail
  refine (awake_true _).mono ?_
  rintro _ w' ⟨rfl, k0, rfl⟩
  go_wp2_with fail
  refine (make_any x0 x1 _ HI.out _ (by omega) (by omega) (by omega) (by omega)).mono ?_
  rintro _ w' ⟨rfl, k1, rfl⟩
  unfold three
  go_wp2_with fail
  refine (make_any x2 x3 _ HJ.out _ (by omega) (by omega) (by omega) (by omega)).mono ?_
  rintro _ w' ⟨rfl, k2, rfl⟩
  unfold three
  go_wp2_with fail
  refine (make_any x4 x5 _ HK.out _ (by omega) (by omega) (by omega) (by omega)).mono ?_
  rintro _ w' ⟨rfl, k3, rfl⟩
  unfold three
  go_wp2_with fail
  refine (less_any n d m e _ HA.out _ ⟨by omega, by omega⟩ ⟨by omega, by omega⟩ ⟨by omega, by omega⟩ ⟨by omega, by omega⟩).mono ?_
  rintro _ w' ⟨rfl, rfl⟩
  go_wp2_with fail
  refine (less_any m e o f _ HB.out _ ⟨by omega, by omega⟩ ⟨by omega, by omega⟩ ⟨by omega, by omega⟩ ⟨by omega, by omega⟩).mono ?_
  rintro _ w' ⟨rfl, rfl⟩
  go_wp2_with fail
  refine (less_any n d o f _ HC.out _ ⟨by omega, by omega⟩ ⟨by omega, by omega⟩ ⟨by omega, by omega⟩ ⟨by omega, by omega⟩).mono ?_
  rintro _ w' ⟨rfl, rfl⟩
  go_wp2_with fail
  refine (add_any n d o f _ HD.out _ ⟨by omega, by omega⟩ ⟨by omega, by omega⟩ ⟨by omega, by omega⟩ ⟨by omega, by omega⟩).mono ?_
  rintro _ w' ⟨rfl, k4, rfl⟩
  unfold three
  go_wp2_with fail
  refine (add_any m e o f _ HE.out _ ⟨by omega, by omega⟩ ⟨by omega, by omega⟩ ⟨by omega, by omega⟩ ⟨by omega, by omega⟩).mono ?_
  rintro _ w' ⟨rfl, k5, rfl⟩
  unfold three
  go_wp2_with fail
  refine (less_any n d n d _ HG.out _ ⟨by omega, by omega⟩ ⟨by omega, by omega⟩ ⟨by omega, by omega⟩ ⟨by omega, by omega⟩).mono ?_
  rintro _ w' ⟨rfl, rfl⟩
  go_wp2_with fail
  refine (less_any m e n d _ HH.out _ ⟨by omega, by omega⟩ ⟨by omega, by omega⟩ ⟨by omega, by omega⟩ ⟨by omega, by omega⟩).mono ?_
  rintro _ w' ⟨rfl, rfl⟩
  go_wp2_with fail
  go_ret
  exact ⟨rfl, (((Grown.refl _).alloc _ _).drewN' _)⟩

set_option maxRecDepth 100000 in
set_option maxHeartbeats 2000000 in
theorem order_yyyn (x0 x1 x2 x3 x4 x5 : Int) (b0 : I64 x0) (b1 : I64 x1) (b2 : I64 x2) (b3 : I64 x3) (b4 : I64 x4) (b5 : I64 x5) (n d m e o f a1 a2 : Int) (cn : -2147483647 ≤ n ∧ n ≤ 2147483647) (cd : -2147483647 ≤ d ∧ d ≤ 2147483647) (cm : -2147483647 ≤ m ∧ m ≤ 2147483647) (ce : -2147483647 ≤ e ∧ e ≤ 2147483647) (co : -2147483647 ≤ o ∧ o ≤ 2147483647) (cf : -2147483647 ≤ f ∧ f ≤ 2147483647) (ca1 : -2147483647 ≤ a1 ∧ a1 ≤ 2147483647) (ca2 : -2147483647 ≤ a2 ∧ a2 ≤ 2147483647)
    (hi : mk x0 x1 = (n, d, 0))
    (hj : mk x2 x3 = (m, e, 0))
    (hk : mk x4 x5 = (o, f, 0))
    (ha : lessF n d m e = true)
    (hb : lessF m e o f = true)
    (hc : lessF n d o f = true)
    (hd : addF n d o f = (a1, a2, 0))
    (he : addF m e o f = (0, 0, 3))
    (hg : lessF n d n d = false)
    (hh : lessF m e n d = false) (w : World) :
    Calls Try.prog 6 #[.agg (cells6 x0 x1 x2 x3 x4 x5)] w fun e w' => e = .returned (.bool true) ∧ Grown w w' := by
  obtain ⟨b00, b01⟩ := b0
  obtain ⟨b10, b11⟩ := b1
  obtain ⟨b20, b21⟩ := b2
  obtain ⟨b30, b31⟩ := b3
  obtain ⟨b40, b41⟩ := b4
  obtain ⟨b50, b51⟩ := b5
  obtain ⟨cn0, cn1⟩ := cn
  obtain ⟨cd0, cd1⟩ := cd
  obtain ⟨cm0, cm1⟩ := cm
  obtain ⟨ce0, ce1⟩ := ce
  obtain ⟨co0, co1⟩ := co
  obtain ⟨cf0, cf1⟩ := cf
  obtain ⟨ca10, ca11⟩ := ca1
  obtain ⟨ca20, ca21⟩ := ca2
  have HI := Lib.hid hi; clear hi
  have HJ := Lib.hid hj; clear hj
  have HK := Lib.hid hk; clear hk
  have HA := Lib.hid ha; clear ha
  have HB := Lib.hid hb; clear hb
  have HC := Lib.hid hc; clear hc
  have HD := Lib.hid hd; clear hd
  have HE := Lib.hid he; clear he
  have HG := Lib.hid hg; clear hg
  have HH := Lib.hid hh; clear hh
  unfold cells6
  go_enter Try.func6, Try.ntmps6
  go_wp2_with fail
  refine (awake_true _).mono ?_
  rintro _ w' ⟨rfl, k0, rfl⟩
  go_wp2_with fail
  refine (make_any x0 x1 _ HI.out _ (by omega) (by omega) (by omega) (by omega)).mono ?_
  rintro _ w' ⟨rfl, k1, rfl⟩
  unfold three
  go_wp2_with fail
  refine (make_any x2 x3 _ HJ.out _ (by omega) (by omega) (by omega) (by omega)).mono ?_
  rintro _ w' ⟨rfl, k2, rfl⟩
  unfold three
  go_wp2_with fail
  refine (make_any x4 x5 _ HK.out _ (by omega) (by omega) (by omega) (by omega)).mono ?_
  rintro _ w' ⟨rfl, k3, rfl⟩
  unfold three
  go_wp2_with fail
  refine (less_any n d m e _ HA.out _ ⟨by omega, by omega⟩ ⟨by omega, by omega⟩ ⟨by omega, by omega⟩ ⟨by omega, by omega⟩).mono ?_
  rintro _ w' ⟨rfl, rfl⟩
  go_wp2_with fail
  refine (less_any m e o f _ HB.out _ ⟨by omega, by omega⟩ ⟨by omega, by omega⟩ ⟨by omega, by omega⟩ ⟨by omega, by omega⟩).mono ?_
  rintro _ w' ⟨rfl, rfl⟩
  go_wp2_with fail
  refine (less_any n d o f _ HC.out _ ⟨by omega, by omega⟩ ⟨by omega, by omega⟩ ⟨by omega, by omega⟩ ⟨by omega, by omega⟩).mono ?_
  rintro _ w' ⟨rfl, rfl⟩
  go_wp2_with fail
  refine (add_any n d o f _ HD.out _ ⟨by omega, by omega⟩ ⟨by omega, by omega⟩ ⟨by omega, by omega⟩ ⟨by omega, by omega⟩).mono ?_
  rintro _ w' ⟨rfl, k4, rfl⟩
  unfold three
  go_wp2_with fail
  refine (add_any m e o f _ HE.out _ ⟨by omega, by omega⟩ ⟨by omega, by omega⟩ ⟨by omega, by omega⟩ ⟨by omega, by omega⟩).mono ?_
  rintro _ w' ⟨rfl, k5, rfl⟩
  unfold three
  go_wp2_with fail
  refine (less_any n d n d _ HG.out _ ⟨by omega, by omega⟩ ⟨by omega, by omega⟩ ⟨by omega, by omega⟩ ⟨by omega, by omega⟩).mono ?_
  rintro _ w' ⟨rfl, rfl⟩
  go_wp2_with fail
  refine (less_any m e n d _ HH.out _ ⟨by omega, by omega⟩ ⟨by omega, by omega⟩ ⟨by omega, by omega⟩ ⟨by omega, by omega⟩).mono ?_
  rintro _ w' ⟨rfl, rfl⟩
  go_wp2_with fail
  go_ret
  exact ⟨rfl, (((Grown.refl _).alloc _ _).drewN' _)⟩

set_option maxRecDepth 100000 in
set_option maxHeartbeats 2000000 in
theorem order_yyyy (x0 x1 x2 x3 x4 x5 : Int) (b0 : I64 x0) (b1 : I64 x1) (b2 : I64 x2) (b3 : I64 x3) (b4 : I64 x4) (b5 : I64 x5) (n d m e o f a1 a2 g1 g2 : Int) (cn : -2147483647 ≤ n ∧ n ≤ 2147483647) (cd : -2147483647 ≤ d ∧ d ≤ 2147483647) (cm : -2147483647 ≤ m ∧ m ≤ 2147483647) (ce : -2147483647 ≤ e ∧ e ≤ 2147483647) (co : -2147483647 ≤ o ∧ o ≤ 2147483647) (cf : -2147483647 ≤ f ∧ f ≤ 2147483647) (ca1 : -2147483647 ≤ a1 ∧ a1 ≤ 2147483647) (ca2 : -2147483647 ≤ a2 ∧ a2 ≤ 2147483647) (cg1 : -2147483647 ≤ g1 ∧ g1 ≤ 2147483647) (cg2 : -2147483647 ≤ g2 ∧ g2 ≤ 2147483647)
    (hi : mk x0 x1 = (n, d, 0))
    (hj : mk x2 x3 = (m, e, 0))
    (hk : mk x4 x5 = (o, f, 0))
    (ha : lessF n d m e = true)
    (hb : lessF m e o f = true)
    (hc : lessF n d o f = true)
    (hd : addF n d o f = (a1, a2, 0))
    (he : addF m e o f = (g1, g2, 0))
    (hf : lessF a1 a2 g1 g2 = true)
    (hg : lessF n d n d = false)
    (hh : lessF m e n d = false) (w : World) :
    Calls Try.prog 6 #[.agg (cells6 x0 x1 x2 x3 x4 x5)] w fun e w' => e = .returned (.bool true) ∧ Grown w w' := by
  obtain ⟨b00, b01⟩ := b0
  obtain ⟨b10, b11⟩ := b1
  obtain ⟨b20, b21⟩ := b2
  obtain ⟨b30, b31⟩ := b3
  obtain ⟨b40, b41⟩ := b4
  obtain ⟨b50, b51⟩ := b5
  obtain ⟨cn0, cn1⟩ := cn
  obtain ⟨cd0, cd1⟩ := cd
  obtain ⟨cm0, cm1⟩ := cm
  obtain ⟨ce0, ce1⟩ := ce
  obtain ⟨co0, co1⟩ := co
  obtain ⟨cf0, cf1⟩ := cf
  obtain ⟨ca10, ca11⟩ := ca1
  obtain ⟨ca20, ca21⟩ := ca2
  obtain ⟨cg10, cg11⟩ := cg1
  obtain ⟨cg20, cg21⟩ := cg2
  have HI := Lib.hid hi; clear hi
  have HJ := Lib.hid hj; clear hj
  have HK := Lib.hid hk; clear hk
  have HA := Lib.hid ha; clear ha
  have HB := Lib.hid hb; clear hb
  have HC := Lib.hid hc; clear hc
  have HD := Lib.hid hd; clear hd
  have HE := Lib.hid he; clear he
  have HF := Lib.hid hf; clear hf
  have HG := Lib.hid hg; clear hg
  have HH := Lib.hid hh; clear hh
  unfold cells6
  go_enter Try.func6, Try.ntmps6
  go_wp2_with fail
  refine (awake_true _).mono ?_
  rintro _ w' ⟨rfl, k0, rfl⟩
  go_wp2_with fail
  refine (make_any x0 x1 _ HI.out _ (by omega) (by omega) (by omega) (by omega)).mono ?_
  rintro _ w' ⟨rfl, k1, rfl⟩
  unfold three
  go_wp2_with fail
  refine (make_any x2 x3 _ HJ.out _ (by omega) (by omega) (by omega) (by omega)).mono ?_
  rintro _ w' ⟨rfl, k2, rfl⟩
  unfold three
  go_wp2_with fail
  refine (make_any x4 x5 _ HK.out _ (by omega) (by omega) (by omega) (by omega)).mono ?_
  rintro _ w' ⟨rfl, k3, rfl⟩
  unfold three
  go_wp2_with fail
  refine (less_any n d m e _ HA.out _ ⟨by omega, by omega⟩ ⟨by omega, by omega⟩ ⟨by omega, by omega⟩ ⟨by omega, by omega⟩).mono ?_
  rintro _ w' ⟨rfl, rfl⟩
  go_wp2_with fail
  refine (less_any m e o f _ HB.out _ ⟨by omega, by omega⟩ ⟨by omega, by omega⟩ ⟨by omega, by omega⟩ ⟨by omega, by omega⟩).mono ?_
  rintro _ w' ⟨rfl, rfl⟩
  go_wp2_with fail
  refine (less_any n d o f _ HC.out _ ⟨by omega, by omega⟩ ⟨by omega, by omega⟩ ⟨by omega, by omega⟩ ⟨by omega, by omega⟩).mono ?_
  rintro _ w' ⟨rfl, rfl⟩
  go_wp2_with fail
  refine (add_any n d o f _ HD.out _ ⟨by omega, by omega⟩ ⟨by omega, by omega⟩ ⟨by omega, by omega⟩ ⟨by omega, by omega⟩).mono ?_
  rintro _ w' ⟨rfl, k4, rfl⟩
  unfold three
  go_wp2_with fail
  refine (add_any m e o f _ HE.out _ ⟨by omega, by omega⟩ ⟨by omega, by omega⟩ ⟨by omega, by omega⟩ ⟨by omega, by omega⟩).mono ?_
  rintro _ w' ⟨rfl, k5, rfl⟩
  unfold three
  go_wp2_with fail
  refine (less_any a1 a2 g1 g2 _ HF.out _ ⟨by omega, by omega⟩ ⟨by omega, by omega⟩ ⟨by omega, by omega⟩ ⟨by omega, by omega⟩).mono ?_
  rintro _ w' ⟨rfl, rfl⟩
  go_wp2_with fail
  refine (less_any n d n d _ HG.out _ ⟨by omega, by omega⟩ ⟨by omega, by omega⟩ ⟨by omega, by omega⟩ ⟨by omega, by omega⟩).mono ?_
  rintro _ w' ⟨rfl, rfl⟩
  go_wp2_with fail
  refine (less_any m e n d _ HH.out _ ⟨by omega, by omega⟩ ⟨by omega, by omega⟩ ⟨by omega, by omega⟩ ⟨by omega, by omega⟩).mono ?_
  rintro _ w' ⟨rfl, rfl⟩
  go_wp2_with fail
  go_ret
  exact ⟨rfl, (((Grown.refl _).alloc _ _).drewN' _)⟩

end Go.Proofs.Ytfkeiokoghaciaa
