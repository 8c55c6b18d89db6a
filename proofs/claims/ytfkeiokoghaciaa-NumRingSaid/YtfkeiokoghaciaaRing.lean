/- The walk of the statement NumRing: one theorem a way. -/
import Derived.Test.YtfkeiokoghaciaaArray
namespace Go.Proofs.Ytfkeiokoghaciaa
open Go.RowKit NumPlain

theorem _root_.Go.RowKit.Grown.drewN' {W w' : World} (h : Grown W w') (k : Nat) : Grown W (w'.drewN k) := h

set_option maxRecDepth 100000 in
set_option maxHeartbeats 2000000 in
theorem ring_bad (x0 x1 x2 x3 x4 x5 : Int) (b0 : I64 x0) (b1 : I64 x1) (b2 : I64 x2) (b3 : I64 x3) (b4 : I64 x4) (b5 : I64 x5) (n d i m e j o f k : Int) (cn : -2147483647 ≤ n ∧ n ≤ 2147483647) (cd : -2147483647 ≤ d ∧ d ≤ 2147483647) (ci : -2147483647 ≤ i ∧ i ≤ 2147483647) (cm : -2147483647 ≤ m ∧ m ≤ 2147483647) (ce : -2147483647 ≤ e ∧ e ≤ 2147483647) (cj : -2147483647 ≤ j ∧ j ≤ 2147483647) (co : -2147483647 ≤ o ∧ o ≤ 2147483647) (cf : -2147483647 ≤ f ∧ f ≤ 2147483647) (ck : -2147483647 ≤ k ∧ k ≤ 2147483647)
    (hi : mk x0 x1 = (n, d, i))
    (hj : mk x2 x3 = (m, e, j))
    (hk : mk x4 x5 = (o, f, k))
    (q : (i + j + k != 0) = true) (w : World) :
    Calls Try.prog 5 #[.agg (cells6 x0 x1 x2 x3 x4 x5)] w fun e w' => e = .returned (.bool true) ∧ Grown w w' := by
  obtain ⟨b00, b01⟩ := b0
  obtain ⟨b10, b11⟩ := b1
  obtain ⟨b20, b21⟩ := b2
  obtain ⟨b30, b31⟩ := b3
  obtain ⟨b40, b41⟩ := b4
  obtain ⟨b50, b51⟩ := b5
  obtain ⟨cn0, cn1⟩ := cn
  obtain ⟨cd0, cd1⟩ := cd
  obtain ⟨ci0, ci1⟩ := ci
  obtain ⟨cm0, cm1⟩ := cm
  obtain ⟨ce0, ce1⟩ := ce
  obtain ⟨cj0, cj1⟩ := cj
  obtain ⟨co0, co1⟩ := co
  obtain ⟨cf0, cf1⟩ := cf
  obtain ⟨ck0, ck1⟩ := ck
  have HI := Lib.hid hi; clear hi
  have HJ := Lib.hid hj; clear hj
  have HK := Lib.hid hk; clear hk
  unfold cells6
  go_enter Try.func5, Try.ntmps5
  go_wp2_with fail
  refine (awake_true _).mono ?_
  rintro _ w' ⟨rfl, k0, rfl⟩
  go_wp2_with fail
  refine (make_any x0 x1 _ HI.out _ (by omega) (by omega) (by omega) (by omega)).mono ?_
  rintro _ w' ⟨rfl, k1, rfl⟩
  unfold three
  go_wp2_with fail
  refine (make_any x2 x3 _ HJ.out _ (by omega) (by omega) (by omega) (by omega)).mono ?_
  rintro _ w' ⟨rfl, k2, rfl⟩
  unfold three
  go_wp2_with fail
  refine (make_any x4 x5 _ HK.out _ (by omega) (by omega) (by omega) (by omega)).mono ?_
  rintro _ w' ⟨rfl, k3, rfl⟩
  unfold three
  go_wp2_with fail
  go_ret
  exact ⟨rfl, (((Grown.refl _).alloc _ _).drewN' _)⟩

set_option maxRecDepth 100000 in
set_option maxHeartbeats 2000000 in
theorem ring_nnxx (x0 x1 x2 x3 x4 x5 : Int) (b0 : I64 x0) (b1 : I64 x1) (b2 : I64 x2) (b3 : I64 x3) (b4 : I64 x4) (b5 : I64 x5) (n d m e o f : Int) (t2 t5 : Int × Int × Int) (cn : -2147483647 ≤ n ∧ n ≤ 2147483647) (cd : -2147483647 ≤ d ∧ d ≤ 2147483647) (cm : -2147483647 ≤ m ∧ m ≤ 2147483647) (ce : -2147483647 ≤ e ∧ e ≤ 2147483647) (co : -2147483647 ≤ o ∧ o ≤ 2147483647) (cf : -2147483647 ≤ f ∧ f ≤ 2147483647)
    (hi : mk x0 x1 = (n, d, 0))
    (hj : mk x2 x3 = (m, e, 0))
    (hk : mk x4 x5 = (o, f, 0))
    (ha : addF n d m e = (0, 0, 3))
    (hb : addF m e n d = (0, 0, 3))
    (hc : mulF n d m e = t2)
    (hd : mulF m e n d = t2)
    (he : addF m e o f = (0, 0, 3))
    (hh : mulF n d o f = t5) (w : World) :
    Calls Try.prog 5 #[.agg (cells6 x0 x1 x2 x3 x4 x5)] w fun e w' => e = .returned (.bool true) ∧ Grown w w' := by
  obtain ⟨b00, b01⟩ := b0
  obtain ⟨b10, b11⟩ := b1
  obtain ⟨b20, b21⟩ := b2
  obtain ⟨b30, b31⟩ := b3
  obtain ⟨b40, b41⟩ := b4
  obtain ⟨b50, b51⟩ := b5
  obtain ⟨cn0, cn1⟩ := cn
  obtain ⟨cd0, cd1⟩ := cd
  obtain ⟨cm0, cm1⟩ := cm
  obtain ⟨ce0, ce1⟩ := ce
  obtain ⟨co0, co1⟩ := co
  obtain ⟨cf0, cf1⟩ := cf
  have HI := Lib.hid hi; clear hi
  have HJ := Lib.hid hj; clear hj
  have HK := Lib.hid hk; clear hk
  have HA := Lib.hid ha; clear ha
  have HB := Lib.hid hb; clear hb
  have HC := Lib.hid hc; clear hc
  have HD := Lib.hid hd; clear hd
  have HE := Lib.hid he; clear he
  have HH := Lib.hid hh; clear hh
  unfold cells6
  go_enter Try.func5, Try.ntmps5
  go_wp2_with fail
  refine (awake_true _).mono ?_
  rintro _ w' ⟨rfl, k0, rfl⟩
  go_wp2_with fail
  refine (make_any x0 x1 _ HI.out _ (by omega) (by omega) (by omega) (by omega)).mono ?_
  rintro _ w' ⟨rfl, k1, rfl⟩
  unfold three
  go_wp2_with fail
  refine (make_any x2 x3 _ HJ.out _ (by omega) (by omega) (by omega) (by omega)).mono ?_
  rintro _ w' ⟨rfl, k2, rfl⟩
  unfold three
  go_wp2_with fail
  refine (make_any x4 x5 _ HK.out _ (by omega) (by omega) (by omega) (by omega)).mono ?_
  rintro _ w' ⟨rfl, k3, rfl⟩
  unfold three
  go_wp2_with fail
  refine (add_any n d m e _ HA.out _ ⟨by omega, by omega⟩ ⟨by omega, by omega⟩ ⟨by omega, by omega⟩ ⟨by omega, by omega⟩).mono ?_
  rintro _ w' ⟨rfl, k4, rfl⟩
  unfold three
  go_wp2_with fail
  refine (add_any m e n d _ HB.out _ ⟨by omega, by omega⟩ ⟨by omega, by omega⟩ ⟨by omega, by omega⟩ ⟨by omega, by omega⟩).mono ?_
  rintro _ w' ⟨rfl, k5, rfl⟩
  unfold three
  go_wp2_with fail
  refine (mul_any n d m e _ HC.out _ ⟨by omega, by omega⟩ ⟨by omega, by omega⟩ ⟨by omega, by omega⟩ ⟨by omega, by omega⟩).mono ?_
  rintro _ w' ⟨rfl, k6, rfl⟩
  unfold three
  go_wp2_with fail
  refine (mul_any m e n d _ HD.out _ ⟨by omega, by omega⟩ ⟨by omega, by omega⟩ ⟨by omega, by omega⟩ ⟨by omega, by omega⟩).mono ?_
  rintro _ w' ⟨rfl, k7, rfl⟩
  unfold three
  go_wp2_with fail
  refine (add_any m e o f _ HE.out _ ⟨by omega, by omega⟩ ⟨by omega, by omega⟩ ⟨by omega, by omega⟩ ⟨by omega, by omega⟩).mono ?_
  rintro _ w' ⟨rfl, k8, rfl⟩
  unfold three
  go_wp2_with fail
  refine (mul_any n d o f _ HH.out _ ⟨by omega, by omega⟩ ⟨by omega, by omega⟩ ⟨by omega, by omega⟩ ⟨by omega, by omega⟩).mono ?_
  rintro _ w' ⟨rfl, k9, rfl⟩
  unfold three
  go_wp2_with fail
  go_ret
  exact ⟨rfl, (((Grown.refl _).alloc _ _).drewN' _)⟩

set_option maxRecDepth 100000 in
set_option maxHeartbeats 2000000 in
theorem ring_ynxx (x0 x1 x2 x3 x4 x5 : Int) (b0 : I64 x0) (b1 : I64 x1) (b2 : I64 x2) (b3 : I64 x3) (b4 : I64 x4) (b5 : I64 x5) (n d m e o f a1 a2 : Int) (t2 t5 : Int × Int × Int) (cn : -2147483647 ≤ n ∧ n ≤ 2147483647) (cd : -2147483647 ≤ d ∧ d ≤ 2147483647) (cm : -2147483647 ≤ m ∧ m ≤ 2147483647) (ce : -2147483647 ≤ e ∧ e ≤ 2147483647) (co : -2147483647 ≤ o ∧ o ≤ 2147483647) (cf : -2147483647 ≤ f ∧ f ≤ 2147483647) (ca1 : -2147483647 ≤ a1 ∧ a1 ≤ 2147483647) (ca2 : -2147483647 ≤ a2 ∧ a2 ≤ 2147483647)
    (hi : mk x0 x1 = (n, d, 0))
    (hj : mk x2 x3 = (m, e, 0))
    (hk : mk x4 x5 = (o, f, 0))
    (ha : addF n d m e = (a1, a2, 0))
    (hb : addF m e n d = (a1, a2, 0))
    (hc : mulF n d m e = t2)
    (hd : mulF m e n d = t2)
    (he : addF m e o f = (0, 0, 3))
    (hh : mulF n d o f = t5) (w : World) :
    Calls Try.prog 5 #[.agg (cells6 x0 x1 x2 x3 x4 x5)] w fun e w' => e = .returned (.bool true) ∧ Grown w w' := by
  obtain ⟨b00, b01⟩ := b0
  obtain ⟨b10, b11⟩ := b1
  obtain ⟨b20, b21⟩ := b2
  obtain ⟨b30, b31⟩ := b3
  obtain ⟨b40, b41⟩ := b4
  obtain ⟨b50, b51⟩ := b5
  obtain ⟨cn0, cn1⟩ := cn
  obtain ⟨cd0, cd1⟩ := cd
  obtain ⟨cm0, cm1⟩ := cm
  obtain ⟨ce0, ce1⟩ := ce
  obtain ⟨co0, co1⟩ := co
  obtain ⟨cf0, cf1⟩ := cf
  obtain ⟨ca10, ca11⟩ := ca1
  obtain ⟨ca20, ca21⟩ := ca2
  have HI := Lib.hid hi; clear hi
  have HJ := Lib.hid hj; clear hj
  have HK := Lib.hid hk; clear hk
  have HA := Lib.hid ha; clear ha
  have HB := Lib.hid hb; clear hb
  have HC := Lib.hid hc; clear hc
  have HD := Lib.hid hd; clear hd
  have HE := Lib.hid he; clear he
  have HH := Lib.hid hh; clear hh
  unfold cells6
  go_enter Try.func5, Try.ntmps5
  go_wp2_with fail
  refine (awake_true _).mono ?_
  rintro _ w' ⟨rfl, k0, rfl⟩
  go_wp2_with fail
  refine (make_any x0 x1 _ HI.out _ (by omega) (by omega) (by omega) (by omega)).mono ?_
  rintro _ w' ⟨rfl, k1, rfl⟩
  unfold three
  go_wp2_with fail
  refine (make_any x2 x3 _ HJ.out _ (by omega) (by omega) (by omega) (by omega)).mono ?_
  rintro _ w' ⟨rfl, k2, rfl⟩
  unfold three
  go_wp2_with fail
  refine (make_any x4 x5 _ HK.out _ (by omega) (by omega) (by omega) (by omega)).mono ?_
  rintro _ w' ⟨rfl, k3, rfl⟩
  unfold three
  go_wp2_with fail
  refine (add_any n d m e _ HA.out _ ⟨by omega, by omega⟩ ⟨by omega, by omega⟩ ⟨by omega, by omega⟩ ⟨by omega, by omega⟩).mono ?_
  rintro _ w' ⟨rfl, k4, rfl⟩
  unfold three
  go_wp2_with fail
  refine (add_any m e n d _ HB.out _ ⟨by omega, by omega⟩ ⟨by omega, by omega⟩ ⟨by omega, by omega⟩ ⟨by omega, by omega⟩).mono ?_
  rintro _ w' ⟨rfl, k5, rfl⟩
  unfold three
  go_wp2_with fail
  refine (mul_any n d m e _ HC.out _ ⟨by omega, by omega⟩ ⟨by omega, by omega⟩ ⟨by omega, by omega⟩ ⟨by omega, by omega⟩).mono ?_
  rintro _ w' ⟨rfl, k6, rfl⟩
  unfold three
  go_wp2_with fail
  refine (mul_any m e n d _ HD.out _ ⟨by omega, by omega⟩ ⟨by omega, by omega⟩ ⟨by omega, by omega⟩ ⟨by omega, by omega⟩).mono ?_
  rintro _ w' ⟨rfl, k7, rfl⟩
  unfold three
  go_wp2_with fail
  refine (add_any m e o f _ HE.out _ ⟨by omega, by omega⟩ ⟨by omega, by omega⟩ ⟨by omega, by omega⟩ ⟨by omega, by omega⟩).mono ?_
  rintro _ w' ⟨rfl, k8, rfl⟩
  unfold three
  go_wp2_with fail
  refine (mul_any n d o f _ HH.out _ ⟨by omega, by omega⟩ ⟨by omega, by omega⟩ ⟨by omega, by omega⟩ ⟨by omega, by omega⟩).mono ?_
  rintro _ w' ⟨rfl, k9, rfl⟩
  unfold three
  go_wp2_with fail
  go_ret
  exact ⟨rfl, (((Grown.refl _).alloc _ _).drewN' _)⟩

set_option maxRecDepth 100000 in
set_option maxHeartbeats 2000000 in
theorem ring_nynx (x0 x1 x2 x3 x4 x5 : Int) (b0 : I64 x0) (b1 : I64 x1) (b2 : I64 x2) (b3 : I64 x3) (b4 : I64 x4) (b5 : I64 x5) (n d m e o f g1 g2 : Int) (t5 : Int × Int × Int) (cn : -2147483647 ≤ n ∧ n ≤ 2147483647) (cd : -2147483647 ≤ d ∧ d ≤ 2147483647) (cm : -2147483647 ≤ m ∧ m ≤ 2147483647) (ce : -2147483647 ≤ e ∧ e ≤ 2147483647) (co : -2147483647 ≤ o ∧ o ≤ 2147483647) (cf : -2147483647 ≤ f ∧ f ≤ 2147483647) (cg1 : -2147483647 ≤ g1 ∧ g1 ≤ 2147483647) (cg2 : -2147483647 ≤ g2 ∧ g2 ≤ 2147483647)
    (hi : mk x0 x1 = (n, d, 0))
    (hj : mk x2 x3 = (m, e, 0))
    (hk : mk x4 x5 = (o, f, 0))
    (ha : addF n d m e = (0, 0, 3))
    (hb : addF m e n d = (0, 0, 3))
    (hc : mulF n d m e = (0, 0, 3))
    (hd : mulF m e n d = (0, 0, 3))
    (he : addF m e o f = (g1, g2, 0))
    (hh : mulF n d o f = t5) (w : World) :
    Calls Try.prog 5 #[.agg (cells6 x0 x1 x2 x3 x4 x5)] w fun e w' => e = .returned (.bool true) ∧ Grown w w' := by
  obtain ⟨b00, b01⟩ := b0
  obtain ⟨b10, b11⟩ := b1
  obtain ⟨b20, b21⟩ := b2
  obtain ⟨b30, b31⟩ := b3
  obtain ⟨b40, b41⟩ := b4
  obtain ⟨b50, b51⟩ := b5
  obtain ⟨cn0, cn1⟩ := cn
  obtain ⟨cd0, cd1⟩ := cd
  obtain ⟨cm0, cm1⟩ := cm
  obtain ⟨ce0, ce1⟩ := ce
  obtain ⟨co0, co1⟩ := co
  obtain ⟨cf0, cf1⟩ := cf
  obtain ⟨cg10, cg11⟩ := cg1
  obtain ⟨cg20, cg21⟩ := cg2
  have HI := Lib.hid hi; clear hi
  have HJ := Lib.hid hj; clear hj
  have HK := Lib.hid hk; clear hk
  have HA := Lib.hid ha; clear ha
  have HB := Lib.hid hb; clear hb
  have HC := Lib.hid hc; clear hc
  have HD := Lib.hid hd; clear hd
  have HE := Lib.hid he; clear he
  have HH := Lib.hid hh; clear hh
  unfold cells6
  go_enter Try.func5, Try.ntmps5
  go_wp2_with fail
  refine (awake_true _).mono ?_
  rintro _ w' ⟨rfl, k0, rfl⟩
  go_wp2_with fail
  refine (make_any x0 x1 _ HI.out _ (by omega) (by omega) (by omega) (by omega)).mono ?_
  rintro _ w' ⟨rfl, k1, rfl⟩
  unfold three
  go_wp2_with fail
  refine (make_any x2 x3 _ HJ.out _ (by omega) (by omega) (by omega) (by omega)).mono ?_
  rintro _ w' ⟨rfl, k2, rfl⟩
  unfold three
  go_wp2_with fail
  refine (make_any x4 x5 _ HK.out _ (by omega) (by omega) (by omega) (by omega)).mono ?_
  rintro _ w' ⟨rfl, k3, rfl⟩
  unfold three
  go_wp2_with fail
  refine (add_any n d m e _ HA.out _ ⟨by omega, by omega⟩ ⟨by omega, by omega⟩ ⟨by omega, by omega⟩ ⟨by omega, by omega⟩).mono ?_
  rintro _ w' ⟨rfl, k4, rfl⟩
  unfold three
  go_wp2_with fail
  refine (add_any m e n d _ HB.out _ ⟨by omega, by omega⟩ ⟨by omega, by omega⟩ ⟨by omega, by omega⟩ ⟨by omega, by omega⟩).mono ?_
  rintro _ w' ⟨rfl, k5, rfl⟩
  unfold three
  go_wp2_with fail
  refine (mul_any n d m e _ HC.out _ ⟨by omega, by omega⟩ ⟨by omega, by omega⟩ ⟨by omega, by omega⟩ ⟨by omega, by omega⟩).mono ?_
  rintro _ w' ⟨rfl, k6, rfl⟩
  unfold three
  go_wp2_with fail
  refine (mul_any m e n d _ HD.out _ ⟨by omega, by omega⟩ ⟨by omega, by omega⟩ ⟨by omega, by omega⟩ ⟨by omega, by omega⟩).mono ?_
  rintro _ w' ⟨rfl, k7, rfl⟩
  unfold three
  go_wp2_with fail
  refine (add_any m e o f _ HE.out _ ⟨by omega, by omega⟩ ⟨by omega, by omega⟩ ⟨by omega, by omega⟩ ⟨by omega, by omega⟩).mono ?_
  rintro _ w' ⟨rfl, k8, rfl⟩
  unfold three
  go_wp2_with fail
  refine (mul_any n d o f _ HH.out _ ⟨by omega, by omega⟩ ⟨by omega, by omega⟩ ⟨by omega, by omega⟩ ⟨by omega, by omega⟩).mono ?_
  rintro _ w' ⟨rfl, k9, rfl⟩
  unfold three
  go_wp2_with fail
  go_ret
  exact ⟨rfl, (((Grown.refl _).alloc _ _).drewN' _)⟩

set_option maxRecDepth 100000 in
set_option maxHeartbeats 2000000 in
theorem ring_nyyn (x0 x1 x2 x3 x4 x5 : Int) (b0 : I64 x0) (b1 : I64 x1) (b2 : I64 x2) (b3 : I64 x3) (b4 : I64 x4) (b5 : I64 x5) (n d m e o f p1 p2 g1 g2 : Int) (cn : -2147483647 ≤ n ∧ n ≤ 2147483647) (cd : -2147483647 ≤ d ∧ d ≤ 2147483647) (cm : -2147483647 ≤ m ∧ m ≤ 2147483647) (ce : -2147483647 ≤ e ∧ e ≤ 2147483647) (co : -2147483647 ≤ o ∧ o ≤ 2147483647) (cf : -2147483647 ≤ f ∧ f ≤ 2147483647) (cp1 : -2147483647 ≤ p1 ∧ p1 ≤ 2147483647) (cp2 : -2147483647 ≤ p2 ∧ p2 ≤ 2147483647) (cg1 : -2147483647 ≤ g1 ∧ g1 ≤ 2147483647) (cg2 : -2147483647 ≤ g2 ∧ g2 ≤ 2147483647)
    (hi : mk x0 x1 = (n, d, 0))
    (hj : mk x2 x3 = (m, e, 0))
    (hk : mk x4 x5 = (o, f, 0))
    (ha : addF n d m e = (0, 0, 3))
    (hb : addF m e n d = (0, 0, 3))
    (hc : mulF n d m e = (p1, p2, 0))
    (hd : mulF m e n d = (p1, p2, 0))
    (he : addF m e o f = (g1, g2, 0))
    (hh : mulF n d o f = (0, 0, 3)) (w : World) :
    Calls Try.prog 5 #[.agg (cells6 x0 x1 x2 x3 x4 x5)] w fun e w' => e = .returned (.bool true) ∧ Grown w w' := by
  obtain ⟨b00, b01⟩ := b0
  obtain ⟨b10, b11⟩ := b1
  obtain ⟨b20, b21⟩ := b2
  obtain ⟨b30, b31⟩ := b3
  obtain ⟨b40, b41⟩ := b4
  obtain ⟨b50, b51⟩ := b5
  obtain ⟨cn0, cn1⟩ := cn
  obtain ⟨cd0, cd1⟩ := cd
  obtain ⟨cm0, cm1⟩ := cm
  obtain ⟨ce0, ce1⟩ := ce
  obtain ⟨co0, co1⟩ := co
  obtain ⟨cf0, cf1⟩ := cf
  obtain ⟨cp10, cp11⟩ := cp1
  obtain ⟨cp20, cp21⟩ := cp2
  obtain ⟨cg10, cg11⟩ := cg1
  obtain ⟨cg20, cg21⟩ := cg2
  have HI := Lib.hid hi; clear hi
  have HJ := Lib.hid hj; clear hj
  have HK := Lib.hid hk; clear hk
  have HA := Lib.hid ha; clear ha
  have HB := Lib.hid hb; clear hb
  have HC := Lib.hid hc; clear hc
  have HD := Lib.hid hd; clear hd
  have HE := Lib.hid he; clear he
  have HH := Lib.hid hh; clear hh
  unfold cells6
  go_enter Try.func5, Try.ntmps5
  go_wp2_with fail
  refine (awake_true _).mono ?_
  rintro _ w' ⟨rfl, k0, rfl⟩
  go_wp2_with fail
  refine (make_any x0 x1 _ HI.out _ (by omega) (by omega) (by omega) (by omega)).mono ?_
  rintro _ w' ⟨rfl, k1, rfl⟩
  unfold three
  go_wp2_with fail
  refine (make_any x2 x3 _ HJ.out _ (by omega) (by omega) (by omega) (by omega)).mono ?_
  rintro _ w' ⟨rfl, k2, rfl⟩
  unfold three
  go_wp2_with fail
  refine (make_any x4 x5 _ HK.out _ (by omega) (by omega) (by omega) (by omega)).mono ?_
  rintro _ w' ⟨rfl, k3, rfl⟩
  unfold three
  go_wp2_with fail
  refine (add_any n d m e _ HA.out _ ⟨by omega, by omega⟩ ⟨by omega, by omega⟩ ⟨by omega, by omega⟩ ⟨by omega, by omega⟩).mono ?_
  rintro _ w' ⟨rfl, k4, rfl⟩
  unfold three
  go_wp2_with fail
  refine (add_any m e n d _ HB.out _ ⟨by omega, by omega⟩ ⟨by omega, by omega⟩ ⟨by omega, by omega⟩ ⟨by omega, by omega⟩).mono ?_
  rintro _ w' ⟨rfl, k5, rfl⟩
  unfold three
  go_wp2_with fail
  refine (mul_any n d m e _ HC.out _ ⟨by omega, by omega⟩ ⟨by omega, by omega⟩ ⟨by omega, by omega⟩ ⟨by omega, by omega⟩).mono ?_
  rintro _ w' ⟨rfl, k6, rfl⟩
  unfold three
  go_wp2_with fail
  refine (mul_any m e n d _ HD.out _ ⟨by omega, by omega⟩ ⟨by omega, by omega⟩ ⟨by omega, by omega⟩ ⟨by omega, by omega⟩).mono ?_
  rintro _ w' ⟨rfl, k7, rfl⟩
  unfold three
  go_wp2_with fail
  refine (add_any m e o f _ HE.out _ ⟨by omega, by omega⟩ ⟨by omega, by omega⟩ ⟨by omega, by omega⟩ ⟨by omega, by omega⟩).mono ?_
  rintro _ w' ⟨rfl, k8, rfl⟩
  unfold three
  go_wp2_with fail
  refine (mul_any n d o f _ HH.out _ ⟨by omega, by omega⟩ ⟨by omega, by omega⟩ ⟨by omega, by omega⟩ ⟨by omega, by omega⟩).mono ?_
  rintro _ w' ⟨rfl, k9, rfl⟩
  unfold three
  go_wp2_with fail
  go_ret
  exact ⟨rfl, (((Grown.refl _).alloc _ _).drewN' _)⟩

set_option maxRecDepth 100000 in
set_option maxHeartbeats 2000000 in
theorem ring_nyyy (x0 x1 x2 x3 x4 x5 : Int) (b0 : I64 x0) (b1 : I64 x1) (b2 : I64 x2) (b3 : I64 x3) (b4 : I64 x4) (b5 : I64 x5) (n d m e o f p1 p2 g1 g2 w1 w2 : Int) (t6 : Int × Int × Int) (cn : -2147483647 ≤ n ∧ n ≤ 2147483647) (cd : -2147483647 ≤ d ∧ d ≤ 2147483647) (cm : -2147483647 ≤ m ∧ m ≤ 2147483647) (ce : -2147483647 ≤ e ∧ e ≤ 2147483647) (co : -2147483647 ≤ o ∧ o ≤ 2147483647) (cf : -2147483647 ≤ f ∧ f ≤ 2147483647) (cp1 : -2147483647 ≤ p1 ∧ p1 ≤ 2147483647) (cp2 : -2147483647 ≤ p2 ∧ p2 ≤ 2147483647) (cg1 : -2147483647 ≤ g1 ∧ g1 ≤ 2147483647) (cg2 : -2147483647 ≤ g2 ∧ g2 ≤ 2147483647) (cw1 : -2147483647 ≤ w1 ∧ w1 ≤ 2147483647) (cw2 : -2147483647 ≤ w2 ∧ w2 ≤ 2147483647)
    (hi : mk x0 x1 = (n, d, 0))
    (hj : mk x2 x3 = (m, e, 0))
    (hk : mk x4 x5 = (o, f, 0))
    (ha : addF n d m e = (0, 0, 3))
    (hb : addF m e n d = (0, 0, 3))
    (hc : mulF n d m e = (p1, p2, 0))
    (hd : mulF m e n d = (p1, p2, 0))
    (he : addF m e o f = (g1, g2, 0))
    (hh : mulF n d o f = (w1, w2, 0))
    (hl : mulF n d g1 g2 = t6)
    (hm : addF p1 p2 w1 w2 = t6) (w : World) :
    Calls Try.prog 5 #[.agg (cells6 x0 x1 x2 x3 x4 x5)] w fun e w' => e = .returned (.bool true) ∧ Grown w w' := by
  obtain ⟨b00, b01⟩ := b0
  obtain ⟨b10, b11⟩ := b1
  obtain ⟨b20, b21⟩ := b2
  obtain ⟨b30, b31⟩ := b3
  obtain ⟨b40, b41⟩ := b4
  obtain ⟨b50, b51⟩ := b5
  obtain ⟨cn0, cn1⟩ := cn
  obtain ⟨cd0, cd1⟩ := cd
  obtain ⟨cm0, cm1⟩ := cm
  obtain ⟨ce0, ce1⟩ := ce
  obtain ⟨co0, co1⟩ := co
  obtain ⟨cf0, cf1⟩ := cf
  obtain ⟨cp10, cp11⟩ := cp1
  obtain ⟨cp20, cp21⟩ := cp2
  obtain ⟨cg10, cg11⟩ := cg1
  obtain ⟨cg20, cg21⟩ := cg2
  obtain ⟨cw10, cw11⟩ := cw1
  obtain ⟨cw20, cw21⟩ := cw2
  have HI := Lib.hid hi; clear hi
  have HJ := Lib.hid hj; clear hj
  have HK := Lib.hid hk; clear hk
  have HA := Lib.hid ha; clear ha
  have HB := Lib.hid hb; clear hb
  have HC := Lib.hid hc; clear hc
  have HD := Lib.hid hd; clear hd
  have HE := Lib.hid he; clear he
  have HH := Lib.hid hh; clear hh
  have HL := Lib.hid hl; clear hl
  have HM := Lib.hid hm; clear hm
  unfold cells6
  go_enter Try.func5, Try.ntmps5
  go_wp2_with fail
  refine (awake_true _).mono ?_
  rintro _ w' ⟨rfl, k0, rfl⟩
  go_wp2_with fail
  refine (make_any x0 x1 _ HI.out _ (by omega) (by omega) (by omega) (by omega)).mono ?_
  rintro _ w' ⟨rfl, k1, rfl⟩
  unfold three
  go_wp2_with fail
  refine (make_any x2 x3 _ HJ.out _ (by omega) (by omega) (by omega) (by omega)).mono ?_
  rintro _ w' ⟨rfl, k2, rfl⟩
  unfold three
  go_wp2_with fail
  refine (make_any x4 x5 _ HK.out _ (by omega) (by omega) (by omega) (by omega)).mono ?_
  rintro _ w' ⟨rfl, k3, rfl⟩
  unfold three
  go_wp2_with fail
  refine (add_any n d m e _ HA.out _ ⟨by omega, by omega⟩ ⟨by omega, by omega⟩ ⟨by omega, by omega⟩ ⟨by omega, by omega⟩).mono ?_
  rintro _ w' ⟨rfl, k4, rfl⟩
  unfold three
  go_wp2_with fail
  refine (add_any m e n d _ HB.out _ ⟨by omega, by omega⟩ ⟨by omega, by omega⟩ ⟨by omega, by omega⟩ ⟨by omega, by omega⟩).mono ?_
  rintro _ w' ⟨rfl, k5, rfl⟩
  unfold three
  go_wp2_with fail
  refine (mul_any n d m e _ HC.out _ ⟨by omega, by omega⟩ ⟨by omega, by omega⟩ ⟨by omega, by omega⟩ ⟨by omega, by omega⟩).mono ?_
  rintro _ w' ⟨rfl, k6, rfl⟩
  unfold three
  go_wp2_with fail
  refine (mul_any m e n d _ HD.out _ ⟨by omega, by omega⟩ ⟨by omega, by omega⟩ ⟨by omega, by omega⟩ ⟨by omega, by omega⟩).mono ?_
  rintro _ w' ⟨rfl, k7, rfl⟩
  unfold three
  go_wp2_with fail
  refine (add_any m e o f _ HE.out _ ⟨by omega, by omega⟩ ⟨by omega, by omega⟩ ⟨by omega, by omega⟩ ⟨by omega, by omega⟩).mono ?_
  rintro _ w' ⟨rfl, k8, rfl⟩
  unfold three
  go_wp2_with fail
  refine (mul_any n d o f _ HH.out _ ⟨by omega, by omega⟩ ⟨by omega, by omega⟩ ⟨by omega, by omega⟩ ⟨by omega, by omega⟩).mono ?_
  rintro _ w' ⟨rfl, k9, rfl⟩
  unfold three
  go_wp2_with fail
  refine (mul_any n d g1 g2 _ HL.out _ ⟨by omega, by omega⟩ ⟨by omega, by omega⟩ ⟨by omega, by omega⟩ ⟨by omega, by omega⟩).mono ?_
  rintro _ w' ⟨rfl, k10, rfl⟩
  unfold three
  go_wp2_with fail
  refine (add_any p1 p2 w1 w2 _ HM.out _ ⟨by omega, by omega⟩ ⟨by omega, by omega⟩ ⟨by omega, by omega⟩ ⟨by omega, by omega⟩).mono ?_
  rintro _ w' ⟨rfl, k11, rfl⟩
  unfold three
  go_wp2_with fail
  go_ret
  exact ⟨rfl, (((Grown.refl _).alloc _ _).drewN' _)⟩

set_option maxRecDepth 100000 in
set_option maxHeartbeats 2000000 in
theorem ring_yynx (x0 x1 x2 x3 x4 x5 : Int) (b0 : I64 x0) (b1 : I64 x1) (b2 : I64 x2) (b3 : I64 x3) (b4 : I64 x4) (b5 : I64 x5) (n d m e o f a1 a2 g1 g2 : Int) (t5 t4 : Int × Int × Int) (cn : -2147483647 ≤ n ∧ n ≤ 2147483647) (cd : -2147483647 ≤ d ∧ d ≤ 2147483647) (cm : -2147483647 ≤ m ∧ m ≤ 2147483647) (ce : -2147483647 ≤ e ∧ e ≤ 2147483647) (co : -2147483647 ≤ o ∧ o ≤ 2147483647) (cf : -2147483647 ≤ f ∧ f ≤ 2147483647) (ca1 : -2147483647 ≤ a1 ∧ a1 ≤ 2147483647) (ca2 : -2147483647 ≤ a2 ∧ a2 ≤ 2147483647) (cg1 : -2147483647 ≤ g1 ∧ g1 ≤ 2147483647) (cg2 : -2147483647 ≤ g2 ∧ g2 ≤ 2147483647)
    (hi : mk x0 x1 = (n, d, 0))
    (hj : mk x2 x3 = (m, e, 0))
    (hk : mk x4 x5 = (o, f, 0))
    (ha : addF n d m e = (a1, a2, 0))
    (hb : addF m e n d = (a1, a2, 0))
    (hc : mulF n d m e = (0, 0, 3))
    (hd : mulF m e n d = (0, 0, 3))
    (he : addF m e o f = (g1, g2, 0))
    (hf : addF a1 a2 o f = t4)
    (hg : addF n d g1 g2 = t4)
    (hh : mulF n d o f = t5) (w : World) :
    Calls Try.prog 5 #[.agg (cells6 x0 x1 x2 x3 x4 x5)] w fun e w' => e = .returned (.bool true) ∧ Grown w w' := by
  obtain ⟨b00, b01⟩ := b0
  obtain ⟨b10, b11⟩ := b1
  obtain ⟨b20, b21⟩ := b2
  obtain ⟨b30, b31⟩ := b3
  obtain ⟨b40, b41⟩ := b4
  obtain ⟨b50, b51⟩ := b5
  obtain ⟨cn0, cn1⟩ := cn
  obtain ⟨cd0, cd1⟩ := cd
  obtain ⟨cm0, cm1⟩ := cm
  obtain ⟨ce0, ce1⟩ := ce
  obtain ⟨co0, co1⟩ := co
  obtain ⟨cf0, cf1⟩ := cf
  obtain ⟨ca10, ca11⟩ := ca1
  obtain ⟨ca20, ca21⟩ := ca2
  obtain ⟨cg10, cg11⟩ := cg1
  obtain ⟨cg20, cg21⟩ := cg2
  have HI := Lib.hid hi; clear hi
  have HJ := Lib.hid hj; clear hj
  have HK := Lib.hid hk; clear hk
  have HA := Lib.hid ha; clear ha
  have HB := Lib.hid hb; clear hb
  have HC := Lib.hid hc; clear hc
  have HD := Lib.hid hd; clear hd
  have HE := Lib.hid he; clear he
  have HF := Lib.hid hf; clear hf
  have HG := Lib.hid hg; clear hg
  have HH := Lib.hid hh; clear hh
  unfold cells6
  go_enter Try.func5, Try.ntmps5
  go_wp2_with fail
  refine (awake_true _).mono ?_
  rintro _ w' ⟨rfl, k0, rfl⟩
  go_wp2_with fail
  refine (make_any x0 x1 _ HI.out _ (by omega) (by omega) (by omega) (by omega)).mono ?_
  rintro _ w' ⟨rfl, k1, rfl⟩
  unfold three
  go_wp2_with fail
  refine (make_any x2 x3 _ HJ.out _ (by omega) (by omega) (by omega) (by omega)).mono ?_
  rintro _ w' ⟨rfl, k2, rfl⟩
  unfold three
  go_wp2_with fail
  refine (make_any x4 x5 _ HK.out _ (by omega) (by omega) (by omega) (by omega)).mono ?_
  rintro _ w' ⟨rfl, k3, rfl⟩
  unfold three
  go_wp2_with fail
  refine (add_any n d m e _ HA.out _ ⟨by omega, by omega⟩ ⟨by omega, by omega⟩ ⟨by omega, by omega⟩ ⟨by omega, by omega⟩).mono ?_
  rintro _ w' ⟨rfl, k4, rfl⟩
  unfold three
  go_wp2_with fail
  refine (add_any m e n d _ HB.out _ ⟨by omega, by omega⟩ ⟨by omega, by omega⟩ ⟨by omega, by omega⟩ ⟨by omega, by omega⟩).mono ?_
  rintro _ w' ⟨rfl, k5, rfl⟩
  unfold three
  go_wp2_with fail
  refine (mul_any n d m e _ HC.out _ ⟨by omega, by omega⟩ ⟨by omega, by omega⟩ ⟨by omega, by omega⟩ ⟨by omega, by omega⟩).mono ?_
  rintro _ w' ⟨rfl, k6, rfl⟩
  unfold three
  go_wp2_with fail
  refine (mul_any m e n d _ HD.out _ ⟨by omega, by omega⟩ ⟨by omega, by omega⟩ ⟨by omega, by omega⟩ ⟨by omega, by omega⟩).mono ?_
  rintro _ w' ⟨rfl, k7, rfl⟩
  unfold three
  go_wp2_with fail
  refine (add_any m e o f _ HE.out _ ⟨by omega, by omega⟩ ⟨by omega, by omega⟩ ⟨by omega, by omega⟩ ⟨by omega, by omega⟩).mono ?_
  rintro _ w' ⟨rfl, k8, rfl⟩
  unfold three
  go_wp2_with fail
  refine (add_any a1 a2 o f _ HF.out _ ⟨by omega, by omega⟩ ⟨by omega, by omega⟩ ⟨by omega, by omega⟩ ⟨by omega, by omega⟩).mono ?_
  rintro _ w' ⟨rfl, k9, rfl⟩
  unfold three
  go_wp2_with fail
  refine (add_any n d g1 g2 _ HG.out _ ⟨by omega, by omega⟩ ⟨by omega, by omega⟩ ⟨by omega, by omega⟩ ⟨by omega, by omega⟩).mono ?_
  rintro _ w' ⟨rfl, k10, rfl⟩
  unfold three
  go_wp2_with fail
  refine (mul_any n d o f _ HH.out _ ⟨by omega, by omega⟩ ⟨by omega, by omega⟩ ⟨by omega, by omega⟩ ⟨by omega, by omega⟩).mono ?_
  rintro _ w' ⟨rfl, k11, rfl⟩
  unfold three
  go_wp2_with fail
  go_ret
  exact ⟨rfl, (((Grown.refl _).alloc _ _).drewN' _)⟩

set_option maxRecDepth 100000 in
set_option maxHeartbeats 2000000 in
theorem ring_yyyn (x0 x1 x2 x3 x4 x5 : Int) (b0 : I64 x0) (b1 : I64 x1) (b2 : I64 x2) (b3 : I64 x3) (b4 : I64 x4) (b5 : I64 x5) (n d m e o f a1 a2 p1 p2 g1 g2 : Int) (t4 : Int × Int × Int) (cn : -2147483647 ≤ n ∧ n ≤ 2147483647) (cd : -2147483647 ≤ d ∧ d ≤ 2147483647) (cm : -2147483647 ≤ m ∧ m ≤ 2147483647) (ce : -2147483647 ≤ e ∧ e ≤ 2147483647) (co : -2147483647 ≤ o ∧ o ≤ 2147483647) (cf : -2147483647 ≤ f ∧ f ≤ 2147483647) (ca1 : -2147483647 ≤ a1 ∧ a1 ≤ 2147483647) (ca2 : -2147483647 ≤ a2 ∧ a2 ≤ 2147483647) (cp1 : -2147483647 ≤ p1 ∧ p1 ≤ 2147483647) (cp2 : -2147483647 ≤ p2 ∧ p2 ≤ 2147483647) (cg1 : -2147483647 ≤ g1 ∧ g1 ≤ 2147483647) (cg2 : -2147483647 ≤ g2 ∧ g2 ≤ 2147483647)
    (hi : mk x0 x1 = (n, d, 0))
    (hj : mk x2 x3 = (m, e, 0))
    (hk : mk x4 x5 = (o, f, 0))
    (ha : addF n d m e = (a1, a2, 0))
    (hb : addF m e n d = (a1, a2, 0))
    (hc : mulF n d m e = (p1, p2, 0))
    (hd : mulF m e n d = (p1, p2, 0))
    (he : addF m e o f = (g1, g2, 0))
    (hf : addF a1 a2 o f = t4)
    (hg : addF n d g1 g2 = t4)
    (hh : mulF n d o f = (0, 0, 3)) (w : World) :
    Calls Try.prog 5 #[.agg (cells6 x0 x1 x2 x3 x4 x5)] w fun e w' => e = .returned (.bool true) ∧ Grown w w' := by
  obtain ⟨b00, b01⟩ := b0
  obtain ⟨b10, b11⟩ := b1
  obtain ⟨b20, b21⟩ := b2
  obtain ⟨b30, b31⟩ := b3
  obtain ⟨b40, b41⟩ := b4
  obtain ⟨b50, b51⟩ := b5
  obtain ⟨cn0, cn1⟩ := cn
  obtain ⟨cd0, cd1⟩ := cd
  obtain ⟨cm0, cm1⟩ := cm
  obtain ⟨ce0, ce1⟩ := ce
  obtain ⟨co0, co1⟩ := co
  obtain ⟨cf0, cf1⟩ := cf
  obtain ⟨ca10, ca11⟩ := ca1
  obtain ⟨ca20, ca21⟩ := ca2
  obtain ⟨cp10, cp11⟩ := cp1
  obtain ⟨cp20, cp21⟩ := cp2
  obtain ⟨cg10, cg11⟩ := cg1
  obtain ⟨cg20, cg21⟩ := cg2
  have HI := Lib.hid hi; clear hi
  have HJ := Lib.hid hj; clear hj
  have HK := Lib.hid hk; clear hk
  have HA := Lib.hid ha; clear ha
  have HB := Lib.hid hb; clear hb
  have HC := Lib.hid hc; clear hc
  have HD := Lib.hid hd; clear hd
  have HE := Lib.hid he; clear he
  have HF := Lib.hid hf; clear hf
  have HG := Lib.hid hg; clear hg
  have HH := Lib.hid hh; clear hh
  unfold cells6
  go_enter Try.func5, Try.ntmps5
  go_wp2_with fail
  refine (awake_true _).mono ?_
  rintro _ w' ⟨rfl, k0, rfl⟩
  go_wp2_with fail
  refine (make_any x0 x1 _ HI.out _ (by omega) (by omega) (by omega) (by omega)).mono ?_
  rintro _ w' ⟨rfl, k1, rfl⟩
  unfold three
  go_wp2_with fail
  refine (make_any x2 x3 _ HJ.out _ (by omega) (by omega) (by omega) (by omega)).mono ?_
  rintro _ w' ⟨rfl, k2, rfl⟩
  unfold three
  go_wp2_with fail
  refine (make_any x4 x5 _ HK.out _ (by omega) (by omega) (by omega) (by omega)).mono ?_
  rintro _ w' ⟨rfl, k3, rfl⟩
  unfold three
  go_wp2_with fail
  refine (add_any n d m e _ HA.out _ ⟨by omega, by omega⟩ ⟨by omega, by omega⟩ ⟨by omega, by omega⟩ ⟨by omega, by omega⟩).mono ?_
  rintro _ w' ⟨rfl, k4, rfl⟩
  unfold three
  go_wp2_with fail
  refine (add_any m e n d _ HB.out _ ⟨by omega, by omega⟩ ⟨by omega, by omega⟩ ⟨by omega, by omega⟩ ⟨by omega, by omega⟩).mono ?_
  rintro _ w' ⟨rfl, k5, rfl⟩
  unfold three
  go_wp2_with fail
  refine (mul_any n d m e _ HC.out _ ⟨by omega, by omega⟩ ⟨by omega, by omega⟩ ⟨by omega, by omega⟩ ⟨by omega, by omega⟩).mono ?_
  rintro _ w' ⟨rfl, k6, rfl⟩
  unfold three
  go_wp2_with fail
  refine (mul_any m e n d _ HD.out _ ⟨by omega, by omega⟩ ⟨by omega, by omega⟩ ⟨by omega, by omega⟩ ⟨by omega, by omega⟩).mono ?_
  rintro _ w' ⟨rfl, k7, rfl⟩
  unfold three
  go_wp2_with fail
  refine (add_any m e o f _ HE.out _ ⟨by omega, by omega⟩ ⟨by omega, by omega⟩ ⟨by omega, by omega⟩ ⟨by omega, by omega⟩).mono ?_
  rintro _ w' ⟨rfl, k8, rfl⟩
  unfold three
  go_wp2_with fail
  refine (add_any a1 a2 o f _ HF.out _ ⟨by omega, by omega⟩ ⟨by omega, by omega⟩ ⟨by omega, by omega⟩ ⟨by omega, by omega⟩).mono ?_
  rintro _ w' ⟨rfl, k9, rfl⟩
  unfold three
  go_wp2_with fail
  refine (add_any n d g1 g2 _ HG.out _ ⟨by omega, by omega⟩ ⟨by omega, by omega⟩ ⟨by omega, by omega⟩ ⟨by omega, by omega⟩).mono ?_
  rintro _ w' ⟨rfl, k10, rfl⟩
  unfold three
  go_wp2_with fail
  refine (mul_any n d o f _ HH.out _ ⟨by omega, by omega⟩ ⟨by omega, by omega⟩ ⟨by omega, by omega⟩ ⟨by omega, by omega⟩).mono ?_
  rintro _ w' ⟨rfl, k11, rfl⟩
  unfold three
  go_wp2_with fail
  go_ret
  exact ⟨rfl, (((Grown.refl _).alloc _ _).drewN' _)⟩

set_option maxRecDepth 100000 in
set_option maxHeartbeats 2000000 in
theorem ring_yyyy (x0 x1 x2 x3 x4 x5 : Int) (b0 : I64 x0) (b1 : I64 x1) (b2 : I64 x2) (b3 : I64 x3) (b4 : I64 x4) (b5 : I64 x5) (n d m e o f a1 a2 p1 p2 g1 g2 w1 w2 : Int) (t4 t6 : Int × Int × Int) (cn : -2147483647 ≤ n ∧ n ≤ 2147483647) (cd : -2147483647 ≤ d ∧ d ≤ 2147483647) (cm : -2147483647 ≤ m ∧ m ≤ 2147483647) (ce : -2147483647 ≤ e ∧ e ≤ 2147483647) (co : -2147483647 ≤ o ∧ o ≤ 2147483647) (cf : -2147483647 ≤ f ∧ f ≤ 2147483647) (ca1 : -2147483647 ≤ a1 ∧ a1 ≤ 2147483647) (ca2 : -2147483647 ≤ a2 ∧ a2 ≤ 2147483647) (cp1 : -2147483647 ≤ p1 ∧ p1 ≤ 2147483647) (cp2 : -2147483647 ≤ p2 ∧ p2 ≤ 2147483647) (cg1 : -2147483647 ≤ g1 ∧ g1 ≤ 2147483647) (cg2 : -2147483647 ≤ g2 ∧ g2 ≤ 2147483647) (cw1 : -2147483647 ≤ w1 ∧ w1 ≤ 2147483647) (cw2 : -2147483647 ≤ w2 ∧ w2 ≤ 2147483647)
    (hi : mk x0 x1 = (n, d, 0))
    (hj : mk x2 x3 = (m, e, 0))
    (hk : mk x4 x5 = (o, f, 0))
    (ha : addF n d m e = (a1, a2, 0))
    (hb : addF m e n d = (a1, a2, 0))
    (hc : mulF n d m e = (p1, p2, 0))
    (hd : mulF m e n d = (p1, p2, 0))
    (he : addF m e o f = (g1, g2, 0))
    (hf : addF a1 a2 o f = t4)
    (hg : addF n d g1 g2 = t4)
    (hh : mulF n d o f = (w1, w2, 0))
    (hl : mulF n d g1 g2 = t6)
    (hm : addF p1 p2 w1 w2 = t6) (w : World) :
    Calls Try.prog 5 #[.agg (cells6 x0 x1 x2 x3 x4 x5)] w fun e w' => e = .returned (.bool true) ∧ Grown w w' := by
  obtain ⟨b00, b01⟩ := b0
  obtain ⟨b10, b11⟩ := b1
  obtain ⟨b20, b21⟩ := b2
  obtain ⟨b30, b31⟩ := b3
  obtain ⟨b40, b41⟩ := b4
  obtain ⟨b50, b51⟩ := b5
  obtain ⟨cn0, cn1⟩ := cn
  obtain ⟨cd0, cd1⟩ := cd
  obtain ⟨cm0, cm1⟩ := cm
  obtain ⟨ce0, ce1⟩ := ce
  obtain ⟨co0, co1⟩ := co
  obtain ⟨cf0, cf1⟩ := cf
  obtain ⟨ca10, ca11⟩ := ca1
  obtain ⟨ca20, ca21⟩ := ca2
  obtain ⟨cp10, cp11⟩ := cp1
  obtain ⟨cp20, cp21⟩ := cp2
  obtain ⟨cg10, cg11⟩ := cg1
  obtain ⟨cg20, cg21⟩ := cg2
  obtain ⟨cw10, cw11⟩ := cw1
  obtain ⟨cw20, cw21⟩ := cw2
  have HI := Lib.hid hi; clear hi
  have HJ := Lib.hid hj; clear hj
  have HK := Lib.hid hk; clear hk
  have HA := Lib.hid ha; clear ha
  have HB := Lib.hid hb; clear hb
  have HC := Lib.hid hc; clear hc
  have HD := Lib.hid hd; clear hd
  have HE := Lib.hid he; clear he
  have HF := Lib.hid hf; clear hf
  have HG := Lib.hid hg; clear hg
  have HH := Lib.hid hh; clear hh
  have HL := Lib.hid hl; clear hl
  have HM := Lib.hid hm; clear hm
  unfold cells6
  go_enter Try.func5, Try.ntmps5
  go_wp2_with fail
  refine (awake_true _).mono ?_
  rintro _ w' ⟨rfl, k0, rfl⟩
  go_wp2_with fail
  refine (make_any x0 x1 _ HI.out _ (by omega) (by omega) (by omega) (by omega)).mono ?_
  rintro _ w' ⟨rfl, k1, rfl⟩
  unfold three
  go_wp2_with fail
  refine (make_any x2 x3 _ HJ.out _ (by omega) (by omega) (by omega) (by omega)).mono ?_
  rintro _ w' ⟨rfl, k2, rfl⟩
  unfold three
  go_wp2_with fail
  refine (make_any x4 x5 _ HK.out _ (by omega) (by omega) (by omega) (by omega)).mono ?_
  rintro _ w' ⟨rfl, k3, rfl⟩
  unfold three
  go_wp2_with fail
  refine (add_any n d m e _ HA.out _ ⟨by omega, by omega⟩ ⟨by omega, by omega⟩ ⟨by omega, by omega⟩ ⟨by omega, by omega⟩).mono ?_
  rintro _ w' ⟨rfl, k4, rfl⟩
  unfold three
  go_wp2_with fail
  refine (add_any m e n d _ HB.out _ ⟨by omega, by omega⟩ ⟨by omega, by omega⟩ ⟨by omega, by omega⟩ ⟨by omega, by omega⟩).mono ?_
  rintro _ w' ⟨rfl, k5, rfl⟩
  unfold three
  go_wp2_with fail
  refine (mul_any n d m e _ HC.out _ ⟨by omega, by omega⟩ ⟨by omega, by omega⟩ ⟨by omega, by omega⟩ ⟨by omega, by omega⟩).mono ?_
  rintro _ w' ⟨rfl, k6, rfl⟩
  unfold three
  go_wp2_with fail
  refine (mul_any m e n d _ HD.out _ ⟨by omega, by omega⟩ ⟨by omega, by omega⟩ ⟨by omega, by omega⟩ ⟨by omega, by omega⟩).mono ?_
  rintro _ w' ⟨rfl, k7, rfl⟩
  unfold three
  go_wp2_with fail
  refine (add_any m e o f _ HE.out _ ⟨by omega, by omega⟩ ⟨by omega, by omega⟩ ⟨by omega, by omega⟩ ⟨by omega, by omega⟩).mono ?_
  rintro _ w' ⟨rfl, k8, rfl⟩
  unfold three
  go_wp2_with fail
  refine (add_any a1 a2 o f _ HF.out _ ⟨by omega, by omega⟩ ⟨by omega, by omega⟩ ⟨by omega, by omega⟩ ⟨by omega, by omega⟩).mono ?_
  rintro _ w' ⟨rfl, k9, rfl⟩
  unfold three
  go_wp2_with fail
  refine (add_any n d g1 g2 _ HG.out _ ⟨by omega, by omega⟩ ⟨by omega, by omega⟩ ⟨by omega, by omega⟩ ⟨by omega, by omega⟩).mono ?_
  rintro _ w' ⟨rfl, k10, rfl⟩
  unfold three
  go_wp2_with fail
  refine (mul_any n d o f _ HH.out _ ⟨by omega, by omega⟩ ⟨by omega, by omega⟩ ⟨by omega, by omega⟩ ⟨by omega, by omega⟩).mono ?_
  rintro _ w' ⟨rfl, k11, rfl⟩
  unfold three
  go_wp2_with fail
  refine (mul_any n d g1 g2 _ HL.out _ ⟨by omega, by omega⟩ ⟨by omega, by omega⟩ ⟨by omega, by omega⟩ ⟨by omega, by omega⟩).mono ?_
  rintro _ w' ⟨rfl, k12, rfl⟩
  unfold three
  go_wp2_with fail
  refine (add_any p1 p2 w1 w2 _ HM.out _ ⟨by omega, by omega⟩ ⟨by omega, by omega⟩ ⟨by omega, by omega⟩ ⟨by omega, by omega⟩).mono ?_
  rintro _ w' ⟨rfl, k13, rfl⟩
  unfold three
  go_wp2_with fail
  go_ret
  exact ⟨rfl, (((Grown.refl _).alloc _ _).drewN' _)⟩

end Go.Proofs.Ytfkeiokoghaciaa
