/- Sums, differences, products, quotients and the order, of num's reference: the same plain functions. -/
import Derived.Test.YtfkeiokoghaciaaFour
namespace Go.Proofs.Ytfkeiokoghaciaa
open Go.RowKit NumPlain

set_option maxHeartbeats 400000 in
theorem addRef_any (n d m e : Int) (t : Int × Int × Int) (ht : addF n d m e = t) (w : World) (hn : I64 n) (hd : I64 d) (hm : I64 m) (he : I64 e) :
    Calls Try.prog 14 #[.int .i64 n, .int .i64 d, .int .i64 m, .int .i64 e] w fun e w' => e = .returned (three t) ∧ w = w' := by
  unfold addF at ht
  obtain ⟨hn0, hn1⟩ := hn
  obtain ⟨hd0, hd1⟩ := hd
  obtain ⟨hm0, hm1⟩ := hm
  obtain ⟨he0, he1⟩ := he
  cases h1 : rightB n d
  · rw [h1] at ht; simp only [Bool.false_and, Bool.false_eq_true, if_false] at ht; subst ht
    have H1 := Lib.hid h1; clear h1
    go_enter Try.func14, Try.ntmps14
    go_wp2_with fail
    refine (rightRef_any n d false H1.out _ hn0 hn1 hd0 hd1).mono ?_
    rintro _ w' ⟨rfl, rfl⟩
    go_wp2_with fail
    go_ret3
    exact ⟨rfl, rfl⟩
  cases h2 : rightB m e
  · rw [h1, h2] at ht; simp only [Bool.true_and, Bool.false_eq_true, if_false] at ht; subst ht
    have H1 := Lib.hid h1; clear h1
    have H2 := Lib.hid h2; clear h2
    go_enter Try.func14, Try.ntmps14
    go_wp2_with fail
    refine (rightRef_any n d true H1.out _ hn0 hn1 hd0 hd1).mono ?_
    rintro _ w' ⟨rfl, rfl⟩
    go_wp2_with fail
    refine (rightRef_any m e false H2.out _ hm0 hm1 he0 he1).mono ?_
    rintro _ w' ⟨rfl, rfl⟩
    go_wp2_with fail
    go_ret3
    exact ⟨rfl, rfl⟩
  rw [h1, h2] at ht; simp only [Bool.true_and, if_true] at ht
  obtain ⟨d0, d1, n0, n1⟩ := right_bounds h1
  obtain ⟨e0, e1, m0, m1⟩ := right_bounds h2
  obtain ⟨a0, a1⟩ := mul_bound n0 n1 (show -2147483647 ≤ e by omega) e1
  obtain ⟨b0, b1⟩ := mul_bound m0 m1 (show -2147483647 ≤ d by omega) d1
  obtain ⟨c0, c1⟩ := mul_bound (show -2147483647 ≤ d by omega) d1 (show -2147483647 ≤ e by omega) e1
  have HT := Lib.hid ht; clear ht
  have H1 := Lib.hid h1; clear h1
  have H2 := Lib.hid h2; clear h2
  go_enter Try.func14, Try.ntmps14
  go_wp2_with fail
  refine (rightRef_any n d true H1.out _ hn0 hn1 hd0 hd1).mono ?_
  rintro _ w' ⟨rfl, rfl⟩
  go_wp2_with fail
  refine (rightRef_any m e true H2.out _ hm0 hm1 he0 he1).mono ?_
  rintro _ w' ⟨rfl, rfl⟩
  go_wp2_with fail
  refine (makeRef_any (n * e + m * d) (d * e) t HT.out _ (by omega) (by omega) (by omega) (by omega)).mono ?_
  rintro _ w' ⟨rfl, rfl⟩
  unfold three
  go_wp2_with fail
  go_ret3
  exact ⟨rfl, rfl⟩

theorem right_neg (n d : Int) : rightB (-n) d = rightB n d := by
  unfold rightB
  rw [Int.natAbs_neg, Bool.eq_iff_iff]
  simp only [Bool.and_eq_true, decide_eq_true_eq]
  constructor <;> rintro ⟨⟨⟨⟨h1, h2⟩, h3⟩, h4⟩, h5⟩ <;> exact ⟨⟨⟨⟨h1, h2⟩, by omega⟩, by omega⟩, h5⟩
theorem sub_is_add (n d m e : Int) : subF n d m e = addF n d (-m) e := by
  unfold subF addF
  rw [right_neg, Int.neg_mul, ← Int.sub_eq_add_neg]

set_option maxHeartbeats 400000 in
theorem subRef_any (n d m e : Int) (t : Int × Int × Int) (ht : subF n d m e = t) (w : World) (hn : I64 n) (hd : I64 d) (hm : I64 m) (he : I64 e) :
    Calls Try.prog 16 #[.int .i64 n, .int .i64 d, .int .i64 m, .int .i64 e] w fun e w' => e = .returned (three t) ∧ w = w' := by
  obtain ⟨hn0, hn1⟩ := hn
  obtain ⟨hd0, hd1⟩ := hd
  obtain ⟨hm0, hm1⟩ := hm
  obtain ⟨he0, he1⟩ := he
  cases h1 : rightB n d
  · unfold subF at ht
    rw [h1] at ht; simp only [Bool.false_and, Bool.false_eq_true, if_false] at ht; subst ht
    have H1 := Lib.hid h1; clear h1
    go_enter Try.func16, Try.ntmps16
    go_wp2_with fail
    refine (rightRef_any n d false H1.out _ hn0 hn1 hd0 hd1).mono ?_
    rintro _ w' ⟨rfl, rfl⟩
    go_wp2_with fail
    go_ret3
    exact ⟨rfl, rfl⟩
  cases h2 : rightB m e
  · unfold subF at ht
    rw [h1, h2] at ht; simp only [Bool.true_and, Bool.false_eq_true, if_false] at ht; subst ht
    have H1 := Lib.hid h1; clear h1
    have H2 := Lib.hid h2; clear h2
    go_enter Try.func16, Try.ntmps16
    go_wp2_with fail
    refine (rightRef_any n d true H1.out _ hn0 hn1 hd0 hd1).mono ?_
    rintro _ w' ⟨rfl, rfl⟩
    go_wp2_with fail
    refine (rightRef_any m e false H2.out _ hm0 hm1 he0 he1).mono ?_
    rintro _ w' ⟨rfl, rfl⟩
    go_wp2_with fail
    go_ret3
    exact ⟨rfl, rfl⟩
  rw [sub_is_add] at ht
  obtain ⟨d0, d1, n0, n1⟩ := right_bounds h1
  obtain ⟨e0, e1, m0, m1⟩ := right_bounds h2
  have HT := Lib.hid ht; clear ht
  have H1 := Lib.hid h1; clear h1
  have H2 := Lib.hid h2; clear h2
  go_enter Try.func16, Try.ntmps16
  go_wp2_with fail
  refine (rightRef_any n d true H1.out _ hn0 hn1 hd0 hd1).mono ?_
  rintro _ w' ⟨rfl, rfl⟩
  go_wp2_with fail
  refine (rightRef_any m e true H2.out _ hm0 hm1 he0 he1).mono ?_
  rintro _ w' ⟨rfl, rfl⟩
  go_wp2_with fail
  refine (addRef_any n d (-m) e t HT.out _ ⟨hn0, hn1⟩ ⟨hd0, hd1⟩ ⟨by omega, by omega⟩ ⟨he0, he1⟩).mono ?_
  rintro _ w' ⟨rfl, rfl⟩
  unfold three
  go_wp2_with fail
  go_ret3
  exact ⟨rfl, rfl⟩

set_option maxHeartbeats 400000 in
theorem lessRef_any (n d m e : Int) (r : Bool) (hr : lessF n d m e = r) (w : World) (hn : I64 n) (hd : I64 d) (hm : I64 m) (he : I64 e) :
    Calls Try.prog 22 #[.int .i64 n, .int .i64 d, .int .i64 m, .int .i64 e] w fun e w' => e = .returned (.bool r) ∧ w = w' := by
  obtain ⟨hn0, hn1⟩ := hn
  obtain ⟨hd0, hd1⟩ := hd
  obtain ⟨hm0, hm1⟩ := hm
  obtain ⟨he0, he1⟩ := he
  have HR := Lib.hid hr; clear hr
  cases h1 : rightB n d
  · have H1 := Lib.hid h1; clear h1
    go_enter Try.func22, Try.ntmps22
    go_wp2_with fail
    refine (rightRef_any n d false H1.out _ hn0 hn1 hd0 hd1).mono ?_
    rintro _ w' ⟨rfl, rfl⟩
    go_wp2_with fail
    go_ret
    exact ⟨ret_bool (by rw [← HR.out]; unfold lessF; rw [H1.out]; rfl), rfl⟩
  cases h2 : rightB m e
  · have H1 := Lib.hid h1; clear h1
    have H2 := Lib.hid h2; clear h2
    go_enter Try.func22, Try.ntmps22
    go_wp2_with fail
    refine (rightRef_any n d true H1.out _ hn0 hn1 hd0 hd1).mono ?_
    rintro _ w' ⟨rfl, rfl⟩
    go_wp2_with fail
    refine (rightRef_any m e false H2.out _ hm0 hm1 he0 he1).mono ?_
    rintro _ w' ⟨rfl, rfl⟩
    go_wp2_with fail
    go_ret
    exact ⟨ret_bool (by rw [← HR.out]; unfold lessF; rw [H1.out, H2.out]; rfl), rfl⟩
  obtain ⟨d0, d1, n0, n1⟩ := right_bounds h1
  obtain ⟨e0, e1, m0, m1⟩ := right_bounds h2
  obtain ⟨a0, a1⟩ := mul_bound n0 n1 (show -2147483647 ≤ e by omega) e1
  obtain ⟨b0, b1⟩ := mul_bound m0 m1 (show -2147483647 ≤ d by omega) d1
  have H1 := Lib.hid h1; clear h1
  have H2 := Lib.hid h2; clear h2
  go_enter Try.func22, Try.ntmps22
  go_wp2_with fail
  refine (rightRef_any n d true H1.out _ hn0 hn1 hd0 hd1).mono ?_
  rintro _ w' ⟨rfl, rfl⟩
  go_wp2_with fail
  refine (rightRef_any m e true H2.out _ hm0 hm1 he0 he1).mono ?_
  rintro _ w' ⟨rfl, rfl⟩
  go_wp2_with fail
  go_ret
  exact ⟨ret_bool (by rw [← HR.out]; unfold lessF; rw [H1.out, H2.out]; rfl), rfl⟩

/-! ### The product, crossed out ahead -/
theorem makeRef_same (n d : Int) (t : Int × Int × Int) (ht : mk n d = t) (w : World) (n0 : -9223372036854775808 ≤ n) (n1 : n ≤ 9223372036854775807) (d0 : -9223372036854775808 ≤ d) (d1 : d ≤ 9223372036854775807) :
    Calls Try.prog 10 #[.int .i64 n, .int .i64 d] w fun e w' => e = .returned (.tuple #[.int .i64 t.1, .int .i64 t.2.1, .int .i64 t.2.2]) ∧ w' = w :=
  (makeRef_any n d t ht w n0 n1 d0 d1).mono fun _ _ ⟨h, g⟩ => ⟨h, g.symm⟩
theorem makeRef_within {P Q : Int} {t : Int × Int × Int} (ht : mk P Q = t) (p0 : -4611686014132420609 ≤ P) (p1 : P ≤ 4611686014132420609) (q0 : -4611686014132420609 ≤ Q) (q1 : Q ≤ 4611686014132420609) :
    ∀ w, Calls Try.prog 10 #[.int .i64 P, .int .i64 Q] w fun e w' => e = .returned (.tuple #[.int .i64 t.1, .int .i64 t.2.1, .int .i64 t.2.2]) ∧ w' = w :=
  fun w => makeRef_same P Q t ht w (by omega) (by omega) (by omega) (by omega)
theorem tdiv_bound {n : Int} {g : Nat} (n0 : -2147483647 ≤ n) (n1 : n ≤ 2147483647) : -2147483647 ≤ n.tdiv g ∧ n.tdiv g ≤ 2147483647 := by
  have h := Int.natAbs_tdiv_le_natAbs n g
  omega
theorem ediv_bound {n : Int} {g : Nat} (n0 : 0 ≤ n) (n1 : n ≤ 2147483647) : 0 ≤ n / (g : Int) ∧ n / (g : Int) ≤ 2147483647 := by
  have h := Int.ediv_le_self (g : Int) n0
  have h2 : 0 ≤ n / (g : Int) := Int.ediv_nonneg n0 (by omega)
  omega
theorem mul_cross (n d m e : Int) (he : e ≠ 0) (hd : d ≠ 0) :
    mk (n.tdiv (Nat.gcd n.natAbs e.natAbs : Nat) * m.tdiv (Nat.gcd m.natAbs d.natAbs : Nat)) (d / (Nat.gcd m.natAbs d.natAbs : Nat) * (e / (Nat.gcd n.natAbs e.natAbs : Nat))) = mk (n * m) (d * e) := by
  have hg : 0 < Nat.gcd n.natAbs e.natAbs := Nat.gcd_pos_of_pos_right _ (by omega)
  have hh : 0 < Nat.gcd m.natAbs d.natAbs := Nat.gcd_pos_of_pos_right _ (by omega)
  obtain ⟨a, ha⟩ : ((Nat.gcd n.natAbs e.natAbs : Nat) : Int) ∣ n := Int.ofNat_dvd_left.2 (Nat.gcd_dvd_left _ _)
  obtain ⟨b, hb⟩ : ((Nat.gcd n.natAbs e.natAbs : Nat) : Int) ∣ e := Int.ofNat_dvd_left.2 (Nat.gcd_dvd_right _ _)
  obtain ⟨x, hx⟩ : ((Nat.gcd m.natAbs d.natAbs : Nat) : Int) ∣ m := Int.ofNat_dvd_left.2 (Nat.gcd_dvd_left _ _)
  obtain ⟨y, hy⟩ : ((Nat.gcd m.natAbs d.natAbs : Nat) : Int) ∣ d := Int.ofNat_dvd_left.2 (Nat.gcd_dvd_right _ _)
  generalize hG : ((Nat.gcd n.natAbs e.natAbs : Nat) : Int) = g at *
  generalize hH : ((Nat.gcd m.natAbs d.natAbs : Nat) : Int) = h at *
  have g0 : g ≠ 0 := by omega
  have h0 : h ≠ 0 := by omega
  have e1 : n.tdiv g = a := by rw [ha]; exact Int.mul_tdiv_cancel_left _ g0
  have e2 : m.tdiv h = x := by rw [hx]; exact Int.mul_tdiv_cancel_left _ h0
  have e3 : d / h = y := by rw [hy]; exact Int.mul_ediv_cancel_left _ h0
  have e4 : e / g = b := by rw [hb]; exact Int.mul_ediv_cancel_left _ g0
  rw [e1, e2, e3, e4]
  have k0 : g * h ≠ 0 := Int.mul_ne_zero g0 h0
  rw [← mk_scale (a := a * x) (b := y * b) k0]
  have q1 : g * h * (a * x) = n * m := by rw [ha, hx]; grind
  have q2 : g * h * (y * b) = d * e := by rw [hb, hy]; grind
  rw [q1, q2]

set_option maxHeartbeats 400000 in
theorem mulRef_yes (n d m e : Int) (t : Int × Int × Int) (h1 : rightB n d = true) (h2 : rightB m e = true) (ht : mk (n * m) (d * e) = t) (w : World) :
    Calls Try.prog 18 #[.int .i64 n, .int .i64 d, .int .i64 m, .int .i64 e] w fun e w' => e = .returned (three t) ∧ ∃ k, w' = w.drewN k := by
  obtain ⟨d0, d1, n0, n1⟩ := right_bounds h1
  obtain ⟨e0, e1, m0, m1⟩ := right_bounds h2
  have hx := mul_cross n d m e (by omega) (by omega)
  rw [ht] at hx
  have HX := Lib.hid hx; clear hx ht
  have H1 := Lib.hid h1; clear h1
  have H2 := Lib.hid h2; clear h2
  obtain ⟨D, rfl⟩ : ∃ D : Nat, d = (D : Int) := ⟨d.natAbs, by omega⟩
  obtain ⟨E, rfl⟩ : ∃ E : Nat, e = (E : Int) := ⟨e.natAbs, by omega⟩
  rw [Int.natAbs_natCast, Int.natAbs_natCast] at HX
  have hg : 0 < Nat.gcd n.natAbs E := Nat.gcd_pos_of_pos_right _ (by omega)
  have hg1 : Nat.gcd n.natAbs E ≤ E := Nat.gcd_le_right _ (by omega)
  have hh : 0 < Nat.gcd m.natAbs D := Nat.gcd_pos_of_pos_right _ (by omega)
  have hh1 : Nat.gcd m.natAbs D ≤ D := Nat.gcd_le_right _ (by omega)
  go_enter Try.func18, Try.ntmps18
  go_wp2_with fail
  refine (rightRef_any n D true H1.out _ (by omega) (by omega) (by omega) (by omega)).mono ?_
  rintro _ w' ⟨rfl, rfl⟩
  go_wp2_with fail
  refine (rightRef_any m E true H2.out _ (by omega) (by omega) (by omega) (by omega)).mono ?_
  rintro _ w' ⟨rfl, rfl⟩
  go_wp2_with fail
  refine (sizeRef_any n (by omega) (by omega) _).mono ?_
  rintro _ w' ⟨rfl, rfl⟩
  go_wp2_with fail
  refine (gcdRef_nat n.natAbs E (by omega) (by omega) _).mono ?_
  rintro _ w' ⟨rfl, rfl⟩
  go_wp2_with fail
  refine (sizeRef_any m (by omega) (by omega) _).mono ?_
  rintro _ w' ⟨rfl, rfl⟩
  go_wp2_with fail
  refine (gcdRef_nat m.natAbs D (by omega) (by omega) _).mono ?_
  rintro _ w' ⟨rfl, rfl⟩
  obtain ⟨ba0, ba1⟩ := tdiv_bound (g := Nat.gcd n.natAbs E) n0 n1
  obtain ⟨bx0, bx1⟩ := tdiv_bound (g := Nat.gcd m.natAbs D) m0 m1
  obtain ⟨by0, by1⟩ := ediv_bound (g := Nat.gcd m.natAbs D) (show (0 : Int) ≤ D by omega) d1
  obtain ⟨bb0, bb1⟩ := ediv_bound (g := Nat.gcd n.natAbs E) (show (0 : Int) ≤ E by omega) e1
  obtain ⟨p0, p1⟩ := mul_bound ba0 ba1 bx0 bx1
  obtain ⟨q0, q1⟩ := mul_bound (show -2147483647 ≤ (D : Int) / (Nat.gcd m.natAbs D : Nat) by omega) by1 (show -2147483647 ≤ (E : Int) / (Nat.gcd n.natAbs E : Nat) by omega) bb1
  have r1 : wrap64 (n.tdiv (Nat.gcd n.natAbs E : Nat) * m.tdiv (Nat.gcd m.natAbs D : Nat)) = n.tdiv (Nat.gcd n.natAbs E : Nat) * m.tdiv (Nat.gcd m.natAbs D : Nat) := IntWalk.wrap64_in _ ⟨by omega, by omega⟩
  have r2 : wrap64 ((D : Int) / (Nat.gcd m.natAbs D : Nat) * ((E : Int) / (Nat.gcd n.natAbs E : Nat))) = (D : Int) / (Nat.gcd m.natAbs D : Nat) * ((E : Int) / (Nat.gcd n.natAbs E : Nat)) :=
    IntWalk.wrap64_in _ ⟨by omega, by omega⟩
  obtain ⟨P, hP⟩ : ∃ P, n.tdiv (Nat.gcd n.natAbs E : Nat) * m.tdiv (Nat.gcd m.natAbs D : Nat) = P := ⟨_, rfl⟩
  obtain ⟨Q, hQ⟩ : ∃ Q, (D : Int) / (Nat.gcd m.natAbs D : Nat) * ((E : Int) / (Nat.gcd n.natAbs E : Nat)) = Q := ⟨_, rfl⟩
  have hx := HX.out
  rw [hP, hQ] at hx
  rw [hP] at p0 p1
  rw [hQ] at q0 q1
  replace r1 : wrap64 (n.tdiv (Nat.gcd n.natAbs E : Nat) * m.tdiv (Nat.gcd m.natAbs D : Nat)) = P := r1.trans hP
  replace r2 : wrap64 ((D : Int) / (Nat.gcd m.natAbs D : Nat) * ((E : Int) / (Nat.gcd n.natAbs E : Nat))) = Q := r2.trans hQ
  have c := makeRef_within hx p0 p1 q0 q1
  have C := Lib.hid c; clear c hx HX hP hQ
  go_wp2_with fail
  go_quiet ((go_at_call 10; exact Calls.quiet_of_same (C.out _)))
  go_wp2_with fail
  go_ret3
  exact ⟨rfl, _, rfl⟩

set_option maxHeartbeats 400000 in
theorem mulRef_any (n d m e : Int) (t : Int × Int × Int) (ht : mulF n d m e = t) (w : World) (hn : I64 n) (hd : I64 d) (hm : I64 m) (he : I64 e) :
    Calls Try.prog 18 #[.int .i64 n, .int .i64 d, .int .i64 m, .int .i64 e] w fun e w' => e = .returned (three t) ∧ ∃ k, w' = w.drewN k := by
  unfold mulF at ht
  cases h1 : rightB n d
  · obtain ⟨hn0, hn1⟩ := hn
    obtain ⟨hd0, hd1⟩ := hd
    rw [h1] at ht; simp only [Bool.false_and, Bool.false_eq_true, if_false] at ht; subst ht
    have H1 := Lib.hid h1; clear h1
    go_enter Try.func18, Try.ntmps18
    go_wp2_with fail
    refine (rightRef_any n d false H1.out _ hn0 hn1 hd0 hd1).mono ?_
    rintro _ w' ⟨rfl, rfl⟩
    go_wp2_with fail
    go_ret3
    exact ⟨rfl, 0, rfl⟩
  cases h2 : rightB m e
  · obtain ⟨hn0, hn1⟩ := hn
    obtain ⟨hd0, hd1⟩ := hd
    obtain ⟨hm0, hm1⟩ := hm
    obtain ⟨he0, he1⟩ := he
    rw [h1, h2] at ht; simp only [Bool.true_and, Bool.false_eq_true, if_false] at ht; subst ht
    have H1 := Lib.hid h1; clear h1
    have H2 := Lib.hid h2; clear h2
    go_enter Try.func18, Try.ntmps18
    go_wp2_with fail
    refine (rightRef_any n d true H1.out _ hn0 hn1 hd0 hd1).mono ?_
    rintro _ w' ⟨rfl, rfl⟩
    go_wp2_with fail
    refine (rightRef_any m e false H2.out _ hm0 hm1 he0 he1).mono ?_
    rintro _ w' ⟨rfl, rfl⟩
    go_wp2_with fail
    go_ret3
    exact ⟨rfl, 0, rfl⟩
  rw [h1, h2] at ht; simp only [Bool.true_and, if_true] at ht
  exact mulRef_yes n d m e t h1 h2 ht w

theorem right_turn {m e : Int} (h : rightB m e = true) (hm : 0 < m) : rightB e m = true := by
  obtain ⟨d0, d1, n0, n1⟩ := right_bounds h
  have hc : Nat.gcd m.natAbs e.natAbs = 1 := by
    unfold rightB at h; simp only [Bool.and_eq_true, decide_eq_true_eq] at h; exact h.2
  rw [right_in (by omega) (by omega) (by omega) (by omega), decide_eq_true_eq, Nat.gcd_comm]; exact hc
theorem right_turn_neg {m e : Int} (h : rightB m e = true) (hm : m < 0) : rightB (-e) (-m) = true := by
  rw [right_neg]; exact right_turn (by rw [right_neg]; exact h) (by omega)
theorem div_pos {n d m e : Int} (h2 : rightB m e = true) (hm : 0 < m) : divF n d m e = mulF n d e m := by
  unfold divF mulF; rw [h2, right_turn h2 hm]
theorem div_neg {n d m e : Int} (h2 : rightB m e = true) (hm : m < 0) : divF n d m e = mulF n d (-e) (-m) := by
  unfold divF mulF; rw [h2, right_turn_neg h2 hm]
  have q1 : n * -e = -1 * (n * e) := by grind
  have q2 : d * -m = -1 * (d * m) := by grind
  rw [q1, q2, mk_scale (by omega)]
theorem div_zero {n d e : Int} (h1 : rightB n d = true) (h2 : rightB 0 e = true) : divF n d 0 e = (0, 0, 4) := by
  unfold divF; rw [h1, h2]; unfold mk; simp

set_option maxHeartbeats 400000 in
theorem divRef_any (n d m e : Int) (t : Int × Int × Int) (ht : divF n d m e = t) (w : World) (hn : I64 n) (hd : I64 d) (hm : I64 m) (he : I64 e) :
    Calls Try.prog 20 #[.int .i64 n, .int .i64 d, .int .i64 m, .int .i64 e] w fun e w' => e = .returned (three t) ∧ ∃ k, w' = w.drewN k := by
  obtain ⟨hn0, hn1⟩ := hn
  obtain ⟨hd0, hd1⟩ := hd
  obtain ⟨hm0, hm1⟩ := hm
  obtain ⟨he0, he1⟩ := he
  cases h1 : rightB n d
  · unfold divF at ht
    rw [h1] at ht; simp only [Bool.false_and, Bool.false_eq_true, if_false] at ht; subst ht
    have H1 := Lib.hid h1; clear h1
    go_enter Try.func20, Try.ntmps20
    go_wp2_with fail
    refine (rightRef_any n d false H1.out _ hn0 hn1 hd0 hd1).mono ?_
    rintro _ w' ⟨rfl, rfl⟩
    go_wp2_with fail
    go_ret3
    exact ⟨rfl, 0, rfl⟩
  cases h2 : rightB m e
  · unfold divF at ht
    rw [h1, h2] at ht; simp only [Bool.true_and, Bool.false_eq_true, if_false] at ht; subst ht
    have H1 := Lib.hid h1; clear h1
    have H2 := Lib.hid h2; clear h2
    go_enter Try.func20, Try.ntmps20
    go_wp2_with fail
    refine (rightRef_any n d true H1.out _ hn0 hn1 hd0 hd1).mono ?_
    rintro _ w' ⟨rfl, rfl⟩
    go_wp2_with fail
    refine (rightRef_any m e false H2.out _ hm0 hm1 he0 he1).mono ?_
    rintro _ w' ⟨rfl, rfl⟩
    go_wp2_with fail
    go_ret3
    exact ⟨rfl, 0, rfl⟩
  obtain ⟨d0, d1, n0, n1⟩ := right_bounds h1
  obtain ⟨e0, e1, m0, m1⟩ := right_bounds h2
  by_cases hz : m = 0
  · subst hz
    rw [div_zero h1 h2] at ht; subst ht
    have H1 := Lib.hid h1; clear h1
    have H2 := Lib.hid h2; clear h2
    go_enter Try.func20, Try.ntmps20
    go_wp2_with fail
    refine (rightRef_any n d true H1.out _ hn0 hn1 hd0 hd1).mono ?_
    rintro _ w' ⟨rfl, rfl⟩
    go_wp2_with fail
    refine (rightRef_any 0 e true H2.out _ hm0 hm1 he0 he1).mono ?_
    rintro _ w' ⟨rfl, rfl⟩
    go_wp2_with fail
    go_ret3
    exact ⟨rfl, 0, rfl⟩
  have hz' : (m == 0) = false := by rw [beq_eq_false_iff_ne]; exact hz
  by_cases hs : m < 0
  · rw [div_neg h2 hs] at ht
    have HT := Lib.hid ht; clear ht
    have H1 := Lib.hid h1; clear h1
    have H2 := Lib.hid h2; clear h2
    go_enter Try.func20, Try.ntmps20
    go_wp2_with fail
    refine (rightRef_any n d true H1.out _ hn0 hn1 hd0 hd1).mono ?_
    rintro _ w' ⟨rfl, rfl⟩
    go_wp2_with fail
    refine (rightRef_any m e true H2.out _ hm0 hm1 he0 he1).mono ?_
    rintro _ w' ⟨rfl, rfl⟩
    go_wp2_with fail
    refine (mulRef_any n d (-e) (-m) t HT.out _ ⟨hn0, hn1⟩ ⟨hd0, hd1⟩ ⟨by omega, by omega⟩ ⟨by omega, by omega⟩).mono ?_
    rintro _ w' ⟨rfl, k, rfl⟩
    unfold three
    go_wp2_with fail
    go_ret3
    exact ⟨rfl, _, rfl⟩
  · rw [div_pos h2 (by omega)] at ht
    have HT := Lib.hid ht; clear ht
    have H1 := Lib.hid h1; clear h1
    have H2 := Lib.hid h2; clear h2
    go_enter Try.func20, Try.ntmps20
    go_wp2_with fail
    refine (rightRef_any n d true H1.out _ hn0 hn1 hd0 hd1).mono ?_
    rintro _ w' ⟨rfl, rfl⟩
    go_wp2_with fail
    refine (rightRef_any m e true H2.out _ hm0 hm1 he0 he1).mono ?_
    rintro _ w' ⟨rfl, rfl⟩
    go_wp2_with fail
    refine (mulRef_any n d e m t HT.out _ ⟨hn0, hn1⟩ ⟨hd0, hd1⟩ ⟨by omega, by omega⟩ ⟨by omega, by omega⟩).mono ?_
    rintro _ w' ⟨rfl, k, rfl⟩
    unfold three
    go_wp2_with fail
    go_ret3
    exact ⟨rfl, _, rfl⟩
end Go.Proofs.Ytfkeiokoghaciaa
