/- The reference's Eq is eq? of data that are right; its sums, the four put together. -/
import Derived.Test.YtdeelpagoffdjaaFour
import Derived.Test.YtdeelpagoffdjaaPrLM
import Derived.Test.YtdeelpagoffdjaaDatB
import Derived.Test.YtdeelpagoffdjaaPrBM
import Derived.Deep.Cut
import Derived.Test.YtdeelpagoffdjaaPrSs
import Derived.Deep.RegionHeld3
import Derived.Test.YtdeelpagoffdjaaPrQs
import Derived.Test.YtdeelpagoffdjaaDatW0M

/- Sums, differences, products, quotients and the order, of num's reference: the same plain functions. -/
namespace Go.Proofs.Ytdeelpagoffdjaa
open Go.RowKit NumPlain

set_option maxHeartbeats 400000 in
theorem addRef_any (n d m e : Int) (t : Int × Int × Int) (ht : addF n d m e = t) (w : World) (hn : I64 n) (hd : I64 d) (hm : I64 m) (he : I64 e) :
    Calls Try.prog 82 #[.int .i64 n, .int .i64 d, .int .i64 m, .int .i64 e] w fun e w' => e = .returned (three t) ∧ w = w' := by
  unfold addF at ht
  obtain ⟨hn0, hn1⟩ := hn
  obtain ⟨hd0, hd1⟩ := hd
  obtain ⟨hm0, hm1⟩ := hm
  obtain ⟨he0, he1⟩ := he
  cases h1 : rightB n d
  · rw [h1] at ht; simp only [Bool.false_and, Bool.false_eq_true, if_false] at ht; subst ht
    have H1 := Lib.hid h1; clear h1
    go_enter Try.func82, Try.ntmps82
    go_wp2_with fail
    refine (rightRef_any n d false H1.out _ hn0 hn1 hd0 hd1).mono ?_
    rintro _ w' ⟨rfl, rfl⟩
    go_wp2_with fail
    go_ret3
    exact ⟨rfl, rfl⟩
  cases h2 : rightB m e
  · rw [h1, h2] at ht; simp only [Bool.true_and, Bool.false_eq_true, if_false] at ht; subst ht
    have H1 := Lib.hid h1; clear h1
    have H2 := Lib.hid h2; clear h2
    go_enter Try.func82, Try.ntmps82
    go_wp2_with fail
    refine (rightRef_any n d true H1.out _ hn0 hn1 hd0 hd1).mono ?_
    rintro _ w' ⟨rfl, rfl⟩
    go_wp2_with fail
    refine (rightRef_any m e false H2.out _ hm0 hm1 he0 he1).mono ?_
    rintro _ w' ⟨rfl, rfl⟩
    go_wp2_with fail
    go_ret3
    exact ⟨rfl, rfl⟩
  rw [h1, h2] at ht; simp only [Bool.true_and, if_true] at ht
  obtain ⟨d0, d1, n0, n1⟩ := right_bounds h1
  obtain ⟨e0, e1, m0, m1⟩ := right_bounds h2
  obtain ⟨a0, a1⟩ := mul_bound n0 n1 (show -2147483647 ≤ e by omega) e1
  obtain ⟨b0, b1⟩ := mul_bound m0 m1 (show -2147483647 ≤ d by omega) d1
  obtain ⟨c0, c1⟩ := mul_bound (show -2147483647 ≤ d by omega) d1 (show -2147483647 ≤ e by omega) e1
  have HT := Lib.hid ht; clear ht
  have H1 := Lib.hid h1; clear h1
  have H2 := Lib.hid h2; clear h2
  go_enter Try.func82, Try.ntmps82
  go_wp2_with fail
  refine (rightRef_any n d true H1.out _ hn0 hn1 hd0 hd1).mono ?_
  rintro _ w' ⟨rfl, rfl⟩
  go_wp2_with fail
  refine (rightRef_any m e true H2.out _ hm0 hm1 he0 he1).mono ?_
  rintro _ w' ⟨rfl, rfl⟩
  go_wp2_with fail
  refine (makeRef_any (n * e + m * d) (d * e) t HT.out _ (by omega) (by omega) (by omega) (by omega)).mono ?_
  rintro _ w' ⟨rfl, rfl⟩
  unfold three
  go_wp2_with fail
  go_ret3
  exact ⟨rfl, rfl⟩

theorem right_neg (n d : Int) : rightB (-n) d = rightB n d := by
  unfold rightB
  rw [Int.natAbs_neg, Bool.eq_iff_iff]
  simp only [Bool.and_eq_true, decide_eq_true_eq]
  constructor <;> rintro ⟨⟨⟨⟨h1, h2⟩, h3⟩, h4⟩, h5⟩ <;> exact ⟨⟨⟨⟨h1, h2⟩, by omega⟩, by omega⟩, h5⟩
theorem sub_is_add (n d m e : Int) : subF n d m e = addF n d (-m) e := by
  unfold subF addF
  rw [right_neg, Int.neg_mul, ← Int.sub_eq_add_neg]

set_option maxHeartbeats 400000 in
theorem subRef_any (n d m e : Int) (t : Int × Int × Int) (ht : subF n d m e = t) (w : World) (hn : I64 n) (hd : I64 d) (hm : I64 m) (he : I64 e) :
    Calls Try.prog 83 #[.int .i64 n, .int .i64 d, .int .i64 m, .int .i64 e] w fun e w' => e = .returned (three t) ∧ w = w' := by
  obtain ⟨hn0, hn1⟩ := hn
  obtain ⟨hd0, hd1⟩ := hd
  obtain ⟨hm0, hm1⟩ := hm
  obtain ⟨he0, he1⟩ := he
  cases h1 : rightB n d
  · unfold subF at ht
    rw [h1] at ht; simp only [Bool.false_and, Bool.false_eq_true, if_false] at ht; subst ht
    have H1 := Lib.hid h1; clear h1
    go_enter Try.func83, Try.ntmps83
    go_wp2_with fail
    refine (rightRef_any n d false H1.out _ hn0 hn1 hd0 hd1).mono ?_
    rintro _ w' ⟨rfl, rfl⟩
    go_wp2_with fail
    go_ret3
    exact ⟨rfl, rfl⟩
  cases h2 : rightB m e
  · unfold subF at ht
    rw [h1, h2] at ht; simp only [Bool.true_and, Bool.false_eq_true, if_false] at ht; subst ht
    have H1 := Lib.hid h1; clear h1
    have H2 := Lib.hid h2; clear h2
    go_enter Try.func83, Try.ntmps83
    go_wp2_with fail
    refine (rightRef_any n d true H1.out _ hn0 hn1 hd0 hd1).mono ?_
    rintro _ w' ⟨rfl, rfl⟩
    go_wp2_with fail
    refine (rightRef_any m e false H2.out _ hm0 hm1 he0 he1).mono ?_
    rintro _ w' ⟨rfl, rfl⟩
    go_wp2_with fail
    go_ret3
    exact ⟨rfl, rfl⟩
  rw [sub_is_add] at ht
  obtain ⟨d0, d1, n0, n1⟩ := right_bounds h1
  obtain ⟨e0, e1, m0, m1⟩ := right_bounds h2
  have HT := Lib.hid ht; clear ht
  have H1 := Lib.hid h1; clear h1
  have H2 := Lib.hid h2; clear h2
  go_enter Try.func83, Try.ntmps83
  go_wp2_with fail
  refine (rightRef_any n d true H1.out _ hn0 hn1 hd0 hd1).mono ?_
  rintro _ w' ⟨rfl, rfl⟩
  go_wp2_with fail
  refine (rightRef_any m e true H2.out _ hm0 hm1 he0 he1).mono ?_
  rintro _ w' ⟨rfl, rfl⟩
  go_wp2_with fail
  refine (addRef_any n d (-m) e t HT.out _ ⟨hn0, hn1⟩ ⟨hd0, hd1⟩ ⟨by omega, by omega⟩ ⟨he0, he1⟩).mono ?_
  rintro _ w' ⟨rfl, rfl⟩
  unfold three
  go_wp2_with fail
  go_ret3
  exact ⟨rfl, rfl⟩

set_option maxHeartbeats 400000 in
theorem lessRef_any (n d m e : Int) (r : Bool) (hr : lessF n d m e = r) (w : World) (hn : I64 n) (hd : I64 d) (hm : I64 m) (he : I64 e) :
    Calls Try.prog 64 #[.int .i64 n, .int .i64 d, .int .i64 m, .int .i64 e] w fun e w' => e = .returned (.bool r) ∧ w = w' := by
  obtain ⟨hn0, hn1⟩ := hn
  obtain ⟨hd0, hd1⟩ := hd
  obtain ⟨hm0, hm1⟩ := hm
  obtain ⟨he0, he1⟩ := he
  have HR := Lib.hid hr; clear hr
  cases h1 : rightB n d
  · have H1 := Lib.hid h1; clear h1
    go_enter Try.func64, Try.ntmps64
    go_wp2_with fail
    refine (rightRef_any n d false H1.out _ hn0 hn1 hd0 hd1).mono ?_
    rintro _ w' ⟨rfl, rfl⟩
    go_wp2_with fail
    go_ret
    exact ⟨ret_bool (by rw [← HR.out]; unfold lessF; rw [H1.out]; rfl), rfl⟩
  cases h2 : rightB m e
  · have H1 := Lib.hid h1; clear h1
    have H2 := Lib.hid h2; clear h2
    go_enter Try.func64, Try.ntmps64
    go_wp2_with fail
    refine (rightRef_any n d true H1.out _ hn0 hn1 hd0 hd1).mono ?_
    rintro _ w' ⟨rfl, rfl⟩
    go_wp2_with fail
    refine (rightRef_any m e false H2.out _ hm0 hm1 he0 he1).mono ?_
    rintro _ w' ⟨rfl, rfl⟩
    go_wp2_with fail
    go_ret
    exact ⟨ret_bool (by rw [← HR.out]; unfold lessF; rw [H1.out, H2.out]; rfl), rfl⟩
  obtain ⟨d0, d1, n0, n1⟩ := right_bounds h1
  obtain ⟨e0, e1, m0, m1⟩ := right_bounds h2
  obtain ⟨a0, a1⟩ := mul_bound n0 n1 (show -2147483647 ≤ e by omega) e1
  obtain ⟨b0, b1⟩ := mul_bound m0 m1 (show -2147483647 ≤ d by omega) d1
  have H1 := Lib.hid h1; clear h1
  have H2 := Lib.hid h2; clear h2
  go_enter Try.func64, Try.ntmps64
  go_wp2_with fail
  refine (rightRef_any n d true H1.out _ hn0 hn1 hd0 hd1).mono ?_
  rintro _ w' ⟨rfl, rfl⟩
  go_wp2_with fail
  refine (rightRef_any m e true H2.out _ hm0 hm1 he0 he1).mono ?_
  rintro _ w' ⟨rfl, rfl⟩
  go_wp2_with fail
  go_ret
  exact ⟨ret_bool (by rw [← HR.out]; unfold lessF; rw [H1.out, H2.out]; rfl), rfl⟩

/-! ### The product, crossed out ahead -/
theorem makeRef_same (n d : Int) (t : Int × Int × Int) (ht : mk n d = t) (w : World) (n0 : -9223372036854775808 ≤ n) (n1 : n ≤ 9223372036854775807) (d0 : -9223372036854775808 ≤ d) (d1 : d ≤ 9223372036854775807) :
    Calls Try.prog 91 #[.int .i64 n, .int .i64 d] w fun e w' => e = .returned (.tuple #[.int .i64 t.1, .int .i64 t.2.1, .int .i64 t.2.2]) ∧ w' = w :=
  (makeRef_any n d t ht w n0 n1 d0 d1).mono fun _ _ ⟨h, g⟩ => ⟨h, g.symm⟩
theorem makeRef_within {P Q : Int} {t : Int × Int × Int} (ht : mk P Q = t) (p0 : -4611686014132420609 ≤ P) (p1 : P ≤ 4611686014132420609) (q0 : -4611686014132420609 ≤ Q) (q1 : Q ≤ 4611686014132420609) :
    ∀ w, Calls Try.prog 91 #[.int .i64 P, .int .i64 Q] w fun e w' => e = .returned (.tuple #[.int .i64 t.1, .int .i64 t.2.1, .int .i64 t.2.2]) ∧ w' = w :=
  fun w => makeRef_same P Q t ht w (by omega) (by omega) (by omega) (by omega)
theorem tdiv_bound {n : Int} {g : Nat} (n0 : -2147483647 ≤ n) (n1 : n ≤ 2147483647) : -2147483647 ≤ n.tdiv g ∧ n.tdiv g ≤ 2147483647 := by
  have h := Int.natAbs_tdiv_le_natAbs n g
  omega
theorem ediv_bound {n : Int} {g : Nat} (n0 : 0 ≤ n) (n1 : n ≤ 2147483647) : 0 ≤ n / (g : Int) ∧ n / (g : Int) ≤ 2147483647 := by
  have h := Int.ediv_le_self (g : Int) n0
  have h2 : 0 ≤ n / (g : Int) := Int.ediv_nonneg n0 (by omega)
  omega
theorem mul_cross (n d m e : Int) (he : e ≠ 0) (hd : d ≠ 0) :
    mk (n.tdiv (Nat.gcd n.natAbs e.natAbs : Nat) * m.tdiv (Nat.gcd m.natAbs d.natAbs : Nat)) (d / (Nat.gcd m.natAbs d.natAbs : Nat) * (e / (Nat.gcd n.natAbs e.natAbs : Nat))) = mk (n * m) (d * e) := by
  have hg : 0 < Nat.gcd n.natAbs e.natAbs := Nat.gcd_pos_of_pos_right _ (by omega)
  have hh : 0 < Nat.gcd m.natAbs d.natAbs := Nat.gcd_pos_of_pos_right _ (by omega)
  obtain ⟨a, ha⟩ : ((Nat.gcd n.natAbs e.natAbs : Nat) : Int) ∣ n := Int.ofNat_dvd_left.2 (Nat.gcd_dvd_left _ _)
  obtain ⟨b, hb⟩ : ((Nat.gcd n.natAbs e.natAbs : Nat) : Int) ∣ e := Int.ofNat_dvd_left.2 (Nat.gcd_dvd_right _ _)
  obtain ⟨x, hx⟩ : ((Nat.gcd m.natAbs d.natAbs : Nat) : Int) ∣ m := Int.ofNat_dvd_left.2 (Nat.gcd_dvd_left _ _)
  obtain ⟨y, hy⟩ : ((Nat.gcd m.natAbs d.natAbs : Nat) : Int) ∣ d := Int.ofNat_dvd_left.2 (Nat.gcd_dvd_right _ _)
  generalize hG : ((Nat.gcd n.natAbs e.natAbs : Nat) : Int) = g at *
  generalize hH : ((Nat.gcd m.natAbs d.natAbs : Nat) : Int) = h at *
  have g0 : g ≠ 0 := by omega
  have h0 : h ≠ 0 := by omega
  have e1 : n.tdiv g = a := by rw [ha]; exact Int.mul_tdiv_cancel_left _ g0
  have e2 : m.tdiv h = x := by rw [hx]; exact Int.mul_tdiv_cancel_left _ h0
  have e3 : d / h = y := by rw [hy]; exact Int.mul_ediv_cancel_left _ h0
  have e4 : e / g = b := by rw [hb]; exact Int.mul_ediv_cancel_left _ g0
  rw [e1, e2, e3, e4]
  have k0 : g * h ≠ 0 := Int.mul_ne_zero g0 h0
  rw [← mk_scale (a := a * x) (b := y * b) k0]
  have q1 : g * h * (a * x) = n * m := by rw [ha, hx]; grind
  have q2 : g * h * (y * b) = d * e := by rw [hb, hy]; grind
  rw [q1, q2]

set_option maxHeartbeats 400000 in
theorem mulRef_yes (n d m e : Int) (t : Int × Int × Int) (h1 : rightB n d = true) (h2 : rightB m e = true) (ht : mk (n * m) (d * e) = t) (w : World) :
    Calls Try.prog 84 #[.int .i64 n, .int .i64 d, .int .i64 m, .int .i64 e] w fun e w' => e = .returned (three t) ∧ ∃ k, w' = w.drewN k := by
  obtain ⟨d0, d1, n0, n1⟩ := right_bounds h1
  obtain ⟨e0, e1, m0, m1⟩ := right_bounds h2
  have hx := mul_cross n d m e (by omega) (by omega)
  rw [ht] at hx
  have HX := Lib.hid hx; clear hx ht
  have H1 := Lib.hid h1; clear h1
  have H2 := Lib.hid h2; clear h2
  obtain ⟨D, rfl⟩ : ∃ D : Nat, d = (D : Int) := ⟨d.natAbs, by omega⟩
  obtain ⟨E, rfl⟩ : ∃ E : Nat, e = (E : Int) := ⟨e.natAbs, by omega⟩
  rw [Int.natAbs_natCast, Int.natAbs_natCast] at HX
  have hg : 0 < Nat.gcd n.natAbs E := Nat.gcd_pos_of_pos_right _ (by omega)
  have hg1 : Nat.gcd n.natAbs E ≤ E := Nat.gcd_le_right _ (by omega)
  have hh : 0 < Nat.gcd m.natAbs D := Nat.gcd_pos_of_pos_right _ (by omega)
  have hh1 : Nat.gcd m.natAbs D ≤ D := Nat.gcd_le_right _ (by omega)
  go_enter Try.func84, Try.ntmps84
  go_wp2_with fail
  refine (rightRef_any n D true H1.out _ (by omega) (by omega) (by omega) (by omega)).mono ?_
  rintro _ w' ⟨rfl, rfl⟩
  go_wp2_with fail
  refine (rightRef_any m E true H2.out _ (by omega) (by omega) (by omega) (by omega)).mono ?_
  rintro _ w' ⟨rfl, rfl⟩
  go_wp2_with fail
  refine (sizeRef_any n (by omega) (by omega) _).mono ?_
  rintro _ w' ⟨rfl, rfl⟩
  go_wp2_with fail
  refine (gcdRef_nat n.natAbs E (by omega) (by omega) _).mono ?_
  rintro _ w' ⟨rfl, rfl⟩
  go_wp2_with fail
  refine (sizeRef_any m (by omega) (by omega) _).mono ?_
  rintro _ w' ⟨rfl, rfl⟩
  go_wp2_with fail
  refine (gcdRef_nat m.natAbs D (by omega) (by omega) _).mono ?_
  rintro _ w' ⟨rfl, rfl⟩
  obtain ⟨ba0, ba1⟩ := tdiv_bound (g := Nat.gcd n.natAbs E) n0 n1
  obtain ⟨bx0, bx1⟩ := tdiv_bound (g := Nat.gcd m.natAbs D) m0 m1
  obtain ⟨by0, by1⟩ := ediv_bound (g := Nat.gcd m.natAbs D) (show (0 : Int) ≤ D by omega) d1
  obtain ⟨bb0, bb1⟩ := ediv_bound (g := Nat.gcd n.natAbs E) (show (0 : Int) ≤ E by omega) e1
  obtain ⟨p0, p1⟩ := mul_bound ba0 ba1 bx0 bx1
  obtain ⟨q0, q1⟩ := mul_bound (show -2147483647 ≤ (D : Int) / (Nat.gcd m.natAbs D : Nat) by omega) by1 (show -2147483647 ≤ (E : Int) / (Nat.gcd n.natAbs E : Nat) by omega) bb1
  have r1 : wrap64 (n.tdiv (Nat.gcd n.natAbs E : Nat) * m.tdiv (Nat.gcd m.natAbs D : Nat)) = n.tdiv (Nat.gcd n.natAbs E : Nat) * m.tdiv (Nat.gcd m.natAbs D : Nat) := IntWalk.wrap64_in _ ⟨by omega, by omega⟩
  have r2 : wrap64 ((D : Int) / (Nat.gcd m.natAbs D : Nat) * ((E : Int) / (Nat.gcd n.natAbs E : Nat))) = (D : Int) / (Nat.gcd m.natAbs D : Nat) * ((E : Int) / (Nat.gcd n.natAbs E : Nat)) :=
    IntWalk.wrap64_in _ ⟨by omega, by omega⟩
  obtain ⟨P, hP⟩ : ∃ P, n.tdiv (Nat.gcd n.natAbs E : Nat) * m.tdiv (Nat.gcd m.natAbs D : Nat) = P := ⟨_, rfl⟩
  obtain ⟨Q, hQ⟩ : ∃ Q, (D : Int) / (Nat.gcd m.natAbs D : Nat) * ((E : Int) / (Nat.gcd n.natAbs E : Nat)) = Q := ⟨_, rfl⟩
  have hx := HX.out
  rw [hP, hQ] at hx
  rw [hP] at p0 p1
  rw [hQ] at q0 q1
  replace r1 : wrap64 (n.tdiv (Nat.gcd n.natAbs E : Nat) * m.tdiv (Nat.gcd m.natAbs D : Nat)) = P := r1.trans hP
  replace r2 : wrap64 ((D : Int) / (Nat.gcd m.natAbs D : Nat) * ((E : Int) / (Nat.gcd n.natAbs E : Nat))) = Q := r2.trans hQ
  have c := makeRef_within hx p0 p1 q0 q1
  have C := Lib.hid c; clear c hx HX hP hQ
  go_wp2_with fail
  go_quiet ((go_at_call 91; exact Calls.quiet_of_same (C.out _)))
  go_wp2_with fail
  go_ret3
  exact ⟨rfl, _, rfl⟩

set_option maxHeartbeats 400000 in
theorem mulRef_any (n d m e : Int) (t : Int × Int × Int) (ht : mulF n d m e = t) (w : World) (hn : I64 n) (hd : I64 d) (hm : I64 m) (he : I64 e) :
    Calls Try.prog 84 #[.int .i64 n, .int .i64 d, .int .i64 m, .int .i64 e] w fun e w' => e = .returned (three t) ∧ ∃ k, w' = w.drewN k := by
  unfold mulF at ht
  cases h1 : rightB n d
  · obtain ⟨hn0, hn1⟩ := hn
    obtain ⟨hd0, hd1⟩ := hd
    rw [h1] at ht; simp only [Bool.false_and, Bool.false_eq_true, if_false] at ht; subst ht
    have H1 := Lib.hid h1; clear h1
    go_enter Try.func84, Try.ntmps84
    go_wp2_with fail
    refine (rightRef_any n d false H1.out _ hn0 hn1 hd0 hd1).mono ?_
    rintro _ w' ⟨rfl, rfl⟩
    go_wp2_with fail
    go_ret3
    exact ⟨rfl, 0, rfl⟩
  cases h2 : rightB m e
  · obtain ⟨hn0, hn1⟩ := hn
    obtain ⟨hd0, hd1⟩ := hd
    obtain ⟨hm0, hm1⟩ := hm
    obtain ⟨he0, he1⟩ := he
    rw [h1, h2] at ht; simp only [Bool.true_and, Bool.false_eq_true, if_false] at ht; subst ht
    have H1 := Lib.hid h1; clear h1
    have H2 := Lib.hid h2; clear h2
    go_enter Try.func84, Try.ntmps84
    go_wp2_with fail
    refine (rightRef_any n d true H1.out _ hn0 hn1 hd0 hd1).mono ?_
    rintro _ w' ⟨rfl, rfl⟩
    go_wp2_with fail
    refine (rightRef_any m e false H2.out _ hm0 hm1 he0 he1).mono ?_
    rintro _ w' ⟨rfl, rfl⟩
    go_wp2_with fail
    go_ret3
    exact ⟨rfl, 0, rfl⟩
  rw [h1, h2] at ht; simp only [Bool.true_and, if_true] at ht
  exact mulRef_yes n d m e t h1 h2 ht w

theorem right_turn {m e : Int} (h : rightB m e = true) (hm : 0 < m) : rightB e m = true := by
  obtain ⟨d0, d1, n0, n1⟩ := right_bounds h
  have hc : Nat.gcd m.natAbs e.natAbs = 1 := by
    unfold rightB at h; simp only [Bool.and_eq_true, decide_eq_true_eq] at h; exact h.2
  rw [right_in (by omega) (by omega) (by omega) (by omega), decide_eq_true_eq, Nat.gcd_comm]; exact hc
theorem right_turn_neg {m e : Int} (h : rightB m e = true) (hm : m < 0) : rightB (-e) (-m) = true := by
  rw [right_neg]; exact right_turn (by rw [right_neg]; exact h) (by omega)
theorem div_pos {n d m e : Int} (h2 : rightB m e = true) (hm : 0 < m) : divF n d m e = mulF n d e m := by
  unfold divF mulF; rw [h2, right_turn h2 hm]
theorem div_neg {n d m e : Int} (h2 : rightB m e = true) (hm : m < 0) : divF n d m e = mulF n d (-e) (-m) := by
  unfold divF mulF; rw [h2, right_turn_neg h2 hm]
  have q1 : n * -e = -1 * (n * e) := by grind
  have q2 : d * -m = -1 * (d * m) := by grind
  rw [q1, q2, mk_scale (by omega)]
theorem div_zero {n d e : Int} (h1 : rightB n d = true) (h2 : rightB 0 e = true) : divF n d 0 e = (0, 0, 4) := by
  unfold divF; rw [h1, h2]; unfold mk; simp

set_option maxHeartbeats 400000 in
theorem divRef_any (n d m e : Int) (t : Int × Int × Int) (ht : divF n d m e = t) (w : World) (hn : I64 n) (hd : I64 d) (hm : I64 m) (he : I64 e) :
    Calls Try.prog 85 #[.int .i64 n, .int .i64 d, .int .i64 m, .int .i64 e] w fun e w' => e = .returned (three t) ∧ ∃ k, w' = w.drewN k := by
  obtain ⟨hn0, hn1⟩ := hn
  obtain ⟨hd0, hd1⟩ := hd
  obtain ⟨hm0, hm1⟩ := hm
  obtain ⟨he0, he1⟩ := he
  cases h1 : rightB n d
  · unfold divF at ht
    rw [h1] at ht; simp only [Bool.false_and, Bool.false_eq_true, if_false] at ht; subst ht
    have H1 := Lib.hid h1; clear h1
    go_enter Try.func85, Try.ntmps85
    go_wp2_with fail
    refine (rightRef_any n d false H1.out _ hn0 hn1 hd0 hd1).mono ?_
    rintro _ w' ⟨rfl, rfl⟩
    go_wp2_with fail
    go_ret3
    exact ⟨rfl, 0, rfl⟩
  cases h2 : rightB m e
  · unfold divF at ht
    rw [h1, h2] at ht; simp only [Bool.true_and, Bool.false_eq_true, if_false] at ht; subst ht
    have H1 := Lib.hid h1; clear h1
    have H2 := Lib.hid h2; clear h2
    go_enter Try.func85, Try.ntmps85
    go_wp2_with fail
    refine (rightRef_any n d true H1.out _ hn0 hn1 hd0 hd1).mono ?_
    rintro _ w' ⟨rfl, rfl⟩
    go_wp2_with fail
    refine (rightRef_any m e false H2.out _ hm0 hm1 he0 he1).mono ?_
    rintro _ w' ⟨rfl, rfl⟩
    go_wp2_with fail
    go_ret3
    exact ⟨rfl, 0, rfl⟩
  obtain ⟨d0, d1, n0, n1⟩ := right_bounds h1
  obtain ⟨e0, e1, m0, m1⟩ := right_bounds h2
  by_cases hz : m = 0
  · subst hz
    rw [div_zero h1 h2] at ht; subst ht
    have H1 := Lib.hid h1; clear h1
    have H2 := Lib.hid h2; clear h2
    go_enter Try.func85, Try.ntmps85
    go_wp2_with fail
    refine (rightRef_any n d true H1.out _ hn0 hn1 hd0 hd1).mono ?_
    rintro _ w' ⟨rfl, rfl⟩
    go_wp2_with fail
    refine (rightRef_any 0 e true H2.out _ hm0 hm1 he0 he1).mono ?_
    rintro _ w' ⟨rfl, rfl⟩
    go_wp2_with fail
    go_ret3
    exact ⟨rfl, 0, rfl⟩
  have hz' : (m == 0) = false := by rw [beq_eq_false_iff_ne]; exact hz
  by_cases hs : m < 0
  · rw [div_neg h2 hs] at ht
    have HT := Lib.hid ht; clear ht
    have H1 := Lib.hid h1; clear h1
    have H2 := Lib.hid h2; clear h2
    go_enter Try.func85, Try.ntmps85
    go_wp2_with fail
    refine (rightRef_any n d true H1.out _ hn0 hn1 hd0 hd1).mono ?_
    rintro _ w' ⟨rfl, rfl⟩
    go_wp2_with fail
    refine (rightRef_any m e true H2.out _ hm0 hm1 he0 he1).mono ?_
    rintro _ w' ⟨rfl, rfl⟩
    go_wp2_with fail
    refine (mulRef_any n d (-e) (-m) t HT.out _ ⟨hn0, hn1⟩ ⟨hd0, hd1⟩ ⟨by omega, by omega⟩ ⟨by omega, by omega⟩).mono ?_
    rintro _ w' ⟨rfl, k, rfl⟩
    unfold three
    go_wp2_with fail
    go_ret3
    exact ⟨rfl, _, rfl⟩
  · rw [div_pos h2 (by omega)] at ht
    have HT := Lib.hid ht; clear ht
    have H1 := Lib.hid h1; clear h1
    have H2 := Lib.hid h2; clear h2
    go_enter Try.func85, Try.ntmps85
    go_wp2_with fail
    refine (rightRef_any n d true H1.out _ hn0 hn1 hd0 hd1).mono ?_
    rintro _ w' ⟨rfl, rfl⟩
    go_wp2_with fail
    refine (rightRef_any m e true H2.out _ hm0 hm1 he0 he1).mono ?_
    rintro _ w' ⟨rfl, rfl⟩
    go_wp2_with fail
    refine (mulRef_any n d e m t HT.out _ ⟨hn0, hn1⟩ ⟨hd0, hd1⟩ ⟨by omega, by omega⟩ ⟨by omega, by omega⟩).mono ?_
    rintro _ w' ⟨rfl, k, rfl⟩
    unfold three
    go_wp2_with fail
    go_ret3
    exact ⟨rfl, _, rfl⟩
end Go.Proofs.Ytdeelpagoffdjaa

/- The reference's truth and number. -/
namespace Go.Proofs.Ytdeelpagoffdjaa.Dat
open Go.RowKit
set_option linter.unusedVariables false

set_option maxRecDepth 100000 in
theorem rTruth_any (b : Bool) (w : World) : Calls Try.prog 63 #[.bool b] w fun e w' => e = .returned (leafV 1 (if b then 1 else 0) 0) ∧ Below w.heap.size w w' := by
  cases b
  all_goals
    go_enter Try.func63, Try.ntmps63
    go_wp2_with fail
    refine bodyPost_ret (results_cell_row rfl _ _ w.heap.size 37 _ (0, 0) _ rfl (at_new w _) Try.underlying37 rfl Try.sizD) rfl ?_
    exact ⟨rfl, box_below w _⟩
set_option maxRecDepth 100000 in
theorem rNumber_any (x : Int) (w : World) : Calls Try.prog 67 #[.int .i64 x] w fun e w' => e = .returned (leafV 0 x 1) ∧ Below w.heap.size w w' := by
  go_enter Try.func67, Try.ntmps67
  go_wp2_with fail
  refine bodyPost_ret (results_cell_row rfl _ _ w.heap.size 37 _ (0, 0) _ rfl (at_new w _) Try.underlying37 rfl Try.sizD) rfl ?_
  exact ⟨rfl, box_below w _⟩
end Go.Proofs.Ytdeelpagoffdjaa.Dat

/- The reference's Eq. -/
namespace Go.Proofs.Ytdeelpagoffdjaa.Dat
open Go.RowKit
set_option linter.unusedVariables false

/-- What the reference's Eq says. -/
def rEqB (t u : Dt) : Bool := decide (t.kd = u.kd) && (decide (t.kd ≠ 3) && (decide (t.kd ≠ 6) && (decide (t.kd ≠ 7) && t.alike u)))

set_option maxHeartbeats 2000000 in
set_option maxRecDepth 100000 in
theorem rEq_any (t u : Dt) (v v' : Value) (w : World) (hat : t.At w v) (hat' : u.At w v') :
    Calls Try.prog 65 #[v, v'] w fun e w' => e = .returned (.bool (rEqB t u)) ∧ Below w.heap.size w w' := by
  have HC := Lib.hid (fun W (hb : Below w.heap.size w W) => alike_any t.size t u v v' W (Nat.le_refl _) (hat.below hb) (hat'.below hb))
  obtain ⟨r, hr⟩ : ∃ r, t.alike u = r := ⟨_, rfl⟩
  obtain ⟨q, hq⟩ : ∃ q, rEqB t u = q := ⟨_, rfl⟩
  rw [hr] at HC
  rw [hq]
  unfold rEqB at hq
  rw [hr] at hq
  clear hr
  obtain ⟨k, n, d, s, l⟩ := t
  obtain ⟨k', n', d', s', l'⟩ := u
  unfold Dt.At at hat hat'
  obtain ⟨hk, -, -, -, -, p, cap, rfl, -⟩ := hat
  obtain ⟨hk', -, -, -, -, p', cap', rfl, -⟩ := hat'
  simp only [Dt.kd] at hq
  unfold I64 at hk hk'
  have HQ := Lib.hid hq; clear hq
  go_enter Try.func65, Try.ntmps65
  go_upto_region 1 with fail
  obtain ⟨W, hW⟩ : ∃ W, (w.alloc (Obj.cells #[.int .i64 k, .int .i64 n, .int .i64 d, .string s, .slice p l.length cap] 37)).alloc (Obj.cells #[.int .i64 k', .int .i64 n', .int .i64 d', .string s', .slice p' l'.length cap'] 37) = W := ⟨_, rfl⟩
  have hb0 : Below w.heap.size w W := hW ▸ two_below w _ _
  obtain ⟨c0, c1, c2, c3, c4⟩ := box_cells (hW ▸ two_first w (Obj.cells #[.int .i64 k, .int .i64 n, .int .i64 d, .string s, .slice p l.length cap] 37) (Obj.cells #[.int .i64 k', .int .i64 n', .int .i64 d', .string s', .slice p' l'.length cap'] 37))
  obtain ⟨e0, e1, e2, e3, e4⟩ := box_cells (hW ▸ two_second w (Obj.cells #[.int .i64 k, .int .i64 n, .int .i64 d, .string s, .slice p l.length cap] 37) (Obj.cells #[.int .i64 k', .int .i64 n', .int .i64 d', .string s', .slice p' l'.length cap'] 37))
  rw [hW]
  have HB := Lib.hid hb0
  have HA := Lib.hid (HC.out W hb0)
  clear hW hb0 HC
  by_cases h0 : k = k'
  · have b0 : (k == k') = true := by rw [beq_iff_eq]; exact h0
    by_cases h3 : k = 3
    · have b3 : (k != 3) = false := by rw [bne_eq_false_iff_eq]; exact h3
      have hq : q = false := by rw [← HQ.out]; simp [h3]
      subst hq
      clear h0 h3
      go_wp2_with fail
      go_ret
      exact ⟨rfl, HB.out⟩
    have b3 : (k != 3) = true := by rw [bne_iff_ne]; exact h3
    by_cases h6 : k = 6
    · have b6 : (k != 6) = false := by rw [bne_eq_false_iff_eq]; exact h6
      have hq : q = false := by rw [← HQ.out]; simp [h6]
      subst hq
      clear h0 h3 h6
      go_wp2_with fail
      go_ret
      exact ⟨rfl, HB.out⟩
    have b6 : (k != 6) = true := by rw [bne_iff_ne]; exact h6
    by_cases h7 : k = 7
    · have b7 : (k != 7) = false := by rw [bne_eq_false_iff_eq]; exact h7
      have hq : q = false := by rw [← HQ.out]; simp [h7]
      subst hq
      clear h0 h3 h6 h7
      go_wp2_with fail
      go_ret
      exact ⟨rfl, HB.out⟩
    have b7 : (k != 7) = true := by rw [bne_iff_ne]; exact h7
    have hq : q = r := by rw [← HQ.out]; simp [h0] at h3 h6 h7 ⊢; simp [h3, h6, h7]
    subst hq
    clear h0 h3 h6 h7
    go_wp2_with fail
    refine HA.out.mono ?_
    rintro _ w3 ⟨rfl, hb3⟩
    have HB3 := Lib.hid (below_seq HB.out hb3); clear hb3
    go_wp2_with fail
    go_ret
    exact ⟨rfl, HB3.out⟩
  · have b0 : (k == k') = false := by rw [beq_eq_false_iff_ne]; exact h0
    have hq : q = false := by rw [← HQ.out]; simp [h0]
    subst hq
    clear h0
    go_wp2_with fail
    go_ret
    exact ⟨rfl, HB.out⟩
end Go.Proofs.Ytdeelpagoffdjaa.Dat

/- The reference's Equal: how many may still be held is counted down in a cell. -/
namespace Go.Proofs.Ytdeelpagoffdjaa.Dat
open Go.RowKit
set_option linter.unusedVariables false

/-- How many may still be held. -/
def Left (Bh : Nat) (w : World) (c : Int) : Prop := w.heap[Bh]? = some (.cells #[.int .i64 c] 3 (0, 0))
def REqAt (t : Dt) : Prop := ∀ (u : Dt) (v v' : Value) (c : Int) (w : World) (Bh : Nat), t.At (off w (just Bh)) v → u.At (off w (just Bh)) v' → 0 ≤ c → c ≤ 1000 → Left Bh w c →
    Calls Try.prog 66 #[v, v', .pointer (some ⟨Bh, 0, none⟩)] w fun e w' => e = .returned (.bool (eqD t u c).1) ∧ Left Bh w' (eqD t u c).2 ∧ Keeps Bh w w'
theorem bne_size {s s' : ByteArray} (h : ¬ s = s') : ¬ s.toList = s'.toList := fun e => h (bytes_inj e)

set_option maxHeartbeats 8000000 in
set_option maxRecDepth 100000 in
theorem rEqual_any (N : Nat) : ∀ t : Dt, t.size ≤ N → REqAt t := by
  induction N with
  | zero => intro t h; have := t.size_pos; omega
  | succ N ih =>
    intro t hN u v v' c w Bh hat hat' hc0 hc1 hs
    obtain ⟨k, n, d, s, l⟩ := t
    obtain ⟨k', n', d', s', l'⟩ := u
    unfold Dt.At at hat hat'
    obtain ⟨hk, hn, hd, hss, hlm, p, cap, rfl, hl⟩ := hat
    obtain ⟨hk', hn', hd', hss', hlm', p', cap', rfl, hl'⟩ := hat'
    have IH := Lib.hid (show ∀ t, t ∈ l → REqAt t from fun t ht => ih t (by obtain ⟨i, hi⟩ := List.mem_iff_getElem?.1 ht; have h1 := Dt.size_kid hi; unfold Dt.size at hN; omega))
    have HL := Lib.hid (And.intro hl hl')
    have HS := Lib.hid hs
    have hBh := lt_of_block hs
    clear ih hN hss hss' hl hl' hs
    unfold I64 at hk hn hd hk' hn' hd'
    unfold maxLen at hlm hlm'
    obtain ⟨r, hr⟩ : ∃ r, eqD (.node k n d s l) (.node k' n' d' s' l') c = r := ⟨_, rfl⟩
    have hr2 : r = if c - 1 < 0 ∨ headSame k n d k' n' d' s s' = false ∨ l.length ≠ l'.length then (false, c - 1) else eqL l l' (c - 1) := by
      rw [← hr]; unfold eqD; rfl
    rw [hr]
    have HR := Lib.hid hr2; clear hr hr2
    go_enter Try.func66, Try.ntmps66
    go_upto_region 1 with fail
    obtain ⟨W, hW⟩ : ∃ W, (w.alloc (Obj.cells #[.int .i64 k, .int .i64 n, .int .i64 d, .string s, .slice p l.length cap] 37)).alloc (Obj.cells #[.int .i64 k', .int .i64 n', .int .i64 d', .string s', .slice p' l'.length cap'] 37) = W := ⟨_, rfl⟩
    have hb0 : Below w.heap.size w W := hW ▸ two_below w _ _
    have hx0 := hW ▸ two_first w (Obj.cells #[.int .i64 k, .int .i64 n, .int .i64 d, .string s, .slice p l.length cap] 37) (Obj.cells #[.int .i64 k', .int .i64 n', .int .i64 d', .string s', .slice p' l'.length cap'] 37)
    have hx1 := hW ▸ two_second w (Obj.cells #[.int .i64 k, .int .i64 n, .int .i64 d, .string s, .slice p l.length cap] 37) (Obj.cells #[.int .i64 k', .int .i64 n', .int .i64 d', .string s', .slice p' l'.length cap'] 37)
    rw [hW]
    have hs1 : Left Bh W c := block_on hb0 HS.out
    have h0 := cell_of_one hs1
    have z0 := free_of_one hs1
    have hst := one_setCell (u := .int .i64 (c - 1)) hs1
    have hk2 : Keeps Bh w (W.setCell ⟨Bh, 0, none⟩ (.int .i64 (c - 1))) := (Keeps.of hb0).setCell _ _
    have hy0 := (Below.heap_setCell _ ⟨Bh, 0, none⟩ (.int .i64 (c - 1)) w.heap.size (by show w.heap.size ≠ Bh; omega)).trans hx0
    have hy1 := (Below.heap_setCell _ ⟨Bh, 0, none⟩ (.int .i64 (c - 1)) (w.heap.size + 1) (by show w.heap.size + 1 ≠ Bh; omega)).trans hx1
    have H2 := Lib.hid (And.intro hk2 (And.intro (show Left Bh (W.setCell ⟨Bh, 0, none⟩ (.int .i64 (c - 1))) (c - 1) from hst) (And.intro hy0 hy1)))
    clear hb0 hx0 hx1 hs1 hst hk2 hy0 hy1 hW
    go_upto_region 2 with fail
    obtain ⟨W2, hW2⟩ : ∃ W2, W.setCell ⟨Bh, 0, none⟩ (.int .i64 (c - 1)) = W2 := ⟨_, rfl⟩
    rw [hW2] at H2 ⊢
    have m0 := cell_of_one H2.out.2.1
    obtain ⟨c0, c1, c2, c3, c4⟩ := box_cells H2.out.2.2.1
    obtain ⟨e0, e1, e2, e3, e4⟩ := box_cells H2.out.2.2.2
    clear h0 z0 hW2
    have out : c - 1 < 0 ∨ headSame k n d k' n' d' s s' = false ∨ l.length ≠ l'.length → r = (false, c - 1) := fun h => by rw [HR.out, if_pos h]
    have OUT := Lib.hid out; clear out
    by_cases hc : c - 1 < 0
    · obtain ⟨rfl⟩ : c = 0 := by omega
      have hrr := OUT.out (Or.inl hc)
      subst hrr
      clear IH HL HR OUT
      go_wp2_with fail
      go_ret
      exact ⟨rfl, H2.out.2.1, H2.out.1⟩
    by_cases h1 : k = k'
    case neg =>
      have hrr := OUT.out (Or.inr (Or.inl (by simp [headSame, h1])))
      subst hrr
      have b1 : (k != k') = true := by rw [bne_iff_ne]; exact h1
      clear IH HL HR OUT h1
      go_wp2_with fail
      go_ret
      exact ⟨rfl, H2.out.2.1, H2.out.1⟩
    subst h1
    by_cases h1 : n = n'
    case neg =>
      have hrr := OUT.out (Or.inr (Or.inl (by simp [headSame, h1])))
      subst hrr
      have b1 : (n != n') = true := by rw [bne_iff_ne]; exact h1
      clear IH HL HR OUT h1
      go_wp2_with fail
      go_ret
      exact ⟨rfl, H2.out.2.1, H2.out.1⟩
    subst h1
    by_cases h1 : d = d'
    case neg =>
      have hrr := OUT.out (Or.inr (Or.inl (by simp [headSame, h1])))
      subst hrr
      have b1 : (d != d') = true := by rw [bne_iff_ne]; exact h1
      clear IH HL HR OUT h1
      go_wp2_with fail
      go_ret
      exact ⟨rfl, H2.out.2.1, H2.out.1⟩
    subst h1
    by_cases h1 : s = s'
    case neg =>
      have hrr := OUT.out (Or.inr (Or.inl (by simp [headSame, h1])))
      subst hrr
      have b1 := bne_size h1
      clear IH HL HR OUT
      go_wp2_with fail
      go_ret
      exact ⟨rfl, H2.out.2.1, H2.out.1⟩
    subst h1
    by_cases h1 : l.length = l'.length
    case neg =>
      have hrr := OUT.out (Or.inr (Or.inr h1))
      subst hrr
      have b1 : ((l.length : Int) != (l'.length : Int)) = true := by rw [bne_iff_ne]; omega
      clear IH HL HR OUT h1
      go_wp2_with fail
      go_ret
      exact ⟨rfl, H2.out.2.1, H2.out.1⟩
    have b1 : ((l.length : Int) != (l'.length : Int)) = false := by rw [bne_eq_false_iff_eq]; omega
    have hrr : r = eqL l l' (c - 1) := by
      rw [HR.out, if_neg (by
        rintro (h | h | h)
        · exact hc h
        · simp [headSame] at h
        · exact h h1)]
    have HRR := Lib.hid (And.intro hrr h1)
    clear hrr h1 HR OUT
    go_wp2_with fail
    clear c0 c1 c2 c3 c4 e0 e1 e2 e3 e4 m0
    go_loopw [7] (fun x wr => ∃ (i : Nat) (m : Int), i ≤ l.length ∧ x = .int .i64 i ∧ r = eqL (l.drop i) (l'.drop i) m ∧ 0 ≤ m ∧ m ≤ 1000 ∧ Left Bh wr m ∧ Keeps Bh w wr ∧ wr.heap[w.heap.size]? = some (Obj.cells #[.int .i64 k, .int .i64 n, .int .i64 d, .string s, .slice p l.length cap] 37) ∧ wr.heap[w.heap.size + 1]? = some (Obj.cells #[.int .i64 k, .int .i64 n, .int .i64 d, .string s, .slice p' l'.length cap'] 37)) (fun x _ => l.length - (intOf x).toNat)
    case atStart => exact ⟨0, c - 1, by omega, rfl, by rw [HRR.out.1]; simp, by omega, by omega, H2.out.2.1, H2.out.1, H2.out.2.2.1, H2.out.2.2.2⟩
    case round =>
      obtain ⟨i, m, hi, rfl, hf, hm0, hm1, hsw, hk, hA, hB⟩ := hrel
      have HF := Lib.hid hf
      have HK := Lib.hid hk
      have HSW := Lib.hid hsw
      have HAB := Lib.hid (And.intro hA hB)
      obtain ⟨-, -, -, -, c4⟩ := box_cells hA
      obtain ⟨-, -, -, -, e4⟩ := box_cells hB
      have hszr := hk.size
      have hlB := lt_of_block hB
      clear hf hk hsw hA hB
      by_cases hlt : i < l.length
      · obtain ⟨t, ht⟩ : ∃ t, l[i]? = some t := ⟨l[i], by simp [hlt]⟩
        have hlt' : i < l'.length := by have := HRR.out.2; omega
        obtain ⟨t', ht'⟩ : ∃ t, l'[i]? = some t := ⟨l'[i], by simp [hlt']⟩
        rcases HL.out.1 with he | ⟨b, o, rfl, hall⟩
        · rw [he] at hlt; simp at hlt
        rcases HL.out.2 with he | ⟨b', o', rfl, hall'⟩
        · rw [he] at hlt'; simp at hlt'
        obtain ⟨v0, v1, v2, v3, v4, d0, d1, d2, d3, d4, hta⟩ := (hall.on HK.out.off).kid ht
        obtain ⟨u0, u1, u2, u3, u4, f0, f1, f2, f3, f4, hta'⟩ := (hall'.on HK.out.off).kid ht'
        obtain ⟨kt, nt, dt, st, lt, pt, capt, hte, rfl, rfl, rfl, rfl, rfl, _, _⟩ := hta.open5
        obtain ⟨ku, nu, du, su, lu, pu, capu, hue, rfl, rfl, rfl, rfl, rfl, _, _⟩ := hta'.open5
        have HOFF := Lib.hid (And.intro (And.intro d0 (And.intro d1 (And.intro d2 (And.intro d3 d4)))) (And.intro f0 (And.intro f1 (And.intro f2 (And.intro f3 f4)))))
        replace d0 := (off_cell.1 d0).2
        replace d1 := (off_cell.1 d1).2
        replace d2 := (off_cell.1 d2).2
        replace d3 := (off_cell.1 d3).2
        replace d4 := (off_cell.1 d4).2
        replace f0 := (off_cell.1 f0).2
        replace f1 := (off_cell.1 f1).2
        replace f2 := (off_cell.1 f2).2
        replace f3 := (off_cell.1 f3).2
        replace f4 := (off_cell.1 f4).2
        have hkd : Keeps Bh wr wr.drew := (Keeps.refl Bh wr).drew
        have C := IH.out t (List.mem_of_getElem? ht) t' _ _ m wr.drew Bh (hta.on hkd.off) (hta'.on hkd.off) hm0 hm1 HSW.out
        have HC := Lib.hid C
        have HT := Lib.hid (And.intro ht ht')
        clear C hta hta' hall hall' hte hue ht ht' hkd
        have c4' : wr.drew.cell? ⟨w.heap.size, 4, none⟩ = some (.slice (some ⟨b, o, none⟩) l.length cap) := c4
        have e4' : wr.drew.cell? ⟨w.heap.size + 1, 4, none⟩ = some (.slice (some ⟨b', o', none⟩) l'.length cap') := e4
        have d0' : wr.drew.cell? ⟨b, o + i * 5, none⟩ = some (.int .i64 kt) := d0
        have d1' : wr.drew.cell? ⟨b, o + i * 5 + 1, none⟩ = some (.int .i64 nt) := d1
        have d2' : wr.drew.cell? ⟨b, o + i * 5 + 2, none⟩ = some (.int .i64 dt) := d2
        have d3' : wr.drew.cell? ⟨b, o + i * 5 + 3, none⟩ = some (.string st) := d3
        have d4' : wr.drew.cell? ⟨b, o + i * 5 + 4, none⟩ = some (.slice pt lt.length capt) := d4
        have f0' : wr.drew.cell? ⟨b', o' + i * 5, none⟩ = some (.int .i64 ku) := f0
        have f1' : wr.drew.cell? ⟨b', o' + i * 5 + 1, none⟩ = some (.int .i64 nu) := f1
        have f2' : wr.drew.cell? ⟨b', o' + i * 5 + 2, none⟩ = some (.int .i64 du) := f2
        have f3' : wr.drew.cell? ⟨b', o' + i * 5 + 3, none⟩ = some (.string su) := f3
        have f4' : wr.drew.cell? ⟨b', o' + i * 5 + 4, none⟩ = some (.slice pu lu.length capu) := f4
        go_wp2_with fail
        go_region_held3 (fun w' => w'.cell? ⟨w.heap.size, 4, none⟩ = some (.slice (some ⟨b, o, none⟩) l.length cap) ∧ w'.cell? ⟨w.heap.size + 1, 4, none⟩ = some (.slice (some ⟨b', o', none⟩) l'.length cap') ∧ w'.cell? ⟨b, o + i * 5, none⟩ = some (.int .i64 kt) ∧ w'.cell? ⟨b, o + i * 5 + 1, none⟩ = some (.int .i64 nt) ∧ w'.cell? ⟨b, o + i * 5 + 2, none⟩ = some (.int .i64 dt) ∧ w'.cell? ⟨b, o + i * 5 + 3, none⟩ = some (.string st) ∧ w'.cell? ⟨b, o + i * 5 + 4, none⟩ = some (.slice pt lt.length capt) ∧ w'.cell? ⟨b', o' + i * 5, none⟩ = some (.int .i64 ku) ∧ w'.cell? ⟨b', o' + i * 5 + 1, none⟩ = some (.int .i64 nu) ∧ w'.cell? ⟨b', o' + i * 5 + 2, none⟩ = some (.int .i64 du) ∧ w'.cell? ⟨b', o' + i * 5 + 3, none⟩ = some (.string su) ∧ w'.cell? ⟨b', o' + i * 5 + 4, none⟩ = some (.slice pu lu.length capu))
          (with_reducible (first | (refine ⟨?_, ?_, ?_, ?_, ?_, ?_, ?_, ?_, ?_, ?_, ?_, ?_⟩ <;> assumption)))
          (first
            | (go_at_call 66
               with_reducible refine Calls.mono HC.out ?_
               rintro _ w1 ⟨rfl, hl1, hk1⟩
               have hk1' : Keeps Bh wr w1 := ((Keeps.refl Bh wr).drew).trans hk1
               have hA1 := (hk1'.block w.heap.size (by omega) (by omega)).trans HAB.out.1
               have hB1 := (hk1'.block (w.heap.size + 1) (by omega) (by omega)).trans HAB.out.2
               obtain ⟨-, -, -, -, c4⟩ := box_cells hA1
               obtain ⟨-, -, -, -, e4⟩ := box_cells hB1
               replace d0 := (off_cell.1 (hk1'.off _ _ _ HOFF.out.1.1)).2
               replace d1 := (off_cell.1 (hk1'.off _ _ _ HOFF.out.1.2.1)).2
               replace d2 := (off_cell.1 (hk1'.off _ _ _ HOFF.out.1.2.2.1)).2
               replace d3 := (off_cell.1 (hk1'.off _ _ _ HOFF.out.1.2.2.2.1)).2
               replace d4 := (off_cell.1 (hk1'.off _ _ _ HOFF.out.1.2.2.2.2)).2
               replace f0 := (off_cell.1 (hk1'.off _ _ _ HOFF.out.2.1)).2
               replace f1 := (off_cell.1 (hk1'.off _ _ _ HOFF.out.2.2.1)).2
               replace f2 := (off_cell.1 (hk1'.off _ _ _ HOFF.out.2.2.2.1)).2
               replace f3 := (off_cell.1 (hk1'.off _ _ _ HOFF.out.2.2.2.2.1)).2
               replace f4 := (off_cell.1 (hk1'.off _ _ _ HOFF.out.2.2.2.2.2)).2
               have H1 := Lib.hid (And.intro hl1 (And.intro hk1' (And.intro hA1 hB1)))
               clear hl1 hk1 hk1' hA1 hB1))
        have hle := eqD_le t t' m
        cases ha : (eqD t t' m).1
        · have HAL := Lib.hid ha; clear ha
          have hr : r = (false, (eqD t t' m).2) := by
            rw [HF.out, eqL_step HT.out.1 HT.out.2, if_neg (by rw [HAL.out]; simp)]
          have HRE := Lib.hid hr; clear hr hle
          go_wp2_with fail
          go_ret
          exact ⟨ret_bool (by rw [HRE.out]), by rw [HRE.out]; exact H1.out.1, HK.out.trans H1.out.2.1⟩
        · have HAL := Lib.hid ha
          have hr : r = eqL (l.drop (i + 1)) (l'.drop (i + 1)) (eqD t t' m).2 := by
            rw [HF.out, eqL_step HT.out.1 HT.out.2, if_pos HAL.out]
          have HRE := Lib.hid (And.intro hr (And.intro hle.1 (hle.2 ha))); clear hr hle ha
          go_wp2_with fail
          go_roundw
          case rel => exact ⟨i + 1, (eqD t t' m).2, by omega, by go_num, HRE.out.1, HRE.out.2.2, by have := HRE.out; omega, H1.out.1, HK.out.trans H1.out.2.1, H1.out.2.2.1, H1.out.2.2.2⟩
          case measure => simp [intOf]; omega
      · have hr : r = (true, m) := by rw [HF.out, eqL_stop (by omega)]
        have HRE := Lib.hid hr; clear hr
        go_wp2_with fail
        go_ret
        exact ⟨ret_bool (by rw [HRE.out]), by rw [HRE.out]; exact HSW.out, HK.out⟩
end Go.Proofs.Ytdeelpagoffdjaa.Dat

/- The reference's sums, for one of the four. -/
namespace Go.Proofs.Ytdeelpagoffdjaa.Dat
open Go.RowKit
open Go.Proofs.Ytdeelpagoffdjaa (three addF subF mulF divF addRef_any subRef_any mulRef_any divRef_any)
open NumPlain
set_option linter.unusedVariables false

set_option maxHeartbeats 8000000 in
set_option maxRecDepth 100000 in
theorem rSumsAdd_any (l : List Dt) (p : Option Addr) (cap : Nat) (w : World) (hlm : l.length ≤ maxLen) (hl : l = [] ∨ ∃ b o, p = some ⟨b, o, none⟩ ∧ Dt.AllAt w l b o) :
    Calls Try.prog 62 #[.int .i64 0, .slice p l.length cap] w fun e w' =>
      ((l.all isNum = false ∧ e = .returned (.tuple #[leafV 0 0 0, .int .i64 1])) ∨
       (l.all isNum = true ∧ (thr addF 0 1 l).2.2 ≠ 0 ∧ e = .returned (.tuple #[leafV 0 0 0, .int .i64 (thr addF 0 1 l).2.2])) ∨
       (l.all isNum = true ∧ (thr addF 0 1 l).2.2 = 0 ∧ e = .returned (.tuple #[leafV 0 (thr addF 0 1 l).1 (thr addF 0 1 l).2.1, .int .i64 0]))) ∧ Below w.heap.size w w' := by
  unfold maxLen at hlm
  have HL := Lib.hid hl; clear hl
  unfold leafV
  obtain ⟨r, hr⟩ : ∃ r, thr addF 0 1 l = r := ⟨_, rfl⟩
  rw [hr]
  have HR := Lib.hid hr; clear hr
  go_enter Try.func62, Try.ntmps62
  go_wp2_with fail
  go_loopw [6] (fun x wr => ∃ (i : Nat), i ≤ l.length ∧ x = .int .i64 i ∧ (∀ j t, j < i → l[j]? = some t → isNum t = true) ∧ wr.heap[w.heap.size]? = some (.cells #[.int .i64 0, .int .i64 0, .int .i64 0, .string ⟨#[]⟩, .slice none 0 0] 37 (0, 0)) ∧ Below w.heap.size w wr) (fun x _ => l.length - (intOf x).toNat)
  case atStart => exact ⟨0, by omega, rfl, fun j t hj => absurd hj (by omega), at_new w _, box_below w _⟩
  case round =>
    obtain ⟨i, hi, rfl, hall0, hx0, hb⟩ := hrel
    have HA := Lib.hid hall0
    have HX := Lib.hid (And.intro hx0 hb)
    clear hall0
    by_cases hlt : i < l.length
    · obtain ⟨t, ht⟩ : ∃ t, l[i]? = some t := ⟨l[i], by simp [hlt]⟩
      rcases HL.out with he | ⟨bb, o, rfl, hall⟩
      · rw [he] at hlt; simp at hlt
      obtain ⟨v0, v1, v2, v3, v4, d0, d1, d2, d3, d4, hta⟩ := (hall.on (cell_on hb)).kid ht
      obtain ⟨kt, nt, dt, st, lt, pt, capt, rfl, rfl, rfl, rfl, rfl, rfl, hkt, hnt, hdt, _, _, _⟩ := hta.open7
      have HT := Lib.hid ht
      by_cases hk : kt = 0
      · have hq : (kt != 0) = false := by rw [bne_eq_false_iff_eq]; exact hk
        have HK := Lib.hid hk
        clear hta hall ht hk hx0 hb
        go_wp2_with fail
        go_roundw
        case rel =>
          refine ⟨i + 1, by omega, by go_num, fun j u hj hu => ?_, HX.out.1, HX.out.2⟩
          by_cases hji : j = i
          · subst hji
            rw [HT.out] at hu
            obtain rfl := Option.some.inj hu
            show decide (kt = 0) = true
            rw [HK.out]; rfl
          · exact HA.out j u (by omega) hu
        case measure => simp [intOf]; omega
      · have hq : (kt != 0) = true := by rw [bne_iff_ne]; exact hk
        have HK := Lib.hid hk
        obtain ⟨c0, c1, c2, c3, c4⟩ := box_cells hx0
        have z0 := box_frozen hx0 0
        have z1 := box_frozen hx0 1
        have z2 := box_frozen hx0 2
        have z3 := box_frozen hx0 3
        have z4 := box_frozen hx0 4
        clear hta hall ht hk hx0 hb
        go_wp2_with fail
        refine bodyPost_ret (results_row1 rfl _ _ w.heap.size 37 _ (0, 0) _ _ rfl rfl (set_five HX.out.1) Try.underlying37 rfl Try.sizD) rfl ?_
        refine ⟨Or.inl ⟨?_, rfl⟩, set_five_below HX.out.2 (Nat.le_refl _)⟩
        rw [Bool.eq_false_iff]
        intro h
        have h2 := List.all_eq_true.1 h _ (List.mem_of_getElem? HT.out)
        exact HK.out (of_decide_eq_true h2)
    · have hnum : l.all isNum = true := by
        rw [List.all_eq_true]
        intro t ht
        obtain ⟨j, hj⟩ := List.mem_iff_getElem?.1 ht
        exact HA.out j t (by have := (List.getElem?_eq_some_iff.1 hj).1; omega) hj
      have HN := Lib.hid hnum
      obtain ⟨c0, c1, c2, c3, c4⟩ := box_cells hx0
      have N0 := rNumber_any 0 wr
      unfold leafV at N0
      have HN0 := Lib.hid N0
      clear N0 hnum c0 c1 c2 c3 c4 hx0 hb HA
      go_wp2_with fail
      refine HN0.out.mono ?_
      rintro _ w2 ⟨rfl, hb2⟩
      have hb3 := below_seq hb2 (box_below w2 (Obj.cells #[.int .i64 0, .int .i64 0, .int .i64 1, .string ⟨#[]⟩, .slice none 0 0] 37))
      have hn3 := at_new w2 (Obj.cells #[.int .i64 0, .int .i64 0, .int .i64 1, .string ⟨#[]⟩, .slice none 0 0] 37)
      have hlt2 : w.heap.size < w2.heap.size := lt_of_block (block_on hb2 HX.out.1)
      have HST := Lib.hid (And.intro hn3 (And.intro (block_on hb3 HX.out.1) (below_seq HX.out.2 hb3)))
      clear hb2 hb3 hn3
      go_wp2_with fail
      go_loopw [8] (fun x wr => ∃ (i : Nat) (a b : Int), i ≤ l.length ∧ x = .int .i64 i ∧ r = thr addF a b (l.drop i) ∧ I64 a ∧ I64 b ∧ wr.heap[w2.heap.size]? = some (.cells #[.int .i64 0, .int .i64 a, .int .i64 b, .string ⟨#[]⟩, .slice none 0 0] 37 (0, 0)) ∧ wr.heap[w.heap.size]? = some (.cells #[.int .i64 0, .int .i64 0, .int .i64 0, .string ⟨#[]⟩, .slice none 0 0] 37 (0, 0)) ∧ Below w.heap.size w wr) (fun x _ => l.length - (intOf x).toNat)
      case atStart => exact ⟨0, 0, 1, by omega, rfl, by rw [← HR.out]; simp, by unfold I64; omega, by unfold I64; omega, HST.out.1, HST.out.2.1, HST.out.2.2⟩
      case round =>
        obtain ⟨i, a, b, hi, rfl, hf, ha, hb, h2, h0, hbw⟩ := hrel
        have HF := Lib.hid hf
        have HY := Lib.hid (And.intro h2 (And.intro h0 hbw))
        have hszw := lt_of_block h2
        obtain ⟨c0, c1, c2, c3, c4⟩ := box_cells h2
        clear hf
        by_cases hlt : i < l.length
        · obtain ⟨t, ht⟩ : ∃ t, l[i]? = some t := ⟨l[i], by simp [hlt]⟩
          rcases HL.out with he | ⟨bb, o, rfl, hall⟩
          · rw [he] at hlt; simp at hlt
          obtain ⟨v0, v1, v2, v3, v4, d0, d1, d2, d3, d4, hta⟩ := (hall.on (cell_on hbw)).kid ht
          obtain ⟨kt, nt, dt, st, lt, pt, capt, rfl, rfl, rfl, rfl, rfl, rfl, hkt, hnt, hdt, _, _, _⟩ := hta.open7
          obtain ⟨x, hx⟩ : ∃ x, addF a b nt dt = x := ⟨_, rfl⟩
          have hxe := step_okEnd 0 a b nt dt
          rw [show stepF 0 = addF from rfl, hx] at hxe
          obtain ⟨x1, x2, x3⟩ := x
          have HC := Lib.hid (fun W => addRef_any a b nt dt (x1, x2, x3) hx W ha hb hnt hdt)
          unfold three at HC
          have HT := Lib.hid ht
          have HXX := Lib.hid (And.intro hx hxe)
          clear hta hall ht hx hxe h2 h0 hbw ha hb hnt hdt hkt d0 d3 d4 c0 c3 c4
          have c1' : wr.drew.cell? ⟨w2.heap.size, 1, none⟩ = some (.int .i64 a) := c1
          have c2' : wr.drew.cell? ⟨w2.heap.size, 2, none⟩ = some (.int .i64 b) := c2
          have d1' : wr.drew.cell? ⟨bb, o + i * 5 + 1, none⟩ = some (.int .i64 nt) := d1
          have d2' : wr.drew.cell? ⟨bb, o + i * 5 + 2, none⟩ = some (.int .i64 dt) := d2
          go_wp2_with fail
          go_region_held3 (fun w' => w'.cell? ⟨w2.heap.size, 1, none⟩ = some (.int .i64 a) ∧ w'.cell? ⟨w2.heap.size, 2, none⟩ = some (.int .i64 b) ∧ w'.cell? ⟨bb, o + i * 5 + 1, none⟩ = some (.int .i64 nt) ∧ w'.cell? ⟨bb, o + i * 5 + 2, none⟩ = some (.int .i64 dt))
            (with_reducible (first | (refine ⟨?_, ?_, ?_, ?_⟩ <;> assumption)))
            (first
              | (go_at_call 82
                 with_reducible refine Calls.mono (HC.out _) ?_
                 rintro _ w5 ⟨rfl, hw⟩
                 have hb' : Below wr.heap.size wr w5 := hw ▸ below_drewN wr 1
                 replace c1 := cell_on hb' _ _ _ c1
                 replace c2 := cell_on hb' _ _ _ c2
                 replace d1 := cell_on hb' _ _ _ d1
                 replace d2 := cell_on hb' _ _ _ d2
                 have HB5 := Lib.hid hb'
                 clear hb' hw))
          have hk2 := block_on HB5.out HY.out.1
          have hk0 := block_on HB5.out HY.out.2.1
          have HK := Lib.hid (And.intro hk2 (And.intro hk0 (below_seq HY.out.2.2 HB5.out)))
          by_cases hz : x3 = 0
          · subst hz
            obtain ⟨c0, c1, c2, c3, c4⟩ := box_cells hk2
            have z0 := box_frozen hk2 0
            have z1 := box_frozen hk2 1
            have z2 := box_frozen hk2 2
            have z3 := box_frozen hk2 3
            have z4 := box_frozen hk2 4
            clear hk2 hk0 c1' c2' d1' d2' d1 d2
            go_wp2_with fail
            go_roundw
            case rel =>
              refine ⟨i + 1, x1, x2, by omega, by go_num, ?_, (i64_end HXX.out.2).1, (i64_end HXX.out.2).2, set_five HK.out.1, (set_five_other (by omega)).trans HK.out.2.1, set_five_below HK.out.2.2 (by omega)⟩
              have e : addF a b (Dt.node kt nt dt st lt).nm (Dt.node kt nt dt st lt).dn = (x1, x2, 0) := HXX.out.1
              rw [HF.out, thr_step HT.out, e, if_pos rfl]
            case measure => simp [intOf]; omega
          · have hq : (x3 != 0) = true := by rw [bne_iff_ne]; exact hz
            have hr : r = (0, 0, x3) := by
              have e : addF a b (Dt.node kt nt dt st lt).nm (Dt.node kt nt dt st lt).dn = (x1, x2, x3) := HXX.out.1
              rw [HF.out, thr_step HT.out, e, if_neg hz]
            have HRR := Lib.hid hr
            have HZ := Lib.hid hz
            obtain ⟨c0, c1, c2, c3, c4⟩ := box_cells hk0
            have z0 := box_frozen hk0 0
            have z1 := box_frozen hk0 1
            have z2 := box_frozen hk0 2
            have z3 := box_frozen hk0 3
            have z4 := box_frozen hk0 4
            clear hk2 hk0 hr hz c1' c2' d1' d2' d1 d2
            go_wp2_with fail
            refine bodyPost_ret (results_row1 rfl _ _ w.heap.size 37 _ (0, 0) _ _ rfl rfl (set_five HK.out.2.1) Try.underlying37 rfl Try.sizD) rfl ?_
            refine ⟨Or.inr (Or.inl ⟨HN.out, ?_, ?_⟩), set_five_below HK.out.2.2 (Nat.le_refl _)⟩
            · rw [HRR.out]; exact HZ.out
            · rw [HRR.out]; rfl
        · have hr : r = (a, b, 0) := by rw [HF.out, thr_stop (by omega)]
          have HRR := Lib.hid hr
          obtain ⟨e0, e1, e2, e3, e4⟩ := box_cells h0
          have z0 := box_frozen h0 0
          have z1 := box_frozen h0 1
          have z2 := box_frozen h0 2
          have z3 := box_frozen h0 3
          have z4 := box_frozen h0 4
          clear h2 h0 hr hbw
          go_wp2_with fail
          refine bodyPost_ret (results_row1 rfl _ _ w.heap.size 37 _ (0, 0) _ _ rfl rfl (set_five HY.out.2.1) Try.underlying37 rfl Try.sizD) rfl ?_
          refine ⟨Or.inr (Or.inr ⟨HN.out, ?_, ?_⟩), set_five_below HY.out.2.2 (Nat.le_refl _)⟩
          · rw [HRR.out]
          · rw [HRR.out]; rfl
end Go.Proofs.Ytdeelpagoffdjaa.Dat

/- The reference's sums, for one of the four. -/
namespace Go.Proofs.Ytdeelpagoffdjaa.Dat
open Go.RowKit
open Go.Proofs.Ytdeelpagoffdjaa (three addF subF mulF divF addRef_any subRef_any mulRef_any divRef_any)
open NumPlain
set_option linter.unusedVariables false

set_option maxHeartbeats 8000000 in
set_option maxRecDepth 100000 in
theorem rSumsMul_any (l : List Dt) (p : Option Addr) (cap : Nat) (w : World) (hlm : l.length ≤ maxLen) (hl : l = [] ∨ ∃ b o, p = some ⟨b, o, none⟩ ∧ Dt.AllAt w l b o) :
    Calls Try.prog 62 #[.int .i64 2, .slice p l.length cap] w fun e w' =>
      ((l.all isNum = false ∧ e = .returned (.tuple #[leafV 0 0 0, .int .i64 1])) ∨
       (l.all isNum = true ∧ (thr mulF 1 1 l).2.2 ≠ 0 ∧ e = .returned (.tuple #[leafV 0 0 0, .int .i64 (thr mulF 1 1 l).2.2])) ∨
       (l.all isNum = true ∧ (thr mulF 1 1 l).2.2 = 0 ∧ e = .returned (.tuple #[leafV 0 (thr mulF 1 1 l).1 (thr mulF 1 1 l).2.1, .int .i64 0]))) ∧ Below w.heap.size w w' := by
  unfold maxLen at hlm
  have HL := Lib.hid hl; clear hl
  unfold leafV
  obtain ⟨r, hr⟩ : ∃ r, thr mulF 1 1 l = r := ⟨_, rfl⟩
  rw [hr]
  have HR := Lib.hid hr; clear hr
  go_enter Try.func62, Try.ntmps62
  go_wp2_with fail
  go_loopw [6] (fun x wr => ∃ (i : Nat), i ≤ l.length ∧ x = .int .i64 i ∧ (∀ j t, j < i → l[j]? = some t → isNum t = true) ∧ wr.heap[w.heap.size]? = some (.cells #[.int .i64 0, .int .i64 0, .int .i64 0, .string ⟨#[]⟩, .slice none 0 0] 37 (0, 0)) ∧ Below w.heap.size w wr) (fun x _ => l.length - (intOf x).toNat)
  case atStart => exact ⟨0, by omega, rfl, fun j t hj => absurd hj (by omega), at_new w _, box_below w _⟩
  case round =>
    obtain ⟨i, hi, rfl, hall0, hx0, hb⟩ := hrel
    have HA := Lib.hid hall0
    have HX := Lib.hid (And.intro hx0 hb)
    clear hall0
    by_cases hlt : i < l.length
    · obtain ⟨t, ht⟩ : ∃ t, l[i]? = some t := ⟨l[i], by simp [hlt]⟩
      rcases HL.out with he | ⟨bb, o, rfl, hall⟩
      · rw [he] at hlt; simp at hlt
      obtain ⟨v0, v1, v2, v3, v4, d0, d1, d2, d3, d4, hta⟩ := (hall.on (cell_on hb)).kid ht
      obtain ⟨kt, nt, dt, st, lt, pt, capt, rfl, rfl, rfl, rfl, rfl, rfl, hkt, hnt, hdt, _, _, _⟩ := hta.open7
      have HT := Lib.hid ht
      by_cases hk : kt = 0
      · have hq : (kt != 0) = false := by rw [bne_eq_false_iff_eq]; exact hk
        have HK := Lib.hid hk
        clear hta hall ht hk hx0 hb
        go_wp2_with fail
        go_roundw
        case rel =>
          refine ⟨i + 1, by omega, by go_num, fun j u hj hu => ?_, HX.out.1, HX.out.2⟩
          by_cases hji : j = i
          · subst hji
            rw [HT.out] at hu
            obtain rfl := Option.some.inj hu
            show decide (kt = 0) = true
            rw [HK.out]; rfl
          · exact HA.out j u (by omega) hu
        case measure => simp [intOf]; omega
      · have hq : (kt != 0) = true := by rw [bne_iff_ne]; exact hk
        have HK := Lib.hid hk
        obtain ⟨c0, c1, c2, c3, c4⟩ := box_cells hx0
        have z0 := box_frozen hx0 0
        have z1 := box_frozen hx0 1
        have z2 := box_frozen hx0 2
        have z3 := box_frozen hx0 3
        have z4 := box_frozen hx0 4
        clear hta hall ht hk hx0 hb
        go_wp2_with fail
        refine bodyPost_ret (results_row1 rfl _ _ w.heap.size 37 _ (0, 0) _ _ rfl rfl (set_five HX.out.1) Try.underlying37 rfl Try.sizD) rfl ?_
        refine ⟨Or.inl ⟨?_, rfl⟩, set_five_below HX.out.2 (Nat.le_refl _)⟩
        rw [Bool.eq_false_iff]
        intro h
        have h2 := List.all_eq_true.1 h _ (List.mem_of_getElem? HT.out)
        exact HK.out (of_decide_eq_true h2)
    · have hnum : l.all isNum = true := by
        rw [List.all_eq_true]
        intro t ht
        obtain ⟨j, hj⟩ := List.mem_iff_getElem?.1 ht
        exact HA.out j t (by have := (List.getElem?_eq_some_iff.1 hj).1; omega) hj
      have HN := Lib.hid hnum
      obtain ⟨c0, c1, c2, c3, c4⟩ := box_cells hx0
      have N0 := rNumber_any 0 wr
      unfold leafV at N0
      have HN0 := Lib.hid N0
      clear N0 hnum c0 c1 c2 c3 c4 hx0 hb HA
      go_wp2_with fail
      refine HN0.out.mono ?_
      rintro _ w2 ⟨rfl, hb2⟩
      have hb3 := below_seq hb2 (box_below w2 (Obj.cells #[.int .i64 0, .int .i64 0, .int .i64 1, .string ⟨#[]⟩, .slice none 0 0] 37))
      have hn3 := at_new w2 (Obj.cells #[.int .i64 0, .int .i64 0, .int .i64 1, .string ⟨#[]⟩, .slice none 0 0] 37)
      have hlt2 : w.heap.size < w2.heap.size := lt_of_block (block_on hb2 HX.out.1)
      have N1 := rNumber_any 1 (w2.alloc (Obj.cells #[.int .i64 0, .int .i64 0, .int .i64 1, .string ⟨#[]⟩, .slice none 0 0] 37))
      unfold leafV at N1
      have HN1 := Lib.hid (And.intro N1 (And.intro hn3 (And.intro (block_on hb3 HX.out.1) (below_seq HX.out.2 hb3))))
      clear N1 hn3 hb3 hb2
      go_wp2_with fail
      refine HN1.out.1.mono ?_
      rintro _ w4 ⟨rfl, hb4⟩
      have hn4 := block_on hb4 HN1.out.2.1
      have HW4 := Lib.hid (And.intro hn4 (And.intro (block_on hb4 HN1.out.2.2.1) (below_seq HN1.out.2.2.2 hb4)))
      obtain ⟨c0, c1, c2, c3, c4⟩ := box_cells hn4
      have z0 := box_frozen hn4 0
      have z1 := box_frozen hn4 1
      have z2 := box_frozen hn4 2
      have z3 := box_frozen hn4 3
      have z4 := box_frozen hn4 4
      clear hn4 hb4
      have hset := set_five (b0 := .int .i64 0) (b1 := .int .i64 1) (b2 := .int .i64 1) (b3 := .string ⟨#[]⟩) (b4 := .slice none 0 0) HW4.out.1
      have HST := Lib.hid (And.intro hset (And.intro ((set_five_other (b0 := .int .i64 0) (b1 := .int .i64 1) (b2 := .int .i64 1) (b3 := .string ⟨#[]⟩) (b4 := .slice none 0 0) (show w.heap.size ≠ w2.heap.size by omega)).trans HW4.out.2.1) (set_five_below (b0 := .int .i64 0) (b1 := .int .i64 1) (b2 := .int .i64 1) (b3 := .string ⟨#[]⟩) (b4 := .slice none 0 0) HW4.out.2.2 (Nat.le_of_lt hlt2))))
      clear hset
      go_wp2_with fail
      go_loopw [8] (fun x wr => ∃ (i : Nat) (a b : Int), i ≤ l.length ∧ x = .int .i64 i ∧ r = thr mulF a b (l.drop i) ∧ I64 a ∧ I64 b ∧ wr.heap[w2.heap.size]? = some (.cells #[.int .i64 0, .int .i64 a, .int .i64 b, .string ⟨#[]⟩, .slice none 0 0] 37 (0, 0)) ∧ wr.heap[w.heap.size]? = some (.cells #[.int .i64 0, .int .i64 0, .int .i64 0, .string ⟨#[]⟩, .slice none 0 0] 37 (0, 0)) ∧ Below w.heap.size w wr) (fun x _ => l.length - (intOf x).toNat)
      case atStart => exact ⟨0, 1, 1, by omega, rfl, by rw [← HR.out]; simp, by unfold I64; omega, by unfold I64; omega, HST.out.1, HST.out.2.1, HST.out.2.2⟩
      case round =>
        obtain ⟨i, a, b, hi, rfl, hf, ha, hb, h2, h0, hbw⟩ := hrel
        have HF := Lib.hid hf
        have HY := Lib.hid (And.intro h2 (And.intro h0 hbw))
        have hszw := lt_of_block h2
        obtain ⟨c0, c1, c2, c3, c4⟩ := box_cells h2
        clear hf
        by_cases hlt : i < l.length
        · obtain ⟨t, ht⟩ : ∃ t, l[i]? = some t := ⟨l[i], by simp [hlt]⟩
          rcases HL.out with he | ⟨bb, o, rfl, hall⟩
          · rw [he] at hlt; simp at hlt
          obtain ⟨v0, v1, v2, v3, v4, d0, d1, d2, d3, d4, hta⟩ := (hall.on (cell_on hbw)).kid ht
          obtain ⟨kt, nt, dt, st, lt, pt, capt, rfl, rfl, rfl, rfl, rfl, rfl, hkt, hnt, hdt, _, _, _⟩ := hta.open7
          obtain ⟨x, hx⟩ : ∃ x, mulF a b nt dt = x := ⟨_, rfl⟩
          have hxe := step_okEnd 2 a b nt dt
          rw [show stepF 2 = mulF from rfl, hx] at hxe
          obtain ⟨x1, x2, x3⟩ := x
          have HC := Lib.hid (fun W => mulRef_any a b nt dt (x1, x2, x3) hx W ha hb hnt hdt)
          unfold three at HC
          have HT := Lib.hid ht
          have HXX := Lib.hid (And.intro hx hxe)
          clear hta hall ht hx hxe h2 h0 hbw ha hb hnt hdt hkt d0 d3 d4 c0 c3 c4
          have c1' : wr.drew.cell? ⟨w2.heap.size, 1, none⟩ = some (.int .i64 a) := c1
          have c2' : wr.drew.cell? ⟨w2.heap.size, 2, none⟩ = some (.int .i64 b) := c2
          have d1' : wr.drew.cell? ⟨bb, o + i * 5 + 1, none⟩ = some (.int .i64 nt) := d1
          have d2' : wr.drew.cell? ⟨bb, o + i * 5 + 2, none⟩ = some (.int .i64 dt) := d2
          go_wp2_with fail
          go_region_held3 (fun w' => w'.cell? ⟨w2.heap.size, 1, none⟩ = some (.int .i64 a) ∧ w'.cell? ⟨w2.heap.size, 2, none⟩ = some (.int .i64 b) ∧ w'.cell? ⟨bb, o + i * 5 + 1, none⟩ = some (.int .i64 nt) ∧ w'.cell? ⟨bb, o + i * 5 + 2, none⟩ = some (.int .i64 dt))
            (with_reducible (first | (refine ⟨?_, ?_, ?_, ?_⟩ <;> assumption)))
            (first
              | (go_at_call 84
                 with_reducible refine Calls.mono (HC.out _) ?_
                 rintro _ w5 ⟨rfl, hw⟩
                 have hb' : Below wr.heap.size wr w5 := by obtain ⟨k, hk⟩ := hw; rw [hk]; exact below_drew (below_drewN _ _)
                 replace c1 := cell_on hb' _ _ _ c1
                 replace c2 := cell_on hb' _ _ _ c2
                 replace d1 := cell_on hb' _ _ _ d1
                 replace d2 := cell_on hb' _ _ _ d2
                 have HB5 := Lib.hid hb'
                 clear hb' hw))
          have hk2 := block_on HB5.out HY.out.1
          have hk0 := block_on HB5.out HY.out.2.1
          have HK := Lib.hid (And.intro hk2 (And.intro hk0 (below_seq HY.out.2.2 HB5.out)))
          by_cases hz : x3 = 0
          · subst hz
            obtain ⟨c0, c1, c2, c3, c4⟩ := box_cells hk2
            have z0 := box_frozen hk2 0
            have z1 := box_frozen hk2 1
            have z2 := box_frozen hk2 2
            have z3 := box_frozen hk2 3
            have z4 := box_frozen hk2 4
            clear hk2 hk0 c1' c2' d1' d2' d1 d2
            go_wp2_with fail
            go_roundw
            case rel =>
              refine ⟨i + 1, x1, x2, by omega, by go_num, ?_, (i64_end HXX.out.2).1, (i64_end HXX.out.2).2, set_five HK.out.1, (set_five_other (by omega)).trans HK.out.2.1, set_five_below HK.out.2.2 (by omega)⟩
              have e : mulF a b (Dt.node kt nt dt st lt).nm (Dt.node kt nt dt st lt).dn = (x1, x2, 0) := HXX.out.1
              rw [HF.out, thr_step HT.out, e, if_pos rfl]
            case measure => simp [intOf]; omega
          · have hq : (x3 != 0) = true := by rw [bne_iff_ne]; exact hz
            have hr : r = (0, 0, x3) := by
              have e : mulF a b (Dt.node kt nt dt st lt).nm (Dt.node kt nt dt st lt).dn = (x1, x2, x3) := HXX.out.1
              rw [HF.out, thr_step HT.out, e, if_neg hz]
            have HRR := Lib.hid hr
            have HZ := Lib.hid hz
            obtain ⟨c0, c1, c2, c3, c4⟩ := box_cells hk0
            have z0 := box_frozen hk0 0
            have z1 := box_frozen hk0 1
            have z2 := box_frozen hk0 2
            have z3 := box_frozen hk0 3
            have z4 := box_frozen hk0 4
            clear hk2 hk0 hr hz c1' c2' d1' d2' d1 d2
            go_wp2_with fail
            refine bodyPost_ret (results_row1 rfl _ _ w.heap.size 37 _ (0, 0) _ _ rfl rfl (set_five HK.out.2.1) Try.underlying37 rfl Try.sizD) rfl ?_
            refine ⟨Or.inr (Or.inl ⟨HN.out, ?_, ?_⟩), set_five_below HK.out.2.2 (Nat.le_refl _)⟩
            · rw [HRR.out]; exact HZ.out
            · rw [HRR.out]; rfl
        · have hr : r = (a, b, 0) := by rw [HF.out, thr_stop (by omega)]
          have HRR := Lib.hid hr
          obtain ⟨e0, e1, e2, e3, e4⟩ := box_cells h0
          have z0 := box_frozen h0 0
          have z1 := box_frozen h0 1
          have z2 := box_frozen h0 2
          have z3 := box_frozen h0 3
          have z4 := box_frozen h0 4
          clear h2 h0 hr hbw
          go_wp2_with fail
          refine bodyPost_ret (results_row1 rfl _ _ w.heap.size 37 _ (0, 0) _ _ rfl rfl (set_five HY.out.2.1) Try.underlying37 rfl Try.sizD) rfl ?_
          refine ⟨Or.inr (Or.inr ⟨HN.out, ?_, ?_⟩), set_five_below HY.out.2.2 (Nat.le_refl _)⟩
          · rw [HRR.out]
          · rw [HRR.out]; rfl
end Go.Proofs.Ytdeelpagoffdjaa.Dat

/- The reference's sums, for one of the four. -/
namespace Go.Proofs.Ytdeelpagoffdjaa.Dat
open Go.RowKit
open Go.Proofs.Ytdeelpagoffdjaa (three addF subF mulF divF addRef_any subRef_any mulRef_any divRef_any)
open NumPlain
set_option linter.unusedVariables false

set_option maxHeartbeats 8000000 in
set_option maxRecDepth 100000 in
theorem rSumsSub_any (l : List Dt) (p : Option Addr) (cap : Nat) (w : World) (hone : l.length ≤ 1) (hlm : l.length ≤ maxLen) (hl : l = [] ∨ ∃ b o, p = some ⟨b, o, none⟩ ∧ Dt.AllAt w l b o) :
    Calls Try.prog 62 #[.int .i64 1, .slice p l.length cap] w fun e w' =>
      ((l.all isNum = false ∧ e = .returned (.tuple #[leafV 0 0 0, .int .i64 1])) ∨
       (l.all isNum = true ∧ (thr subF 0 1 l).2.2 ≠ 0 ∧ e = .returned (.tuple #[leafV 0 0 0, .int .i64 (thr subF 0 1 l).2.2])) ∨
       (l.all isNum = true ∧ (thr subF 0 1 l).2.2 = 0 ∧ e = .returned (.tuple #[leafV 0 (thr subF 0 1 l).1 (thr subF 0 1 l).2.1, .int .i64 0]))) ∧ Below w.heap.size w w' := by
  unfold maxLen at hlm
  have HL := Lib.hid hl; clear hl
  unfold leafV
  obtain ⟨r, hr⟩ : ∃ r, thr subF 0 1 l = r := ⟨_, rfl⟩
  rw [hr]
  have HR := Lib.hid hr; clear hr
  go_enter Try.func62, Try.ntmps62
  go_wp2_with fail
  go_loopw [6] (fun x wr => ∃ (i : Nat), i ≤ l.length ∧ x = .int .i64 i ∧ (∀ j t, j < i → l[j]? = some t → isNum t = true) ∧ wr.heap[w.heap.size]? = some (.cells #[.int .i64 0, .int .i64 0, .int .i64 0, .string ⟨#[]⟩, .slice none 0 0] 37 (0, 0)) ∧ Below w.heap.size w wr) (fun x _ => l.length - (intOf x).toNat)
  case atStart => exact ⟨0, by omega, rfl, fun j t hj => absurd hj (by omega), at_new w _, box_below w _⟩
  case round =>
    obtain ⟨i, hi, rfl, hall0, hx0, hb⟩ := hrel
    have HA := Lib.hid hall0
    have HX := Lib.hid (And.intro hx0 hb)
    clear hall0
    by_cases hlt : i < l.length
    · obtain ⟨t, ht⟩ : ∃ t, l[i]? = some t := ⟨l[i], by simp [hlt]⟩
      rcases HL.out with he | ⟨bb, o, rfl, hall⟩
      · rw [he] at hlt; simp at hlt
      obtain ⟨v0, v1, v2, v3, v4, d0, d1, d2, d3, d4, hta⟩ := (hall.on (cell_on hb)).kid ht
      obtain ⟨kt, nt, dt, st, lt, pt, capt, rfl, rfl, rfl, rfl, rfl, rfl, hkt, hnt, hdt, _, _, _⟩ := hta.open7
      have HT := Lib.hid ht
      by_cases hk : kt = 0
      · have hq : (kt != 0) = false := by rw [bne_eq_false_iff_eq]; exact hk
        have HK := Lib.hid hk
        clear hta hall ht hk hx0 hb
        go_wp2_with fail
        go_roundw
        case rel =>
          refine ⟨i + 1, by omega, by go_num, fun j u hj hu => ?_, HX.out.1, HX.out.2⟩
          by_cases hji : j = i
          · subst hji
            rw [HT.out] at hu
            obtain rfl := Option.some.inj hu
            show decide (kt = 0) = true
            rw [HK.out]; rfl
          · exact HA.out j u (by omega) hu
        case measure => simp [intOf]; omega
      · have hq : (kt != 0) = true := by rw [bne_iff_ne]; exact hk
        have HK := Lib.hid hk
        obtain ⟨c0, c1, c2, c3, c4⟩ := box_cells hx0
        have z0 := box_frozen hx0 0
        have z1 := box_frozen hx0 1
        have z2 := box_frozen hx0 2
        have z3 := box_frozen hx0 3
        have z4 := box_frozen hx0 4
        clear hta hall ht hk hx0 hb
        go_wp2_with fail
        refine bodyPost_ret (results_row1 rfl _ _ w.heap.size 37 _ (0, 0) _ _ rfl rfl (set_five HX.out.1) Try.underlying37 rfl Try.sizD) rfl ?_
        refine ⟨Or.inl ⟨?_, rfl⟩, set_five_below HX.out.2 (Nat.le_refl _)⟩
        rw [Bool.eq_false_iff]
        intro h
        have h2 := List.all_eq_true.1 h _ (List.mem_of_getElem? HT.out)
        exact HK.out (of_decide_eq_true h2)
    · have hnum : l.all isNum = true := by
        rw [List.all_eq_true]
        intro t ht
        obtain ⟨j, hj⟩ := List.mem_iff_getElem?.1 ht
        exact HA.out j t (by have := (List.getElem?_eq_some_iff.1 hj).1; omega) hj
      have HN := Lib.hid hnum
      obtain ⟨c0, c1, c2, c3, c4⟩ := box_cells hx0
      have N0 := rNumber_any 0 wr
      unfold leafV at N0
      have HN0 := Lib.hid N0
      clear N0 hnum c0 c1 c2 c3 c4 hx0 hb HA
      go_wp2_with fail
      refine HN0.out.mono ?_
      rintro _ w2 ⟨rfl, hb2⟩
      have hb3 := below_seq hb2 (box_below w2 (Obj.cells #[.int .i64 0, .int .i64 0, .int .i64 1, .string ⟨#[]⟩, .slice none 0 0] 37))
      have hn3 := at_new w2 (Obj.cells #[.int .i64 0, .int .i64 0, .int .i64 1, .string ⟨#[]⟩, .slice none 0 0] 37)
      have hlt2 : w.heap.size < w2.heap.size := lt_of_block (block_on hb2 HX.out.1)
      have HST := Lib.hid (And.intro hn3 (And.intro (block_on hb3 HX.out.1) (below_seq HX.out.2 hb3)))
      clear hb2 hb3 hn3
      go_wp2_with fail
      go_loopw [8] (fun x wr => ∃ (i : Nat) (a b : Int), i ≤ l.length ∧ x = .int .i64 i ∧ r = thr subF a b (l.drop i) ∧ I64 a ∧ I64 b ∧ wr.heap[w2.heap.size]? = some (.cells #[.int .i64 0, .int .i64 a, .int .i64 b, .string ⟨#[]⟩, .slice none 0 0] 37 (0, 0)) ∧ wr.heap[w.heap.size]? = some (.cells #[.int .i64 0, .int .i64 0, .int .i64 0, .string ⟨#[]⟩, .slice none 0 0] 37 (0, 0)) ∧ Below w.heap.size w wr) (fun x _ => l.length - (intOf x).toNat)
      case atStart => exact ⟨0, 0, 1, by omega, rfl, by rw [← HR.out]; simp, by unfold I64; omega, by unfold I64; omega, HST.out.1, HST.out.2.1, HST.out.2.2⟩
      case round =>
        obtain ⟨i, a, b, hi, rfl, hf, ha, hb, h2, h0, hbw⟩ := hrel
        have HF := Lib.hid hf
        have HY := Lib.hid (And.intro h2 (And.intro h0 hbw))
        have hszw := lt_of_block h2
        obtain ⟨c0, c1, c2, c3, c4⟩ := box_cells h2
        clear hf
        by_cases hlt : i < l.length
        · obtain ⟨t, ht⟩ : ∃ t, l[i]? = some t := ⟨l[i], by simp [hlt]⟩
          rcases HL.out with he | ⟨bb, o, rfl, hall⟩
          · rw [he] at hlt; simp at hlt
          obtain ⟨v0, v1, v2, v3, v4, d0, d1, d2, d3, d4, hta⟩ := (hall.on (cell_on hbw)).kid ht
          obtain ⟨kt, nt, dt, st, lt, pt, capt, rfl, rfl, rfl, rfl, rfl, rfl, hkt, hnt, hdt, _, _, _⟩ := hta.open7
          obtain ⟨x, hx⟩ : ∃ x, subF a b nt dt = x := ⟨_, rfl⟩
          have hxe := step_okEnd 1 a b nt dt
          rw [show stepF 1 = subF from rfl, hx] at hxe
          obtain ⟨x1, x2, x3⟩ := x
          have HC := Lib.hid (fun W => subRef_any a b nt dt (x1, x2, x3) hx W ha hb hnt hdt)
          unfold three at HC
          have HT := Lib.hid ht
          have HXX := Lib.hid (And.intro hx hxe)
          clear hta hall ht hx hxe h2 h0 hbw ha hb hnt hdt hkt d0 d3 d4 c0 c3 c4
          have c1' : wr.drew.cell? ⟨w2.heap.size, 1, none⟩ = some (.int .i64 a) := c1
          have c2' : wr.drew.cell? ⟨w2.heap.size, 2, none⟩ = some (.int .i64 b) := c2
          have d1' : wr.drew.cell? ⟨bb, o + i * 5 + 1, none⟩ = some (.int .i64 nt) := d1
          have d2' : wr.drew.cell? ⟨bb, o + i * 5 + 2, none⟩ = some (.int .i64 dt) := d2
          go_wp2_with fail
          go_region_held3 (fun w' => w'.cell? ⟨w2.heap.size, 1, none⟩ = some (.int .i64 a) ∧ w'.cell? ⟨w2.heap.size, 2, none⟩ = some (.int .i64 b) ∧ w'.cell? ⟨bb, o + i * 5 + 1, none⟩ = some (.int .i64 nt) ∧ w'.cell? ⟨bb, o + i * 5 + 2, none⟩ = some (.int .i64 dt))
            (with_reducible (first | (refine ⟨?_, ?_, ?_, ?_⟩ <;> assumption)))
            (first
              | (go_at_call 83
                 with_reducible refine Calls.mono (HC.out _) ?_
                 rintro _ w5 ⟨rfl, hw⟩
                 have hb' : Below wr.heap.size wr w5 := hw ▸ below_drewN wr 1
                 replace c1 := cell_on hb' _ _ _ c1
                 replace c2 := cell_on hb' _ _ _ c2
                 replace d1 := cell_on hb' _ _ _ d1
                 replace d2 := cell_on hb' _ _ _ d2
                 have HB5 := Lib.hid hb'
                 clear hb' hw))
          have hk2 := block_on HB5.out HY.out.1
          have hk0 := block_on HB5.out HY.out.2.1
          have HK := Lib.hid (And.intro hk2 (And.intro hk0 (below_seq HY.out.2.2 HB5.out)))
          by_cases hz : x3 = 0
          · subst hz
            obtain ⟨c0, c1, c2, c3, c4⟩ := box_cells hk2
            have z0 := box_frozen hk2 0
            have z1 := box_frozen hk2 1
            have z2 := box_frozen hk2 2
            have z3 := box_frozen hk2 3
            have z4 := box_frozen hk2 4
            clear hk2 hk0 c1' c2' d1' d2' d1 d2
            go_wp2_with fail
            go_roundw
            case rel =>
              refine ⟨i + 1, x1, x2, by omega, by go_num, ?_, (i64_end HXX.out.2).1, (i64_end HXX.out.2).2, set_five HK.out.1, (set_five_other (by omega)).trans HK.out.2.1, set_five_below HK.out.2.2 (by omega)⟩
              have e : subF a b (Dt.node kt nt dt st lt).nm (Dt.node kt nt dt st lt).dn = (x1, x2, 0) := HXX.out.1
              rw [HF.out, thr_step HT.out, e, if_pos rfl]
            case measure => simp [intOf]; omega
          · have hq : (x3 != 0) = true := by rw [bne_iff_ne]; exact hz
            have hr : r = (0, 0, x3) := by
              have e : subF a b (Dt.node kt nt dt st lt).nm (Dt.node kt nt dt st lt).dn = (x1, x2, x3) := HXX.out.1
              rw [HF.out, thr_step HT.out, e, if_neg hz]
            have HRR := Lib.hid hr
            have HZ := Lib.hid hz
            obtain ⟨c0, c1, c2, c3, c4⟩ := box_cells hk0
            have z0 := box_frozen hk0 0
            have z1 := box_frozen hk0 1
            have z2 := box_frozen hk0 2
            have z3 := box_frozen hk0 3
            have z4 := box_frozen hk0 4
            clear hk2 hk0 hr hz c1' c2' d1' d2' d1 d2
            go_wp2_with fail
            refine bodyPost_ret (results_row1 rfl _ _ w.heap.size 37 _ (0, 0) _ _ rfl rfl (set_five HK.out.2.1) Try.underlying37 rfl Try.sizD) rfl ?_
            refine ⟨Or.inr (Or.inl ⟨HN.out, ?_, ?_⟩), set_five_below HK.out.2.2 (Nat.le_refl _)⟩
            · rw [HRR.out]; exact HZ.out
            · rw [HRR.out]; rfl
        · have hr : r = (a, b, 0) := by rw [HF.out, thr_stop (by omega)]
          have HRR := Lib.hid hr
          obtain ⟨e0, e1, e2, e3, e4⟩ := box_cells h0
          have z0 := box_frozen h0 0
          have z1 := box_frozen h0 1
          have z2 := box_frozen h0 2
          have z3 := box_frozen h0 3
          have z4 := box_frozen h0 4
          clear h2 h0 hr hbw
          go_wp2_with fail
          refine bodyPost_ret (results_row1 rfl _ _ w.heap.size 37 _ (0, 0) _ _ rfl rfl (set_five HY.out.2.1) Try.underlying37 rfl Try.sizD) rfl ?_
          refine ⟨Or.inr (Or.inr ⟨HN.out, ?_, ?_⟩), set_five_below HY.out.2.2 (Nat.le_refl _)⟩
          · rw [HRR.out]
          · rw [HRR.out]; rfl
end Go.Proofs.Ytdeelpagoffdjaa.Dat

/- The reference's sums, for one of the four. -/
namespace Go.Proofs.Ytdeelpagoffdjaa.Dat
open Go.RowKit
open Go.Proofs.Ytdeelpagoffdjaa (three addF subF mulF divF addRef_any subRef_any mulRef_any divRef_any)
open NumPlain
set_option linter.unusedVariables false

set_option maxHeartbeats 8000000 in
set_option maxRecDepth 100000 in
theorem rSumsDiv_any (l : List Dt) (p : Option Addr) (cap : Nat) (w : World) (hone : l.length ≤ 1) (hlm : l.length ≤ maxLen) (hl : l = [] ∨ ∃ b o, p = some ⟨b, o, none⟩ ∧ Dt.AllAt w l b o) :
    Calls Try.prog 62 #[.int .i64 3, .slice p l.length cap] w fun e w' =>
      ((l.all isNum = false ∧ e = .returned (.tuple #[leafV 0 0 0, .int .i64 1])) ∨
       (l.all isNum = true ∧ (thr divF 1 1 l).2.2 ≠ 0 ∧ e = .returned (.tuple #[leafV 0 0 0, .int .i64 (thr divF 1 1 l).2.2])) ∨
       (l.all isNum = true ∧ (thr divF 1 1 l).2.2 = 0 ∧ e = .returned (.tuple #[leafV 0 (thr divF 1 1 l).1 (thr divF 1 1 l).2.1, .int .i64 0]))) ∧ Below w.heap.size w w' := by
  unfold maxLen at hlm
  have HL := Lib.hid hl; clear hl
  unfold leafV
  obtain ⟨r, hr⟩ : ∃ r, thr divF 1 1 l = r := ⟨_, rfl⟩
  rw [hr]
  have HR := Lib.hid hr; clear hr
  go_enter Try.func62, Try.ntmps62
  go_wp2_with fail
  go_loopw [6] (fun x wr => ∃ (i : Nat), i ≤ l.length ∧ x = .int .i64 i ∧ (∀ j t, j < i → l[j]? = some t → isNum t = true) ∧ wr.heap[w.heap.size]? = some (.cells #[.int .i64 0, .int .i64 0, .int .i64 0, .string ⟨#[]⟩, .slice none 0 0] 37 (0, 0)) ∧ Below w.heap.size w wr) (fun x _ => l.length - (intOf x).toNat)
  case atStart => exact ⟨0, by omega, rfl, fun j t hj => absurd hj (by omega), at_new w _, box_below w _⟩
  case round =>
    obtain ⟨i, hi, rfl, hall0, hx0, hb⟩ := hrel
    have HA := Lib.hid hall0
    have HX := Lib.hid (And.intro hx0 hb)
    clear hall0
    by_cases hlt : i < l.length
    · obtain ⟨t, ht⟩ : ∃ t, l[i]? = some t := ⟨l[i], by simp [hlt]⟩
      rcases HL.out with he | ⟨bb, o, rfl, hall⟩
      · rw [he] at hlt; simp at hlt
      obtain ⟨v0, v1, v2, v3, v4, d0, d1, d2, d3, d4, hta⟩ := (hall.on (cell_on hb)).kid ht
      obtain ⟨kt, nt, dt, st, lt, pt, capt, rfl, rfl, rfl, rfl, rfl, rfl, hkt, hnt, hdt, _, _, _⟩ := hta.open7
      have HT := Lib.hid ht
      by_cases hk : kt = 0
      · have hq : (kt != 0) = false := by rw [bne_eq_false_iff_eq]; exact hk
        have HK := Lib.hid hk
        clear hta hall ht hk hx0 hb
        go_wp2_with fail
        go_roundw
        case rel =>
          refine ⟨i + 1, by omega, by go_num, fun j u hj hu => ?_, HX.out.1, HX.out.2⟩
          by_cases hji : j = i
          · subst hji
            rw [HT.out] at hu
            obtain rfl := Option.some.inj hu
            show decide (kt = 0) = true
            rw [HK.out]; rfl
          · exact HA.out j u (by omega) hu
        case measure => simp [intOf]; omega
      · have hq : (kt != 0) = true := by rw [bne_iff_ne]; exact hk
        have HK := Lib.hid hk
        obtain ⟨c0, c1, c2, c3, c4⟩ := box_cells hx0
        have z0 := box_frozen hx0 0
        have z1 := box_frozen hx0 1
        have z2 := box_frozen hx0 2
        have z3 := box_frozen hx0 3
        have z4 := box_frozen hx0 4
        clear hta hall ht hk hx0 hb
        go_wp2_with fail
        refine bodyPost_ret (results_row1 rfl _ _ w.heap.size 37 _ (0, 0) _ _ rfl rfl (set_five HX.out.1) Try.underlying37 rfl Try.sizD) rfl ?_
        refine ⟨Or.inl ⟨?_, rfl⟩, set_five_below HX.out.2 (Nat.le_refl _)⟩
        rw [Bool.eq_false_iff]
        intro h
        have h2 := List.all_eq_true.1 h _ (List.mem_of_getElem? HT.out)
        exact HK.out (of_decide_eq_true h2)
    · have hnum : l.all isNum = true := by
        rw [List.all_eq_true]
        intro t ht
        obtain ⟨j, hj⟩ := List.mem_iff_getElem?.1 ht
        exact HA.out j t (by have := (List.getElem?_eq_some_iff.1 hj).1; omega) hj
      have HN := Lib.hid hnum
      obtain ⟨c0, c1, c2, c3, c4⟩ := box_cells hx0
      have N0 := rNumber_any 0 wr
      unfold leafV at N0
      have HN0 := Lib.hid N0
      clear N0 hnum c0 c1 c2 c3 c4 hx0 hb HA
      go_wp2_with fail
      refine HN0.out.mono ?_
      rintro _ w2 ⟨rfl, hb2⟩
      have hb3 := below_seq hb2 (box_below w2 (Obj.cells #[.int .i64 0, .int .i64 0, .int .i64 1, .string ⟨#[]⟩, .slice none 0 0] 37))
      have hn3 := at_new w2 (Obj.cells #[.int .i64 0, .int .i64 0, .int .i64 1, .string ⟨#[]⟩, .slice none 0 0] 37)
      have hlt2 : w.heap.size < w2.heap.size := lt_of_block (block_on hb2 HX.out.1)
      have N1 := rNumber_any 1 (w2.alloc (Obj.cells #[.int .i64 0, .int .i64 0, .int .i64 1, .string ⟨#[]⟩, .slice none 0 0] 37))
      unfold leafV at N1
      have HN1 := Lib.hid (And.intro N1 (And.intro hn3 (And.intro (block_on hb3 HX.out.1) (below_seq HX.out.2 hb3))))
      clear N1 hn3 hb3 hb2
      go_wp2_with fail
      refine HN1.out.1.mono ?_
      rintro _ w4 ⟨rfl, hb4⟩
      have hn4 := block_on hb4 HN1.out.2.1
      have HW4 := Lib.hid (And.intro hn4 (And.intro (block_on hb4 HN1.out.2.2.1) (below_seq HN1.out.2.2.2 hb4)))
      obtain ⟨c0, c1, c2, c3, c4⟩ := box_cells hn4
      have z0 := box_frozen hn4 0
      have z1 := box_frozen hn4 1
      have z2 := box_frozen hn4 2
      have z3 := box_frozen hn4 3
      have z4 := box_frozen hn4 4
      clear hn4 hb4
      have hset := set_five (b0 := .int .i64 0) (b1 := .int .i64 1) (b2 := .int .i64 1) (b3 := .string ⟨#[]⟩) (b4 := .slice none 0 0) HW4.out.1
      have HST := Lib.hid (And.intro hset (And.intro ((set_five_other (b0 := .int .i64 0) (b1 := .int .i64 1) (b2 := .int .i64 1) (b3 := .string ⟨#[]⟩) (b4 := .slice none 0 0) (show w.heap.size ≠ w2.heap.size by omega)).trans HW4.out.2.1) (set_five_below (b0 := .int .i64 0) (b1 := .int .i64 1) (b2 := .int .i64 1) (b3 := .string ⟨#[]⟩) (b4 := .slice none 0 0) HW4.out.2.2 (Nat.le_of_lt hlt2))))
      clear hset
      go_wp2_with fail
      go_loopw [8] (fun x wr => ∃ (i : Nat) (a b : Int), i ≤ l.length ∧ x = .int .i64 i ∧ r = thr divF a b (l.drop i) ∧ I64 a ∧ I64 b ∧ wr.heap[w2.heap.size]? = some (.cells #[.int .i64 0, .int .i64 a, .int .i64 b, .string ⟨#[]⟩, .slice none 0 0] 37 (0, 0)) ∧ wr.heap[w.heap.size]? = some (.cells #[.int .i64 0, .int .i64 0, .int .i64 0, .string ⟨#[]⟩, .slice none 0 0] 37 (0, 0)) ∧ Below w.heap.size w wr) (fun x _ => l.length - (intOf x).toNat)
      case atStart => exact ⟨0, 1, 1, by omega, rfl, by rw [← HR.out]; simp, by unfold I64; omega, by unfold I64; omega, HST.out.1, HST.out.2.1, HST.out.2.2⟩
      case round =>
        obtain ⟨i, a, b, hi, rfl, hf, ha, hb, h2, h0, hbw⟩ := hrel
        have HF := Lib.hid hf
        have HY := Lib.hid (And.intro h2 (And.intro h0 hbw))
        have hszw := lt_of_block h2
        obtain ⟨c0, c1, c2, c3, c4⟩ := box_cells h2
        clear hf
        by_cases hlt : i < l.length
        · obtain ⟨t, ht⟩ : ∃ t, l[i]? = some t := ⟨l[i], by simp [hlt]⟩
          rcases HL.out with he | ⟨bb, o, rfl, hall⟩
          · rw [he] at hlt; simp at hlt
          obtain ⟨v0, v1, v2, v3, v4, d0, d1, d2, d3, d4, hta⟩ := (hall.on (cell_on hbw)).kid ht
          obtain ⟨kt, nt, dt, st, lt, pt, capt, rfl, rfl, rfl, rfl, rfl, rfl, hkt, hnt, hdt, _, _, _⟩ := hta.open7
          obtain ⟨x, hx⟩ : ∃ x, divF a b nt dt = x := ⟨_, rfl⟩
          have hxe := step_okEnd 3 a b nt dt
          rw [show stepF 3 = divF from rfl, hx] at hxe
          obtain ⟨x1, x2, x3⟩ := x
          have HC := Lib.hid (fun W => divRef_any a b nt dt (x1, x2, x3) hx W ha hb hnt hdt)
          unfold three at HC
          have HT := Lib.hid ht
          have HXX := Lib.hid (And.intro hx hxe)
          clear hta hall ht hx hxe h2 h0 hbw ha hb hnt hdt hkt d0 d3 d4 c0 c3 c4
          have c1' : wr.drew.cell? ⟨w2.heap.size, 1, none⟩ = some (.int .i64 a) := c1
          have c2' : wr.drew.cell? ⟨w2.heap.size, 2, none⟩ = some (.int .i64 b) := c2
          have d1' : wr.drew.cell? ⟨bb, o + i * 5 + 1, none⟩ = some (.int .i64 nt) := d1
          have d2' : wr.drew.cell? ⟨bb, o + i * 5 + 2, none⟩ = some (.int .i64 dt) := d2
          go_wp2_with fail
          go_region_held3 (fun w' => w'.cell? ⟨w2.heap.size, 1, none⟩ = some (.int .i64 a) ∧ w'.cell? ⟨w2.heap.size, 2, none⟩ = some (.int .i64 b) ∧ w'.cell? ⟨bb, o + i * 5 + 1, none⟩ = some (.int .i64 nt) ∧ w'.cell? ⟨bb, o + i * 5 + 2, none⟩ = some (.int .i64 dt))
            (with_reducible (first | (refine ⟨?_, ?_, ?_, ?_⟩ <;> assumption)))
            (first
              | (go_at_call 85
                 with_reducible refine Calls.mono (HC.out _) ?_
                 rintro _ w5 ⟨rfl, hw⟩
                 have hb' : Below wr.heap.size wr w5 := by obtain ⟨k, hk⟩ := hw; rw [hk]; exact below_drew (below_drewN _ _)
                 replace c1 := cell_on hb' _ _ _ c1
                 replace c2 := cell_on hb' _ _ _ c2
                 replace d1 := cell_on hb' _ _ _ d1
                 replace d2 := cell_on hb' _ _ _ d2
                 have HB5 := Lib.hid hb'
                 clear hb' hw))
          have hk2 := block_on HB5.out HY.out.1
          have hk0 := block_on HB5.out HY.out.2.1
          have HK := Lib.hid (And.intro hk2 (And.intro hk0 (below_seq HY.out.2.2 HB5.out)))
          by_cases hz : x3 = 0
          · subst hz
            obtain ⟨c0, c1, c2, c3, c4⟩ := box_cells hk2
            have z0 := box_frozen hk2 0
            have z1 := box_frozen hk2 1
            have z2 := box_frozen hk2 2
            have z3 := box_frozen hk2 3
            have z4 := box_frozen hk2 4
            clear hk2 hk0 c1' c2' d1' d2' d1 d2
            go_wp2_with fail
            go_roundw
            case rel =>
              refine ⟨i + 1, x1, x2, by omega, by go_num, ?_, (i64_end HXX.out.2).1, (i64_end HXX.out.2).2, set_five HK.out.1, (set_five_other (by omega)).trans HK.out.2.1, set_five_below HK.out.2.2 (by omega)⟩
              have e : divF a b (Dt.node kt nt dt st lt).nm (Dt.node kt nt dt st lt).dn = (x1, x2, 0) := HXX.out.1
              rw [HF.out, thr_step HT.out, e, if_pos rfl]
            case measure => simp [intOf]; omega
          · have hq : (x3 != 0) = true := by rw [bne_iff_ne]; exact hz
            have hr : r = (0, 0, x3) := by
              have e : divF a b (Dt.node kt nt dt st lt).nm (Dt.node kt nt dt st lt).dn = (x1, x2, x3) := HXX.out.1
              rw [HF.out, thr_step HT.out, e, if_neg hz]
            have HRR := Lib.hid hr
            have HZ := Lib.hid hz
            obtain ⟨c0, c1, c2, c3, c4⟩ := box_cells hk0
            have z0 := box_frozen hk0 0
            have z1 := box_frozen hk0 1
            have z2 := box_frozen hk0 2
            have z3 := box_frozen hk0 3
            have z4 := box_frozen hk0 4
            clear hk2 hk0 hr hz c1' c2' d1' d2' d1 d2
            go_wp2_with fail
            refine bodyPost_ret (results_row1 rfl _ _ w.heap.size 37 _ (0, 0) _ _ rfl rfl (set_five HK.out.2.1) Try.underlying37 rfl Try.sizD) rfl ?_
            refine ⟨Or.inr (Or.inl ⟨HN.out, ?_, ?_⟩), set_five_below HK.out.2.2 (Nat.le_refl _)⟩
            · rw [HRR.out]; exact HZ.out
            · rw [HRR.out]; rfl
        · have hr : r = (a, b, 0) := by rw [HF.out, thr_stop (by omega)]
          have HRR := Lib.hid hr
          obtain ⟨e0, e1, e2, e3, e4⟩ := box_cells h0
          have z0 := box_frozen h0 0
          have z1 := box_frozen h0 1
          have z2 := box_frozen h0 2
          have z3 := box_frozen h0 3
          have z4 := box_frozen h0 4
          clear h2 h0 hr hbw
          go_wp2_with fail
          refine bodyPost_ret (results_row1 rfl _ _ w.heap.size 37 _ (0, 0) _ _ rfl rfl (set_five HY.out.2.1) Try.underlying37 rfl Try.sizD) rfl ?_
          refine ⟨Or.inr (Or.inr ⟨HN.out, ?_, ?_⟩), set_five_below HY.out.2.2 (Nat.le_refl _)⟩
          · rw [HRR.out]
          · rw [HRR.out]; rfl
end Go.Proofs.Ytdeelpagoffdjaa.Dat

/- The reference's sums, for one of the four. -/
namespace Go.Proofs.Ytdeelpagoffdjaa.Dat
open Go.RowKit
open Go.Proofs.Ytdeelpagoffdjaa (three addF subF mulF divF addRef_any subRef_any mulRef_any divRef_any)
open NumPlain
set_option linter.unusedVariables false

set_option maxHeartbeats 8000000 in
set_option maxRecDepth 100000 in
theorem rSumsSub_more (L rest : List Dt) (t0 : Dt) (hL : L = t0 :: rest) (m : Nat) (hm : rest.length = m) (hm2 : 1 ≤ m) (bb o cap : Nat) (hcap : m + 1 ≤ cap) (w : World) (hlm : m + 1 ≤ maxLen) (hall : Dt.AllAt w L bb o) :
    Calls Try.prog 62 #[.int .i64 1, .slice (some ⟨bb, o, none⟩) (m + 1) cap] w fun e w' =>
      ((L.all isNum = false ∧ e = .returned (.tuple #[leafV 0 0 0, .int .i64 1])) ∨
       (L.all isNum = true ∧ (thr subF t0.nm t0.dn rest).2.2 ≠ 0 ∧ e = .returned (.tuple #[leafV 0 0 0, .int .i64 (thr subF t0.nm t0.dn rest).2.2])) ∨
       (L.all isNum = true ∧ (thr subF t0.nm t0.dn rest).2.2 = 0 ∧ e = .returned (.tuple #[leafV 0 (thr subF t0.nm t0.dn rest).1 (thr subF t0.nm t0.dn rest).2.1, .int .i64 0]))) ∧ Below w.heap.size w w' := by
  unfold maxLen at hlm
  have HLL := Lib.hid hL
  have HLN := Lib.hid (show L.length = m + 1 by rw [hL, ← hm]; rfl)
  have HAL := Lib.hid hall
  have HRA := Lib.hid (show (∃ v0 v1 v2 v3 v4, w.cell? ⟨bb, o, none⟩ = some v0 ∧ w.cell? ⟨bb, o + 1, none⟩ = some v1 ∧ w.cell? ⟨bb, o + 2, none⟩ = some v2 ∧ w.cell? ⟨bb, o + 3, none⟩ = some v3 ∧ w.cell? ⟨bb, o + 4, none⟩ = some v4 ∧ t0.At w (.agg #[v0, v1, v2, v3, v4])) ∧ Dt.AllAt w rest bb (o + 5) by rw [hL] at hall; unfold Dt.AllAt at hall; exact hall)
  have HM := Lib.hid hm
  clear hL hall hm
  unfold leafV
  obtain ⟨r, hr⟩ : ∃ r, thr subF t0.nm t0.dn rest = r := ⟨_, rfl⟩
  rw [hr]
  have HR := Lib.hid hr; clear hr
  go_enter Try.func62, Try.ntmps62
  go_wp2_with fail
  go_loopw [6] (fun x wr => ∃ (i : Nat), i ≤ (m + 1) ∧ x = .int .i64 i ∧ (∀ j t, j < i → L[j]? = some t → isNum t = true) ∧ wr.heap[w.heap.size]? = some (.cells #[.int .i64 0, .int .i64 0, .int .i64 0, .string ⟨#[]⟩, .slice none 0 0] 37 (0, 0)) ∧ Below w.heap.size w wr) (fun x _ => (m + 1) - (intOf x).toNat)
  case atStart => exact ⟨0, by omega, rfl, fun j t hj => absurd hj (by omega), at_new w _, box_below w _⟩
  case round =>
    obtain ⟨i, hi, rfl, hall0, hx0, hb⟩ := hrel
    have HA := Lib.hid hall0
    have HX := Lib.hid (And.intro hx0 hb)
    clear hall0
    by_cases hlt : i < (m + 1)
    · obtain ⟨t, ht⟩ : ∃ t, L[i]? = some t := ⟨L[i]'(by have := HLN.out; omega), List.getElem?_eq_getElem _⟩
      have hall := HAL.out
      obtain ⟨v0, v1, v2, v3, v4, d0, d1, d2, d3, d4, hta⟩ := (hall.on (cell_on hb)).kid ht
      obtain ⟨kt, nt, dt, st, lt, pt, capt, rfl, rfl, rfl, rfl, rfl, rfl, hkt, hnt, hdt, _, _, _⟩ := hta.open7
      have HT := Lib.hid ht
      by_cases hk : kt = 0
      · have hq : (kt != 0) = false := by rw [bne_eq_false_iff_eq]; exact hk
        have HK := Lib.hid hk
        clear hta hall ht hk hx0 hb
        go_wp2_with fail
        go_roundw
        case rel =>
          refine ⟨i + 1, by omega, by go_num, fun j u hj hu => ?_, HX.out.1, HX.out.2⟩
          by_cases hji : j = i
          · subst hji
            rw [HT.out] at hu
            obtain rfl := Option.some.inj hu
            show decide (kt = 0) = true
            rw [HK.out]; rfl
          · exact HA.out j u (by omega) hu
        case measure => simp [intOf]; omega
      · have hq : (kt != 0) = true := by rw [bne_iff_ne]; exact hk
        have HK := Lib.hid hk
        obtain ⟨c0, c1, c2, c3, c4⟩ := box_cells hx0
        have z0 := box_frozen hx0 0
        have z1 := box_frozen hx0 1
        have z2 := box_frozen hx0 2
        have z3 := box_frozen hx0 3
        have z4 := box_frozen hx0 4
        clear hta hall ht hk hx0 hb
        go_wp2_with fail
        refine bodyPost_ret (results_row1 rfl _ _ w.heap.size 37 _ (0, 0) _ _ rfl rfl (set_five HX.out.1) Try.underlying37 rfl Try.sizD) rfl ?_
        refine ⟨Or.inl ⟨?_, rfl⟩, set_five_below HX.out.2 (Nat.le_refl _)⟩
        rw [Bool.eq_false_iff]
        intro h
        have h2 := List.all_eq_true.1 h _ (List.mem_of_getElem? HT.out)
        exact HK.out (of_decide_eq_true h2)
    · have hnum : L.all isNum = true := by
        rw [List.all_eq_true]
        intro t ht
        obtain ⟨j, hj⟩ := List.mem_iff_getElem?.1 ht
        exact HA.out j t (by have := (List.getElem?_eq_some_iff.1 hj).1; have := HLN.out; omega) hj
      have HN := Lib.hid hnum
      obtain ⟨c0, c1, c2, c3, c4⟩ := box_cells hx0
      have N0 := rNumber_any 0 wr
      unfold leafV at N0
      have HN0 := Lib.hid N0
      clear N0 hnum c0 c1 c2 c3 c4 hx0 hb HA
      go_wp2_with fail
      refine HN0.out.mono ?_
      rintro _ w2 ⟨rfl, hb2⟩
      have hb3 := below_seq hb2 (box_below w2 (Obj.cells #[.int .i64 0, .int .i64 0, .int .i64 1, .string ⟨#[]⟩, .slice none 0 0] 37))
      have hn3 := at_new w2 (Obj.cells #[.int .i64 0, .int .i64 0, .int .i64 1, .string ⟨#[]⟩, .slice none 0 0] 37)
      have hlt2 : w.heap.size < w2.heap.size := lt_of_block (block_on hb2 HX.out.1)
      have HFJ := Lib.hid (And.intro (block_on hb2 HX.out.1) (below_seq HX.out.2 hb2))
      have HST := Lib.hid (And.intro hn3 (And.intro (block_on hb3 HX.out.1) (below_seq HX.out.2 hb3)))
      clear hb2 hb3 hn3
      obtain ⟨⟨y0, y1, y2, y3, y4, g0, g1, g2, g3, g4, hy⟩, hrest⟩ := HRA.out
      obtain ⟨k0, n0, d0, s0, l0, p0, cap0, rfl, rfl, rfl, rfl, rfl, rfl, hk0, hn0, hd0, _, _, _⟩ := hy.open7
      have hbg := HST.out.2.2
      replace g0 := cell_on hbg _ _ _ g0
      replace g1 := cell_on hbg _ _ _ g1
      replace g2 := cell_on hbg _ _ _ g2
      replace g3 := cell_on hbg _ _ _ g3
      replace g4 := cell_on hbg _ _ _ g4
      obtain ⟨c0, c1, c2, c3, c4⟩ := box_cells HST.out.1
      have z0 := box_frozen HST.out.1 0
      have z1 := box_frozen HST.out.1 1
      have z2 := box_frozen HST.out.1 2
      have z3 := box_frozen HST.out.1 3
      have z4 := box_frozen HST.out.1 4
      have HFI := Lib.hid (And.intro (set_five (b0 := (.int .i64 k0)) (b1 := (.int .i64 n0)) (b2 := (.int .i64 d0)) (b3 := (.string s0)) (b4 := (.slice p0 l0.length cap0)) HST.out.1) (And.intro ((set_five_other (b0 := (.int .i64 k0)) (b1 := (.int .i64 n0)) (b2 := (.int .i64 d0)) (b3 := (.string s0)) (b4 := (.slice p0 l0.length cap0)) (show w.heap.size ≠ w2.heap.size by omega)).trans HST.out.2.1) (set_five_below (b0 := (.int .i64 k0)) (b1 := (.int .i64 n0)) (b2 := (.int .i64 d0)) (b3 := (.string s0)) (b4 := (.slice p0 l0.length cap0)) HST.out.2.2 (Nat.le_of_lt hlt2))))
      have HND := Lib.hid (And.intro hn0 (And.intro hd0 hrest))
      have hc1 : ¬ cap = 1 := by omega
      have hc2 : 1 ≤ m + 1 := by omega
      clear hbg hy hrest hk0 hn0 hd0
      go_wp2_with fail
      generalize decide ((1 : Int) < (m : Int) + 1) = bq
      go_loopw [8] (fun x wr => ∃ (i : Nat) (a b ka : Int) (sa : ByteArray) (qa : Option Addr) (la ca : Nat), i ≤ m ∧ x = .int .i64 i ∧ r = thr subF a b (rest.drop i) ∧ I64 a ∧ I64 b ∧ wr.heap[w2.heap.size]? = some (.cells #[.int .i64 ka, .int .i64 a, .int .i64 b, .string sa, .slice qa la ca] 37 (0, 0)) ∧ (1 ≤ i → ka = 0 ∧ sa = ⟨#[]⟩ ∧ qa = none ∧ la = 0 ∧ ca = 0) ∧ wr.heap[w.heap.size]? = some (.cells #[.int .i64 0, .int .i64 0, .int .i64 0, .string ⟨#[]⟩, .slice none 0 0] 37 (0, 0)) ∧ Below w.heap.size w wr) (fun x _ => m - (intOf x).toNat)
      case atStart => exact ⟨0, n0, d0, k0, s0, p0, l0.length, cap0, by omega, rfl, by rw [← HR.out]; simp; rfl, HND.out.1, HND.out.2.1, at_new w2 _, fun h => absurd h (by omega), block_on (box_below w2 _) HFJ.out.1, below_seq HFJ.out.2 (box_below w2 _)⟩
      case round =>
        obtain ⟨i, a, b, ka, sa, qa, la, ca, hi, rfl, hf, ha, hb, h2, hze, h0, hbw⟩ := hrel
        have HZE := Lib.hid hze
        clear hze
        have HF := Lib.hid hf
        have HY := Lib.hid (And.intro h2 (And.intro h0 hbw))
        have hszw := lt_of_block h2
        obtain ⟨c0, c1, c2, c3, c4⟩ := box_cells h2
        clear hf
        by_cases hlt : i < m
        · obtain ⟨t, ht⟩ : ∃ t, rest[i]? = some t := ⟨rest[i]'(by have := HM.out; omega), List.getElem?_eq_getElem _⟩
          have hall := HND.out.2.2
          obtain ⟨v0, v1, v2, v3, v4, d0, d1, d2, d3, d4, hta⟩ := (hall.on (cell_on hbw)).kid ht
          obtain ⟨kt, nt, dt, st, lt, pt, capt, rfl, rfl, rfl, rfl, rfl, rfl, hkt, hnt, hdt, _, _, _⟩ := hta.open7
          obtain ⟨x, hx⟩ : ∃ x, subF a b nt dt = x := ⟨_, rfl⟩
          have hxe := step_okEnd 1 a b nt dt
          rw [show stepF 1 = subF from rfl, hx] at hxe
          obtain ⟨x1, x2, x3⟩ := x
          have HC := Lib.hid (fun W => subRef_any a b nt dt (x1, x2, x3) hx W ha hb hnt hdt)
          unfold three at HC
          have HT := Lib.hid ht
          have HXX := Lib.hid (And.intro hx hxe)
          clear hta hall ht hx hxe h2 h0 hbw ha hb hnt hdt hkt d0 d3 d4 c0 c3 c4
          have c1' : wr.drew.cell? ⟨w2.heap.size, 1, none⟩ = some (.int .i64 a) := c1
          have c2' : wr.drew.cell? ⟨w2.heap.size, 2, none⟩ = some (.int .i64 b) := c2
          have d1' : wr.drew.cell? ⟨bb, o + 5 + i * 5 + 1, none⟩ = some (.int .i64 nt) := d1
          have d2' : wr.drew.cell? ⟨bb, o + 5 + i * 5 + 2, none⟩ = some (.int .i64 dt) := d2
          go_wp2_with fail
          go_region_held3 (fun w' => w'.cell? ⟨w2.heap.size, 1, none⟩ = some (.int .i64 a) ∧ w'.cell? ⟨w2.heap.size, 2, none⟩ = some (.int .i64 b) ∧ w'.cell? ⟨bb, o + 5 + i * 5 + 1, none⟩ = some (.int .i64 nt) ∧ w'.cell? ⟨bb, o + 5 + i * 5 + 2, none⟩ = some (.int .i64 dt))
            (with_reducible (first | (refine ⟨?_, ?_, ?_, ?_⟩ <;> assumption)))
            (first
              | (go_at_call 83
                 with_reducible refine Calls.mono (HC.out _) ?_
                 rintro _ w5 ⟨rfl, hw⟩
                 have hb' : Below wr.heap.size wr w5 := hw ▸ below_drewN wr 1
                 replace c1 := cell_on hb' _ _ _ c1
                 replace c2 := cell_on hb' _ _ _ c2
                 replace d1 := cell_on hb' _ _ _ d1
                 replace d2 := cell_on hb' _ _ _ d2
                 have HB5 := Lib.hid hb'
                 clear hb' hw))
          have hk2 := block_on HB5.out HY.out.1
          have hk0 := block_on HB5.out HY.out.2.1
          have HK := Lib.hid (And.intro hk2 (And.intro hk0 (below_seq HY.out.2.2 HB5.out)))
          by_cases hz : x3 = 0
          · subst hz
            obtain ⟨c0, c1, c2, c3, c4⟩ := box_cells hk2
            have z0 := box_frozen hk2 0
            have z1 := box_frozen hk2 1
            have z2 := box_frozen hk2 2
            have z3 := box_frozen hk2 3
            have z4 := box_frozen hk2 4
            clear hk2 hk0 c1' c2' d1' d2' d1 d2
            go_wp2_with fail
            go_roundw
            case rel =>
              refine ⟨i + 1, x1, x2, 0, ⟨#[]⟩, none, 0, 0, by omega, by go_num, ?_, (i64_end HXX.out.2).1, (i64_end HXX.out.2).2, set_five HK.out.1, fun _ => ⟨rfl, rfl, rfl, rfl, rfl⟩, (set_five_other (by omega)).trans HK.out.2.1, set_five_below HK.out.2.2 (by omega)⟩
              have e : subF a b (Dt.node kt nt dt st lt).nm (Dt.node kt nt dt st lt).dn = (x1, x2, 0) := HXX.out.1
              rw [HF.out, thr_step HT.out, e, if_pos rfl]
            case measure => simp [intOf]; omega
          · have hq : (x3 != 0) = true := by rw [bne_iff_ne]; exact hz
            have hr : r = (0, 0, x3) := by
              have e : subF a b (Dt.node kt nt dt st lt).nm (Dt.node kt nt dt st lt).dn = (x1, x2, x3) := HXX.out.1
              rw [HF.out, thr_step HT.out, e, if_neg hz]
            have HRR := Lib.hid hr
            have HZ := Lib.hid hz
            obtain ⟨c0, c1, c2, c3, c4⟩ := box_cells hk0
            have z0 := box_frozen hk0 0
            have z1 := box_frozen hk0 1
            have z2 := box_frozen hk0 2
            have z3 := box_frozen hk0 3
            have z4 := box_frozen hk0 4
            clear hk2 hk0 hr hz c1' c2' d1' d2' d1 d2
            go_wp2_with fail
            refine bodyPost_ret (results_row1 rfl _ _ w.heap.size 37 _ (0, 0) _ _ rfl rfl (set_five HK.out.2.1) Try.underlying37 rfl Try.sizD) rfl ?_
            refine ⟨Or.inr (Or.inl ⟨(by first | exact HN.out | simpa using HN.out), ?_, ?_⟩), set_five_below HK.out.2.2 (Nat.le_refl _)⟩
            · rw [HRR.out]; exact HZ.out
            · rw [HRR.out]; rfl
        · have hr : r = (a, b, 0) := by rw [HF.out, thr_stop (by have := HM.out; omega)]
          obtain ⟨rfl, rfl, rfl, rfl, rfl⟩ := HZE.out (by omega)
          have HRR := Lib.hid hr
          obtain ⟨e0, e1, e2, e3, e4⟩ := box_cells h0
          have z0 := box_frozen h0 0
          have z1 := box_frozen h0 1
          have z2 := box_frozen h0 2
          have z3 := box_frozen h0 3
          have z4 := box_frozen h0 4
          clear h2 h0 hr hbw
          go_wp2_with fail
          refine bodyPost_ret (results_row1 rfl _ _ w.heap.size 37 _ (0, 0) _ _ rfl rfl (set_five HY.out.2.1) Try.underlying37 rfl Try.sizD) rfl ?_
          refine ⟨Or.inr (Or.inr ⟨(by first | exact HN.out | simpa using HN.out), ?_, ?_⟩), set_five_below HY.out.2.2 (Nat.le_refl _)⟩
          · rw [HRR.out]
          · rw [HRR.out]; rfl
end Go.Proofs.Ytdeelpagoffdjaa.Dat

/- The reference's sums, for one of the four. -/
namespace Go.Proofs.Ytdeelpagoffdjaa.Dat
open Go.RowKit
open Go.Proofs.Ytdeelpagoffdjaa (three addF subF mulF divF addRef_any subRef_any mulRef_any divRef_any)
open NumPlain
set_option linter.unusedVariables false

set_option maxHeartbeats 8000000 in
set_option maxRecDepth 100000 in
theorem rSumsDiv_more (L rest : List Dt) (t0 : Dt) (hL : L = t0 :: rest) (m : Nat) (hm : rest.length = m) (hm2 : 1 ≤ m) (bb o cap : Nat) (hcap : m + 1 ≤ cap) (w : World) (hlm : m + 1 ≤ maxLen) (hall : Dt.AllAt w L bb o) :
    Calls Try.prog 62 #[.int .i64 3, .slice (some ⟨bb, o, none⟩) (m + 1) cap] w fun e w' =>
      ((L.all isNum = false ∧ e = .returned (.tuple #[leafV 0 0 0, .int .i64 1])) ∨
       (L.all isNum = true ∧ (thr divF t0.nm t0.dn rest).2.2 ≠ 0 ∧ e = .returned (.tuple #[leafV 0 0 0, .int .i64 (thr divF t0.nm t0.dn rest).2.2])) ∨
       (L.all isNum = true ∧ (thr divF t0.nm t0.dn rest).2.2 = 0 ∧ e = .returned (.tuple #[leafV 0 (thr divF t0.nm t0.dn rest).1 (thr divF t0.nm t0.dn rest).2.1, .int .i64 0]))) ∧ Below w.heap.size w w' := by
  unfold maxLen at hlm
  have HLL := Lib.hid hL
  have HLN := Lib.hid (show L.length = m + 1 by rw [hL, ← hm]; rfl)
  have HAL := Lib.hid hall
  have HRA := Lib.hid (show (∃ v0 v1 v2 v3 v4, w.cell? ⟨bb, o, none⟩ = some v0 ∧ w.cell? ⟨bb, o + 1, none⟩ = some v1 ∧ w.cell? ⟨bb, o + 2, none⟩ = some v2 ∧ w.cell? ⟨bb, o + 3, none⟩ = some v3 ∧ w.cell? ⟨bb, o + 4, none⟩ = some v4 ∧ t0.At w (.agg #[v0, v1, v2, v3, v4])) ∧ Dt.AllAt w rest bb (o + 5) by rw [hL] at hall; unfold Dt.AllAt at hall; exact hall)
  have HM := Lib.hid hm
  clear hL hall hm
  unfold leafV
  obtain ⟨r, hr⟩ : ∃ r, thr divF t0.nm t0.dn rest = r := ⟨_, rfl⟩
  rw [hr]
  have HR := Lib.hid hr; clear hr
  go_enter Try.func62, Try.ntmps62
  go_wp2_with fail
  go_loopw [6] (fun x wr => ∃ (i : Nat), i ≤ (m + 1) ∧ x = .int .i64 i ∧ (∀ j t, j < i → L[j]? = some t → isNum t = true) ∧ wr.heap[w.heap.size]? = some (.cells #[.int .i64 0, .int .i64 0, .int .i64 0, .string ⟨#[]⟩, .slice none 0 0] 37 (0, 0)) ∧ Below w.heap.size w wr) (fun x _ => (m + 1) - (intOf x).toNat)
  case atStart => exact ⟨0, by omega, rfl, fun j t hj => absurd hj (by omega), at_new w _, box_below w _⟩
  case round =>
    obtain ⟨i, hi, rfl, hall0, hx0, hb⟩ := hrel
    have HA := Lib.hid hall0
    have HX := Lib.hid (And.intro hx0 hb)
    clear hall0
    by_cases hlt : i < (m + 1)
    · obtain ⟨t, ht⟩ : ∃ t, L[i]? = some t := ⟨L[i]'(by have := HLN.out; omega), List.getElem?_eq_getElem _⟩
      have hall := HAL.out
      obtain ⟨v0, v1, v2, v3, v4, d0, d1, d2, d3, d4, hta⟩ := (hall.on (cell_on hb)).kid ht
      obtain ⟨kt, nt, dt, st, lt, pt, capt, rfl, rfl, rfl, rfl, rfl, rfl, hkt, hnt, hdt, _, _, _⟩ := hta.open7
      have HT := Lib.hid ht
      by_cases hk : kt = 0
      · have hq : (kt != 0) = false := by rw [bne_eq_false_iff_eq]; exact hk
        have HK := Lib.hid hk
        clear hta hall ht hk hx0 hb
        go_wp2_with fail
        go_roundw
        case rel =>
          refine ⟨i + 1, by omega, by go_num, fun j u hj hu => ?_, HX.out.1, HX.out.2⟩
          by_cases hji : j = i
          · subst hji
            rw [HT.out] at hu
            obtain rfl := Option.some.inj hu
            show decide (kt = 0) = true
            rw [HK.out]; rfl
          · exact HA.out j u (by omega) hu
        case measure => simp [intOf]; omega
      · have hq : (kt != 0) = true := by rw [bne_iff_ne]; exact hk
        have HK := Lib.hid hk
        obtain ⟨c0, c1, c2, c3, c4⟩ := box_cells hx0
        have z0 := box_frozen hx0 0
        have z1 := box_frozen hx0 1
        have z2 := box_frozen hx0 2
        have z3 := box_frozen hx0 3
        have z4 := box_frozen hx0 4
        clear hta hall ht hk hx0 hb
        go_wp2_with fail
        refine bodyPost_ret (results_row1 rfl _ _ w.heap.size 37 _ (0, 0) _ _ rfl rfl (set_five HX.out.1) Try.underlying37 rfl Try.sizD) rfl ?_
        refine ⟨Or.inl ⟨?_, rfl⟩, set_five_below HX.out.2 (Nat.le_refl _)⟩
        rw [Bool.eq_false_iff]
        intro h
        have h2 := List.all_eq_true.1 h _ (List.mem_of_getElem? HT.out)
        exact HK.out (of_decide_eq_true h2)
    · have hnum : L.all isNum = true := by
        rw [List.all_eq_true]
        intro t ht
        obtain ⟨j, hj⟩ := List.mem_iff_getElem?.1 ht
        exact HA.out j t (by have := (List.getElem?_eq_some_iff.1 hj).1; have := HLN.out; omega) hj
      have HN := Lib.hid hnum
      obtain ⟨c0, c1, c2, c3, c4⟩ := box_cells hx0
      have N0 := rNumber_any 0 wr
      unfold leafV at N0
      have HN0 := Lib.hid N0
      clear N0 hnum c0 c1 c2 c3 c4 hx0 hb HA
      go_wp2_with fail
      refine HN0.out.mono ?_
      rintro _ w2 ⟨rfl, hb2⟩
      have hb3 := below_seq hb2 (box_below w2 (Obj.cells #[.int .i64 0, .int .i64 0, .int .i64 1, .string ⟨#[]⟩, .slice none 0 0] 37))
      have hn3 := at_new w2 (Obj.cells #[.int .i64 0, .int .i64 0, .int .i64 1, .string ⟨#[]⟩, .slice none 0 0] 37)
      have hlt2 : w.heap.size < w2.heap.size := lt_of_block (block_on hb2 HX.out.1)
      have N1 := rNumber_any 1 (w2.alloc (Obj.cells #[.int .i64 0, .int .i64 0, .int .i64 1, .string ⟨#[]⟩, .slice none 0 0] 37))
      unfold leafV at N1
      have HN1 := Lib.hid (And.intro N1 (And.intro hn3 (And.intro (block_on hb3 HX.out.1) (below_seq HX.out.2 hb3))))
      clear N1 hn3 hb3 hb2
      go_wp2_with fail
      refine HN1.out.1.mono ?_
      rintro _ w4 ⟨rfl, hb4⟩
      have hn4 := block_on hb4 HN1.out.2.1
      have HW4 := Lib.hid (And.intro hn4 (And.intro (block_on hb4 HN1.out.2.2.1) (below_seq HN1.out.2.2.2 hb4)))
      obtain ⟨c0, c1, c2, c3, c4⟩ := box_cells hn4
      have z0 := box_frozen hn4 0
      have z1 := box_frozen hn4 1
      have z2 := box_frozen hn4 2
      have z3 := box_frozen hn4 3
      have z4 := box_frozen hn4 4
      clear hn4 hb4
      have hset := set_five (b0 := .int .i64 0) (b1 := .int .i64 1) (b2 := .int .i64 1) (b3 := .string ⟨#[]⟩) (b4 := .slice none 0 0) HW4.out.1
      have HST := Lib.hid (And.intro hset (And.intro ((set_five_other (b0 := .int .i64 0) (b1 := .int .i64 1) (b2 := .int .i64 1) (b3 := .string ⟨#[]⟩) (b4 := .slice none 0 0) (show w.heap.size ≠ w2.heap.size by omega)).trans HW4.out.2.1) (set_five_below (b0 := .int .i64 0) (b1 := .int .i64 1) (b2 := .int .i64 1) (b3 := .string ⟨#[]⟩) (b4 := .slice none 0 0) HW4.out.2.2 (Nat.le_of_lt hlt2))))
      clear hset
      go_upto_region 9 with fail
      obtain ⟨W5, hW5⟩ : ∃ W, (((((w4.setCell ⟨w2.heap.size, 0, none⟩ (.int .i64 0)).setCell ⟨w2.heap.size, 1, none⟩ (.int .i64 1)).setCell ⟨w2.heap.size, 2, none⟩ (.int .i64 1)).setCell ⟨w2.heap.size, 3, none⟩ (.string ⟨#[]⟩)).setCell ⟨w2.heap.size, 4, none⟩ (.slice none 0 0)) = W := ⟨_, rfl⟩
      rw [hW5] at HST ⊢
      clear hW5 c0 c1 c2 c3 c4 z0 z1 z2 z3 z4
      obtain ⟨⟨y0, y1, y2, y3, y4, g0, g1, g2, g3, g4, hy⟩, hrest⟩ := HRA.out
      obtain ⟨k0, n0, d0, s0, l0, p0, cap0, rfl, rfl, rfl, rfl, rfl, rfl, hk0, hn0, hd0, _, _, _⟩ := hy.open7
      have hbg := HST.out.2.2
      replace g0 := cell_on hbg _ _ _ g0
      replace g1 := cell_on hbg _ _ _ g1
      replace g2 := cell_on hbg _ _ _ g2
      replace g3 := cell_on hbg _ _ _ g3
      replace g4 := cell_on hbg _ _ _ g4
      obtain ⟨c0, c1, c2, c3, c4⟩ := box_cells HST.out.1
      have z0 := box_frozen HST.out.1 0
      have z1 := box_frozen HST.out.1 1
      have z2 := box_frozen HST.out.1 2
      have z3 := box_frozen HST.out.1 3
      have z4 := box_frozen HST.out.1 4
      have HFI := Lib.hid (And.intro (set_five (b0 := (.int .i64 k0)) (b1 := (.int .i64 n0)) (b2 := (.int .i64 d0)) (b3 := (.string s0)) (b4 := (.slice p0 l0.length cap0)) HST.out.1) (And.intro ((set_five_other (b0 := (.int .i64 k0)) (b1 := (.int .i64 n0)) (b2 := (.int .i64 d0)) (b3 := (.string s0)) (b4 := (.slice p0 l0.length cap0)) (show w.heap.size ≠ w2.heap.size by omega)).trans HST.out.2.1) (set_five_below (b0 := (.int .i64 k0)) (b1 := (.int .i64 n0)) (b2 := (.int .i64 d0)) (b3 := (.string s0)) (b4 := (.slice p0 l0.length cap0)) HST.out.2.2 (Nat.le_of_lt hlt2))))
      have HND := Lib.hid (And.intro hn0 (And.intro hd0 hrest))
      have hc1 : ¬ cap = 1 := by omega
      have hc2 : 1 ≤ m + 1 := by omega
      clear hbg hy hrest hk0 hn0 hd0
      go_wp2_with fail
      generalize decide ((1 : Int) < (m : Int) + 1) = bq
      go_loopw [8] (fun x wr => ∃ (i : Nat) (a b ka : Int) (sa : ByteArray) (qa : Option Addr) (la ca : Nat), i ≤ m ∧ x = .int .i64 i ∧ r = thr divF a b (rest.drop i) ∧ I64 a ∧ I64 b ∧ wr.heap[w2.heap.size]? = some (.cells #[.int .i64 ka, .int .i64 a, .int .i64 b, .string sa, .slice qa la ca] 37 (0, 0)) ∧ (1 ≤ i → ka = 0 ∧ sa = ⟨#[]⟩ ∧ qa = none ∧ la = 0 ∧ ca = 0) ∧ wr.heap[w.heap.size]? = some (.cells #[.int .i64 0, .int .i64 0, .int .i64 0, .string ⟨#[]⟩, .slice none 0 0] 37 (0, 0)) ∧ Below w.heap.size w wr) (fun x _ => m - (intOf x).toNat)
      case atStart => exact ⟨0, n0, d0, k0, s0, p0, l0.length, cap0, by omega, rfl, by rw [← HR.out]; simp; rfl, HND.out.1, HND.out.2.1, HFI.out.1, fun h => absurd h (by omega), HFI.out.2.1, HFI.out.2.2⟩
      case round =>
        obtain ⟨i, a, b, ka, sa, qa, la, ca, hi, rfl, hf, ha, hb, h2, hze, h0, hbw⟩ := hrel
        have HZE := Lib.hid hze
        clear hze
        have HF := Lib.hid hf
        have HY := Lib.hid (And.intro h2 (And.intro h0 hbw))
        have hszw := lt_of_block h2
        obtain ⟨c0, c1, c2, c3, c4⟩ := box_cells h2
        clear hf
        by_cases hlt : i < m
        · obtain ⟨t, ht⟩ : ∃ t, rest[i]? = some t := ⟨rest[i]'(by have := HM.out; omega), List.getElem?_eq_getElem _⟩
          have hall := HND.out.2.2
          obtain ⟨v0, v1, v2, v3, v4, d0, d1, d2, d3, d4, hta⟩ := (hall.on (cell_on hbw)).kid ht
          obtain ⟨kt, nt, dt, st, lt, pt, capt, rfl, rfl, rfl, rfl, rfl, rfl, hkt, hnt, hdt, _, _, _⟩ := hta.open7
          obtain ⟨x, hx⟩ : ∃ x, divF a b nt dt = x := ⟨_, rfl⟩
          have hxe := step_okEnd 3 a b nt dt
          rw [show stepF 3 = divF from rfl, hx] at hxe
          obtain ⟨x1, x2, x3⟩ := x
          have HC := Lib.hid (fun W => divRef_any a b nt dt (x1, x2, x3) hx W ha hb hnt hdt)
          unfold three at HC
          have HT := Lib.hid ht
          have HXX := Lib.hid (And.intro hx hxe)
          clear hta hall ht hx hxe h2 h0 hbw ha hb hnt hdt hkt d0 d3 d4 c0 c3 c4
          have c1' : wr.drew.cell? ⟨w2.heap.size, 1, none⟩ = some (.int .i64 a) := c1
          have c2' : wr.drew.cell? ⟨w2.heap.size, 2, none⟩ = some (.int .i64 b) := c2
          have d1' : wr.drew.cell? ⟨bb, o + 5 + i * 5 + 1, none⟩ = some (.int .i64 nt) := d1
          have d2' : wr.drew.cell? ⟨bb, o + 5 + i * 5 + 2, none⟩ = some (.int .i64 dt) := d2
          go_wp2_with fail
          go_region_held3 (fun w' => w'.cell? ⟨w2.heap.size, 1, none⟩ = some (.int .i64 a) ∧ w'.cell? ⟨w2.heap.size, 2, none⟩ = some (.int .i64 b) ∧ w'.cell? ⟨bb, o + 5 + i * 5 + 1, none⟩ = some (.int .i64 nt) ∧ w'.cell? ⟨bb, o + 5 + i * 5 + 2, none⟩ = some (.int .i64 dt))
            (with_reducible (first | (refine ⟨?_, ?_, ?_, ?_⟩ <;> assumption)))
            (first
              | (go_at_call 85
                 with_reducible refine Calls.mono (HC.out _) ?_
                 rintro _ w5 ⟨rfl, hw⟩
                 have hb' : Below wr.heap.size wr w5 := by obtain ⟨k, hk⟩ := hw; rw [hk]; exact below_drew (below_drewN _ _)
                 replace c1 := cell_on hb' _ _ _ c1
                 replace c2 := cell_on hb' _ _ _ c2
                 replace d1 := cell_on hb' _ _ _ d1
                 replace d2 := cell_on hb' _ _ _ d2
                 have HB5 := Lib.hid hb'
                 clear hb' hw))
          have hk2 := block_on HB5.out HY.out.1
          have hk0 := block_on HB5.out HY.out.2.1
          have HK := Lib.hid (And.intro hk2 (And.intro hk0 (below_seq HY.out.2.2 HB5.out)))
          by_cases hz : x3 = 0
          · subst hz
            obtain ⟨c0, c1, c2, c3, c4⟩ := box_cells hk2
            have z0 := box_frozen hk2 0
            have z1 := box_frozen hk2 1
            have z2 := box_frozen hk2 2
            have z3 := box_frozen hk2 3
            have z4 := box_frozen hk2 4
            clear hk2 hk0 c1' c2' d1' d2' d1 d2
            go_wp2_with fail
            go_roundw
            case rel =>
              refine ⟨i + 1, x1, x2, 0, ⟨#[]⟩, none, 0, 0, by omega, by go_num, ?_, (i64_end HXX.out.2).1, (i64_end HXX.out.2).2, set_five HK.out.1, fun _ => ⟨rfl, rfl, rfl, rfl, rfl⟩, (set_five_other (by omega)).trans HK.out.2.1, set_five_below HK.out.2.2 (by omega)⟩
              have e : divF a b (Dt.node kt nt dt st lt).nm (Dt.node kt nt dt st lt).dn = (x1, x2, 0) := HXX.out.1
              rw [HF.out, thr_step HT.out, e, if_pos rfl]
            case measure => simp [intOf]; omega
          · have hq : (x3 != 0) = true := by rw [bne_iff_ne]; exact hz
            have hr : r = (0, 0, x3) := by
              have e : divF a b (Dt.node kt nt dt st lt).nm (Dt.node kt nt dt st lt).dn = (x1, x2, x3) := HXX.out.1
              rw [HF.out, thr_step HT.out, e, if_neg hz]
            have HRR := Lib.hid hr
            have HZ := Lib.hid hz
            obtain ⟨c0, c1, c2, c3, c4⟩ := box_cells hk0
            have z0 := box_frozen hk0 0
            have z1 := box_frozen hk0 1
            have z2 := box_frozen hk0 2
            have z3 := box_frozen hk0 3
            have z4 := box_frozen hk0 4
            clear hk2 hk0 hr hz c1' c2' d1' d2' d1 d2
            go_wp2_with fail
            refine bodyPost_ret (results_row1 rfl _ _ w.heap.size 37 _ (0, 0) _ _ rfl rfl (set_five HK.out.2.1) Try.underlying37 rfl Try.sizD) rfl ?_
            refine ⟨Or.inr (Or.inl ⟨(by first | exact HN.out | simpa using HN.out), ?_, ?_⟩), set_five_below HK.out.2.2 (Nat.le_refl _)⟩
            · rw [HRR.out]; exact HZ.out
            · rw [HRR.out]; rfl
        · have hr : r = (a, b, 0) := by rw [HF.out, thr_stop (by have := HM.out; omega)]
          obtain ⟨rfl, rfl, rfl, rfl, rfl⟩ := HZE.out (by omega)
          have HRR := Lib.hid hr
          obtain ⟨e0, e1, e2, e3, e4⟩ := box_cells h0
          have z0 := box_frozen h0 0
          have z1 := box_frozen h0 1
          have z2 := box_frozen h0 2
          have z3 := box_frozen h0 3
          have z4 := box_frozen h0 4
          clear h2 h0 hr hbw
          go_wp2_with fail
          refine bodyPost_ret (results_row1 rfl _ _ w.heap.size 37 _ (0, 0) _ _ rfl rfl (set_five HY.out.2.1) Try.underlying37 rfl Try.sizD) rfl ?_
          refine ⟨Or.inr (Or.inr ⟨(by first | exact HN.out | simpa using HN.out), ?_, ?_⟩), set_five_below HY.out.2.2 (Nat.le_refl _)⟩
          · rw [HRR.out]
          · rw [HRR.out]; rfl
end Go.Proofs.Ytdeelpagoffdjaa.Dat


namespace Go.Proofs.Ytdeelpagoffdjaa.Dat
open Go.RowKit
open Go.Proofs.Ytdeelpagoffdjaa (three addF subF mulF divF)
open NumPlain
set_option linter.unusedVariables false

theorem right_leaf {R : Int → Int → Bool} {Nm : ByteArray → Bool} {t : Dt} {deep : Nat} (h : t.right R Nm deep = true) (h6 : t.kd ≠ 6) (h7 : t.kd ≠ 7) : t.ls = [] := by
  obtain ⟨k, n, d, s, l⟩ := t
  have h6 : k ≠ 6 := h6
  have h7 : k ≠ 7 := h7
  unfold Dt.right headRight at h
  simp only [Bool.and_eq_true, if_neg h6, if_neg h7, decide_eq_true_eq] at h
  exact List.eq_nil_of_length_eq_zero h.1.2.2
theorem rEq_is {t u : Dt} (ht : t.right rightB nameB 0 = true) (hu : u.right rightB nameB 0 = true) : rEqB t u = eqB t u := by
  unfold rEqB eqB
  by_cases h3 : t.kd = 3
  · simp [h3]
  by_cases h6 : t.kd = 6
  · simp [h6]
  by_cases h7 : t.kd = 7
  · simp [h7]
  by_cases hk : t.kd = u.kd
  · have ht0 := right_leaf ht h6 h7
    have hu0 := right_leaf hu (by rw [← hk]; exact h6) (by rw [← hk]; exact h7)
    obtain ⟨k, n, d, s, l⟩ := t
    obtain ⟨k', n', d', s', l'⟩ := u
    simp only [Dt.kd, Dt.ls] at h3 h6 h7 hk ht0 hu0
    subst ht0 hu0 hk
    have e : (Dt.node k n d s []).alike (Dt.node k n' d' s' []) = headB (Dt.node k n d s []) (Dt.node k n' d' s' []) := by
      rw [Bool.eq_iff_iff]
      simp [headB, Dt.kd, Dt.nm, Dt.dn, Dt.tx, Dt.alike, Dt.alikeAll]
      constructor
      · rintro ⟨⟨h1, h2⟩, h3⟩
        exact ⟨⟨decide_eq_true h1, decide_eq_true h2⟩, decide_eq_true h3⟩
      · rintro ⟨⟨h1, h2⟩, h3⟩
        exact ⟨⟨of_decide_eq_true h1, of_decide_eq_true h2⟩, of_decide_eq_true h3⟩
    rw [e]
    simp [Dt.kd, h3, h6, h7]
  · simp [hk, headB]
/-- What the reference's sums answer. -/
def sumsV (l : List Dt) (x : Int × Int × Int) : Value := if l.all isNum = true then numV x else .tuple #[leafV 0 0 0, .int .i64 1]
theorem sums_join {l : List Dt} {x : Int × Int × Int} {e : Ending} (h : (l.all isNum = false ∧ e = .returned (.tuple #[leafV 0 0 0, .int .i64 1])) ∨
       (l.all isNum = true ∧ x.2.2 ≠ 0 ∧ e = .returned (.tuple #[leafV 0 0 0, .int .i64 x.2.2])) ∨
       (l.all isNum = true ∧ x.2.2 = 0 ∧ e = .returned (.tuple #[leafV 0 x.1 x.2.1, .int .i64 0]))) : e = .returned (sumsV l x) := by
  unfold sumsV numV
  rcases h with ⟨h, rfl⟩ | ⟨h, h2, rfl⟩ | ⟨h, h2, rfl⟩
  · rw [if_neg (by rw [h]; simp)]
  · rw [if_pos h, if_neg h2]
  · rw [if_pos h, if_pos h2]
theorem rSums_any (n : Int) (hn : n = 0 ∨ n = 1 ∨ n = 2 ∨ n = 3) (l : List Dt) (p : Option Addr) (cap : Nat) (w : World) (hlm : l.length ≤ maxLen) (hcap : l.length ≤ cap) (hl : l = [] ∨ ∃ b o, p = some ⟨b, o, none⟩ ∧ Dt.AllAt w l b o) :
    Calls Try.prog 62 #[.int .i64 n, .slice p l.length cap] w fun e w' => e = .returned (sumsV l (sumB n l)) ∧ Below w.heap.size w w' := by
  rcases hn with rfl | rfl | rfl | rfl
  · refine (rSumsAdd_any l p cap w hlm hl).mono fun e w' h => ⟨sums_join h.1, h.2⟩
  · match l, hlm, hcap, hl with
    | [], hlm, hcap, hl => exact (rSumsSub_any [] p cap w (by simp) hlm hl).mono fun e w' h => ⟨sums_join h.1, h.2⟩
    | [t], hlm, hcap, hl => exact (rSumsSub_any [t] p cap w (by simp) hlm hl).mono fun e w' h => ⟨sums_join h.1, h.2⟩
    | t :: u :: r, hlm, hcap, hl =>
      rcases hl with h | ⟨b, o, rfl, hall⟩
      · cases h
      · exact (rSumsSub_more (t :: u :: r) (u :: r) t rfl (r.length + 1) rfl (by omega) b o cap hcap w hlm hall).mono fun e w' h => ⟨sums_join h.1, h.2⟩
  · refine (rSumsMul_any l p cap w hlm hl).mono fun e w' h => ⟨sums_join h.1, h.2⟩
  · match l, hlm, hcap, hl with
    | [], hlm, hcap, hl => exact (rSumsDiv_any [] p cap w (by simp) hlm hl).mono fun e w' h => ⟨sums_join h.1, h.2⟩
    | [t], hlm, hcap, hl => exact (rSumsDiv_any [t] p cap w (by simp) hlm hl).mono fun e w' h => ⟨sums_join h.1, h.2⟩
    | t :: u :: r, hlm, hcap, hl =>
      rcases hl with h | ⟨b, o, rfl, hall⟩
      · cases h
      · exact (rSumsDiv_more (t :: u :: r) (u :: r) t rfl (r.length + 1) rfl (by omega) b o cap hcap w hlm hall).mono fun e w' h => ⟨sums_join h.1, h.2⟩
end Go.Proofs.Ytdeelpagoffdjaa.Dat
