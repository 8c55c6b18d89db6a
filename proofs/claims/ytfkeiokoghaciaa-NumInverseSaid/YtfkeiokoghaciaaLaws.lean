/- The walks of the statements NumMakes, NumAdds and NumInverse. -/
import Derived.Test.YtfkeiokoghaciaaRef
namespace Go.Proofs.Ytfkeiokoghaciaa
open Go.RowKit NumPlain

theorem awake_add : addF 1 2 1 3 = (5, 6, 0) := by decide +kernel
theorem awake_mul : mulF 1073741824 1 4 1 = (0, 0, 3) := by decide +kernel

theorem grown_drewN (w : World) (k : Nat) : Grown w (w.drewN k) := by
  induction k with
  | zero => exact Grown.refl _
  | succ k ih => exact Grown.drew ih
theorem wf64 {n : Int} (h : (Lit.int .i64 n).wf = true) : I64 n := by
  simp only [Lit.wf, Bool.and_eq_true, decide_eq_true_eq] at h
  exact ⟨h.1, h.2⟩
set_option maxHeartbeats 400000 in
theorem awake_true (w : World) : Calls Try.prog 8 #[] w fun e w' => e = .returned (.bool true) ∧ ∃ k, w' = w.drewN k := by
  go_enter Try.func8, Try.ntmps8
  go_wp2_with fail
  refine (make_any 6 (-4) _ mk_six _ (by omega) (by omega) (by omega) (by omega)).mono ?_
  rintro _ w' ⟨rfl, k1, rfl⟩
  unfold three
  go_wp2_with fail
  refine (add_any 1 2 1 3 _ awake_add _ ⟨by omega, by omega⟩ ⟨by omega, by omega⟩ ⟨by omega, by omega⟩ ⟨by omega, by omega⟩).mono ?_
  rintro _ w' ⟨rfl, k2, rfl⟩
  unfold three
  go_wp2_with fail
  refine (mul_any 1073741824 1 4 1 _ awake_mul _ ⟨by omega, by omega⟩ ⟨by omega, by omega⟩ ⟨by omega, by omega⟩ ⟨by omega, by omega⟩).mono ?_
  rintro _ w' ⟨rfl, k3, rfl⟩
  unfold three
  go_wp2_with fail
  go_ret
  exact ⟨rfl, _, rfl⟩

set_option maxHeartbeats 400000 in
theorem makes_true (n d : Int) (n0 : -9223372036854775808 ≤ n) (n1 : n ≤ 9223372036854775807) (d0 : -9223372036854775808 ≤ d) (d1 : d ≤ 9223372036854775807) (w : World) :
    Calls Try.prog 3 #[.int .i64 n, .int .i64 d] w fun e w' => e = .returned (.bool true) ∧ ∃ k, w' = w.drewN k := by
  obtain ⟨t, ht⟩ : ∃ t, mk n d = t := ⟨_, rfl⟩
  obtain ⟨r, hr⟩ : ∃ r, rightB n d = r := ⟨_, rfl⟩
  have HT := Lib.hid ht; clear ht
  have HR := Lib.hid hr; clear hr
  go_enter Try.func3, Try.ntmps3
  go_wp2_with fail
  refine (awake_true _).mono ?_
  rintro _ w' ⟨rfl, k0, rfl⟩
  go_wp2_with fail
  refine (make_any n d t HT.out _ n0 n1 d0 d1).mono ?_
  rintro _ w' ⟨rfl, k1, rfl⟩
  unfold three
  go_wp2_with fail
  refine (makeRef_any n d t HT.out _ n0 n1 d0 d1).mono ?_
  rintro _ w' ⟨rfl, rfl⟩
  unfold three
  go_wp2_with fail
  refine (right_any n d r HR.out _ n0 n1 d0 d1).mono ?_
  rintro _ w' ⟨rfl, rfl⟩
  go_wp2_with fail
  refine (rightRef_any n d r HR.out _ n0 n1 d0 d1).mono ?_
  rintro _ w' ⟨rfl, rfl⟩
  go_wp2_with fail
  go_ret
  exact ⟨rfl, _, rfl⟩

set_option maxHeartbeats 1000000 in
set_option maxRecDepth 100000 in
theorem adds_true (n d m e : Int) (hn : I64 n) (hd : I64 d) (hm : I64 m) (he : I64 e) (w : World) :
    Calls Try.prog 4 #[.int .i64 n, .int .i64 d, .int .i64 m, .int .i64 e] w fun e w' => e = .returned (.bool true) ∧ ∃ k, w' = w.drewN k := by
  obtain ⟨t1, h1⟩ : ∃ t, addF n d m e = t := ⟨_, rfl⟩
  obtain ⟨t2, h2⟩ : ∃ t, subF n d m e = t := ⟨_, rfl⟩
  obtain ⟨t3, h3⟩ : ∃ t, mulF n d m e = t := ⟨_, rfl⟩
  obtain ⟨t4, h4⟩ : ∃ t, divF n d m e = t := ⟨_, rfl⟩
  obtain ⟨r, h5⟩ : ∃ r, lessF n d m e = r := ⟨_, rfl⟩
  have H1 := Lib.hid h1; clear h1
  have H2 := Lib.hid h2; clear h2
  have H3 := Lib.hid h3; clear h3
  have H4 := Lib.hid h4; clear h4
  have H5 := Lib.hid h5; clear h5
  go_enter Try.func4, Try.ntmps4
  go_wp2_with fail
  refine (awake_true _).mono ?_
  rintro _ w' ⟨rfl, k0, rfl⟩
  go_wp2_with fail
  refine (add_any n d m e t1 H1.out _ hn hd hm he).mono ?_
  rintro _ w' ⟨rfl, k1, rfl⟩
  unfold three
  go_wp2_with fail
  refine (addRef_any n d m e t1 H1.out _ hn hd hm he).mono ?_
  rintro _ w' ⟨rfl, rfl⟩
  unfold three
  go_wp2_with fail
  refine (sub_any n d m e t2 H2.out _ hn hd hm he).mono ?_
  rintro _ w' ⟨rfl, k2, rfl⟩
  unfold three
  go_wp2_with fail
  refine (subRef_any n d m e t2 H2.out _ hn hd hm he).mono ?_
  rintro _ w' ⟨rfl, rfl⟩
  unfold three
  go_wp2_with fail
  refine (mul_any n d m e t3 H3.out _ hn hd hm he).mono ?_
  rintro _ w' ⟨rfl, k3, rfl⟩
  unfold three
  go_wp2_with fail
  refine (mulRef_any n d m e t3 H3.out _ hn hd hm he).mono ?_
  rintro _ w' ⟨rfl, k4, rfl⟩
  unfold three
  go_wp2_with fail
  refine (div_any n d m e t4 H4.out _ hn hd hm he).mono ?_
  rintro _ w' ⟨rfl, k5, rfl⟩
  unfold three
  go_wp2_with fail
  refine (divRef_any n d m e t4 H4.out _ hn hd hm he).mono ?_
  rintro _ w' ⟨rfl, k6, rfl⟩
  unfold three
  go_wp2_with fail
  refine (less_any n d m e r H5.out _ hn hd hm he).mono ?_
  rintro _ w' ⟨rfl, rfl⟩
  go_wp2_with fail
  refine (lessRef_any n d m e r H5.out _ hn hd hm he).mono ?_
  rintro _ w' ⟨rfl, rfl⟩
  go_wp2_with fail
  go_ret
  exact ⟨rfl, _, rfl⟩

/-! ### NumInverse -/
theorem mk_of_fits {q : Rat} (h : fits q = true) : mk q.num q.den = (q.num, (q.den : Int), 0) := by
  unfold mk
  have := q.den_pos
  rw [if_neg (by omega), divInt_self, fin_yes h]
theorem addF_rat {p q : Rat} (hp : fits p = true) (hq : fits q = true) : addF p.num p.den q.num q.den = fin (p + q) := by
  unfold addF
  rw [right_of_fits hp, right_of_fits hq]
  simp only [Bool.and_self, if_true]
  rw [mk_add (right_of_fits hp) (right_of_fits hq), divInt_self, divInt_self]
theorem subF_rat {p q : Rat} (hp : fits p = true) (hq : fits q = true) : subF p.num p.den q.num q.den = fin (p - q) := by
  unfold subF
  rw [right_of_fits hp, right_of_fits hq]
  simp only [Bool.and_self, if_true]
  rw [mk_sub (right_of_fits hp) (right_of_fits hq), divInt_self, divInt_self]
theorem mulF_rat {p q : Rat} (hp : fits p = true) (hq : fits q = true) : mulF p.num p.den q.num q.den = fin (p * q) := by
  unfold mulF
  rw [right_of_fits hp, right_of_fits hq]
  simp only [Bool.and_self, if_true]
  rw [mk_mul (right_of_fits hp) (right_of_fits hq), divInt_self, divInt_self]
theorem divF_rat {p q : Rat} (hp : fits p = true) (hq : fits q = true) : divF p.num p.den q.num q.den = if q.num = 0 then (0, 0, 4) else fin (p / q) := by
  unfold divF
  rw [right_of_fits hp, right_of_fits hq]
  simp only [Bool.and_self, if_true]
  rw [mk_div (right_of_fits hp) (right_of_fits hq), divInt_self, divInt_self]
theorem lessF_rat {p q : Rat} (hp : fits p = true) (hq : fits q = true) : lessF p.num p.den q.num q.den = decide (p < q) := by
  unfold lessF
  rw [right_of_fits hp, right_of_fits hq, less_iff (right_of_fits hp) (right_of_fits hq), divInt_self, divInt_self]
  rfl
theorem fits_bounds {q : Rat} (h : fits q = true) : -2147483647 ≤ q.num ∧ q.num ≤ 2147483647 ∧ 1 ≤ (q.den : Int) ∧ (q.den : Int) ≤ 2147483647 := by
  rw [fits_iff] at h
  have := q.den_pos
  omega
theorem fin_zero : fin 0 = (0, 1, 0) := by decide +kernel
theorem fin_one : fin 1 = (1, 1, 0) := by decide +kernel
theorem num_zero {q : Rat} (h : q.num ≠ 0) : q ≠ 0 := fun e => h (by rw [e]; rfl)
theorem right_zero : rightB 0 0 = false := by decide +kernel

set_option maxHeartbeats 400000 in
theorem inverse_true (a b : Int) (a0 : -9223372036854775808 ≤ a) (a1 : a ≤ 9223372036854775807) (b0 : -9223372036854775808 ≤ b) (b1 : b ≤ 9223372036854775807) (w : World) :
    Calls Try.prog 7 #[.int .i64 a, .int .i64 b] w fun e w' => e = .returned (.bool true) ∧ ∃ k, w' = w.drewN k := by
  obtain ⟨x, y, e, ht, e0, e4, hq, hz⟩ := mk_ends a b
  by_cases he : e = 0
  · obtain ⟨q, hf, _, _, hx, hy⟩ := hq he
    subst he
    clear hq hz
    obtain ⟨n0, n1, d0, d1⟩ := fits_bounds hf
    rw [← hx] at n0 n1
    rw [← hy] at d0 d1
    have hr : rightB x y = true := by rw [hx, hy]; exact right_of_fits hf
    have hs : subF x y x y = (0, 1, 0) := by rw [hx, hy, subF_rat hf hf]; rw [show q - q = 0 from by grind]; exact fin_zero
    have hm : mk x y = (x, y, 0) := by rw [hx, hy]; exact mk_of_fits hf
    have HR := Lib.hid hr; clear hr
    by_cases hn : x = 0
    · have hd : divF x y x y = (0, 0, 4) := by rw [hx, hy, divF_rat hf hf, if_pos (by rw [← hx]; exact hn)]
      clear hx hy hf
      subst hn
      have HT := Lib.hid ht; clear ht
      have HS := Lib.hid hs; clear hs
      have HM := Lib.hid hm; clear hm
      have HD := Lib.hid hd; clear hd
      go_enter Try.func7, Try.ntmps7
      go_wp2_with fail
      refine (awake_true _).mono ?_
      rintro _ w' ⟨rfl, k0, rfl⟩
      go_wp2_with fail
      refine (make_any a b _ HT.out _ a0 a1 b0 b1).mono ?_
      rintro _ w' ⟨rfl, k1, rfl⟩
      unfold three
      go_wp2_with fail
      refine (sub_any 0 y 0 y _ HS.out _ ⟨by omega, by omega⟩ ⟨by omega, by omega⟩ ⟨by omega, by omega⟩ ⟨by omega, by omega⟩).mono ?_
      rintro _ w' ⟨rfl, k2, rfl⟩
      unfold three
      go_wp2_with fail
      refine (make_any 0 y _ HM.out _ (by omega) (by omega) (by omega) (by omega)).mono ?_
      rintro _ w' ⟨rfl, k3, rfl⟩
      unfold three
      go_wp2_with fail
      refine (div_any 0 y 0 y _ HD.out _ ⟨by omega, by omega⟩ ⟨by omega, by omega⟩ ⟨by omega, by omega⟩ ⟨by omega, by omega⟩).mono ?_
      rintro _ w' ⟨rfl, k4, rfl⟩
      unfold three
      go_wp2_with fail
      refine (right_any 0 y true HR.out _ (by omega) (by omega) (by omega) (by omega)).mono ?_
      rintro _ w' ⟨rfl, rfl⟩
      go_wp2_with fail
      go_ret
      exact ⟨rfl, _, rfl⟩
    · have hd : divF x y x y = (1, 1, 0) := by
        rw [hx, hy, divF_rat hf hf, if_neg (by rw [← hx]; exact hn)]
        have := num_zero (q := q) (by rw [← hx]; exact hn)
        rw [show q / q = 1 from by grind]; exact fin_one
      clear hx hy hf
      have hb : (x == 0) = false := by rw [beq_eq_false_iff_ne]; exact hn
      have hb2 : (x != 0) = true := by rw [bne_iff_ne]; exact hn
      have HT := Lib.hid ht; clear ht
      have HS := Lib.hid hs; clear hs
      have HM := Lib.hid hm; clear hm
      have HD := Lib.hid hd; clear hd hn
      go_enter Try.func7, Try.ntmps7
      go_wp2_with fail
      refine (awake_true _).mono ?_
      rintro _ w' ⟨rfl, k0, rfl⟩
      go_wp2_with fail
      refine (make_any a b _ HT.out _ a0 a1 b0 b1).mono ?_
      rintro _ w' ⟨rfl, k1, rfl⟩
      unfold three
      go_wp2_with fail
      refine (sub_any x y x y _ HS.out _ ⟨by omega, by omega⟩ ⟨by omega, by omega⟩ ⟨by omega, by omega⟩ ⟨by omega, by omega⟩).mono ?_
      rintro _ w' ⟨rfl, k2, rfl⟩
      unfold three
      go_wp2_with fail
      refine (make_any x y _ HM.out _ (by omega) (by omega) (by omega) (by omega)).mono ?_
      rintro _ w' ⟨rfl, k3, rfl⟩
      unfold three
      go_wp2_with fail
      refine (div_any x y x y _ HD.out _ ⟨by omega, by omega⟩ ⟨by omega, by omega⟩ ⟨by omega, by omega⟩ ⟨by omega, by omega⟩).mono ?_
      rintro _ w' ⟨rfl, k4, rfl⟩
      unfold three
      go_wp2_with fail
      refine (right_any x y true HR.out _ (by omega) (by omega) (by omega) (by omega)).mono ?_
      rintro _ w' ⟨rfl, rfl⟩
      go_wp2_with fail
      go_ret
      exact ⟨rfl, _, rfl⟩
  · obtain ⟨rfl, rfl⟩ := hz he
    have he' : (e == 0) = false := by rw [beq_eq_false_iff_ne]; exact he
    have he2 : (e != 0) = true := by rw [bne_iff_ne]; exact he
    have HT := Lib.hid ht; clear ht hq hz he
    go_enter Try.func7, Try.ntmps7
    go_wp2_with fail
    refine (awake_true _).mono ?_
    rintro _ w' ⟨rfl, k0, rfl⟩
    go_wp2_with fail
    refine (make_any a b _ HT.out _ a0 a1 b0 b1).mono ?_
    rintro _ w' ⟨rfl, k1, rfl⟩
    unfold three
    go_wp2_with fail
    refine (right_any 0 0 false right_zero _ (by omega) (by omega) (by omega) (by omega)).mono ?_
    rintro _ w' ⟨rfl, rfl⟩
    go_wp2_with fail
    go_ret
    exact ⟨rfl, _, rfl⟩
end Go.Proofs.Ytfkeiokoghaciaa
