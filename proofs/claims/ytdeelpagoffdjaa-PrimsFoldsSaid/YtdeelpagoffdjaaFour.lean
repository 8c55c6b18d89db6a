/- Sums, differences, products, quotients and the order, of package num and of its reference. -/
import Derived.Test.YtdeelpagoffdjaaRight
namespace Go.Proofs.Ytdeelpagoffdjaa
open Go.RowKit NumPlain

/-- What holds of an int. -/
def I64 (n : Int) : Prop := -9223372036854775808 ≤ n ∧ n ≤ 9223372036854775807

theorem make_any (n d : Int) (t : Int × Int × Int) (ht : mk n d = t) (w : World) (n0 : -9223372036854775808 ≤ n) (n1 : n ≤ 9223372036854775807) (d0 : -9223372036854775808 ≤ d) (d1 : d ≤ 9223372036854775807) :
    Calls Try.prog 24 #[.int .i64 n, .int .i64 d] w fun e w' => e = .returned (three t) ∧ ∃ k, w' = w.drewN k := by
  rw [← ht, ← mkWay_eq]; exact make_way n d w n0 n1 d0 d1
theorem makeRef_any (n d : Int) (t : Int × Int × Int) (ht : mk n d = t) (w : World) (n0 : -9223372036854775808 ≤ n) (n1 : n ≤ 9223372036854775807) (d0 : -9223372036854775808 ≤ d) (d1 : d ≤ 9223372036854775807) :
    Calls Try.prog 91 #[.int .i64 n, .int .i64 d] w fun e w' => e = .returned (three t) ∧ w = w' := by
  rw [← ht, ← mkWay_eq]; exact makeRef_way n d w n0 n1 d0 d1

set_option maxHeartbeats 400000 in
theorem both_any (n d m e : Int) (r : Bool) (hr : (rightB n d && rightB m e) = r) (w : World) (hn : I64 n) (hd : I64 d) (hm : I64 m) (he : I64 e) :
    Calls Try.prog 42 #[.int .i64 n, .int .i64 d, .int .i64 m, .int .i64 e] w fun e w' => e = .returned (.bool r) ∧ w = w' := by
  have Hr := Lib.hid hr; clear hr
  obtain ⟨n0, n1⟩ := hn
  obtain ⟨d0, d1⟩ := hd
  obtain ⟨m0, m1⟩ := hm
  obtain ⟨e0, e1⟩ := he
  cases h1 : rightB n d
  · have H1 := Lib.hid h1; clear h1
    go_enter Try.func42, Try.ntmps42
    go_wp2_with fail
    refine (right_any n d false H1.out _ n0 n1 d0 d1).mono ?_
    rintro e w' ⟨rfl, rfl⟩
    go_wp2_with fail
    go_ret
    exact ⟨ret_bool (by rw [← Hr.out, H1.out]; rfl), rfl⟩
  · have H1 := Lib.hid h1; clear h1
    cases h2 : rightB m e
    all_goals
      have H2 := Lib.hid h2; clear h2
      go_enter Try.func42, Try.ntmps42
      go_wp2_with fail
      refine (right_any n d true H1.out _ n0 n1 d0 d1).mono ?_
      rintro _ w' ⟨rfl, rfl⟩
      go_wp2_with fail
      refine (right_any m e _ H2.out _ m0 m1 e0 e1).mono ?_
      rintro _ w' ⟨rfl, rfl⟩
      go_wp2_with fail
      go_ret
      exact ⟨ret_bool (by rw [← Hr.out, H1.out, H2.out]; rfl), rfl⟩

/-! ### Two numbers that are right: their bounds, and the products of them -/
theorem right_bounds {n d : Int} (h : rightB n d = true) : 1 ≤ d ∧ d ≤ 2147483647 ∧ -2147483647 ≤ n ∧ n ≤ 2147483647 := by
  obtain ⟨_, _, _, h1, h2, h3, h4⟩ := right_num h; exact ⟨h1, h2, h3, h4⟩
theorem mul_bound {a b : Int} (ha0 : -2147483647 ≤ a) (ha1 : a ≤ 2147483647) (hb0 : -2147483647 ≤ b) (hb1 : b ≤ 2147483647) :
    -4611686014132420609 ≤ a * b ∧ a * b ≤ 4611686014132420609 := by
  have h1 : 0 ≤ (2147483647 - a) * (2147483647 + b) := Int.mul_nonneg (by omega) (by omega)
  have h2 : 0 ≤ (2147483647 + a) * (2147483647 - b) := Int.mul_nonneg (by omega) (by omega)
  have h3 : 0 ≤ (2147483647 - a) * (2147483647 - b) := Int.mul_nonneg (by omega) (by omega)
  have h4 : 0 ≤ (2147483647 + a) * (2147483647 + b) := Int.mul_nonneg (by omega) (by omega)
  constructor <;> grind


set_option maxHeartbeats 400000 in
theorem add_yes (n d m e : Int) (t : Int × Int × Int) (h1 : rightB n d = true) (h2 : rightB m e = true) (ht : mk (n * e + m * d) (d * e) = t) (w : World) :
    Calls Try.prog 25 #[.int .i64 n, .int .i64 d, .int .i64 m, .int .i64 e] w fun e w' => e = .returned (three t) ∧ ∃ k, w' = w.drewN k := by
  obtain ⟨d0, d1, n0, n1⟩ := right_bounds h1
  obtain ⟨e0, e1, m0, m1⟩ := right_bounds h2
  obtain ⟨a0, a1⟩ := mul_bound n0 n1 (show -2147483647 ≤ e by omega) e1
  obtain ⟨b0, b1⟩ := mul_bound m0 m1 (show -2147483647 ≤ d by omega) d1
  obtain ⟨c0, c1⟩ := mul_bound (show -2147483647 ≤ d by omega) d1 (show -2147483647 ≤ e by omega) e1
  have HT := Lib.hid ht; clear ht
  have H1 := Lib.hid h1; clear h1
  have H2 := Lib.hid h2; clear h2
  go_enter Try.func25, Try.ntmps25
  go_wp2_with fail
  refine (both_any n d m e true (by rw [H1.out, H2.out]; rfl) _ ⟨by omega, by omega⟩ ⟨by omega, by omega⟩ ⟨by omega, by omega⟩ ⟨by omega, by omega⟩).mono ?_
  rintro _ w' ⟨rfl, rfl⟩
  go_wp2_with fail
  refine (make_any (n * e + m * d) (d * e) t HT.out _ (by omega) (by omega) (by omega) (by omega)).mono ?_
  rintro _ w' ⟨rfl, k, rfl⟩
  unfold three
  go_wp2_with fail
  go_ret3
  exact ⟨rfl, k, rfl⟩

set_option maxHeartbeats 400000 in
theorem add_no (n d m e : Int) (h : (rightB n d && rightB m e) = false) (w : World) (hn : I64 n) (hd : I64 d) (hm : I64 m) (he : I64 e) :
    Calls Try.prog 25 #[.int .i64 n, .int .i64 d, .int .i64 m, .int .i64 e] w fun e w' => e = .returned (three (0, 0, 3)) ∧ ∃ k, w' = w.drewN k := by
  have H := Lib.hid h; clear h
  go_enter Try.func25, Try.ntmps25
  go_wp2_with fail
  refine (both_any n d m e false H.out _ hn hd hm he).mono ?_
  rintro _ w' ⟨rfl, rfl⟩
  go_wp2_with fail
  go_ret3
  exact ⟨rfl, 0, rfl⟩

/-- What the call answers. -/
def addF (n d m e : Int) : Int × Int × Int := if rightB n d && rightB m e then mk (n * e + m * d) (d * e) else (0, 0, 3)
theorem add_any (n d m e : Int) (t : Int × Int × Int) (ht : addF n d m e = t) (w : World) (hn : I64 n) (hd : I64 d) (hm : I64 m) (he : I64 e) :
    Calls Try.prog 25 #[.int .i64 n, .int .i64 d, .int .i64 m, .int .i64 e] w fun e w' => e = .returned (three t) ∧ ∃ k, w' = w.drewN k := by
  unfold addF at ht
  cases h : (rightB n d && rightB m e)
  · rw [h] at ht; subst ht; exact add_no n d m e h w hn hd hm he
  · rw [h] at ht
    rw [Bool.and_eq_true] at h
    exact add_yes n d m e t h.1 h.2 ht w

set_option maxHeartbeats 400000 in
theorem sub_yes (n d m e : Int) (t : Int × Int × Int) (h1 : rightB n d = true) (h2 : rightB m e = true) (ht : mk (n * e - m * d) (d * e) = t) (w : World) :
    Calls Try.prog 50 #[.int .i64 n, .int .i64 d, .int .i64 m, .int .i64 e] w fun e w' => e = .returned (three t) ∧ ∃ k, w' = w.drewN k := by
  obtain ⟨d0, d1, n0, n1⟩ := right_bounds h1
  obtain ⟨e0, e1, m0, m1⟩ := right_bounds h2
  obtain ⟨a0, a1⟩ := mul_bound n0 n1 (show -2147483647 ≤ e by omega) e1
  obtain ⟨b0, b1⟩ := mul_bound m0 m1 (show -2147483647 ≤ d by omega) d1
  obtain ⟨c0, c1⟩ := mul_bound (show -2147483647 ≤ d by omega) d1 (show -2147483647 ≤ e by omega) e1
  have HT := Lib.hid ht; clear ht
  have H1 := Lib.hid h1; clear h1
  have H2 := Lib.hid h2; clear h2
  go_enter Try.func50, Try.ntmps50
  go_wp2_with fail
  refine (both_any n d m e true (by rw [H1.out, H2.out]; rfl) _ ⟨by omega, by omega⟩ ⟨by omega, by omega⟩ ⟨by omega, by omega⟩ ⟨by omega, by omega⟩).mono ?_
  rintro _ w' ⟨rfl, rfl⟩
  go_wp2_with fail
  refine (make_any (n * e - m * d) (d * e) t HT.out _ (by omega) (by omega) (by omega) (by omega)).mono ?_
  rintro _ w' ⟨rfl, k, rfl⟩
  unfold three
  go_wp2_with fail
  go_ret3
  exact ⟨rfl, k, rfl⟩

set_option maxHeartbeats 400000 in
theorem sub_no (n d m e : Int) (h : (rightB n d && rightB m e) = false) (w : World) (hn : I64 n) (hd : I64 d) (hm : I64 m) (he : I64 e) :
    Calls Try.prog 50 #[.int .i64 n, .int .i64 d, .int .i64 m, .int .i64 e] w fun e w' => e = .returned (three (0, 0, 3)) ∧ ∃ k, w' = w.drewN k := by
  have H := Lib.hid h; clear h
  go_enter Try.func50, Try.ntmps50
  go_wp2_with fail
  refine (both_any n d m e false H.out _ hn hd hm he).mono ?_
  rintro _ w' ⟨rfl, rfl⟩
  go_wp2_with fail
  go_ret3
  exact ⟨rfl, 0, rfl⟩

/-- What the call answers. -/
def subF (n d m e : Int) : Int × Int × Int := if rightB n d && rightB m e then mk (n * e - m * d) (d * e) else (0, 0, 3)
theorem sub_any (n d m e : Int) (t : Int × Int × Int) (ht : subF n d m e = t) (w : World) (hn : I64 n) (hd : I64 d) (hm : I64 m) (he : I64 e) :
    Calls Try.prog 50 #[.int .i64 n, .int .i64 d, .int .i64 m, .int .i64 e] w fun e w' => e = .returned (three t) ∧ ∃ k, w' = w.drewN k := by
  unfold subF at ht
  cases h : (rightB n d && rightB m e)
  · rw [h] at ht; subst ht; exact sub_no n d m e h w hn hd hm he
  · rw [h] at ht
    rw [Bool.and_eq_true] at h
    exact sub_yes n d m e t h.1 h.2 ht w

set_option maxHeartbeats 400000 in
theorem mul_yes (n d m e : Int) (t : Int × Int × Int) (h1 : rightB n d = true) (h2 : rightB m e = true) (ht : mk (n * m) (d * e) = t) (w : World) :
    Calls Try.prog 26 #[.int .i64 n, .int .i64 d, .int .i64 m, .int .i64 e] w fun e w' => e = .returned (three t) ∧ ∃ k, w' = w.drewN k := by
  obtain ⟨d0, d1, n0, n1⟩ := right_bounds h1
  obtain ⟨e0, e1, m0, m1⟩ := right_bounds h2
  obtain ⟨a0, a1⟩ := mul_bound n0 n1 m0 m1
  obtain ⟨c0, c1⟩ := mul_bound (show -2147483647 ≤ d by omega) d1 (show -2147483647 ≤ e by omega) e1
  have HT := Lib.hid ht; clear ht
  have H1 := Lib.hid h1; clear h1
  have H2 := Lib.hid h2; clear h2
  go_enter Try.func26, Try.ntmps26
  go_wp2_with fail
  refine (both_any n d m e true (by rw [H1.out, H2.out]; rfl) _ ⟨by omega, by omega⟩ ⟨by omega, by omega⟩ ⟨by omega, by omega⟩ ⟨by omega, by omega⟩).mono ?_
  rintro _ w' ⟨rfl, rfl⟩
  go_wp2_with fail
  refine (make_any (n * m) (d * e) t HT.out _ (by omega) (by omega) (by omega) (by omega)).mono ?_
  rintro _ w' ⟨rfl, k, rfl⟩
  unfold three
  go_wp2_with fail
  go_ret3
  exact ⟨rfl, k, rfl⟩

set_option maxHeartbeats 400000 in
theorem mul_no (n d m e : Int) (h : (rightB n d && rightB m e) = false) (w : World) (hn : I64 n) (hd : I64 d) (hm : I64 m) (he : I64 e) :
    Calls Try.prog 26 #[.int .i64 n, .int .i64 d, .int .i64 m, .int .i64 e] w fun e w' => e = .returned (three (0, 0, 3)) ∧ ∃ k, w' = w.drewN k := by
  have H := Lib.hid h; clear h
  go_enter Try.func26, Try.ntmps26
  go_wp2_with fail
  refine (both_any n d m e false H.out _ hn hd hm he).mono ?_
  rintro _ w' ⟨rfl, rfl⟩
  go_wp2_with fail
  go_ret3
  exact ⟨rfl, 0, rfl⟩

/-- What the call answers. -/
def mulF (n d m e : Int) : Int × Int × Int := if rightB n d && rightB m e then mk (n * m) (d * e) else (0, 0, 3)
theorem mul_any (n d m e : Int) (t : Int × Int × Int) (ht : mulF n d m e = t) (w : World) (hn : I64 n) (hd : I64 d) (hm : I64 m) (he : I64 e) :
    Calls Try.prog 26 #[.int .i64 n, .int .i64 d, .int .i64 m, .int .i64 e] w fun e w' => e = .returned (three t) ∧ ∃ k, w' = w.drewN k := by
  unfold mulF at ht
  cases h : (rightB n d && rightB m e)
  · rw [h] at ht; subst ht; exact mul_no n d m e h w hn hd hm he
  · rw [h] at ht
    rw [Bool.and_eq_true] at h
    exact mul_yes n d m e t h.1 h.2 ht w

set_option maxHeartbeats 400000 in
theorem div_yes (n d m e : Int) (t : Int × Int × Int) (h1 : rightB n d = true) (h2 : rightB m e = true) (ht : mk (n * e) (d * m) = t) (w : World) :
    Calls Try.prog 51 #[.int .i64 n, .int .i64 d, .int .i64 m, .int .i64 e] w fun e w' => e = .returned (three t) ∧ ∃ k, w' = w.drewN k := by
  obtain ⟨d0, d1, n0, n1⟩ := right_bounds h1
  obtain ⟨e0, e1, m0, m1⟩ := right_bounds h2
  obtain ⟨a0, a1⟩ := mul_bound n0 n1 (show -2147483647 ≤ e by omega) e1
  obtain ⟨c0, c1⟩ := mul_bound (show -2147483647 ≤ d by omega) d1 m0 m1
  have HT := Lib.hid ht; clear ht
  have H1 := Lib.hid h1; clear h1
  have H2 := Lib.hid h2; clear h2
  go_enter Try.func51, Try.ntmps51
  go_wp2_with fail
  refine (both_any n d m e true (by rw [H1.out, H2.out]; rfl) _ ⟨by omega, by omega⟩ ⟨by omega, by omega⟩ ⟨by omega, by omega⟩ ⟨by omega, by omega⟩).mono ?_
  rintro _ w' ⟨rfl, rfl⟩
  go_wp2_with fail
  refine (make_any (n * e) (d * m) t HT.out _ (by omega) (by omega) (by omega) (by omega)).mono ?_
  rintro _ w' ⟨rfl, k, rfl⟩
  unfold three
  go_wp2_with fail
  go_ret3
  exact ⟨rfl, k, rfl⟩

set_option maxHeartbeats 400000 in
theorem div_no (n d m e : Int) (h : (rightB n d && rightB m e) = false) (w : World) (hn : I64 n) (hd : I64 d) (hm : I64 m) (he : I64 e) :
    Calls Try.prog 51 #[.int .i64 n, .int .i64 d, .int .i64 m, .int .i64 e] w fun e w' => e = .returned (three (0, 0, 3)) ∧ ∃ k, w' = w.drewN k := by
  have H := Lib.hid h; clear h
  go_enter Try.func51, Try.ntmps51
  go_wp2_with fail
  refine (both_any n d m e false H.out _ hn hd hm he).mono ?_
  rintro _ w' ⟨rfl, rfl⟩
  go_wp2_with fail
  go_ret3
  exact ⟨rfl, 0, rfl⟩

/-- What the call answers. -/
def divF (n d m e : Int) : Int × Int × Int := if rightB n d && rightB m e then mk (n * e) (d * m) else (0, 0, 3)
theorem div_any (n d m e : Int) (t : Int × Int × Int) (ht : divF n d m e = t) (w : World) (hn : I64 n) (hd : I64 d) (hm : I64 m) (he : I64 e) :
    Calls Try.prog 51 #[.int .i64 n, .int .i64 d, .int .i64 m, .int .i64 e] w fun e w' => e = .returned (three t) ∧ ∃ k, w' = w.drewN k := by
  unfold divF at ht
  cases h : (rightB n d && rightB m e)
  · rw [h] at ht; subst ht; exact div_no n d m e h w hn hd hm he
  · rw [h] at ht
    rw [Bool.and_eq_true] at h
    exact div_yes n d m e t h.1 h.2 ht w

def lessF (n d m e : Int) : Bool := (rightB n d && rightB m e) && decide (n * e < m * d)

set_option maxHeartbeats 400000 in
theorem less_any (n d m e : Int) (r : Bool) (hr : lessF n d m e = r) (w : World) (hn : I64 n) (hd : I64 d) (hm : I64 m) (he : I64 e) :
    Calls Try.prog 54 #[.int .i64 n, .int .i64 d, .int .i64 m, .int .i64 e] w fun e w' => e = .returned (.bool r) ∧ w = w' := by
  have HR := Lib.hid hr; clear hr
  cases h : (rightB n d && rightB m e)
  · have H := Lib.hid h; clear h
    go_enter Try.func54, Try.ntmps54
    go_wp2_with fail
    refine (both_any n d m e false H.out _ hn hd hm he).mono ?_
    rintro _ w' ⟨rfl, rfl⟩
    go_wp2_with fail
    go_ret
    exact ⟨ret_bool (by rw [← HR.out]; unfold lessF; rw [H.out]; rfl), rfl⟩
  · have h' := h
    rw [Bool.and_eq_true] at h'
    obtain ⟨d0, d1, n0, n1⟩ := right_bounds h'.1
    obtain ⟨e0, e1, m0, m1⟩ := right_bounds h'.2
    clear h'
    have H := Lib.hid h; clear h
    obtain ⟨a0, a1⟩ := mul_bound n0 n1 (show -2147483647 ≤ e by omega) e1
    obtain ⟨b0, b1⟩ := mul_bound m0 m1 (show -2147483647 ≤ d by omega) d1
    go_enter Try.func54, Try.ntmps54
    go_wp2_with fail
    refine (both_any n d m e true H.out _ hn hd hm he).mono ?_
    rintro _ w' ⟨rfl, rfl⟩
    go_wp2_with fail
    go_ret
    exact ⟨ret_bool (by rw [← HR.out]; unfold lessF; rw [H.out]; rfl), rfl⟩
end Go.Proofs.Ytdeelpagoffdjaa
