/- Right and Make, of package num and of its reference. -/
import Derived.Test.YtdeelpagoffdjaaLeaf
import Derived.Deep.QuietTactic
import Derived.BigQuiet
namespace Go.Proofs.Ytdeelpagoffdjaa
open Go.RowKit NumPlain

theorem ret_bool {a b : Bool} (h : a = b) : Ending.returned (.bool a) = .returned (.bool b) := by rw [h]
theorem right_out {n d : Int} (h : n < -2147483647 ∨ 2147483647 < n ∨ d < 1 ∨ 2147483647 < d) : rightB n d = false := by
  unfold rightB
  rw [Bool.eq_false_iff]
  simp only [ne_eq, Bool.and_eq_true, decide_eq_true_eq]
  omega
theorem one_test (g : Nat) : ((g : Int) == 1) = decide (g = 1) := by
  rw [Bool.eq_iff_iff, beq_iff_eq, decide_eq_true_eq]; omega
theorem right_in {n d : Int} (h1 : 1 ≤ d) (h2 : d ≤ 2147483647) (h3 : -2147483647 ≤ n) (h4 : n ≤ 2147483647) : rightB n d = decide (Nat.gcd n.natAbs d.natAbs = 1) := by
  unfold rightB
  simp [h1, h2, h3, h4]

set_option maxHeartbeats 400000 in
theorem right_any (n d : Int) (r : Bool) (hr : rightB n d = r) (w : World) (n0 : -9223372036854775808 ≤ n) (n1 : n ≤ 9223372036854775807) (d0 : -9223372036854775808 ≤ d) (d1 : d ≤ 9223372036854775807) :
    Calls Try.prog 70 #[.int .i64 n, .int .i64 d] w fun e w' => e = .returned (.bool r) ∧ w = w' := by
  have Hr := Lib.hid hr; clear hr
  by_cases c1 : n < -2147483647
  · go_enter Try.func70, Try.ntmps70
    go_wp2
    go_ret
    exact ⟨ret_bool (by rw [← Hr.out, right_out (by omega)]), rfl⟩
  by_cases c2 : 2147483647 < n
  · go_enter Try.func70, Try.ntmps70
    go_wp2
    go_ret
    exact ⟨ret_bool (by rw [← Hr.out, right_out (by omega)]), rfl⟩
  by_cases c3 : d < 1
  · go_enter Try.func70, Try.ntmps70
    go_wp2
    go_ret
    exact ⟨ret_bool (by rw [← Hr.out, right_out (by omega)]), rfl⟩
  by_cases c4 : 2147483647 < d
  · go_enter Try.func70, Try.ntmps70
    go_wp2
    go_ret
    exact ⟨ret_bool (by rw [← Hr.out, right_out (by omega)]), rfl⟩
  go_enter Try.func70, Try.ntmps70
  go_wp2_with fail
  refine (size_any n (by omega) (by omega) _).mono ?_
  rintro e w' ⟨rfl, rfl⟩
  go_wp2_with fail
  refine (size_any d (by omega) (by omega) _).mono ?_
  rintro e w' ⟨rfl, rfl⟩
  go_wp2_with fail
  refine (common_nat n.natAbs d.natAbs (by omega) (by omega) (by omega) _).mono ?_
  rintro e w' ⟨rfl, rfl⟩
  go_wp2_with fail
  go_ret
  exact ⟨ret_bool ((one_test _).trans ((right_in (by omega) (by omega) (by omega) (by omega)).symm.trans Hr.out)), rfl⟩

set_option maxHeartbeats 400000 in
theorem rightRef_any (n d : Int) (r : Bool) (hr : rightB n d = r) (w : World) (n0 : -9223372036854775808 ≤ n) (n1 : n ≤ 9223372036854775807) (d0 : -9223372036854775808 ≤ d) (d1 : d ≤ 9223372036854775807) :
    Calls Try.prog 80 #[.int .i64 n, .int .i64 d] w fun e w' => e = .returned (.bool r) ∧ w = w' := by
  have Hr := Lib.hid hr; clear hr
  by_cases c3 : d < 1
  · go_enter Try.func80, Try.ntmps80
    go_wp2
    go_ret
    exact ⟨ret_bool (by rw [← Hr.out, right_out (by omega)]), rfl⟩
  by_cases c4 : 2147483647 < d
  · go_enter Try.func80, Try.ntmps80
    go_wp2
    go_ret
    exact ⟨ret_bool (by rw [← Hr.out, right_out (by omega)]), rfl⟩
  by_cases c1 : n < -2147483647
  · go_enter Try.func80, Try.ntmps80
    go_wp2
    go_ret
    exact ⟨ret_bool (by rw [← Hr.out, right_out (by omega)]), rfl⟩
  by_cases c2 : 2147483647 < n
  · go_enter Try.func80, Try.ntmps80
    go_wp2
    go_ret
    exact ⟨ret_bool (by rw [← Hr.out, right_out (by omega)]), rfl⟩
  obtain ⟨D, rfl⟩ : ∃ D : Nat, d = (D : Int) := ⟨d.natAbs, by omega⟩
  go_enter Try.func80, Try.ntmps80
  go_wp2_with fail
  refine (sizeRef_any n (by omega) (by omega) _).mono ?_
  rintro e w' ⟨rfl, rfl⟩
  go_wp2_with fail
  refine (gcdRef_nat n.natAbs D (by omega) (by omega) _).mono ?_
  rintro e w' ⟨rfl, rfl⟩
  go_wp2_with fail
  go_ret
  exact ⟨ret_bool ((one_test _).trans ((right_in (by omega) (by omega) (by omega) (by omega)).symm.trans Hr.out)), rfl⟩

/-- What a call that answers a number answers. -/
def three (t : Int × Int × Int) : Value := .tuple #[.int .i64 t.1, .int .i64 t.2.1, .int .i64 t.2.2]

theorem ret_three {t : Int × Int × Int} {a b c : Int} (h : t = (a, b, c)) : Ending.returned (.tuple #[.int .i64 a, .int .i64 b, .int .i64 c]) = .returned (three t) := by rw [h]; rfl

theorem way_zero (n : Int) : mkWay n 0 = (0, 0, 4) := rfl
theorem way_great {n d : Int} {A B : Nat} (hd : d ≠ 0) (hA : n.natAbs / Nat.gcd n.natAbs d.natAbs = A) (hB : d.natAbs / Nat.gcd n.natAbs d.natAbs = B) (h : 2147483647 < A ∨ 2147483647 < B) : mkWay n d = (0, 0, 3) := by
  unfold mkWay; rw [hA, hB, if_neg hd, if_pos h]
theorem way_fits {n d x : Int} {A B : Nat} (hd : d ≠ 0) (hA : n.natAbs / Nat.gcd n.natAbs d.natAbs = A) (hB : d.natAbs / Nat.gcd n.natAbs d.natAbs = B) (cA : A ≤ 2147483647) (cB : B ≤ 2147483647)
    (h : (n < 0 ∧ ¬ d < 0 ∧ x = -(A : Int)) ∨ (¬ n < 0 ∧ d < 0 ∧ x = -(A : Int)) ∨ (n < 0 ∧ d < 0 ∧ x = A) ∨ (¬ n < 0 ∧ ¬ d < 0 ∧ x = A)) : mkWay n d = (x, (B : Int), 0) := by
  unfold mkWay; rw [hA, hB, if_neg hd, if_neg (by omega)]
  rcases h with ⟨h1, h2, rfl⟩ | ⟨h1, h2, rfl⟩ | ⟨h1, h2, rfl⟩ | ⟨h1, h2, rfl⟩ <;> simp [h1, h2]

set_option maxHeartbeats 1000000 in
theorem make_way (n d : Int) (w : World) (n0 : -9223372036854775808 ≤ n) (n1 : n ≤ 9223372036854775807) (d0 : -9223372036854775808 ≤ d) (d1 : d ≤ 9223372036854775807) :
    Calls Try.prog 24 #[.int .i64 n, .int .i64 d] w fun e w' => e = .returned (three (mkWay n d)) ∧ ∃ k, w' = w.drewN k := by
  by_cases hd : d = 0
  · subst hd
    go_enter Try.func24, Try.ntmps24
    go_wp2
    go_ret3
    exact ⟨rfl, 0, rfl⟩
  have hd' : (d == 0) = false := by rw [beq_eq_false_iff_ne]; exact hd
  have hg : 0 < Nat.gcd n.natAbs d.natAbs := Nat.gcd_pos_of_pos_right _ (by omega)
  have hg1 : Nat.gcd n.natAbs d.natAbs ≤ d.natAbs := Nat.gcd_le_right _ (by omega)
  obtain ⟨A, hA⟩ : ∃ A, n.natAbs / Nat.gcd n.natAbs d.natAbs = A := ⟨_, rfl⟩
  obtain ⟨B, hB⟩ : ∃ B, d.natAbs / Nat.gcd n.natAbs d.natAbs = B := ⟨_, rfl⟩
  have lA : A ≤ n.natAbs := by rw [← hA]; exact Nat.div_le_self _ _
  have lB : B ≤ d.natAbs := by rw [← hB]; exact Nat.div_le_self _ _
  have wA : IntKind.u64.wrap ((n.natAbs : Int) / (Nat.gcd n.natAbs d.natAbs : Nat)) = (A : Int) := by
    rw [← hA]; rw [IntWalk.u64_in _ ⟨by omega, by rw [← Int.natCast_ediv, hA]; omega⟩, Int.natCast_ediv]
  have wB : IntKind.u64.wrap ((d.natAbs : Int) / (Nat.gcd n.natAbs d.natAbs : Nat)) = (B : Int) := by
    rw [← hB]; rw [IntWalk.u64_in _ ⟨by omega, by rw [← Int.natCast_ediv, hB]; omega⟩, Int.natCast_ediv]
  have HA := Lib.hid hA; clear hA
  have HB := Lib.hid hB; clear hB
  have GO : ∀ t : Int × Int × Int, mkWay n d = t →
      (2147483647 < A ∧ t = (0, 0, 3)) ∨ (A ≤ 2147483647 ∧ 2147483647 < B ∧ t = (0, 0, 3)) ∨
      (A ≤ 2147483647 ∧ B ≤ 2147483647 ∧ ((decide (n < 0) = true ∧ decide (d < 0) = false ∧ t = (-(A : Int), (B : Int), 0)) ∨ (decide (n < 0) = false ∧ decide (d < 0) = true ∧ t = (-(A : Int), (B : Int), 0)) ∨ (decide (n < 0) = true ∧ decide (d < 0) = true ∧ t = ((A : Int), (B : Int), 0)) ∨ (decide (n < 0) = false ∧ decide (d < 0) = false ∧ t = ((A : Int), (B : Int), 0)))) := by
    intro t ht
    by_cases cA : 2147483647 < A
    · exact Or.inl ⟨cA, by rw [← ht]; exact way_great hd HA.out HB.out (Or.inl cA)⟩
    by_cases cB : 2147483647 < B
    · exact Or.inr (Or.inl ⟨by omega, cB, by rw [← ht]; exact way_great hd HA.out HB.out (Or.inr cB)⟩)
    refine Or.inr (Or.inr ⟨by omega, by omega, ?_⟩)
    by_cases h1 : n < 0 <;> by_cases h2 : d < 0
    · exact Or.inr (Or.inr (Or.inl ⟨decide_eq_true h1, decide_eq_true h2, by rw [← ht]; exact way_fits hd HA.out HB.out (by omega) (by omega) (by omega)⟩))
    · exact Or.inl ⟨decide_eq_true h1, decide_eq_false h2, by rw [← ht]; exact way_fits hd HA.out HB.out (by omega) (by omega) (by omega)⟩
    · exact Or.inr (Or.inl ⟨decide_eq_false h1, decide_eq_true h2, by rw [← ht]; exact way_fits hd HA.out HB.out (by omega) (by omega) (by omega)⟩)
    · exact Or.inr (Or.inr (Or.inr ⟨decide_eq_false h1, decide_eq_false h2, by rw [← ht]; exact way_fits hd HA.out HB.out (by omega) (by omega) (by omega)⟩))
  obtain ⟨t, ht⟩ : ∃ t, mkWay n d = t := ⟨_, rfl⟩
  have G := GO t ht
  rw [ht]
  clear GO ht HA HB
  rcases G with ⟨cA, rfl⟩ | ⟨cA, cB, rfl⟩ | ⟨cA, cB, ⟨h1, h2, rfl⟩ | ⟨h1, h2, rfl⟩ | ⟨h1, h2, rfl⟩ | ⟨h1, h2, rfl⟩⟩
  all_goals
    go_enter Try.func24, Try.ntmps24
    go_wp2_with fail
    refine (size_any n (by omega) (by omega) _).mono ?_
    rintro e w' ⟨rfl, rfl⟩
    go_wp2_with fail
    refine (size_any d (by omega) (by omega) _).mono ?_
    rintro e w' ⟨rfl, rfl⟩
    go_wp2_with fail
    refine (common_nat n.natAbs d.natAbs (by omega) (by omega) (by omega) _).mono ?_
    rintro e w' ⟨rfl, rfl⟩
    go_wp2_with fail
    go_quiet (fail)
    go_wp2_with fail
    go_ret3
    exact ⟨rfl, _, rfl⟩

set_option maxHeartbeats 1000000 in
theorem makeRef_way (n d : Int) (w : World) (n0 : -9223372036854775808 ≤ n) (n1 : n ≤ 9223372036854775807) (d0 : -9223372036854775808 ≤ d) (d1 : d ≤ 9223372036854775807) :
    Calls Try.prog 91 #[.int .i64 n, .int .i64 d] w fun e w' => e = .returned (three (mkWay n d)) ∧ w = w' := by
  by_cases hd : d = 0
  · subst hd
    go_enter Try.func91, Try.ntmps91
    go_wp2
    go_ret3
    exact ⟨rfl, rfl⟩
  have hd' : (d == 0) = false := by rw [beq_eq_false_iff_ne]; exact hd
  have hg : 0 < Nat.gcd n.natAbs d.natAbs := Nat.gcd_pos_of_pos_right _ (by omega)
  have hg1 : Nat.gcd n.natAbs d.natAbs ≤ d.natAbs := Nat.gcd_le_right _ (by omega)
  obtain ⟨A, hA⟩ : ∃ A, n.natAbs / Nat.gcd n.natAbs d.natAbs = A := ⟨_, rfl⟩
  obtain ⟨B, hB⟩ : ∃ B, d.natAbs / Nat.gcd n.natAbs d.natAbs = B := ⟨_, rfl⟩
  have lA : A ≤ n.natAbs := by rw [← hA]; exact Nat.div_le_self _ _
  have lB : B ≤ d.natAbs := by rw [← hB]; exact Nat.div_le_self _ _
  have wA : IntKind.u64.wrap ((n.natAbs : Int) / (Nat.gcd n.natAbs d.natAbs : Nat)) = (A : Int) := by
    rw [← hA]; rw [IntWalk.u64_in _ ⟨by omega, by rw [← Int.natCast_ediv, hA]; omega⟩, Int.natCast_ediv]
  have wB : IntKind.u64.wrap ((d.natAbs : Int) / (Nat.gcd n.natAbs d.natAbs : Nat)) = (B : Int) := by
    rw [← hB]; rw [IntWalk.u64_in _ ⟨by omega, by rw [← Int.natCast_ediv, hB]; omega⟩, Int.natCast_ediv]
  have HA := Lib.hid hA; clear hA
  have HB := Lib.hid hB; clear hB
  have GO : ∀ t : Int × Int × Int, mkWay n d = t →
      (2147483647 < A ∧ t = (0, 0, 3)) ∨ (A ≤ 2147483647 ∧ 2147483647 < B ∧ t = (0, 0, 3)) ∨
      (A ≤ 2147483647 ∧ B ≤ 2147483647 ∧ ((decide (n < 0) = true ∧ decide (d < 0) = false ∧ t = (-(A : Int), (B : Int), 0)) ∨ (decide (n < 0) = false ∧ decide (d < 0) = true ∧ t = (-(A : Int), (B : Int), 0)) ∨ (decide (n < 0) = true ∧ decide (d < 0) = true ∧ t = ((A : Int), (B : Int), 0)) ∨ (decide (n < 0) = false ∧ decide (d < 0) = false ∧ t = ((A : Int), (B : Int), 0)))) := by
    intro t ht
    by_cases cA : 2147483647 < A
    · exact Or.inl ⟨cA, by rw [← ht]; exact way_great hd HA.out HB.out (Or.inl cA)⟩
    by_cases cB : 2147483647 < B
    · exact Or.inr (Or.inl ⟨by omega, cB, by rw [← ht]; exact way_great hd HA.out HB.out (Or.inr cB)⟩)
    refine Or.inr (Or.inr ⟨by omega, by omega, ?_⟩)
    by_cases h1 : n < 0 <;> by_cases h2 : d < 0
    · exact Or.inr (Or.inr (Or.inl ⟨decide_eq_true h1, decide_eq_true h2, by rw [← ht]; exact way_fits hd HA.out HB.out (by omega) (by omega) (by omega)⟩))
    · exact Or.inl ⟨decide_eq_true h1, decide_eq_false h2, by rw [← ht]; exact way_fits hd HA.out HB.out (by omega) (by omega) (by omega)⟩
    · exact Or.inr (Or.inl ⟨decide_eq_false h1, decide_eq_true h2, by rw [← ht]; exact way_fits hd HA.out HB.out (by omega) (by omega) (by omega)⟩)
    · exact Or.inr (Or.inr (Or.inr ⟨decide_eq_false h1, decide_eq_false h2, by rw [← ht]; exact way_fits hd HA.out HB.out (by omega) (by omega) (by omega)⟩))
  obtain ⟨t, ht⟩ : ∃ t, mkWay n d = t := ⟨_, rfl⟩
  have G := GO t ht
  rw [ht]
  clear GO ht HA HB
  rcases G with ⟨cA, rfl⟩ | ⟨cA, cB, rfl⟩ | ⟨cA, cB, ⟨h1, h2, rfl⟩ | ⟨h1, h2, rfl⟩ | ⟨h1, h2, rfl⟩ | ⟨h1, h2, rfl⟩⟩
  all_goals
    go_enter Try.func91, Try.ntmps91
    go_wp2_with fail
    refine (sizeRef_any n (by omega) (by omega) _).mono ?_
    rintro e w' ⟨rfl, rfl⟩
    go_wp2_with fail
    refine (sizeRef_any d (by omega) (by omega) _).mono ?_
    rintro e w' ⟨rfl, rfl⟩
    go_wp2_with fail
    refine (gcdRef_nat n.natAbs d.natAbs (by omega) (by omega) _).mono ?_
    rintro e w' ⟨rfl, rfl⟩
    go_wp2_with fail
    go_ret3
    exact ⟨rfl, rfl⟩

end Go.Proofs.Ytdeelpagoffdjaa
