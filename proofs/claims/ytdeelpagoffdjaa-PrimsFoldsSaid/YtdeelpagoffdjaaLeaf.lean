/- The leaves of package num and of its reference: size, the greatest common divisor. -/
import Derived.Test.YtdeelpagoffdjaaRows
import Derived.Test.YtdeelpagoffdjaaMath
import Derived.WalkKit
import Derived.Outline
import Derived.Lib.Hide
import Derived.Deep.LoopGhost
namespace Go.Proofs.Ytdeelpagoffdjaa
open Go.RowKit

theorem ret_int {k : IntKind} {a b : Int} (h : a = b) : Ending.returned (.int k a) = .returned (.int k b) := by rw [h]
theorem neg_size {n : Int} (hn : n < 0) (h0 : -9223372036854775808 ≤ n) : IntKind.u64.wrap (-IntKind.u64.wrap n) = (n.natAbs : Int) := by
  rw [IntKind.wrap_u64, IntKind.wrap_u64]; omega
theorem gcd_step (x y : Nat) : Nat.gcd y (x % y) = Nat.gcd x y := by rw [Nat.gcd_comm x y, Nat.gcd_rec y x, Nat.gcd_comm]

set_option maxHeartbeats 400000 in
theorem size_any (n : Int) (h0 : -9223372036854775808 ≤ n) (h1 : n ≤ 9223372036854775807) (w : World) :
    Calls Try.prog 40 #[.int .i64 n] w fun e w' => e = .returned (.int .u64 (n.natAbs : Int)) ∧ w = w' := by
  by_cases hn : n < 0
  · go_enter Try.func40, Try.ntmps40
    go_wp2
    go_ret
    exact ⟨ret_int (neg_size hn h0), rfl⟩
  · go_enter Try.func40, Try.ntmps40
    go_wp2
    go_ret
    exact ⟨ret_int (by omega), rfl⟩

set_option maxHeartbeats 400000 in
theorem sizeRef_any (n : Int) (h0 : -9223372036854775808 ≤ n) (h1 : n ≤ 9223372036854775807) (w : World) :
    Calls Try.prog 89 #[.int .i64 n] w fun e w' => e = .returned (.int .u64 (n.natAbs : Int)) ∧ w = w' := by
  by_cases hn : n < 0
  · go_enter Try.func89, Try.ntmps89
    go_wp2
    go_ret
    exact ⟨ret_int (neg_size hn h0), rfl⟩
  · go_enter Try.func89, Try.ntmps89
    go_wp2
    go_ret
    exact ⟨ret_int (by omega), rfl⟩

set_option maxHeartbeats 400000 in
theorem gcdRef_nat (a b : Nat) (ha : a < 18446744073709551616) (hb : b < 18446744073709551616) (w : World) :
    Calls Try.prog 88 #[.int .u64 a, .int .u64 b] w fun e w' => e = .returned (.int .u64 (Nat.gcd a b : Nat)) ∧ w = w' := by
  go_enter Try.func88, Try.ntmps88
  go_wp2
  go_loop [0, 1] (fun u v => ∃ x y : Nat, u = .int .u64 x ∧ v = .int .u64 y ∧ Nat.gcd x y = Nat.gcd a b ∧ x < 18446744073709551616 ∧ y < 18446744073709551616) (fun _ v => (intOf v).toNat)
  case atStart => exact ⟨a, b, rfl, rfl, rfl, ha, hb⟩
  case round =>
    obtain ⟨x, y, rfl, rfl, hg, hx, hy⟩ := hrel
    have Hg := Lib.hid hg; clear hg
    by_cases h : y = 0
    · subst h
      go_wp2
      go_ret
      exact ⟨ret_int (by rw [← Hg.out, Nat.gcd_zero_right]), rfl⟩
    · have hp : 0 < y := by omega
      have hlt : x % y < y := Nat.mod_lt _ hp
      go_wp2
      go_round
      case rel => exact ⟨y, x % y, rfl, by go_num, by rw [gcd_step]; exact Hg.out, hy, by omega⟩
      case measure => simp [intOf]; omega

set_option maxHeartbeats 400000 in
theorem common_nat (a b : Nat) (hb0 : b ≠ 0) (ha : a < 18446744073709551616) (hb : b < 18446744073709551616) (w : World) :
    Calls Try.prog 41 #[.int .u64 a, .int .u64 b] w fun e w' => e = .returned (.int .u64 (Nat.gcd a b : Nat)) ∧ w = w' := by
  go_enter Try.func41, Try.ntmps41
  go_wp2
  go_step3
  go_wp2
  go_step3
  go_wp2
  go_loop [0, 1] (fun u v => ∃ x y : Nat, u = .int .u64 x ∧ v = .int .u64 y ∧ y ≠ 0 ∧ Nat.gcd x y = Nat.gcd a b ∧ x < 18446744073709551616 ∧ y < 18446744073709551616) (fun _ v => (intOf v).toNat)
  case atStart => exact ⟨a, b, rfl, rfl, hb0, rfl, ha, hb⟩
  case round =>
    obtain ⟨x, y, rfl, rfl, hy0, hg, hx, hy⟩ := hrel
    have Hg := Lib.hid hg; clear hg
    have hp : 0 < y := by omega
    have hlt : x % y < y := Nat.mod_lt _ hp
    by_cases h : x % y = 0
    · have hz : (x : Int) % y = 0 := by omega
      have Hz := Lib.hid h; clear h
      go_wp2
      try rw [Exit.noGoto_ret]
      go_ret
      exact ⟨ret_int (by rw [← Hg.out, ← gcd_step, Hz.out, Nat.gcd_zero_right]), rfl⟩
    · have hz : ((x : Int) % y == 0) = false := by rw [beq_eq_false_iff_ne]; omega
      go_wp2
      go_round
      case rel => exact ⟨y, x % y, rfl, by go_num, h, by rw [gcd_step]; exact Hg.out, hy, by omega⟩
      case measure => simp [intOf]; omega
end Go.Proofs.Ytdeelpagoffdjaa
