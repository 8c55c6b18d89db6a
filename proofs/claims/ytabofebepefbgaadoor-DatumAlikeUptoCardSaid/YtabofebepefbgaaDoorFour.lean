/- Sums, differences, products, quotients and the order, of package num and of its reference. -/
import Derived.Test.YtabofebepefbgaaDoorRight
namespace Go.Proofs.YtabofebepefbgaaDoor
open Go.RowKit NumPlain

/-- What holds of an int. -/
def I64 (n : Int) : Prop := -9223372036854775808 ≤ n ∧ n ≤ 9223372036854775807

theorem make_any (n d : Int) (t : Int × Int × Int) (ht : mk n d = t) (w : World) (n0 : -9223372036854775808 ≤ n) (n1 : n ≤ 9223372036854775807) (d0 : -9223372036854775808 ≤ d) (d1 : d ≤ 9223372036854775807) :
    Calls Tryd.prog 75 #[.int .i64 n, .int .i64 d] w fun e w' => e = .returned (three t) ∧ ∃ k, w' = w.drewN k := by
  rw [← ht, ← mkWay_eq]; exact make_way n d w n0 n1 d0 d1
theorem makeRef_any (n d : Int) (t : Int × Int × Int) (ht : mk n d = t) (w : World) (n0 : -9223372036854775808 ≤ n) (n1 : n ≤ 9223372036854775807) (d0 : -9223372036854775808 ≤ d) (d1 : d ≤ 9223372036854775807) :
    Calls Tryd.prog 101 #[.int .i64 n, .int .i64 d] w fun e w' => e = .returned (three t) ∧ w = w' := by
  rw [← ht, ← mkWay_eq]; exact makeRef_way n d w n0 n1 d0 d1

/-! ### Two numbers that are right: their bounds, and the products of them -/
theorem right_bounds {n d : Int} (h : rightB n d = true) : 1 ≤ d ∧ d ≤ 2147483647 ∧ -2147483647 ≤ n ∧ n ≤ 2147483647 := by
  obtain ⟨_, _, _, h1, h2, h3, h4⟩ := right_num h; exact ⟨h1, h2, h3, h4⟩
theorem mul_bound {a b : Int} (ha0 : -2147483647 ≤ a) (ha1 : a ≤ 2147483647) (hb0 : -2147483647 ≤ b) (hb1 : b ≤ 2147483647) :
    -4611686014132420609 ≤ a * b ∧ a * b ≤ 4611686014132420609 := by
  have h1 : 0 ≤ (2147483647 - a) * (2147483647 + b) := Int.mul_nonneg (by omega) (by omega)
  have h2 : 0 ≤ (2147483647 + a) * (2147483647 - b) := Int.mul_nonneg (by omega) (by omega)
  have h3 : 0 ≤ (2147483647 - a) * (2147483647 - b) := Int.mul_nonneg (by omega) (by omega)
  have h4 : 0 ≤ (2147483647 + a) * (2147483647 + b) := Int.mul_nonneg (by omega) (by omega)
  constructor <;> grind


/-- What the call answers. -/
def addF (n d m e : Int) : Int × Int × Int := if rightB n d && rightB m e then mk (n * e + m * d) (d * e) else (0, 0, 3)
/-- What the call answers. -/
def subF (n d m e : Int) : Int × Int × Int := if rightB n d && rightB m e then mk (n * e - m * d) (d * e) else (0, 0, 3)
/-- What the call answers. -/
def mulF (n d m e : Int) : Int × Int × Int := if rightB n d && rightB m e then mk (n * m) (d * e) else (0, 0, 3)
/-- What the call answers. -/
def divF (n d m e : Int) : Int × Int × Int := if rightB n d && rightB m e then mk (n * e) (d * m) else (0, 0, 3)
def lessF (n d m e : Int) : Bool := (rightB n d && rightB m e) && decide (n * e < m * d)

end Go.Proofs.YtabofebepefbgaaDoor
