/- The example that every statement asks first, and the four over the rationals. -/
import Derived.Test.YtdeelpagoffdjaaFour
namespace Go.Proofs.Ytdeelpagoffdjaa
open Go.RowKit NumPlain

theorem awake_add : addF 1 2 1 3 = (5, 6, 0) := by decide +kernel
theorem awake_mul : mulF 1073741824 1 4 1 = (0, 0, 3) := by decide +kernel

theorem grown_drewN (w : World) (k : Nat) : Grown w (w.drewN k) := by
  induction k with
  | zero => exact Grown.refl _
  | succ k ih => exact Grown.drew ih
theorem wf64 {n : Int} (h : (Lit.int .i64 n).wf = true) : I64 n := by
  simp only [Lit.wf, Bool.and_eq_true, decide_eq_true_eq] at h
  exact ⟨h.1, h.2⟩
/-! ### Over the rationals -/
theorem mk_of_fits {q : Rat} (h : fits q = true) : mk q.num q.den = (q.num, (q.den : Int), 0) := by
  unfold mk
  have := q.den_pos
  rw [if_neg (by omega), divInt_self, fin_yes h]
theorem addF_rat {p q : Rat} (hp : fits p = true) (hq : fits q = true) : addF p.num p.den q.num q.den = fin (p + q) := by
  unfold addF
  rw [right_of_fits hp, right_of_fits hq]
  simp only [Bool.and_self, if_true]
  rw [mk_add (right_of_fits hp) (right_of_fits hq), divInt_self, divInt_self]
theorem subF_rat {p q : Rat} (hp : fits p = true) (hq : fits q = true) : subF p.num p.den q.num q.den = fin (p - q) := by
  unfold subF
  rw [right_of_fits hp, right_of_fits hq]
  simp only [Bool.and_self, if_true]
  rw [mk_sub (right_of_fits hp) (right_of_fits hq), divInt_self, divInt_self]
theorem mulF_rat {p q : Rat} (hp : fits p = true) (hq : fits q = true) : mulF p.num p.den q.num q.den = fin (p * q) := by
  unfold mulF
  rw [right_of_fits hp, right_of_fits hq]
  simp only [Bool.and_self, if_true]
  rw [mk_mul (right_of_fits hp) (right_of_fits hq), divInt_self, divInt_self]
theorem divF_rat {p q : Rat} (hp : fits p = true) (hq : fits q = true) : divF p.num p.den q.num q.den = if q.num = 0 then (0, 0, 4) else fin (p / q) := by
  unfold divF
  rw [right_of_fits hp, right_of_fits hq]
  simp only [Bool.and_self, if_true]
  rw [mk_div (right_of_fits hp) (right_of_fits hq), divInt_self, divInt_self]
theorem lessF_rat {p q : Rat} (hp : fits p = true) (hq : fits q = true) : lessF p.num p.den q.num q.den = decide (p < q) := by
  unfold lessF
  rw [right_of_fits hp, right_of_fits hq, less_iff (right_of_fits hp) (right_of_fits hq), divInt_self, divInt_self]
  rfl
theorem fits_bounds {q : Rat} (h : fits q = true) : -2147483647 ≤ q.num ∧ q.num ≤ 2147483647 ∧ 1 ≤ (q.den : Int) ∧ (q.den : Int) ≤ 2147483647 := by
  rw [fits_iff] at h
  have := q.den_pos
  omega
theorem fin_zero : fin 0 = (0, 1, 0) := by decide +kernel
theorem fin_one : fin 1 = (1, 1, 0) := by decide +kernel
theorem num_zero {q : Rat} (h : q.num ≠ 0) : q ≠ 0 := fun e => h (by rw [e]; rfl)
theorem right_zero : rightB 0 0 = false := by decide +kernel

end Go.Proofs.Ytdeelpagoffdjaa
