/- NumOrder: the ways of the walk joined over the rationals. -/
import Derived.Test.YtfkeiokoghaciaaOrder
namespace Go.Proofs.Ytfkeiokoghaciaa
open Go.RowKit NumPlain

theorem order_good (x0 x1 x2 x3 x4 x5 : Int) (b0 : I64 x0) (b1 : I64 x1) (b2 : I64 x2) (b3 : I64 x3) (b4 : I64 x4) (b5 : I64 x5) (p q r : Rat) (hp : fits p = true) (hq : fits q = true) (hr : fits r = true)
    (hi : mk x0 x1 = (p.num, (p.den : Int), 0)) (hj : mk x2 x3 = (q.num, (q.den : Int), 0)) (hk : mk x4 x5 = (r.num, (r.den : Int), 0)) (w : World) :
    Calls Try.prog 6 #[.agg (cells6 x0 x1 x2 x3 x4 x5)] w fun e w' => e = .returned (.bool true) ∧ Grown w w' := by
  have ha := lessF_rat hp hq
  have hb := lessF_rat hq hr
  have hc := lessF_rat hp hr
  have hd := addF_rat hp hr
  have he := addF_rat hq hr
  have hg : lessF p.num p.den p.num p.den = false := by rw [lessF_rat hp hp]; exact decide_eq_false (by grind)
  have hsum : decide (p + r < q + r) = decide (p < q) := by rw [Bool.eq_iff_iff, decide_eq_true_eq, decide_eq_true_eq, Rat.add_lt_add_right]
  by_cases h1 : p < q
  · rw [decide_eq_true h1] at ha
    have hh : lessF q.num q.den p.num p.den = false := by rw [lessF_rat hq hp]; exact decide_eq_false (by grind)
    by_cases h2 : q < r
    · rw [decide_eq_true h2] at hb
      rw [decide_eq_true (show p < r by grind)] at hc
      cases f1 : fits (p + r)
      · rw [fin_no f1] at hd
        exact order_yynx x0 x1 x2 x3 x4 x5 b0 b1 b2 b3 b4 b5 _ _ _ _ _ _ _ (num_bound hp) (den_bound hp) (num_bound hq) (den_bound hq) (num_bound hr) (den_bound hr) hi hj hk ha hb hc hd he hg hh w
      rw [fin_yes f1] at hd
      cases f2 : fits (q + r)
      · rw [fin_no f2] at he
        exact order_yyyn x0 x1 x2 x3 x4 x5 b0 b1 b2 b3 b4 b5 _ _ _ _ _ _ _ _ (num_bound hp) (den_bound hp) (num_bound hq) (den_bound hq) (num_bound hr) (den_bound hr) (num_bound f1) (den_bound f1) hi hj hk ha hb hc hd he hg hh w
      rw [fin_yes f2] at he
      have hf := lessF_rat f1 f2
      rw [hsum, decide_eq_true h1] at hf
      exact order_yyyy x0 x1 x2 x3 x4 x5 b0 b1 b2 b3 b4 b5 _ _ _ _ _ _ _ _ _ _ (num_bound hp) (den_bound hp) (num_bound hq) (den_bound hq) (num_bound hr) (den_bound hr) (num_bound f1) (den_bound f1) (num_bound f2) (den_bound f2) hi hj hk ha hb hc hd he hf hg hh w
    · rw [decide_eq_false h2] at hb
      cases f1 : fits (p + r)
      · rw [fin_no f1] at hd
        exact order_ynnx x0 x1 x2 x3 x4 x5 b0 b1 b2 b3 b4 b5 _ _ _ _ _ _ _ _ (num_bound hp) (den_bound hp) (num_bound hq) (den_bound hq) (num_bound hr) (den_bound hr) hi hj hk ha hb hc hd he hg hh w
      rw [fin_yes f1] at hd
      cases f2 : fits (q + r)
      · rw [fin_no f2] at he
        exact order_ynyn x0 x1 x2 x3 x4 x5 b0 b1 b2 b3 b4 b5 _ _ _ _ _ _ _ _ _ (num_bound hp) (den_bound hp) (num_bound hq) (den_bound hq) (num_bound hr) (den_bound hr) (num_bound f1) (den_bound f1) hi hj hk ha hb hc hd he hg hh w
      rw [fin_yes f2] at he
      have hf := lessF_rat f1 f2
      rw [hsum, decide_eq_true h1] at hf
      exact order_ynyy x0 x1 x2 x3 x4 x5 b0 b1 b2 b3 b4 b5 _ _ _ _ _ _ _ _ _ _ _ (num_bound hp) (den_bound hp) (num_bound hq) (den_bound hq) (num_bound hr) (den_bound hr) (num_bound f1) (den_bound f1) (num_bound f2) (den_bound f2) hi hj hk ha hb hc hd he hf hg hh w
  · rw [decide_eq_false h1] at ha
    cases f1 : fits (p + r)
    · rw [fin_no f1] at hd
      exact order_nxnx x0 x1 x2 x3 x4 x5 b0 b1 b2 b3 b4 b5 _ _ _ _ _ _ _ _ _ (num_bound hp) (den_bound hp) (num_bound hq) (den_bound hq) (num_bound hr) (den_bound hr) hi hj hk ha hb hc hd he hg w
    rw [fin_yes f1] at hd
    cases f2 : fits (q + r)
    · rw [fin_no f2] at he
      exact order_nxyn x0 x1 x2 x3 x4 x5 b0 b1 b2 b3 b4 b5 _ _ _ _ _ _ _ _ _ _ (num_bound hp) (den_bound hp) (num_bound hq) (den_bound hq) (num_bound hr) (den_bound hr) (num_bound f1) (den_bound f1) hi hj hk ha hb hc hd he hg w
    rw [fin_yes f2] at he
    have hf := lessF_rat f1 f2
    rw [hsum, decide_eq_false h1] at hf
    exact order_nxyy x0 x1 x2 x3 x4 x5 b0 b1 b2 b3 b4 b5 _ _ _ _ _ _ _ _ _ _ _ _ (num_bound hp) (den_bound hp) (num_bound hq) (den_bound hq) (num_bound hr) (den_bound hr) (num_bound f1) (den_bound f1) (num_bound f2) (den_bound f2) hi hj hk ha hb hc hd he hf hg w

theorem order_true (x0 x1 x2 x3 x4 x5 : Int) (b0 : I64 x0) (b1 : I64 x1) (b2 : I64 x2) (b3 : I64 x3) (b4 : I64 x4) (b5 : I64 x5) (w : World) :
    Calls Try.prog 6 #[.agg (cells6 x0 x1 x2 x3 x4 x5)] w fun e w' => e = .returned (.bool true) ∧ Grown w w' := by
  obtain ⟨n, d, i, hi, cn, cd, i0, i4, gi⟩ := mk_says x0 x1
  obtain ⟨m, e, j, hj, cm, ce, j0, j4, gj⟩ := mk_says x2 x3
  obtain ⟨o, f, k, hk, co, cf, k0, k4, gk⟩ := mk_says x4 x5
  by_cases hz : i + j + k = 0
  · obtain ⟨p, hp, rfl, rfl⟩ := gi (by omega)
    obtain ⟨q, hq, rfl, rfl⟩ := gj (by omega)
    obtain ⟨r, hr, rfl, rfl⟩ := gk (by omega)
    obtain rfl : i = 0 := by omega
    obtain rfl : j = 0 := by omega
    obtain rfl : k = 0 := by omega
    exact order_good x0 x1 x2 x3 x4 x5 b0 b1 b2 b3 b4 b5 p q r hp hq hr hi hj hk w
  · exact order_bad x0 x1 x2 x3 x4 x5 b0 b1 b2 b3 b4 b5 n d i m e j o f k cn cd ⟨by omega, by omega⟩ cm ce ⟨by omega, by omega⟩ co cf ⟨by omega, by omega⟩ hi hj hk (by rw [bne_iff_ne]; exact hz) w
end Go.Proofs.Ytfkeiokoghaciaa
