/- NumRing: sums and products changed about and put together otherwise: the ways of the walk joined over the rationals. -/
import Derived.Test.YtfkeiokoghaciaaRing
namespace Go.Proofs.Ytfkeiokoghaciaa
open Go.RowKit NumPlain

/-- What Make answers: an end that is none of Done's, or a rational that fits. -/
theorem mk_says (x y : Int) : ∃ a b e : Int, mk x y = (a, b, e) ∧ (-2147483647 ≤ a ∧ a ≤ 2147483647) ∧ (-2147483647 ≤ b ∧ b ≤ 2147483647) ∧ 0 ≤ e ∧ e ≤ 4 ∧ (e = 0 → ∃ q : Rat, fits q = true ∧ a = q.num ∧ b = q.den) := by
  obtain ⟨a, b, e, h, e0, e4, hq, hz⟩ := mk_ends x y
  refine ⟨a, b, e, h, ?_, ?_, e0, e4, fun he => by obtain ⟨q, hf, _, _, ha, hb⟩ := hq he; exact ⟨q, hf, ha, hb⟩⟩
  · by_cases he : e = 0
    · obtain ⟨q, hf, _, _, ha, _⟩ := hq he
      have := fits_bounds hf; omega
    · have := hz he; omega
  · by_cases he : e = 0
    · obtain ⟨q, hf, _, _, _, hb⟩ := hq he
      have := fits_bounds hf; omega
    · have := hz he; omega
theorem num_bound {q : Rat} (h : fits q = true) : -2147483647 ≤ q.num ∧ q.num ≤ 2147483647 := by
  have := fits_bounds h; omega
theorem den_bound {q : Rat} (h : fits q = true) : -2147483647 ≤ (q.den : Int) ∧ (q.den : Int) ≤ 2147483647 := by
  have := fits_bounds h; omega

theorem ring_good (x0 x1 x2 x3 x4 x5 : Int) (b0 : I64 x0) (b1 : I64 x1) (b2 : I64 x2) (b3 : I64 x3) (b4 : I64 x4) (b5 : I64 x5) (p q r : Rat) (hp : fits p = true) (hq : fits q = true) (hr : fits r = true)
    (hi : mk x0 x1 = (p.num, (p.den : Int), 0)) (hj : mk x2 x3 = (q.num, (q.den : Int), 0)) (hk : mk x4 x5 = (r.num, (r.den : Int), 0)) (w : World) :
    Calls Try.prog 5 #[.agg (cells6 x0 x1 x2 x3 x4 x5)] w fun e w' => e = .returned (.bool true) ∧ Grown w w' := by
  have ha := addF_rat hp hq
  have hb := addF_rat hq hp
  have hc := mulF_rat hp hq
  have hd := mulF_rat hq hp
  have he := addF_rat hq hr
  have hh := mulF_rat hp hr
  rw [Rat.add_comm q p] at hb
  rw [Rat.mul_comm q p] at hd
  cases f3 : fits (q + r)
  · rw [fin_no f3] at he
    cases f1 : fits (p + q)
    · rw [fin_no f1] at ha hb
      exact ring_nnxx x0 x1 x2 x3 x4 x5 b0 b1 b2 b3 b4 b5 _ _ _ _ _ _ _ _ (num_bound hp) (den_bound hp) (num_bound hq) (den_bound hq) (num_bound hr) (den_bound hr) hi hj hk ha hb hc hd he hh w
    · rw [fin_yes f1] at ha hb
      exact ring_ynxx x0 x1 x2 x3 x4 x5 b0 b1 b2 b3 b4 b5 _ _ _ _ _ _ _ _ _ _ (num_bound hp) (den_bound hp) (num_bound hq) (den_bound hq) (num_bound hr) (den_bound hr) (num_bound f1) (den_bound f1) hi hj hk ha hb hc hd he hh w
  rw [fin_yes f3] at he
  cases f1 : fits (p + q)
  · rw [fin_no f1] at ha hb
    cases f2 : fits (p * q)
    · rw [fin_no f2] at hc hd
      exact ring_nynx x0 x1 x2 x3 x4 x5 b0 b1 b2 b3 b4 b5 _ _ _ _ _ _ _ _ _ (num_bound hp) (den_bound hp) (num_bound hq) (den_bound hq) (num_bound hr) (den_bound hr) (num_bound f3) (den_bound f3) hi hj hk ha hb hc hd he hh w
    rw [fin_yes f2] at hc hd
    cases f5 : fits (p * r)
    · rw [fin_no f5] at hh
      exact ring_nyyn x0 x1 x2 x3 x4 x5 b0 b1 b2 b3 b4 b5 _ _ _ _ _ _ _ _ _ _ (num_bound hp) (den_bound hp) (num_bound hq) (den_bound hq) (num_bound hr) (den_bound hr) (num_bound f2) (den_bound f2) (num_bound f3) (den_bound f3) hi hj hk ha hb hc hd he hh w
    rw [fin_yes f5] at hh
    have hl := mulF_rat hp f3
    have hm := addF_rat f2 f5
    rw [← Rat.mul_add] at hm
    exact ring_nyyy x0 x1 x2 x3 x4 x5 b0 b1 b2 b3 b4 b5 _ _ _ _ _ _ _ _ _ _ _ _ _ (num_bound hp) (den_bound hp) (num_bound hq) (den_bound hq) (num_bound hr) (den_bound hr) (num_bound f2) (den_bound f2) (num_bound f3) (den_bound f3) (num_bound f5) (den_bound f5) hi hj hk ha hb hc hd he hh hl hm w
  · rw [fin_yes f1] at ha hb
    have hf := addF_rat f1 hr
    have hg := addF_rat hp f3
    rw [← Rat.add_assoc] at hg
    cases f2 : fits (p * q)
    · rw [fin_no f2] at hc hd
      exact ring_yynx x0 x1 x2 x3 x4 x5 b0 b1 b2 b3 b4 b5 _ _ _ _ _ _ _ _ _ _ _ _ (num_bound hp) (den_bound hp) (num_bound hq) (den_bound hq) (num_bound hr) (den_bound hr) (num_bound f1) (den_bound f1) (num_bound f3) (den_bound f3) hi hj hk ha hb hc hd he hf hg hh w
    rw [fin_yes f2] at hc hd
    cases f5 : fits (p * r)
    · rw [fin_no f5] at hh
      exact ring_yyyn x0 x1 x2 x3 x4 x5 b0 b1 b2 b3 b4 b5 _ _ _ _ _ _ _ _ _ _ _ _ _ (num_bound hp) (den_bound hp) (num_bound hq) (den_bound hq) (num_bound hr) (den_bound hr) (num_bound f1) (den_bound f1) (num_bound f2) (den_bound f2) (num_bound f3) (den_bound f3) hi hj hk ha hb hc hd he hf hg hh w
    rw [fin_yes f5] at hh
    have hl := mulF_rat hp f3
    have hm := addF_rat f2 f5
    rw [← Rat.mul_add] at hm
    exact ring_yyyy x0 x1 x2 x3 x4 x5 b0 b1 b2 b3 b4 b5 _ _ _ _ _ _ _ _ _ _ _ _ _ _ _ _ (num_bound hp) (den_bound hp) (num_bound hq) (den_bound hq) (num_bound hr) (den_bound hr) (num_bound f1) (den_bound f1) (num_bound f2) (den_bound f2) (num_bound f3) (den_bound f3) (num_bound f5) (den_bound f5) hi hj hk ha hb hc hd he hf hg hh hl hm w

theorem ring_true (x0 x1 x2 x3 x4 x5 : Int) (b0 : I64 x0) (b1 : I64 x1) (b2 : I64 x2) (b3 : I64 x3) (b4 : I64 x4) (b5 : I64 x5) (w : World) :
    Calls Try.prog 5 #[.agg (cells6 x0 x1 x2 x3 x4 x5)] w fun e w' => e = .returned (.bool true) ∧ Grown w w' := by
  obtain ⟨n, d, i, hi, cn, cd, i0, i4, gi⟩ := mk_says x0 x1
  obtain ⟨m, e, j, hj, cm, ce, j0, j4, gj⟩ := mk_says x2 x3
  obtain ⟨o, f, k, hk, co, cf, k0, k4, gk⟩ := mk_says x4 x5
  by_cases hz : i + j + k = 0
  · obtain ⟨p, hp, rfl, rfl⟩ := gi (by omega)
    obtain ⟨q, hq, rfl, rfl⟩ := gj (by omega)
    obtain ⟨r, hr, rfl, rfl⟩ := gk (by omega)
    obtain rfl : i = 0 := by omega
    obtain rfl : j = 0 := by omega
    obtain rfl : k = 0 := by omega
    exact ring_good x0 x1 x2 x3 x4 x5 b0 b1 b2 b3 b4 b5 p q r hp hq hr hi hj hk w
  · exact ring_bad x0 x1 x2 x3 x4 x5 b0 b1 b2 b3 b4 b5 n d i m e j o f k cn cd ⟨by omega, by omega⟩ cm ce ⟨by omega, by omega⟩ co cf ⟨by omega, by omega⟩ hi hj hk (by rw [bne_iff_ne]; exact hz) w
end Go.Proofs.Ytfkeiokoghaciaa
