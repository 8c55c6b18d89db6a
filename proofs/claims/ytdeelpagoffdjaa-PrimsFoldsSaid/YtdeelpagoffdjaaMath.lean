/- Plain facts on rationals that fit: nothing of the program stands here. -/
namespace NumPlain

/-- Does a rational fit (the document's limits)? -/
def fits (q : Rat) : Bool := decide (q.num.natAbs ≤ 2147483647) && decide (q.den ≤ 2147483647)
/-- A rational as a call answers it. -/
def fin (q : Rat) : Int × Int × Int := if fits q then (q.num, (q.den : Int), 0) else (0, 0, 3)
def mk (n d : Int) : Int × Int × Int := if d = 0 then (0, 0, 4) else fin (Rat.divInt n d)
def rightB (n d : Int) : Bool :=
  decide (1 ≤ d) && decide (d ≤ 2147483647) && decide (-2147483647 ≤ n) && decide (n ≤ 2147483647) && decide (Nat.gcd n.natAbs d.natAbs = 1)

theorem fits_iff (q : Rat) : fits q = true ↔ q.num.natAbs ≤ 2147483647 ∧ q.den ≤ 2147483647 := by
  unfold fits; simp
theorem fin_yes {q : Rat} (h : fits q = true) : fin q = (q.num, (q.den : Int), 0) := by unfold fin; rw [if_pos h]
theorem fin_no {q : Rat} (h : fits q = false) : fin q = (0, 0, 3) := by unfold fin; rw [if_neg (by simp [h])]

theorem divInt_is {n d N : Int} {D : Nat} (hd : d ≠ 0) (hD : D ≠ 0) (hc : Nat.gcd N.natAbs D = 1) (hx : N * d = n * D) :
    (Rat.divInt n d).num = N ∧ (Rat.divInt n d).den = D := by
  have h : Rat.divInt n d = { num := N, den := D, den_nz := hD, reduced := hc } := by
    rw [Rat.mk_eq_divInt, Rat.divInt_eq_divInt_iff hd (by omega)]
    exact hx.symm
  rw [h]; exact ⟨rfl, rfl⟩

theorem right_num {n d : Int} (h : rightB n d = true) :
    fits (Rat.divInt n d) = true ∧ (Rat.divInt n d).num = n ∧ ((Rat.divInt n d).den : Int) = d ∧ 1 ≤ d ∧ d ≤ 2147483647 ∧ -2147483647 ≤ n ∧ n ≤ 2147483647 := by
  unfold rightB at h
  simp only [Bool.and_eq_true, decide_eq_true_eq] at h
  obtain ⟨⟨⟨⟨h1, h2⟩, h3⟩, h4⟩, h5⟩ := h
  have hd : (d.natAbs : Int) = d := by omega
  have g := divInt_is (n := n) (d := d) (N := n) (D := d.natAbs) (by omega) (by omega) h5 (by rw [hd])
  refine ⟨?_, g.1, by rw [g.2]; exact hd, h1, h2, h3, h4⟩
  rw [fits_iff, g.1, g.2]; omega

theorem right_of_fits {q : Rat} (h : fits q = true) : rightB q.num q.den = true := by
  rw [fits_iff] at h
  have := q.den_pos
  have hr := q.reduced
  unfold rightB
  simp only [Bool.and_eq_true, decide_eq_true_eq]
  refine ⟨⟨⟨⟨by omega, by omega⟩, by omega⟩, by omega⟩, ?_⟩
  simpa using hr

theorem divInt_self {q : Rat} : Rat.divInt q.num q.den = q := Rat.num_divInt_den q

/-- What Make computes, in its own words. -/
def mkWay (n d : Int) : Int × Int × Int :=
  if d = 0 then (0, 0, 4) else
    if 2147483647 < n.natAbs / Nat.gcd n.natAbs d.natAbs ∨ 2147483647 < d.natAbs / Nat.gcd n.natAbs d.natAbs then (0, 0, 3) else
      if decide (n < 0) != decide (d < 0) then (-((n.natAbs / Nat.gcd n.natAbs d.natAbs : Nat) : Int), ((d.natAbs / Nat.gcd n.natAbs d.natAbs : Nat) : Int), 0)
      else (((n.natAbs / Nat.gcd n.natAbs d.natAbs : Nat) : Int), ((d.natAbs / Nat.gcd n.natAbs d.natAbs : Nat) : Int), 0)

theorem divInt_parts {n d : Int} (hd : d ≠ 0) :
    (Rat.divInt n d).num = (if decide (n < 0) != decide (d < 0) then -((n.natAbs / Nat.gcd n.natAbs d.natAbs : Nat) : Int) else ((n.natAbs / Nat.gcd n.natAbs d.natAbs : Nat) : Int))
    ∧ (Rat.divInt n d).den = d.natAbs / Nat.gcd n.natAbs d.natAbs := by
  have hg : 0 < Nat.gcd n.natAbs d.natAbs := Nat.gcd_pos_of_pos_right _ (by omega)
  obtain ⟨a, ha⟩ := Nat.gcd_dvd_left n.natAbs d.natAbs
  obtain ⟨b, hb⟩ := Nat.gcd_dvd_right n.natAbs d.natAbs
  have hcop : Nat.gcd (n.natAbs / Nat.gcd n.natAbs d.natAbs) (d.natAbs / Nat.gcd n.natAbs d.natAbs) = 1 := Nat.coprime_div_gcd_div_gcd hg
  generalize Nat.gcd n.natAbs d.natAbs = g at *
  have hA : n.natAbs / g = a := by rw [ha]; exact Nat.mul_div_cancel_left _ hg
  have hB : d.natAbs / g = b := by rw [hb]; exact Nat.mul_div_cancel_left _ hg
  rw [hA, hB] at hcop ⊢
  have hb0 : b ≠ 0 := by
    intro h; rw [h] at hb; omega
  refine divInt_is hd hb0 ?_ ?_
  · split <;> simpa using hcop
  · have key : (n.natAbs : Int) * b = a * d.natAbs := by rw [ha, hb]; push_cast; grind
    by_cases h1 : n < 0 <;> by_cases h2 : d < 0 <;> simp only [h1, h2, decide_true, decide_false, bne_self_eq_false, Bool.true_bne, Bool.false_bne, Bool.not_false, if_true, Bool.false_eq_true, if_false]
    · have e1 : (n.natAbs : Int) = -n := by omega
      have e2 : (d.natAbs : Int) = -d := by omega
      rw [e1, e2] at key; grind
    · have e1 : (n.natAbs : Int) = -n := by omega
      have e2 : (d.natAbs : Int) = d := by omega
      rw [e1, e2] at key; grind
    · have e1 : (n.natAbs : Int) = n := by omega
      have e2 : (d.natAbs : Int) = -d := by omega
      rw [e1, e2] at key; grind
    · have e1 : (n.natAbs : Int) = n := by omega
      have e2 : (d.natAbs : Int) = d := by omega
      rw [e1, e2] at key; grind

theorem mkWay_eq (n d : Int) : mkWay n d = mk n d := by
  unfold mkWay mk
  by_cases hd : d = 0
  · rw [if_pos hd, if_pos hd]
  · rw [if_neg hd, if_neg hd]
    obtain ⟨p1, p2⟩ := divInt_parts (n := n) (d := d) hd
    have hnum : (Rat.divInt n d).num.natAbs = n.natAbs / Nat.gcd n.natAbs d.natAbs := by
      rw [p1]; split
      · rw [Int.natAbs_neg]; exact Int.natAbs_natCast _
      · exact Int.natAbs_natCast _
    by_cases hb : 2147483647 < n.natAbs / Nat.gcd n.natAbs d.natAbs ∨ 2147483647 < d.natAbs / Nat.gcd n.natAbs d.natAbs
    · rw [if_pos hb, fin_no]
      rw [Bool.eq_false_iff]
      intro hf; rw [fits_iff, hnum, p2] at hf; omega
    · rw [if_neg hb, fin_yes (by rw [fits_iff, hnum, p2]; omega)]
      rw [p1, p2]
      split <;> rfl

/-! ### The four, of right ones -/
theorem mk_add {n d m e : Int} (h1 : rightB n d = true) (h2 : rightB m e = true) :
    mk (n * e + m * d) (d * e) = fin (Rat.divInt n d + Rat.divInt m e) := by
  obtain ⟨_, _, _, a1, _⟩ := right_num h1
  obtain ⟨_, _, _, a2, _⟩ := right_num h2
  have hd : d * e ≠ 0 := Int.mul_ne_zero (by omega) (by omega)
  unfold mk
  rw [if_neg hd, Rat.divInt_add_divInt _ _ (by omega) (by omega)]
theorem mk_sub {n d m e : Int} (h1 : rightB n d = true) (h2 : rightB m e = true) :
    mk (n * e - m * d) (d * e) = fin (Rat.divInt n d - Rat.divInt m e) := by
  obtain ⟨_, _, _, a1, _⟩ := right_num h1
  obtain ⟨_, _, _, a2, _⟩ := right_num h2
  have hd : d * e ≠ 0 := Int.mul_ne_zero (by omega) (by omega)
  unfold mk
  rw [if_neg hd, Rat.divInt_sub_divInt _ _ (by omega) (by omega)]
theorem mk_mul {n d m e : Int} (h1 : rightB n d = true) (h2 : rightB m e = true) :
    mk (n * m) (d * e) = fin (Rat.divInt n d * Rat.divInt m e) := by
  obtain ⟨_, _, _, a1, _⟩ := right_num h1
  obtain ⟨_, _, _, a2, _⟩ := right_num h2
  have hd : d * e ≠ 0 := Int.mul_ne_zero (by omega) (by omega)
  unfold mk
  rw [if_neg hd, Rat.divInt_mul_divInt]
theorem divInt_div {n d m e : Int} (hd : d ≠ 0) (he : e ≠ 0) (hm : m ≠ 0) :
    Rat.divInt (n * e) (d * m) = Rat.divInt n d / Rat.divInt m e := by
  have hme : Rat.divInt m e ≠ 0 := by
    intro h
    have h0 : (0 : Rat) = Rat.divInt 0 1 := by decide +kernel
    rw [h0, Rat.divInt_eq_divInt_iff he (by omega)] at h
    omega
  have : Rat.divInt (n * e) (d * m) * Rat.divInt m e = Rat.divInt n d := by
    rw [Rat.divInt_mul_divInt, Rat.divInt_eq_divInt_iff (Int.mul_ne_zero (Int.mul_ne_zero hd hm) he) hd]
    grind
  rw [← this]; grind
theorem mk_div {n d m e : Int} (h1 : rightB n d = true) (h2 : rightB m e = true) :
    mk (n * e) (d * m) = if m = 0 then (0, 0, 4) else fin (Rat.divInt n d / Rat.divInt m e) := by
  obtain ⟨_, _, _, a1, _⟩ := right_num h1
  obtain ⟨_, _, _, a2, _⟩ := right_num h2
  by_cases hm : m = 0
  · rw [if_pos hm, hm]; unfold mk; rw [if_pos (by simp)]
  · rw [if_neg hm]
    unfold mk
    rw [if_neg (Int.mul_ne_zero (by omega) hm), divInt_div (by omega) (by omega) hm]
theorem less_iff {n d m e : Int} (h1 : rightB n d = true) (h2 : rightB m e = true) :
    decide (n * e < m * d) = decide (Rat.divInt n d < Rat.divInt m e) := by
  obtain ⟨_, a1, b1, _⟩ := right_num h1
  obtain ⟨_, a2, b2, _⟩ := right_num h2
  rw [Bool.eq_iff_iff, decide_eq_true_eq, decide_eq_true_eq, Rat.lt_iff, a1, b1, a2, b2]

/-- What is crossed out of both sides turns nothing. -/
theorem mk_scale {a b k : Int} (hk : k ≠ 0) : mk (k * a) (k * b) = mk a b := by
  unfold mk
  by_cases hb : b = 0
  · rw [if_pos hb, if_pos (by rw [hb]; simp)]
  · rw [if_neg hb, if_neg (Int.mul_ne_zero hk hb)]
    congr 1
    rw [Rat.divInt_eq_divInt_iff (Int.mul_ne_zero hk hb) hb]; grind

/-- What is answered is right, or nothing. -/
theorem mk_ends (n d : Int) : ∃ x y e : Int, mk n d = (x, y, e) ∧ 0 ≤ e ∧ e ≤ 4 ∧ (e = 0 → ∃ q : Rat, fits q = true ∧ d ≠ 0 ∧ q = Rat.divInt n d ∧ x = q.num ∧ y = q.den) ∧ (e ≠ 0 → x = 0 ∧ y = 0) := by
  unfold mk
  by_cases hd : d = 0
  · exact ⟨0, 0, 4, by rw [if_pos hd], by omega, by omega, by omega, by omega⟩
  · rw [if_neg hd]
    cases hf : fits (Rat.divInt n d)
    · exact ⟨0, 0, 3, fin_no hf, by omega, by omega, by omega, by omega⟩
    · exact ⟨_, _, 0, fin_yes hf, by omega, by omega, fun _ => ⟨_, hf, hd, rfl, rfl, rfl⟩, by omega⟩

theorem mk_six : mk 6 (-4) = (-3, 2, 0) := by decide +kernel
theorem mk_half_third : mk 5 6 = (5, 6, 0) := by decide +kernel
theorem mk_great : mk 4294967296 1 = (0, 0, 3) := by decide +kernel
end NumPlain
