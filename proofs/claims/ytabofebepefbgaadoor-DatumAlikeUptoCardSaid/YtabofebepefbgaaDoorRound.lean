/- Parsed again, a number's text is the number. -/
import Derived.Test.YtabofebepefbgaaDoorText
namespace Go.Proofs.YtabofebepefbgaaDoor
open Go.RowKit NumPlain

theorem dig_of {n : Nat} (h : n < 10) : isDig (UInt8.ofNat (48 + n)) = true ∧ (UInt8.ofNat (48 + n)).toNat - 48 = n := by
  have e : (UInt8.ofNat (48 + n)).toNat = 48 + n := by rw [UInt8.toNat_ofNat']; omega
  exact ⟨(isDig_iff _).2 (by rw [e]; omega), by rw [e]; omega⟩
theorem dec_dig (n : Nat) : ∀ c ∈ Lib.decDigits n, isDig c = true := by
  induction n using Nat.strongRecOn with
  | ind n ih =>
    by_cases h : n < 10
    · rw [dec_small h]
      intro c hc
      rw [List.mem_singleton] at hc
      rw [hc]; exact (dig_of h).1
    · rw [dec_more h]
      exact all_snoc (ih (n / 10) (by omega)) (dig_of (by omega)).1
theorem dec_val (n : Nat) : val (Lib.decDigits n) = n := by
  induction n using Nat.strongRecOn with
  | ind n ih =>
    by_cases h : n < 10
    · rw [dec_small h]
      show 10 * 0 + _ = n
      rw [(dig_of h).2]; omega
    · rw [dec_more h, val_snoc, ih (n / 10) (by omega), (dig_of (by omega)).2]; omega
theorem dec_pos (n : Nat) : 1 ≤ (Lib.decDigits n).length := by
  by_cases h : n < 10
  · rw [dec_small h]; simp
  · rw [dec_more h]; simp
theorem dec_digits {n : Nat} (h : n ≤ 2147483647) : digitsL (Lib.decDigits n) = (n, true) := by
  rw [digitsL_yes (dec_pos n) (dec_ten h) (dec_dig n), dec_val]
theorem dec_stroke (n : Nat) : ∀ x ∈ Lib.decDigits n, x ≠ 47 := by
  intro x hx e
  have := dec_dig n x hx
  rw [e] at this; exact absurd this (by decide)
/-- What stands behind the sign. -/
theorem body_text {n d : Nat} (hn : n ≤ 2147483647) (hd : d ≤ 2147483647) : bodyL (Lib.decDigits n ++ (if d = 1 then [] else 47 :: Lib.decDigits d)) = some (n, d) := by
  by_cases h1 : d = 1
  · rw [if_pos h1, List.append_nil, bodyL_out (ib_none (dec_stroke n)) (dec_digits hn), h1]; rfl
  · rw [if_neg h1]
    have e1 : (Lib.decDigits n ++ 47 :: Lib.decDigits d).take (Lib.decDigits n).length = Lib.decDigits n := by simp
    have e2 : (Lib.decDigits n ++ 47 :: Lib.decDigits d).drop ((Lib.decDigits n).length + 1) = Lib.decDigits d := by
      rw [show Lib.decDigits n ++ 47 :: Lib.decDigits d = (Lib.decDigits n ++ [47]) ++ Lib.decDigits d from by simp, show (Lib.decDigits n).length + 1 = (Lib.decDigits n ++ [47]).length from by simp, List.drop_left]
    have g1 := dec_digits hn
    have g2 := dec_digits hd
    rw [← e1] at g1
    rw [← e2] at g2
    rw [bodyL_in (ib_at _ (dec_stroke n)) g1 g2]; rfl
theorem dec_head (n : Nat) (r : List UInt8) : (Lib.decDigits n ++ r).head? ≠ some 45 := by
  cases hl : Lib.decDigits n with
  | nil => have := dec_pos n; rw [hl] at this; simp at this
  | cons c t =>
    intro e
    have hc : c = 45 := by simpa using e
    have := dec_dig n c (by rw [hl]; simp)
    rw [hc] at this; exact absurd this (by decide)
theorem back_text {q : Rat} (hq : fits q = true) : parse (textL q.num q.den) = (q.num, (q.den : Int), true) := by
  have hb := (fits_iff q).1 hq
  have hm := mk_of_fits hq
  unfold textL
  rw [right_of_fits hq, if_pos rfl]
  have hd1 : ((q.den : Int) = 1) ↔ (q.den = 1) := by omega
  have hif : (if (q.den : Int) = 1 then [] else 47 :: Lib.decDigits (q.den : Int).toNat) = (if q.den = 1 then [] else 47 :: Lib.decDigits q.den) := by
    by_cases h : q.den = 1
    · rw [if_pos (hd1.2 h), if_pos h]
    · rw [if_neg (fun e => h (hd1.1 e)), if_neg h, Int.toNat_natCast]
  rw [hif]
  unfold parse restL
  by_cases hn : q.num < 0
  · rw [itoa_neg hn, List.cons_append, List.head?_cons, if_pos rfl, decide_eq_true rfl, List.tail_cons]
    rw [outL_some (body_text hb.1 hb.2) (a := q.num) (b := q.den) (e := 0) (by
      rw [if_pos rfl, show -(q.num.natAbs : Int) = q.num from by omega]; exact hm)]
    rfl
  · rw [itoa_nat hn, if_neg (dec_head _ _), decide_eq_false (dec_head _ _)]
    rw [outL_some (body_text hb.1 hb.2) (a := q.num) (b := q.den) (e := 0) (by
      rw [if_neg (by decide), show (q.num.natAbs : Int) = q.num from by omega]; exact hm)]
    rfl
theorem text_len {q : Rat} (hq : fits q = true) : (textL q.num q.den).length ≤ 30 := by
  have hb := fits_bounds hq
  unfold textL
  rw [right_of_fits hq, if_pos rfl, List.length_append]
  have h1 := itoa_len hb.1 hb.2.1
  have h2 := dec_ten (n := (q.den : Int).toNat) (by omega)
  split
  · simp; omega
  · simp at h2 ⊢; omega
end Go.Proofs.YtabofebepefbgaaDoor
