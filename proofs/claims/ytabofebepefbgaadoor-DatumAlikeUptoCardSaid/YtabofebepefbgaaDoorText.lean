/- Text, of package num and of its reference. -/
import Derived.Test.YtabofebepefbgaaDoorPrefAll
import Derived.Lib.ItoaNum
import Derived.Lib.AppendIntMem
import Derived.Lib.SmallJoins
namespace Go.Proofs.YtabofebepefbgaaDoor
open Go.RowKit NumPlain

theorem dec_small {n : Nat} (h : n < 10) : Lib.decDigits n = [UInt8.ofNat (48 + n)] := by
  unfold Lib.decDigits; rw [dif_pos h]
theorem dec_more {n : Nat} (h : ¬ n < 10) : Lib.decDigits n = Lib.decDigits (n / 10) ++ [UInt8.ofNat (48 + n % 10)] := by
  rw [Lib.decDigits.eq_def n, dif_neg h]

theorem conv_one (w : World) (z : Int) (h0 : 0 ≤ z) (h1 : z < 256) (c : UInt8) (hc : UInt8.ofNat z.toNat = c) (t : TypeId) :
    (convert 45 9 (.slice (some ⟨w.heap.size, 0, none⟩) 1 1)).run Tryd.prog (w.alloc (.cells #[.int .u8 z] t)) = .ok (.string ⟨#[c]⟩) (w.alloc (.cells #[.int .u8 z] t)) := by
  subst hc
  have h := run_convert_bytes_back (P := Tryd.prog) (w.alloc (.cells #[.int .u8 z] t)) 45 9 5 ⟨w.heap.size, 0, none⟩ 1 [UInt8.ofNat z.toNat] Tryd.underlying45 Tryd.underlying5 Tryd.underlying9 (by
    intro j hj
    have hj0 : j = 0 := by simpa using hj
    subst hj0
    simp [Addr.add]
    omega)
  exact h

theorem dec_len (k n : Nat) (h : n < 10 ^ (k + 1)) : (Lib.decDigits n).length ≤ k + 1 := by
  induction k generalizing n with
  | zero => rw [dec_small (by simpa using h)]; simp
  | succ k ih =>
    by_cases hn : n < 10
    · rw [dec_small hn]; simp
    · rw [dec_more hn, List.length_append, List.length_singleton]
      have := ih (n / 10) (by rw [Nat.div_lt_iff_lt_mul (by omega)]; rw [Nat.pow_succ] at h; exact h)
      omega
theorem dec_ten {n : Nat} (h : n ≤ 2147483647) : (Lib.decDigits n).length ≤ 10 := dec_len 9 n (Nat.lt_of_le_of_lt h (by decide))
theorem str_is {l : List UInt8} {a : ByteArray} (h : a.data.toList = l) : Ending.returned (.string a) = .returned (.string ⟨l.toArray⟩) := by
  subst h; rfl
theorem one_front (c : UInt8) (s : ByteArray) : ((⟨#[c]⟩ : ByteArray) ++ s).data.toList = c :: s.data.toList := by simp

set_option maxHeartbeats 400000 in
theorem dig_any (n : Nat) (hn : n ≤ 2147483647) (w : World) :
    Calls Tryd.prog 49 #[.int .i64 n] w fun e w' => e = .returned (.string ⟨(Lib.decDigits n).toArray⟩) ∧ Below w.heap.size w w' := by
  have h10 := dec_ten hn
  have H10 := Lib.hid h10; clear h10
  go_enter Tryd.func49, Tryd.ntmps49
  go_wp2
  go_loopw [0, 3] (fun u v wr => ∃ (x : Nat) (s : ByteArray), x ≤ n ∧ u = .int .i64 x ∧ v = .string s ∧ Lib.decDigits n = Lib.decDigits x ++ s.data.toList ∧ Below w.heap.size w wr) (fun u _ _ => (intOf u).toNat)
  case atStart => exact ⟨n, ⟨#[]⟩, Nat.le_refl _, rfl, rfl, by simp, Below.refl _ _⟩
  case round =>
    obtain ⟨x, s, hx, rfl, rfl, hd, hb⟩ := hrel
    have hs : s.size ≤ 10 := by
      have := H10.out
      rw [hd, List.length_append, ← Lib.size_eq] at this; omega
    have HD := Lib.hid hd; clear hd
    have HB := Lib.hid hb; clear hb
    by_cases h9 : x < 10
    · obtain ⟨c, hc⟩ : ∃ c, UInt8.ofNat (48 + (x : Int)).toNat = c := ⟨_, rfl⟩
      have kc := conv_one wr (48 + (x : Int)) (by omega) (by omega) c hc
      have HC := Lib.hid hc; clear hc
      go_wp2
      go_ret
      refine ⟨str_is ?_, ((HB.out).alloc (HB.out).size _)⟩
      have hc2 : UInt8.ofNat (48 + x) = c := by rw [← HC.out]; congr 1
      rw [one_front, HD.out, dec_small h9, hc2]; rfl
    · obtain ⟨c, hc⟩ : ∃ c, UInt8.ofNat (48 + (x : Int) % 10).toNat = c := ⟨_, rfl⟩
      have kc := conv_one wr (48 + (x : Int) % 10) (by omega) (by omega) c hc
      have HC := Lib.hid hc; clear hc
      go_wp2
      go_roundw
      case rel =>
        have hc2 : UInt8.ofNat (48 + x % 10) = c := by rw [← HC.out]; congr 1
        exact ⟨x / 10, _, by omega, by go_num, rfl, by rw [one_front, HD.out, dec_more h9, hc2, List.append_assoc]; rfl, ((HB.out).alloc (HB.out).size _)⟩
      case measure => simp [intOf]; omega

/-! ### Text -/
theorem itoa_is (n : Int) (n0 : -9223372036854775808 ≤ n) (n1 : n ≤ 9223372036854775807) (a : ByteArray) (ha : a.data.toList = Lib.itoa n) (w : World) (htab : Lib.TabIs Tryd.prog w "internal/strconv.uint64pow10" .u64 Lib.pow10Tab) :
    Calls Tryd.prog 79 #[.int .i64 n] w fun e w' => e = .returned (.string a) ∧ Below w.heap.size w w' := by
  refine (Tryd.strconv_Itoa n n0 n1 w htab).mono ?_
  rintro e w' ⟨he, k, os, hw⟩
  have hs : a = ⟨(Lib.itoa n).toArray⟩ := by rw [← ha]
  rw [hs]
  exact ⟨he, by rw [hw]; exact Lib.below_grow _ w (Nat.le_refl _) k os⟩
theorem tab_on {w w' : World} (h : Lib.TabIs Tryd.prog w "internal/strconv.uint64pow10" .u64 Lib.pow10Tab) (hb : Below w.heap.size w w') : Lib.TabIs Tryd.prog w' "internal/strconv.uint64pow10" .u64 Lib.pow10Tab :=
  Joins.tab_stays (by kernel_rfl : Tryd.prog.globalNamed "internal/strconv.uint64pow10" = some 1) h hb (Nat.le_refl _)

/-- What Text answers. -/
def textL (n d : Int) : List UInt8 := if rightB n d then Lib.itoa n ++ (if d = 1 then [] else 47 :: Lib.decDigits d.toNat) else []
theorem itoa_len {n : Int} (n0 : -2147483647 ≤ n) (n1 : n ≤ 2147483647) : (Lib.itoa n).length ≤ 11 := by
  unfold Lib.itoa; split
  · have := dec_ten (n := n.natAbs) (by omega); simp; omega
  · have := dec_ten (n := n.toNat) (by omega); omega
theorem itoa_pos {d : Int} (h : 1 ≤ d) : Lib.itoa d = Lib.decDigits d.toNat := by unfold Lib.itoa; rw [if_neg (by omega)]
theorem str_of {l : List UInt8} : ∃ a : ByteArray, a.data.toList = l ∧ a.size = l.length := ⟨⟨l.toArray⟩, rfl, Lib.size_eq _⟩

set_option maxHeartbeats 400000 in
theorem text_any (n d : Int) (hn : I64 n) (hd : I64 d) (t : ByteArray) (ht : t.data.toList = textL n d) (w : World) (htab : Lib.TabIs Tryd.prog w "internal/strconv.uint64pow10" .u64 Lib.pow10Tab) :
    Calls Tryd.prog 60 #[.int .i64 n, .int .i64 d] w fun e w' => e = .returned (.string t) ∧ Below w.heap.size w w' := by
  obtain ⟨n0, n1⟩ := hn
  obtain ⟨d0, d1⟩ := hd
  have HTAB := Lib.hid htab; clear htab
  unfold textL at ht
  cases h : rightB n d
  · rw [h] at ht
    have H := Lib.hid h; clear h
    have HT := Lib.hid ht; clear ht
    go_enter Tryd.func60, Tryd.ntmps60
    go_wp2_with fail
    refine (right_any n d false H.out _ n0 n1 d0 d1).mono ?_
    rintro _ w' ⟨rfl, rfl⟩
    go_wp2_with fail
    go_ret
    exact ⟨by rw [show t = ⟨#[]⟩ from ByteArray.ext (Array.ext' HT.out)]; rfl, Below.refl _ _⟩
  rw [h, if_pos rfl] at ht
  obtain ⟨e0, e1, m0, m1⟩ := right_bounds h
  have H := Lib.hid h; clear h
  by_cases h1 : d = 1
  · subst h1
    rw [if_pos rfl, List.append_nil] at ht
    have C := itoa_is n n0 n1 t ht w HTAB.out
    have HC := Lib.hid C; clear C ht
    go_enter Tryd.func60, Tryd.ntmps60
    go_wp2_with fail
    refine (right_any n 1 true H.out _ n0 n1 d0 d1).mono ?_
    rintro _ w' ⟨rfl, rfl⟩
    go_wp2_with fail
    refine (HC.out).mono ?_
    rintro _ w' ⟨rfl, hb⟩
    have HB := Lib.hid hb; clear hb
    go_wp2_with fail
    go_ret
    exact ⟨rfl, HB.out⟩
  · rw [if_neg h1] at ht
    obtain ⟨a, ha, has⟩ := str_of (l := Lib.itoa n)
    obtain ⟨b, hb, hbs⟩ := str_of (l := Lib.itoa d)
    have la := itoa_len m0 m1
    have lb := itoa_len (n := d) (by omega) (by omega)
    have sa : a.size ≤ 11 := by omega
    have sb : b.size ≤ 11 := by omega
    have q1 : (d == 1) = false := by rw [beq_eq_false_iff_ne]; exact h1
    have C := itoa_is n n0 n1 a ha w HTAB.out
    have HC := Lib.hid C
    have HTT := Lib.hid ht
    have HHA := Lib.hid ha
    have HHB := Lib.hid hb
    clear C ht ha hb has hbs la lb h1
    go_enter Tryd.func60, Tryd.ntmps60
    go_wp2_with fail
    refine (right_any n d true H.out _ n0 n1 d0 d1).mono ?_
    rintro _ w' ⟨rfl, rfl⟩
    go_wp2_with fail
    refine (HC.out).mono ?_
    rintro _ w1 ⟨rfl, hb1⟩
    have HB1 := Lib.hid hb1; clear hb1
    go_wp2_with fail
    refine (itoa_is d d0 d1 b HHB.out _ (tab_on HTAB.out HB1.out)).mono ?_
    rintro _ w2 ⟨rfl, hb2⟩
    have HB2 := Lib.hid hb2; clear hb2
    go_wp2_with fail
    go_ret
    refine ⟨?_, (HB1.out).trans ((HB2.out).mono (HB1.out).size)⟩
    have hq : t = a ++ ⟨#[47]⟩ ++ b := by
      apply ByteArray.ext; apply Array.ext'
      rw [HTT.out]
      simp [HHA.out, HHB.out, itoa_pos e0]
    rw [hq]; rfl

/-! ### The reference's Text -/
theorem wrap_size {n : Int} (n0 : -2147483647 ≤ n) (n1 : n ≤ 2147483647) : wrap64 (n.natAbs : Int) = (n.natAbs : Int) := IntWalk.wrap64_in _ ⟨by omega, by omega⟩
theorem dig_is (n : Nat) (hn : n ≤ 2147483647) (a : ByteArray) (ha : a.data.toList = Lib.decDigits n) (w : World) :
    Calls Tryd.prog 49 #[.int .i64 n] w fun e w' => e = .returned (.string a) ∧ Below w.heap.size w w' := by
  have hs : a = ⟨(Lib.decDigits n).toArray⟩ := by rw [← ha]
  rw [hs]; exact dig_any n hn w
theorem itoa_neg {n : Int} (h : n < 0) : Lib.itoa n = 45 :: Lib.decDigits n.natAbs := by unfold Lib.itoa; rw [if_pos h]
theorem itoa_nat {n : Int} (h : ¬ n < 0) : Lib.itoa n = Lib.decDigits n.natAbs := by unfold Lib.itoa; rw [if_neg h]; congr 1; omega

set_option maxHeartbeats 1000000 in
theorem textRef_any (n d : Int) (hn : I64 n) (hd : I64 d) (t : ByteArray) (ht : t.data.toList = textL n d) (w : World) :
    Calls Tryd.prog 24 #[.int .i64 n, .int .i64 d] w fun e w' => e = .returned (.string t) ∧ Below w.heap.size w w' := by
  obtain ⟨n0, n1⟩ := hn
  obtain ⟨d0, d1⟩ := hd
  unfold textL at ht
  cases h : rightB n d
  · rw [h] at ht
    have H := Lib.hid h; clear h
    have HT := Lib.hid ht; clear ht
    go_enter Tryd.func24, Tryd.ntmps24
    go_wp2_with fail
    refine (rightRef_any n d false H.out _ n0 n1 d0 d1).mono ?_
    rintro _ w' ⟨rfl, rfl⟩
    go_wp2_with fail
    go_ret
    exact ⟨by rw [show t = ⟨#[]⟩ from ByteArray.ext (Array.ext' HT.out)]; rfl, Below.refl _ _⟩
  rw [h, if_pos rfl] at ht
  obtain ⟨e0, e1, m0, m1⟩ := right_bounds h
  have H := Lib.hid h; clear h
  obtain ⟨a, ha, has⟩ := str_of (l := Lib.decDigits n.natAbs)
  have la := dec_ten (n := n.natAbs) (by omega)
  have sa : a.size ≤ 10 := by omega
  have ws := wrap_size m0 m1
  obtain ⟨N, hN⟩ : ∃ N, n.natAbs = N := ⟨_, rfl⟩
  have C := fun w => dig_is n.natAbs (by omega) a ha w
  have Z := fun w => sizeRef_any n n0 n1 w
  rw [hN] at ws C Z
  have HC := Lib.hid C
  have HZ := Lib.hid Z
  have hNb : N ≤ 2147483647 := by omega
  by_cases h1 : d = 1
  · subst h1
    rw [if_pos rfl, List.append_nil] at ht
    by_cases hneg : n < 0
    · rw [itoa_neg hneg] at ht
      have HTT := Lib.hid ht
      have HHA := Lib.hid ha
      clear ht ha has la C Z hN
      go_enter Tryd.func24, Tryd.ntmps24
      go_wp2_with fail
      refine (rightRef_any n 1 true H.out _ n0 n1 d0 d1).mono ?_
      rintro _ w' ⟨rfl, rfl⟩
      go_wp2_with fail
      refine (HZ.out _).mono ?_
      rintro _ w' ⟨rfl, rfl⟩
      go_wp2_with fail
      refine (HC.out _).mono ?_
      rintro _ w1 ⟨rfl, hb1⟩
      have HB1 := Lib.hid hb1; clear hb1
      go_wp2_with fail
      go_ret
      refine ⟨?_, HB1.out⟩
      have hq : t = ⟨#[45]⟩ ++ a := by
        apply ByteArray.ext; apply Array.ext'
        rw [HTT.out]; simp [HHA.out]
      rw [hq]; rfl
    · rw [itoa_nat hneg] at ht
      have hq : t = a := by apply ByteArray.ext; apply Array.ext'; rw [ht, ha]
      subst hq
      clear ht ha has la C Z hN
      go_enter Tryd.func24, Tryd.ntmps24
      go_wp2_with fail
      refine (rightRef_any n 1 true H.out _ n0 n1 d0 d1).mono ?_
      rintro _ w' ⟨rfl, rfl⟩
      go_wp2_with fail
      refine (HZ.out _).mono ?_
      rintro _ w' ⟨rfl, rfl⟩
      go_wp2_with fail
      refine (HC.out _).mono ?_
      rintro _ w1 ⟨rfl, hb1⟩
      have HB1 := Lib.hid hb1; clear hb1
      go_wp2_with fail
      go_ret
      exact ⟨rfl, HB1.out⟩
  · rw [if_neg h1] at ht
    obtain ⟨b, hb, hbs⟩ := str_of (l := Lib.decDigits d.toNat)
    have lb := dec_ten (n := d.toNat) (by omega)
    have sb : b.size ≤ 10 := by omega
    have q1 : (d != 1) = true := by rw [bne_iff_ne]; exact h1
    have D := fun w => dig_is d.toNat (by omega) b hb w
    rw [Int.toNat_of_nonneg (by omega)] at D
    have HD := Lib.hid D; clear D
    by_cases hneg : n < 0
    · rw [itoa_neg hneg] at ht
      have HTT := Lib.hid ht
      have HHA := Lib.hid ha
      have HHB := Lib.hid hb
      clear ht ha has la C Z hN hb hbs lb h1
      go_enter Tryd.func24, Tryd.ntmps24
      go_wp2_with fail
      refine (rightRef_any n d true H.out _ n0 n1 d0 d1).mono ?_
      rintro _ w' ⟨rfl, rfl⟩
      go_wp2_with fail
      refine (HZ.out _).mono ?_
      rintro _ w' ⟨rfl, rfl⟩
      go_wp2_with fail
      refine (HC.out _).mono ?_
      rintro _ w1 ⟨rfl, hb1⟩
      have HB1 := Lib.hid hb1; clear hb1
      go_wp2_with fail
      refine (HD.out _).mono ?_
      rintro _ w2 ⟨rfl, hb2⟩
      have HB2 := Lib.hid hb2; clear hb2
      go_wp2_with fail
      go_ret
      refine ⟨?_, (HB1.out).trans ((HB2.out).mono (HB1.out).size)⟩
      have hq : t = ⟨#[45]⟩ ++ a ++ ⟨#[47]⟩ ++ b := by
        apply ByteArray.ext; apply Array.ext'
        rw [HTT.out]; simp [HHA.out, HHB.out]
      rw [hq]; rfl
    · rw [itoa_nat hneg] at ht
      have HTT := Lib.hid ht
      have HHA := Lib.hid ha
      have HHB := Lib.hid hb
      clear ht ha has la C Z hN hb hbs lb h1
      go_enter Tryd.func24, Tryd.ntmps24
      go_wp2_with fail
      refine (rightRef_any n d true H.out _ n0 n1 d0 d1).mono ?_
      rintro _ w' ⟨rfl, rfl⟩
      go_wp2_with fail
      refine (HZ.out _).mono ?_
      rintro _ w' ⟨rfl, rfl⟩
      go_wp2_with fail
      refine (HC.out _).mono ?_
      rintro _ w1 ⟨rfl, hb1⟩
      have HB1 := Lib.hid hb1; clear hb1
      go_wp2_with fail
      refine (HD.out _).mono ?_
      rintro _ w2 ⟨rfl, hb2⟩
      have HB2 := Lib.hid hb2; clear hb2
      go_wp2_with fail
      go_ret
      refine ⟨?_, (HB1.out).trans ((HB2.out).mono (HB1.out).size)⟩
      have hq : t = a ++ ⟨#[47]⟩ ++ b := by
        apply ByteArray.ext; apply Array.ext'
        rw [HTT.out]; simp [HHA.out, HHB.out]
      rw [hq]; rfl
end Go.Proofs.YtabofebepefbgaaDoor
