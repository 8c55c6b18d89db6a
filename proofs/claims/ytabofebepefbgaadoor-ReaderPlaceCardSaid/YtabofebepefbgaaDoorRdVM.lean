/- ReaderPlace answers true. -/
import Derived.Test.YtabofebepefbgaaDoorRdNM
import Derived.Test.YtabofebepefbgaaDoorRdSM
import Derived.Test.YtabofebepefbgaaDoorRdWM
import Derived.Deep.Cut
import Derived.Deep.CutRange

namespace Go.Proofs.YtabofebepefbgaaDoor.Dat
open Go.RowKit
open Go.Proofs.YtabofebepefbgaaDoor (textL parse res str_of textRef_any)
open NumPlain (rightB)
set_option linter.unusedVariables false

theorem str_right {s : ByteArray} (h : s.data.toList.all strChar = true) : rightDt (.node 3 0 0 s []) = true := by
  unfold rightDt Dt.right Dt.rightAll
  unfold headRight
  rw [h]
  simp
/-- Which bytes may be gone on with. -/
def laterB (c : UInt8) : Bool := wordChar c || c == 40 || c == 35 || c == 39
theorem byte_far {c k : UInt8} (h : c.toNat < k.toNat ∨ k.toNat < c.toNat) : c ≠ k := by
  rintro rfl
  omega
theorem later_no (c : UInt8) (h1 : ¬ (97 ≤ c.toNat ∧ c.toNat ≤ 122)) (h2 : ¬ (48 ≤ c.toNat ∧ c.toNat ≤ 57)) (n40 : c ≠ 40) (n35 : c ≠ 35) (n39 : c ≠ 39) (n45 : c ≠ 45) (n43 : c ≠ 43) (n42 : c ≠ 42) (n47 : c ≠ 47) (n33 : c ≠ 33) (n60 : c ≠ 60) (n62 : c ≠ 62) (n61 : c ≠ 61) (n63 : c ≠ 63) (n95 : c ≠ 95) : laterB c = false := by
  have hp : plainChar c = false := by
    unfold plainChar
    rw [Bool.or_eq_false_iff, Bool.and_eq_false_iff, Bool.and_eq_false_iff]
    simp only [decide_eq_false_iff_not]
    omega
  unfold laterB wordChar nameChar
  rw [hp]
  by_cases h37 : c = 37
  · subst h37; decide
  · simp [markB, n40, n35, n39, n45, n43, n42, n47, n33, n60, n62, n61, n63, n95, h37]
theorem head_list (s : ByteArray) (A : Nat) : (s.extract 0 A).data.toList = s.data.toList.take A := by simp [ByteArray.data_extract]
theorem head_size {s : ByteArray} {A : Nat} (h : A ≤ s.size) : (s.extract 0 A).size = A := by simp; omega
set_option maxHeartbeats 40000000 in
set_option maxRecDepth 100000 in
theorem place_any (s : ByteArray) (hs : s.size ≤ maxLen) (w : World) (ht : Tab w) :
    Answers 6 #[.string s] w (.bool true) := by
  unfold Answers
  unfold maxLen at hs
  have HT := Lib.hid ht; clear ht
  go_enter Tryd.func6, Tryd.ntmps6
  go_wp2_with fail
  refine (awake3_any _ HT.out).mono ?_
  rintro _ w1 ⟨rfl, hb1⟩
  have HB1 := Lib.hid hb1; clear hb1
  by_cases h4 : s.size ≤ 400
  case neg =>
    have q1 : (decide ((400 : Int) < s.size)) = true := by rw [decide_eq_true_iff]; omega
    go_wp2_with fail
    go_ret
    exact ⟨rfl, HB1.out⟩
  have q1 : (decide ((400 : Int) < s.size)) = false := by rw [decide_eq_false_iff_not]; omega
  go_wp2_with fail
  obtain ⟨r, hr, C1⟩ := red_any s w1 (by omega)
  have HR := Lib.hid hr; clear hr
  refine C1.mono ?_
  clear C1
  rintro e1 w2 ⟨⟨q, rfl, rfl⟩ | ⟨l, p, cap, rfl, hl, rfl, hrow⟩, hb2⟩
  case inr =>
    have HB2 := Lib.hid ((HB1.out).trans (hb2.mono (HB1.out).size)); clear hb2
    go_wp2_with fail
    go_ret
    exact ⟨rfl, HB2.out⟩
  have HB2 := Lib.hid ((HB1.out).trans (hb2.mono (HB1.out).size)); clear hb2
  obtain ⟨p, hp, hp2, hp3⟩ := top_place (fun s h => str_right h) HR.out rfl
  have hlen : s.size = p.length + q.length := by rw [Lib.size_eq, hp, List.length_append]
  obtain ⟨A, hA⟩ : ∃ A, s.size - q.length = A := ⟨_, rfl⟩
  have hAp : p.length = A := by omega
  rw [hA]
  have htake : s.data.toList.take A = p := by rw [hp, List.take_left' hAp]
  have hAs : A ≤ s.size := by omega
  cases q with
  | nil =>
    have hAe : s.size = A := by simp at hlen; omega
    have hx : (s.extract 0 A).data.toList = s.data.toList := by rw [head_list, List.take_of_length_le (by rw [← Lib.size_eq]; omega)]
    have C2 := read_bad (s.extract 0 A) [] w2 (by rw [head_size hAs]; omega) (by rw [hx]; exact HR.out)
    rw [head_size hAs, List.length_nil, Nat.sub_zero] at C2
    have HC2 := Lib.hid C2
    clear C2 hx htake hp hp2 hp3
    go_wp2_with fail
    refine (HC2.out).mono ?_
    rintro _ w3 ⟨rfl, hb3⟩
    have HB3 := Lib.hid ((HB2.out).trans (hb3.mono (HB2.out).size)); clear hb3
    go_wp2_with fail
    go_ret
    exact ⟨rfl, HB3.out⟩
  | cons c y =>
    have hlt : A < s.size := by simp at hlen; omega
    have hc : s[A] = c := by
      have h1 := at_some s A hlt
      rw [hp, List.getElem?_append_right (by omega), hAp, Nat.sub_self] at h1
      simpa using h1.symm
    have C2 : Calls Tryd.prog 21 #[.string (s.extract 0 A)] w2 fun e w' => (∃ x z, e = .returned (.tuple #[x, .int .i64 A, .int .i64 z]) ∧ (z = 0 ∨ z = 2)) ∧ Below w2.heap.size w2 w' := by
      rcases hp2 with ⟨k, hk⟩ | hk
      · refine (read_ok (s.extract 0 A) k _ w2 (by rw [head_size hAs]; omega) rfl (by rw [head_list, htake]; exact hk)).mono ?_
        rintro _ w' ⟨⟨p', cap', rfl, -⟩, hb⟩
        rw [head_size hAs]
        exact ⟨⟨_, _, rfl, Or.inl rfl⟩, hb⟩
      · refine (read_bad (s.extract 0 A) [] w2 (by rw [head_size hAs]; omega) (by rw [head_list, htake]; exact hk)).mono ?_
        rintro _ w' ⟨rfl, hb⟩
        rw [head_size hAs]
        exact ⟨⟨_, _, rfl, Or.inr rfl⟩, hb⟩
    have HC2 := Lib.hid C2; clear C2 hp2
    have htake1 : (s.extract 0 (A + 1)).data.toList = p ++ [c] := by
      rw [head_list, take_snoc s A hlt, htake, hc]
    have C3 : ∀ w' : World, Calls Tryd.prog 21 #[.string (s.extract 0 (A + 1))] w' fun e w'' => (∃ x b g, e = .returned (.tuple #[x, .int .i64 b, .int .i64 g]) ∧ ((b = A ∧ g = 2) ∨ laterB s[A] = true)) ∧ Below w'.heap.size w' w'' := by
      intro w'
      have hsz : (s.extract 0 (A + 1)).size = A + 1 := head_size (by omega)
      rcases hp3 c y rfl with h | h
      · obtain ⟨r, -, C⟩ := red_any (s.extract 0 (A + 1)) w' (by omega)
        have hl : laterB s[A] = true := by
          rw [hc]; unfold laterB
          rcases h with h | rfl | rfl | rfl
          · rw [h]; rfl
          · decide
          · decide
          · decide
        refine C.mono ?_
        rintro e w'' ⟨⟨q, rfl, rfl⟩ | ⟨l, p', cap, rfl, hl', rfl, hrow⟩, hb⟩
        · exact ⟨⟨_, _, _, rfl, Or.inr hl⟩, hb⟩
        · exact ⟨⟨_, _, _, rfl, Or.inr hl⟩, hb⟩
      · refine (read_bad _ [c] w' (by omega) (by rw [htake1]; exact h)).mono ?_
        rintro _ w'' ⟨rfl, hb⟩
        rw [hsz]
        exact ⟨⟨_, _, _, rfl, Or.inl ⟨by simp, rfl⟩⟩, hb⟩
    have HC3 := Lib.hid C3; clear C3 htake1 hp hp3 hlen htake hAp hA
    have e1 : ((A : Int) == (s.size : Int)) = false := by rw [beq_eq_false_iff_ne]; omega
    go_wp2_with fail
    refine (HC2.out).mono ?_
    rintro _ w3 ⟨⟨x, z, rfl, hz⟩, hb3⟩
    have HB3 := Lib.hid ((HB2.out).trans (hb3.mono (HB2.out).size)); clear hb3
    go_upto_region 10 with fail
    go_cut [9, 57] from 51 to 56 (fun _ s57 wx => s57 = .bool false ∧ wx = w3)
    case first =>
      rcases hz with rfl | rfl
      · go_wp2_with fail
        all_goals go_meet
        all_goals exact ⟨rfl, rfl⟩
      · go_wp2_with fail
        all_goals go_meet
        all_goals exact ⟨rfl, rfl⟩
    case rest =>
      obtain ⟨rfl, rfl⟩ := hcut
      go_wp2_with fail
      refine (HC3.out _).mono ?_
      rintro _ w4 ⟨⟨x3, b3, g3, rfl, hz3⟩, hb4⟩
      have HB4 := Lib.hid ((HB3.out).trans (hb4.mono (HB3.out).size)); clear hb4
      have HZ := Lib.hid hz3; clear hz3
      go_upto_region 16 with fail
      go_cut [14] from 79 to 144 (fun s14 wx => ∃ qv : Bool, s14 = .bool qv ∧ (laterB s[A] = true → qv = true) ∧ Below w.heap.size w wx)
      case first =>
        by_cases l1 : decide ((97 : Int) ≤ (c.toNat : Int)) = true
        · by_cases l2 : decide ((c.toNat : Int) ≤ 122) = true
          · go_wp2_with fail
            all_goals go_meet
            all_goals exact ⟨true, rfl, fun _ => rfl, HB4.out⟩
          have l2 : decide ((c.toNat : Int) ≤ 122) = false := Bool.eq_false_iff.2 l2
          have d1 : decide ((48 : Int) ≤ (c.toNat : Int)) = true := decide_eq_true (by have := of_decide_eq_true l1; omega)
          have d2 : decide ((c.toNat : Int) ≤ 57) = false := decide_eq_false (by have := of_decide_eq_true l1; omega)
          have hlo : 123 ≤ c.toNat := by have := of_decide_eq_false l2; omega
          have hn1 : ¬ (97 ≤ c.toNat ∧ c.toNat ≤ 122) := by omega
          have hn2 : ¬ (48 ≤ c.toNat ∧ c.toNat ≤ 57) := by omega
          have e40 : c ≠ 40 := byte_far (k := 40) (Or.inr (by first | exact Nat.lt_of_lt_of_le hhi (by decide) | exact Nat.lt_of_lt_of_le (by decide) hlo))
          have e35 : c ≠ 35 := byte_far (k := 35) (Or.inr (by first | exact Nat.lt_of_lt_of_le hhi (by decide) | exact Nat.lt_of_lt_of_le (by decide) hlo))
          have e39 : c ≠ 39 := byte_far (k := 39) (Or.inr (by first | exact Nat.lt_of_lt_of_le hhi (by decide) | exact Nat.lt_of_lt_of_le (by decide) hlo))
          have e45 : c ≠ 45 := byte_far (k := 45) (Or.inr (by first | exact Nat.lt_of_lt_of_le hhi (by decide) | exact Nat.lt_of_lt_of_le (by decide) hlo))
          have e43 : c ≠ 43 := byte_far (k := 43) (Or.inr (by first | exact Nat.lt_of_lt_of_le hhi (by decide) | exact Nat.lt_of_lt_of_le (by decide) hlo))
          have e42 : c ≠ 42 := byte_far (k := 42) (Or.inr (by first | exact Nat.lt_of_lt_of_le hhi (by decide) | exact Nat.lt_of_lt_of_le (by decide) hlo))
          have e47 : c ≠ 47 := byte_far (k := 47) (Or.inr (by first | exact Nat.lt_of_lt_of_le hhi (by decide) | exact Nat.lt_of_lt_of_le (by decide) hlo))
          have e33 : c ≠ 33 := byte_far (k := 33) (Or.inr (by first | exact Nat.lt_of_lt_of_le hhi (by decide) | exact Nat.lt_of_lt_of_le (by decide) hlo))
          have e60 : c ≠ 60 := byte_far (k := 60) (Or.inr (by first | exact Nat.lt_of_lt_of_le hhi (by decide) | exact Nat.lt_of_lt_of_le (by decide) hlo))
          have e62 : c ≠ 62 := byte_far (k := 62) (Or.inr (by first | exact Nat.lt_of_lt_of_le hhi (by decide) | exact Nat.lt_of_lt_of_le (by decide) hlo))
          have e61 : c ≠ 61 := byte_far (k := 61) (Or.inr (by first | exact Nat.lt_of_lt_of_le hhi (by decide) | exact Nat.lt_of_lt_of_le (by decide) hlo))
          have e63 : c ≠ 63 := byte_far (k := 63) (Or.inr (by first | exact Nat.lt_of_lt_of_le hhi (by decide) | exact Nat.lt_of_lt_of_le (by decide) hlo))
          have e95 : c ≠ 95 := byte_far (k := 95) (Or.inr (by first | exact Nat.lt_of_lt_of_le hhi (by decide) | exact Nat.lt_of_lt_of_le (by decide) hlo))
          have HNO := Lib.hid (later_no c hn1 hn2 e40 e35 e39 e45 e43 e42 e47 e33 e60 e62 e61 e63 e95)
          have f40 : ((c.toNat : Int) == 40) = false := byte_ne (k := 40) e40
          have f35 : ((c.toNat : Int) == 35) = false := byte_ne (k := 35) e35
          have f39 : ((c.toNat : Int) == 39) = false := byte_ne (k := 39) e39
          have f45 : ((c.toNat : Int) == 45) = false := byte_ne (k := 45) e45
          have f43 : ((c.toNat : Int) == 43) = false := byte_ne (k := 43) e43
          have f42 : ((c.toNat : Int) == 42) = false := byte_ne (k := 42) e42
          have f47 : ((c.toNat : Int) == 47) = false := byte_ne (k := 47) e47
          have f33 : ((c.toNat : Int) == 33) = false := byte_ne (k := 33) e33
          have f60 : ((c.toNat : Int) == 60) = false := byte_ne (k := 60) e60
          have f62 : ((c.toNat : Int) == 62) = false := byte_ne (k := 62) e62
          have f61 : ((c.toNat : Int) == 61) = false := byte_ne (k := 61) e61
          have f63 : ((c.toNat : Int) == 63) = false := byte_ne (k := 63) e63
          have f95 : ((c.toNat : Int) == 95) = false := byte_ne (k := 95) e95
          clear hn1 hn2 e40 e35 e39 e45 e43 e42 e47 e33 e60 e62 e61 e63 e95
          go_wp2_with fail
          all_goals go_meet
          all_goals exact ⟨false, rfl, fun h => absurd h (by rw [hc, HNO.out]; decide), HB4.out⟩
        have l1 : decide ((97 : Int) ≤ (c.toNat : Int)) = false := Bool.eq_false_iff.2 l1
        by_cases d1 : decide ((48 : Int) ≤ (c.toNat : Int)) = true
        · by_cases d2 : decide ((c.toNat : Int) ≤ 57) = true
          · go_wp2_with fail
            all_goals go_meet
            all_goals exact ⟨true, rfl, fun _ => rfl, HB4.out⟩
          have d2 : decide ((c.toNat : Int) ≤ 57) = false := Bool.eq_false_iff.2 d2
          have hlo : 58 ≤ c.toNat := by have := of_decide_eq_false d2; omega
          have hhi : c.toNat < 97 := by have := of_decide_eq_false l1; omega
          have hn1 : ¬ (97 ≤ c.toNat ∧ c.toNat ≤ 122) := by omega
          have hn2 : ¬ (48 ≤ c.toNat ∧ c.toNat ≤ 57) := by omega
          by_cases e60 : c = 60
          · subst e60
            rw [show ((((60 : UInt8).toNat : Nat)) : Int) = 60 from rfl]
            clear l1 d1 d2 hlo hhi hn1 hn2
            go_wp2_with fail
            all_goals go_meet
            all_goals exact ⟨true, rfl, fun _ => rfl, HB4.out⟩
          by_cases e62 : c = 62
          · subst e62
            rw [show ((((62 : UInt8).toNat : Nat)) : Int) = 62 from rfl]
            clear l1 d1 d2 hlo hhi hn1 hn2
            go_wp2_with fail
            all_goals go_meet
            all_goals exact ⟨true, rfl, fun _ => rfl, HB4.out⟩
          by_cases e61 : c = 61
          · subst e61
            rw [show ((((61 : UInt8).toNat : Nat)) : Int) = 61 from rfl]
            clear l1 d1 d2 hlo hhi hn1 hn2
            go_wp2_with fail
            all_goals go_meet
            all_goals exact ⟨true, rfl, fun _ => rfl, HB4.out⟩
          by_cases e63 : c = 63
          · subst e63
            rw [show ((((63 : UInt8).toNat : Nat)) : Int) = 63 from rfl]
            clear l1 d1 d2 hlo hhi hn1 hn2
            go_wp2_with fail
            all_goals go_meet
            all_goals exact ⟨true, rfl, fun _ => rfl, HB4.out⟩
          by_cases e95 : c = 95
          · subst e95
            rw [show ((((95 : UInt8).toNat : Nat)) : Int) = 95 from rfl]
            clear l1 d1 d2 hlo hhi hn1 hn2
            go_wp2_with fail
            all_goals go_meet
            all_goals exact ⟨true, rfl, fun _ => rfl, HB4.out⟩
          have e40 : c ≠ 40 := byte_far (k := 40) (Or.inr (by first | exact Nat.lt_of_lt_of_le hhi (by decide) | exact Nat.lt_of_lt_of_le (by decide) hlo))
          have e35 : c ≠ 35 := byte_far (k := 35) (Or.inr (by first | exact Nat.lt_of_lt_of_le hhi (by decide) | exact Nat.lt_of_lt_of_le (by decide) hlo))
          have e39 : c ≠ 39 := byte_far (k := 39) (Or.inr (by first | exact Nat.lt_of_lt_of_le hhi (by decide) | exact Nat.lt_of_lt_of_le (by decide) hlo))
          have e45 : c ≠ 45 := byte_far (k := 45) (Or.inr (by first | exact Nat.lt_of_lt_of_le hhi (by decide) | exact Nat.lt_of_lt_of_le (by decide) hlo))
          have e43 : c ≠ 43 := byte_far (k := 43) (Or.inr (by first | exact Nat.lt_of_lt_of_le hhi (by decide) | exact Nat.lt_of_lt_of_le (by decide) hlo))
          have e42 : c ≠ 42 := byte_far (k := 42) (Or.inr (by first | exact Nat.lt_of_lt_of_le hhi (by decide) | exact Nat.lt_of_lt_of_le (by decide) hlo))
          have e47 : c ≠ 47 := byte_far (k := 47) (Or.inr (by first | exact Nat.lt_of_lt_of_le hhi (by decide) | exact Nat.lt_of_lt_of_le (by decide) hlo))
          have e33 : c ≠ 33 := byte_far (k := 33) (Or.inr (by first | exact Nat.lt_of_lt_of_le hhi (by decide) | exact Nat.lt_of_lt_of_le (by decide) hlo))
          have HNO := Lib.hid (later_no c hn1 hn2 e40 e35 e39 e45 e43 e42 e47 e33 e60 e62 e61 e63 e95)
          have f40 : ((c.toNat : Int) == 40) = false := byte_ne (k := 40) e40
          have f35 : ((c.toNat : Int) == 35) = false := byte_ne (k := 35) e35
          have f39 : ((c.toNat : Int) == 39) = false := byte_ne (k := 39) e39
          have f45 : ((c.toNat : Int) == 45) = false := byte_ne (k := 45) e45
          have f43 : ((c.toNat : Int) == 43) = false := byte_ne (k := 43) e43
          have f42 : ((c.toNat : Int) == 42) = false := byte_ne (k := 42) e42
          have f47 : ((c.toNat : Int) == 47) = false := byte_ne (k := 47) e47
          have f33 : ((c.toNat : Int) == 33) = false := byte_ne (k := 33) e33
          have f60 : ((c.toNat : Int) == 60) = false := byte_ne (k := 60) e60
          have f62 : ((c.toNat : Int) == 62) = false := byte_ne (k := 62) e62
          have f61 : ((c.toNat : Int) == 61) = false := byte_ne (k := 61) e61
          have f63 : ((c.toNat : Int) == 63) = false := byte_ne (k := 63) e63
          have f95 : ((c.toNat : Int) == 95) = false := byte_ne (k := 95) e95
          clear hn1 hn2 e40 e35 e39 e45 e43 e42 e47 e33 e60 e62 e61 e63 e95
          go_wp2_with fail
          all_goals go_meet
          all_goals exact ⟨false, rfl, fun h => absurd h (by rw [hc, HNO.out]; decide), HB4.out⟩
        have d1 : decide ((48 : Int) ≤ (c.toNat : Int)) = false := Bool.eq_false_iff.2 d1
        have hhi : c.toNat < 48 := by have := of_decide_eq_false d1; omega
        have hn1 : ¬ (97 ≤ c.toNat ∧ c.toNat ≤ 122) := by omega
        have hn2 : ¬ (48 ≤ c.toNat ∧ c.toNat ≤ 57) := by omega
        by_cases e40 : c = 40
        · subst e40
          rw [show ((((40 : UInt8).toNat : Nat)) : Int) = 40 from rfl]
          clear l1 d1 hhi hn1 hn2
          go_wp2_with fail
          all_goals go_meet
          all_goals exact ⟨true, rfl, fun _ => rfl, HB4.out⟩
        by_cases e35 : c = 35
        · subst e35
          rw [show ((((35 : UInt8).toNat : Nat)) : Int) = 35 from rfl]
          clear l1 d1 hhi hn1 hn2
          go_wp2_with fail
          all_goals go_meet
          all_goals exact ⟨true, rfl, fun _ => rfl, HB4.out⟩
        by_cases e39 : c = 39
        · subst e39
          rw [show ((((39 : UInt8).toNat : Nat)) : Int) = 39 from rfl]
          clear l1 d1 hhi hn1 hn2
          go_wp2_with fail
          all_goals go_meet
          all_goals exact ⟨true, rfl, fun _ => rfl, HB4.out⟩
        by_cases e45 : c = 45
        · subst e45
          rw [show ((((45 : UInt8).toNat : Nat)) : Int) = 45 from rfl]
          clear l1 d1 hhi hn1 hn2
          go_wp2_with fail
          all_goals go_meet
          all_goals exact ⟨true, rfl, fun _ => rfl, HB4.out⟩
        by_cases e43 : c = 43
        · subst e43
          rw [show ((((43 : UInt8).toNat : Nat)) : Int) = 43 from rfl]
          clear l1 d1 hhi hn1 hn2
          go_wp2_with fail
          all_goals go_meet
          all_goals exact ⟨true, rfl, fun _ => rfl, HB4.out⟩
        by_cases e42 : c = 42
        · subst e42
          rw [show ((((42 : UInt8).toNat : Nat)) : Int) = 42 from rfl]
          clear l1 d1 hhi hn1 hn2
          go_wp2_with fail
          all_goals go_meet
          all_goals exact ⟨true, rfl, fun _ => rfl, HB4.out⟩
        by_cases e47 : c = 47
        · subst e47
          rw [show ((((47 : UInt8).toNat : Nat)) : Int) = 47 from rfl]
          clear l1 d1 hhi hn1 hn2
          go_wp2_with fail
          all_goals go_meet
          all_goals exact ⟨true, rfl, fun _ => rfl, HB4.out⟩
        by_cases e33 : c = 33
        · subst e33
          rw [show ((((33 : UInt8).toNat : Nat)) : Int) = 33 from rfl]
          clear l1 d1 hhi hn1 hn2
          go_wp2_with fail
          all_goals go_meet
          all_goals exact ⟨true, rfl, fun _ => rfl, HB4.out⟩
        have e60 : c ≠ 60 := byte_far (k := 60) (Or.inl (by first | exact Nat.lt_of_lt_of_le hhi (by decide) | exact Nat.lt_of_lt_of_le (by decide) hlo))
        have e62 : c ≠ 62 := byte_far (k := 62) (Or.inl (by first | exact Nat.lt_of_lt_of_le hhi (by decide) | exact Nat.lt_of_lt_of_le (by decide) hlo))
        have e61 : c ≠ 61 := byte_far (k := 61) (Or.inl (by first | exact Nat.lt_of_lt_of_le hhi (by decide) | exact Nat.lt_of_lt_of_le (by decide) hlo))
        have e63 : c ≠ 63 := byte_far (k := 63) (Or.inl (by first | exact Nat.lt_of_lt_of_le hhi (by decide) | exact Nat.lt_of_lt_of_le (by decide) hlo))
        have e95 : c ≠ 95 := byte_far (k := 95) (Or.inl (by first | exact Nat.lt_of_lt_of_le hhi (by decide) | exact Nat.lt_of_lt_of_le (by decide) hlo))
        have HNO := Lib.hid (later_no c hn1 hn2 e40 e35 e39 e45 e43 e42 e47 e33 e60 e62 e61 e63 e95)
        have f40 : ((c.toNat : Int) == 40) = false := byte_ne (k := 40) e40
        have f35 : ((c.toNat : Int) == 35) = false := byte_ne (k := 35) e35
        have f39 : ((c.toNat : Int) == 39) = false := byte_ne (k := 39) e39
        have f45 : ((c.toNat : Int) == 45) = false := byte_ne (k := 45) e45
        have f43 : ((c.toNat : Int) == 43) = false := byte_ne (k := 43) e43
        have f42 : ((c.toNat : Int) == 42) = false := byte_ne (k := 42) e42
        have f47 : ((c.toNat : Int) == 47) = false := byte_ne (k := 47) e47
        have f33 : ((c.toNat : Int) == 33) = false := byte_ne (k := 33) e33
        have f60 : ((c.toNat : Int) == 60) = false := byte_ne (k := 60) e60
        have f62 : ((c.toNat : Int) == 62) = false := byte_ne (k := 62) e62
        have f61 : ((c.toNat : Int) == 61) = false := byte_ne (k := 61) e61
        have f63 : ((c.toNat : Int) == 63) = false := byte_ne (k := 63) e63
        have f95 : ((c.toNat : Int) == 95) = false := byte_ne (k := 95) e95
        clear hn1 hn2 e40 e35 e39 e45 e43 e42 e47 e33 e60 e62 e61 e63 e95
        go_wp2_with fail
        all_goals go_meet
        all_goals exact ⟨false, rfl, fun h => absurd h (by rw [hc, HNO.out]; decide), HB4.out⟩
      case rest =>
        obtain ⟨qv, rfl, hq, hbc⟩ := hcut
        have HBC := Lib.hid hbc; clear hbc
        rcases HZ.out with ⟨rfl, rfl⟩ | hl
        · go_wp2_with fail
          go_ret
          exact ⟨rfl, HBC.out⟩
        · obtain rfl := hq hl
          go_wp2_with fail
          all_goals go_ret
          all_goals exact ⟨rfl, HBC.out⟩
end Go.Proofs.YtabofebepefbgaaDoor.Dat
