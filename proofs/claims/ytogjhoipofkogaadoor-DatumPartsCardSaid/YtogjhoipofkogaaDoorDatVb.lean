/- The program's own ofName, ofString, Name. -/
import Derived.Test.YtogjhoipofkogaaDoorDatG
import Derived.Lib.Bytealg
namespace Go.Proofs.YtogjhoipofkogaaDoor.Dat
open Go.RowKit
set_option linter.unusedVariables false

theorem idx_any (l : List UInt8) (c : UInt8) : decide (0 ≤ Lib.indexByte l c) = l.any (fun m => c == m) := by
  induction l with
  | nil => rfl
  | cons b l ih =>
    unfold Lib.indexByte
    rw [List.any_cons, ← ih]
    have hg := Lib.indexByte_ge l c
    by_cases h : b = c
    · subst h; simp
    · have h1 : (b == c) = false := by rw [beq_eq_false_iff_ne]; exact h
      have h2 : (c == b) = false := by rw [beq_eq_false_iff_ne]; exact fun e => h e.symm
      rw [h1, h2]
      by_cases h3 : Lib.indexByte l c = -1
      · rw [h3]; simp
      · have h4 : (Lib.indexByte l c == -1) = false := by rw [beq_eq_false_iff_ne]; exact h3
        rw [h4, Bool.false_or]
        simp only [Bool.false_eq_true, if_false]
        rw [decide_eq_true (by omega), decide_eq_true (by omega)]
/-- What IndexByte of the library answers. -/
def IdxCall : Prop := ∀ (c : Int) (w : World), Calls Tryd.prog 51 #[.string ⟨#[45, 43, 42, 47, 60, 62, 61, 33, 63, 95, 37]⟩, .int .u8 c] w fun e w' => e = .returned (.int .i64 (Lib.indexByte [45, 43, 42, 47, 60, 62, 61, 33, 63, 95, 37] c.toNat.toUInt8)) ∧ w' = w

set_option maxHeartbeats 400000 in
theorem ofName_any (hI : IdxCall) (c : UInt8) (w : World) :
    Calls Tryd.prog 33 #[.int .u8 (c.toNat : Int)] w fun e w' => e = .returned (.bool (nameChar c)) ∧ w = w' := by
  have hc : c.toNat < 256 := c.toNat_lt
  obtain ⟨z, hz⟩ : ∃ z : Int, (c.toNat : Int) = z := ⟨_, rfl⟩
  have ways : ((97 ≤ z ∧ z ≤ 122) ∧ plainChar c = true) ∨ ((48 ≤ z ∧ z ≤ 57) ∧ plainChar c = true) ∨ (122 < z ∧ plainChar c = false) ∨ ((57 < z ∧ z < 97) ∧ plainChar c = false) ∨ (z < 48 ∧ plainChar c = false) := by
    unfold plainChar
    by_cases a1 : 97 ≤ c.toNat <;> by_cases a2 : c.toNat ≤ 122 <;> by_cases a3 : 48 ≤ c.toNat <;> by_cases a4 : c.toNat ≤ 57 <;> simp [a1, a2, a3, a4] <;> omega
  have hidx : decide (0 ≤ Lib.indexByte [45, 43, 42, 47, 60, 62, 61, 33, 63, 95, 37] c) = markB.data.toList.any (fun m => c == m) := idx_any _ c
  have C := hI z w
  have hzc : z.toNat.toUInt8 = c := by rw [← hz]; simp
  rw [hzc] at C
  have hge := Lib.indexByte_ge [45, 43, 42, 47, 60, 62, 61, 33, 63, 95, 37] c
  obtain ⟨r, hr⟩ : ∃ r, Lib.indexByte [45, 43, 42, 47, 60, 62, 61, 33, 63, 95, 37] c = r := ⟨_, rfl⟩
  rw [hr] at C hidx hge
  rw [hz]
  have HC := Lib.hid C; clear C
  have z0 : 0 ≤ z := by omega
  have z1 : z ≤ 255 := by omega
  clear hr hzc hI hz hc
  rcases ways with ⟨⟨q1, q2⟩, hp⟩ | ⟨⟨q1, q2⟩, hp⟩ | ways
  · have HP := Lib.hid hp; clear hp
    have HX := Lib.hid hidx; clear hidx
    go_enter Tryd.func33, Tryd.ntmps33
    go_wp2_with fail
    go_ret
    exact ⟨ret_bool (by unfold nameChar; rw [HP.out]; rfl), rfl⟩
  · have HP := Lib.hid hp; clear hp
    have HX := Lib.hid hidx; clear hidx
    go_enter Tryd.func33, Tryd.ntmps33
    go_wp2_with fail
    go_ret
    exact ⟨ret_bool (by unfold nameChar; rw [HP.out]; rfl), rfl⟩
  · by_cases hr0 : 0 ≤ r
    · have ht : nameChar c = true := by
        unfold nameChar; rw [← hidx, decide_eq_true hr0, Bool.or_true]
      have HT := Lib.hid ht; clear ht hidx
      rcases ways with ⟨q1, hp⟩ | ⟨⟨q1, q2⟩, hp⟩ | ⟨q1, hp⟩
      all_goals
        clear hp
        go_enter Tryd.func33, Tryd.ntmps33
        go_wp2_with fail
        refine (HC.out).mono ?_
        rintro _ w' ⟨rfl, rfl⟩
        go_wp2_with fail
        go_ret
        exact ⟨ret_bool (by rw [HT.out]), rfl⟩
    · have HX := Lib.hid hidx; clear hidx
      have hr1 : r < 0 := by omega
      rcases ways with ⟨q1, hp⟩ | ⟨⟨q1, q2⟩, hp⟩ | ⟨q1, hp⟩
      all_goals
        have ht : nameChar c = false := by
          unfold nameChar; rw [hp, ← HX.out, decide_eq_false hr0]; rfl
        have HT := Lib.hid ht; clear ht hp hr0
        go_enter Tryd.func33, Tryd.ntmps33
        go_wp2_with fail
        refine (HC.out).mono ?_
        rintro _ w' ⟨rfl, rfl⟩
        go_wp2_with fail
        go_ret
        exact ⟨ret_bool (by rw [HT.out]; first | (simp only [Bool.or_eq_false_iff, decide_eq_false_iff_not]; omega) | (rw [decide_eq_false_iff_not]; omega)), rfl⟩

set_option maxHeartbeats 1000000 in
theorem ofString_any (s : ByteArray) (r : Bool) (hr : s.data.toList.all strChar = r) (hs : s.size ≤ maxLen) (w : World) :
    Calls Tryd.prog 49 #[.string s] w fun e w' => e = .returned (.bool r) ∧ w = w' := by
  unfold maxLen at hs
  have HR := Lib.hid hr; clear hr
  go_enter Tryd.func49, Tryd.ntmps49
  go_wp2_with fail
  go_loop [6] (fun x => ∃ i : Nat, i ≤ s.size ∧ x = .int .i64 i ∧ (s.data.toList.take i).all strChar = true) (fun x => s.size - (intOf x).toNat)
  case atStart => exact ⟨0, by omega, rfl, rfl⟩
  case round =>
    obtain ⟨i, hi, rfl, hall⟩ := hrel
    have HA := Lib.hid hall; clear hall
    by_cases hlt : i < s.size
    · have HT := Lib.hid (take_snoc s i hlt)
      have hb : s[i].toNat < 256 := s[i].toNat_lt
      have ways : (((s[i].toNat : Int) < 32) ∧ strChar s[i] = false) ∨ ((126 < (s[i].toNat : Int)) ∧ strChar s[i] = false) ∨ ((s[i].toNat : Int) = 34 ∧ strChar s[i] = false) ∨ ((s[i].toNat : Int) = 92 ∧ strChar s[i] = false) ∨
          ((32 ≤ (s[i].toNat : Int) ∧ (s[i].toNat : Int) ≤ 126 ∧ (s[i].toNat : Int) ≠ 34 ∧ (s[i].toNat : Int) ≠ 92) ∧ strChar s[i] = true) := by
        unfold strChar
        by_cases a1 : 32 ≤ s[i].toNat <;> by_cases a2 : s[i].toNat ≤ 126 <;> by_cases a3 : s[i].toNat = 34 <;> by_cases a4 : s[i].toNat = 92 <;> simp [a1, a2, a3, a4] <;> omega
      rcases ways with ⟨q, hp⟩ | ⟨q, hp⟩ | ⟨q, hp⟩ | ⟨q, hp⟩ | ⟨⟨q1, q2, q3, q4⟩, hp⟩
      case inr.inr.inr.inr =>
        have HP := Lib.hid hp; clear hp
        have g3 : ((s[i].toNat : Int) == 34) = false := by rw [beq_eq_false_iff_ne]; exact q3
        have g4 : ((s[i].toNat : Int) == 92) = false := by rw [beq_eq_false_iff_ne]; exact q4
        clear q3 q4
        go_wp2_with fail
        go_round
        case rel => exact ⟨i + 1, by omega, by go_num, by rw [HT.out, List.all_append, HA.out]; simp [HP.out]⟩
        case measure => simp [intOf]; omega
      case inl =>
        have HN := Lib.hid (str_no hlt hp); clear hp
        go_wp2_with fail
        go_ret
        exact ⟨ret_bool (HN.out.symm.trans HR.out), rfl⟩
      case inr.inl =>
        have HN := Lib.hid (str_no hlt hp); clear hp
        have q0 : 32 ≤ (s[i].toNat : Int) := by omega
        go_wp2_with fail
        go_ret
        exact ⟨ret_bool (HN.out.symm.trans HR.out), rfl⟩
      case inr.inr.inl =>
        have HN := Lib.hid (str_no hlt hp); clear hp
        have q0 : 32 ≤ (s[i].toNat : Int) := by omega
        have q1 : (s[i].toNat : Int) ≤ 126 := by omega
        have g3 : ((s[i].toNat : Int) == 34) = true := by rw [beq_iff_eq]; exact q
        clear q
        go_wp2_with fail
        go_ret
        exact ⟨ret_bool (HN.out.symm.trans HR.out), rfl⟩
      case inr.inr.inr.inl =>
        have HN := Lib.hid (str_no hlt hp); clear hp
        have q0 : 32 ≤ (s[i].toNat : Int) := by omega
        have q1 : (s[i].toNat : Int) ≤ 126 := by omega
        have g3 : ((s[i].toNat : Int) == 34) = false := by rw [beq_eq_false_iff_ne]; omega
        have g4 : ((s[i].toNat : Int) == 92) = true := by rw [beq_iff_eq]; exact q
        clear q
        go_wp2_with fail
        go_ret
        exact ⟨ret_bool (HN.out.symm.trans HR.out), rfl⟩
    · go_wp2_with fail
      go_ret
      refine ⟨ret_bool ?_, rfl⟩
      have h := HA.out
      rw [List.take_of_length_le (by rw [← Lib.size_eq]; omega)] at h
      exact h.symm.trans HR.out

theorem name_no {s : ByteArray} {i : Nat} (h : i < s.size) (hc : nameChar s[i] = false) : s.data.toList.all nameChar = false := by
  rw [Bool.eq_false_iff]
  intro ha
  have := List.all_eq_true.1 ha s[i] (List.mem_of_getElem? (at_some s i h))
  rw [hc] at this; cases this

set_option maxHeartbeats 1000000 in
theorem Name_any (hI : IdxCall) (P : ByteArray → Int × Int × Bool) (hp : ∀ (s : ByteArray) (w : World), s.size ≤ maxLen → Calls Tryd.prog 34 #[.string s] w fun e w' => e = .returned (.tuple #[.int .i64 (P s).1, .int .i64 (P s).2.1, .bool (P s).2.2]) ∧ ∃ k, w' = w.drewN k)
    (s : ByteArray) (hs : s.size ≤ maxLen) (w : World) :
    Calls Tryd.prog 16 #[.string s] w fun e w' => e = .returned (.bool (decide (1 ≤ s.size) && decide (s.size ≤ 40) && s.data.toList.all nameChar && !(P s).2.2)) ∧ ∃ k, w' = w.drewN k := by
  have HP := Lib.hid hp; clear hp
  have HS := Lib.hid hs
  unfold maxLen at hs
  by_cases h0 : s.size < 1
  · go_enter Tryd.func16, Tryd.ntmps16
    go_wp2
    go_ret
    exact ⟨ret_bool (by rw [decide_eq_false (by omega : ¬ 1 ≤ s.size)]; rfl), 0, rfl⟩
  by_cases h1 : 40 < s.size
  · go_enter Tryd.func16, Tryd.ntmps16
    go_wp2
    go_ret
    exact ⟨ret_bool (by rw [decide_eq_false (by omega : ¬ s.size ≤ 40)]; simp), 0, rfl⟩
  go_enter Tryd.func16, Tryd.ntmps16
  go_wp2_with fail
  go_loop [17] (fun x => ∃ i : Nat, i ≤ s.size ∧ x = .int .i64 i ∧ (s.data.toList.take i).all nameChar = true) (fun x => s.size - (intOf x).toNat)
  case atStart => exact ⟨0, by omega, rfl, rfl⟩
  case round =>
    obtain ⟨i, hi, rfl, hall⟩ := hrel
    have HA := Lib.hid hall; clear hall
    by_cases hlt : i < s.size
    · have HT := Lib.hid (take_snoc s i hlt)
      cases hn : nameChar s[i]
      · have HN := Lib.hid (name_no hlt hn)
        have HH := Lib.hid hn; clear hn
        go_wp2_with fail
        refine (ofName_any hI s[i] _).mono ?_
        rintro _ w' ⟨rfl, rfl⟩
        rw [HH.out]
        go_wp2_with fail
        go_ret
        exact ⟨ret_bool (by rw [HN.out]; simp), 0, rfl⟩
      · have HH := Lib.hid hn; clear hn
        go_wp2_with fail
        refine (ofName_any hI s[i] _).mono ?_
        rintro _ w' ⟨rfl, rfl⟩
        rw [HH.out]
        go_wp2_with fail
        go_round
        case rel => exact ⟨i + 1, by omega, by go_num, by rw [HT.out, List.all_append, HA.out]; simp [HH.out]⟩
        case measure => simp [intOf]; omega
    · have hall : s.data.toList.all nameChar = true := by
        have h := HA.out
        rw [List.take_of_length_le (by rw [← Lib.size_eq]; omega)] at h; exact h
      have HALL := Lib.hid hall; clear hall
      have C := HP.out s w HS.out
      obtain ⟨r, hr⟩ : ∃ r, P s = r := ⟨_, rfl⟩
      rw [hr] at C
      have HC := Lib.hid C; clear C
      have HR := Lib.hid hr; clear hr
      go_wp2_with fail
      refine (HC.out).mono ?_
      rintro _ w' ⟨rfl, k, rfl⟩
      go_wp2_with fail
      go_ret
      refine ⟨ret_bool ?_, _, rfl⟩
      rw [HALL.out, HR.out, decide_eq_true (by omega : 1 ≤ s.size), decide_eq_true (by omega : s.size ≤ 40)]; rfl
end Go.Proofs.YtogjhoipofkogaaDoor.Dat
