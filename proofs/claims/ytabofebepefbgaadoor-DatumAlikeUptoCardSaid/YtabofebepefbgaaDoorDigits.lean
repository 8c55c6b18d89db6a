/- The digits of a text: num.digits and the reference's part. -/
import Derived.Test.YtabofebepefbgaaDoorRat
import Derived.Test.YtabofebepefbgaaDoorPlain
import Derived.Lib.Strings
namespace Go.Proofs.YtabofebepefbgaaDoor
open Go.RowKit NumPlain

theorem ret_two {a b : Value} {c d : Value} (h : a = c) (g : b = d) : Ending.returned (.tuple #[a, b]) = .returned (.tuple #[c, d]) := by rw [h, g]
theorem take_snoc (s : ByteArray) (k : Nat) (h : k < s.size) : s.data.toList.take (k + 1) = s.data.toList.take k ++ [s[k]] := by
  rw [List.take_succ_eq_append_getElem (by simpa using h)]; rfl

theorem mem_at (s : ByteArray) (k : Nat) (h : k < s.size) : s[k] ∈ s.data.toList := by
  have : s[k] = s.data[k]'h := rfl
  rw [this]; simp
theorem take_len (s : ByteArray) (k : Nat) (h : k ≤ s.size) : (s.data.toList.take k).length = k := by
  rw [List.length_take, ← Lib.size_eq]; omega
theorem all_snoc {l : List UInt8} {c : UInt8} (h : ∀ x ∈ l, isDig x = true) (hc : isDig c = true) : ∀ x ∈ l ++ [c], isDig x = true := by
  intro x hx
  rw [List.mem_append, List.mem_singleton] at hx
  rcases hx with hx | rfl
  · exact h x hx
  · exact hc

set_option maxHeartbeats 1000000 in
theorem digits_any (s : ByteArray) (w : World) (hs : s.size ≤ maxLen) :
    Calls Tryd.prog 74 #[.string s] w fun e w' => e = .returned (.tuple #[.int .i64 ((digitsL s.data.toList).1 : Nat), .bool (digitsL s.data.toList).2]) ∧ w = w' := by
  unfold maxLen at hs
  have hlen : s.data.toList.length = s.size := (Lib.size_eq s).symm
  by_cases h0 : s.size < 1
  · have hd := digitsL_no (l := s.data.toList) (by omega)
    rw [hd]; clear hd hlen
    go_enter Tryd.func74, Tryd.ntmps74
    go_wp2
    go_ret2
    exact ⟨rfl, rfl⟩
  by_cases h10 : 10 < s.size
  · have hd := digitsL_no (l := s.data.toList) (by omega)
    rw [hd]; clear hd hlen
    go_enter Tryd.func74, Tryd.ntmps74
    go_wp2
    go_ret2
    exact ⟨rfl, rfl⟩
  have HL := Lib.hid hlen; clear hlen
  go_enter Tryd.func74, Tryd.ntmps74
  go_wp2
  go_loop [4, 5] (fun n i => ∃ k v : Nat, k ≤ s.size ∧ i = .int .i64 k ∧ n = .int .i64 v ∧ v = val (s.data.toList.take k) ∧ (∀ c ∈ s.data.toList.take k, isDig c = true)) (fun _ i => s.size - (intOf i).toNat)
  case atStart => exact ⟨0, 0, Nat.zero_le _, rfl, rfl, rfl, by simp⟩
  case round =>
    obtain ⟨k, v, hk, rfl, rfl, hv, hdig⟩ := hrel
    have hvb : v < 10000000000 := by rw [hv]; exact val_small _ hdig (by rw [take_len s k hk]; omega)
    have HV := Lib.hid hv; clear hv
    have HD := Lib.hid hdig; clear hdig
    by_cases hlt : k < s.size
    · have hts := take_snoc s k hlt
      have HT := Lib.hid hts; clear hts
      by_cases c1 : (s[k].toNat : Int) < 48
      · have hd := digitsL_no (l := s.data.toList) (Or.inr (Or.inr ⟨s[k], mem_at s k hlt, by rw [Bool.eq_false_iff, ne_eq, isDig_iff]; omega⟩))
        have HN := Lib.hid hd; clear hd
        go_wp2
        go_ret2
        exact ⟨by rw [HN.out]; rfl, rfl⟩
      by_cases c2 : 57 < (s[k].toNat : Int)
      · have hd := digitsL_no (l := s.data.toList) (Or.inr (Or.inr ⟨s[k], mem_at s k hlt, by rw [Bool.eq_false_iff, ne_eq, isDig_iff]; omega⟩))
        have HN := Lib.hid hd; clear hd
        go_wp2
        go_ret2
        exact ⟨by rw [HN.out]; rfl, rfl⟩
      · have hc : isDig s[k] = true := (isDig_iff _).2 ⟨by omega, by omega⟩
        have HC := Lib.hid hc; clear hc
        go_wp2
        go_round
        case rel => exact ⟨k + 1, 10 * v + (s[k].toNat - 48), by omega, by go_num, by rw [show ((10 * v + (s[k].toNat - 48) : Nat) : Int) = 10 * (v : Int) + ((s[k].toNat : Int) - 48) from by omega], by rw [HT.out, val_snoc, ← HV.out], by rw [HT.out]; exact all_snoc HD.out HC.out⟩
        case measure => simp [intOf]; omega
    · obtain rfl : k = s.size := by omega
      have ht : s.data.toList.take s.size = s.data.toList := List.take_of_length_le (by rw [← Lib.size_eq]; omega)
      have hd := digitsL_yes (l := s.data.toList) (by rw [HL.out]; omega) (by rw [HL.out]; omega) (by have := HD.out; rw [ht] at this; exact this)
      have hvv : v = val s.data.toList := by have := HV.out; rw [ht] at this; exact this
      have HN := Lib.hid hd; clear hd ht
      have HW := Lib.hid hvv; clear hvv
      go_wp2
      go_ret2
      exact ⟨by rw [HN.out, ← HW.out]; rfl, rfl⟩

theorem at_some (s : ByteArray) (k : Nat) (h : k < s.size) : s.data.toList[k]? = some s[k] := by
  have : s[k] = s.data[k]'h := rfl
  rw [this]; simp

set_option maxHeartbeats 1000000 in
theorem part_any (s : ByteArray) (w : World) (hs : s.size ≤ maxLen) :
    Calls Tryd.prog 100 #[.string s] w fun e w' => e = .returned (.tuple #[.int .i64 ((partL s.data.toList).1 : Nat), .int .i64 ((partL s.data.toList).2 : Nat)]) ∧ w = w' := by
  unfold maxLen at hs
  have hlen : s.data.toList.length = s.size := (Lib.size_eq s).symm
  have HL := Lib.hid hlen; clear hlen
  go_enter Tryd.func100, Tryd.ntmps100
  go_wp2
  go_loop [4, 5] (fun n i => ∃ k v : Nat, k ≤ s.size ∧ i = .int .i64 k ∧ n = .int .i64 v ∧ v = val (s.data.toList.take (min k 10)) ∧ (∀ c ∈ s.data.toList.take k, isDig c = true)) (fun _ i => s.size - (intOf i).toNat)
  case atStart => exact ⟨0, 0, Nat.zero_le _, rfl, rfl, rfl, by simp⟩
  case round =>
    obtain ⟨k, v, hk, rfl, rfl, hv, hdig⟩ := hrel
    have hvb : v < 10000000000 := by
      rw [hv]
      refine val_small _ (fun c hc => hdig c ?_) (by rw [List.length_take]; omega)
      exact (List.take_sublist_take_left (by omega)).subset hc
    have HV := Lib.hid hv; clear hv
    have HD := Lib.hid hdig; clear hdig
    have fin : ∀ (hend : k = s.data.toList.length ∨ ∃ c, s.data.toList[k]? = some c ∧ isDig c = false), (10 < k ∧ partL s.data.toList = (0, 0)) ∨ (k ≤ 10 ∧ partL s.data.toList = (v, k)) := by
      intro hend
      by_cases hg : 10 < k
      · exact Or.inl ⟨hg, partL_great (by rw [HL.out]; exact hk) HD.out hend hg⟩
      · refine Or.inr ⟨by omega, ?_⟩
        rw [partL_small (by rw [HL.out]; exact hk) HD.out hend (by omega), HV.out, Nat.min_eq_left (by omega)]
    by_cases hlt : k < s.size
    · have hts := take_snoc s k hlt
      have has := at_some s k hlt
      have HT := Lib.hid hts; clear hts
      have HA := Lib.hid has; clear has
      by_cases c1 : (s[k].toNat : Int) < 48
      · rcases fin (Or.inr ⟨s[k], HA.out, by rw [Bool.eq_false_iff, ne_eq, isDig_iff]; omega⟩) with ⟨hg, hp⟩ | ⟨hg, hp⟩
        all_goals
          have HP := Lib.hid hp; clear hp fin
          go_wp2
          go_ret2
          exact ⟨by rw [HP.out]; rfl, rfl⟩
      by_cases c2 : 57 < (s[k].toNat : Int)
      · rcases fin (Or.inr ⟨s[k], HA.out, by rw [Bool.eq_false_iff, ne_eq, isDig_iff]; omega⟩) with ⟨hg, hp⟩ | ⟨hg, hp⟩
        all_goals
          have HP := Lib.hid hp; clear hp fin
          go_wp2
          go_ret2
          exact ⟨by rw [HP.out]; rfl, rfl⟩
      · have hc : isDig s[k] = true := (isDig_iff _).2 ⟨by omega, by omega⟩
        have HC := Lib.hid hc; clear hc fin
        by_cases h10 : k < 10
        · go_wp2
          go_round
          case rel => exact ⟨k + 1, 10 * v + (s[k].toNat - 48), by omega, by go_num, by rw [show ((10 * v + (s[k].toNat - 48) : Nat) : Int) = 10 * (v : Int) + ((s[k].toNat : Int) - 48) from by omega], by rw [Nat.min_eq_left (by omega), HT.out, val_snoc, HV.out, Nat.min_eq_left (by omega)], by rw [HT.out]; exact all_snoc HD.out HC.out⟩
          case measure => simp [intOf]; omega
        · go_wp2
          go_round
          case rel => exact ⟨k + 1, v, by omega, by go_num, rfl, by rw [HV.out, Nat.min_eq_right (by omega), Nat.min_eq_right (by omega)], by rw [HT.out]; exact all_snoc HD.out HC.out⟩
          case measure => simp [intOf]; omega
    · rcases fin (Or.inl (by rw [HL.out]; omega)) with ⟨hg, hp⟩ | ⟨hg, hp⟩
      all_goals
        have HP := Lib.hid hp; clear hp fin
        go_wp2
        go_ret2
        exact ⟨by rw [HP.out]; rfl, rfl⟩
end Go.Proofs.YtabofebepefbgaaDoor
