/- The reference's Name. -/
import Derived.Test.YtdeelpagoffdjaaDatC
import Derived.Test.YtdeelpagoffdjaaDatG
import Derived.Lib.Strings
namespace Go.Proofs.Ytdeelpagoffdjaa.Dat
open Go.RowKit

set_option maxHeartbeats 1000000 in
set_option maxRecDepth 100000 in
theorem name_any (P : ByteArray → Int × Int × Bool) (hp : ∀ (s : ByteArray) (w : World), s.size ≤ maxLen → Calls Try.prog 90 #[.string s] w fun e w' => e = .returned (.tuple #[.int .i64 (P s).1, .int .i64 (P s).2.1, .bool (P s).2.2]) ∧ w = w')
    (s : ByteArray) (hs : s.size ≤ maxLen) (w : World) :
    Calls Try.prog 81 #[.string s] w fun e w' => e = .returned (.bool (decide (1 ≤ s.size) && decide (s.size ≤ 40) && s.data.toList.all nameChar && !(P s).2.2)) ∧ ∃ k, w' = w.drewN k := by
  have HP := Lib.hid hp; clear hp
  have HS := Lib.hid hs
  unfold maxLen at hs
  by_cases h0 : s.size < 1
  · go_enter Try.func81, Try.ntmps81
    go_wp2
    go_ret
    exact ⟨ret_bool (by rw [decide_eq_false (by omega : ¬ 1 ≤ s.size)]; rfl), 0, rfl⟩
  by_cases h1 : 40 < s.size
  · go_enter Try.func81, Try.ntmps81
    go_wp2
    go_ret
    exact ⟨ret_bool (by rw [decide_eq_false (by omega : ¬ s.size ≤ 40)]; simp), 0, rfl⟩
  go_enter Try.func81, Try.ntmps81
  go_wp2
  obtain ⟨M, hM⟩ : ∃ M, (⟨#[45, 43, 42, 47, 60, 62, 61, 33, 63, 95, 37]⟩ : ByteArray) = M := ⟨_, rfl⟩
  rw [hM]
  have hMs : M.size = 11 := by rw [← hM]; rfl
  have HM := Lib.hid (show M = markB from hM.symm); clear hM
  have m0 : M.size ≤ 11 := by omega
  have m1 : 11 ≤ M.size := by omega
  clear hMs
  go_loopw [4] (fun x wr => ∃ i : Nat, i ≤ s.size ∧ x = .int .i64 i ∧ (s.data.toList.take i).all nameChar = true ∧ ∃ k, wr = w.drewN k) (fun x _ => s.size - (intOf x).toNat)
  case atStart => exact ⟨0, by omega, rfl, rfl, 0, rfl⟩
  case round =>
    obtain ⟨i, hi, rfl, hall, k0, rfl⟩ := hrel
    have HA := Lib.hid hall; clear hall
    by_cases hlt : i < s.size
    · have hts := take_snoc s i hlt
      have HT := Lib.hid hts; clear hts
      have ways : ((97 ≤ (s[i].toNat : Int) ∧ (s[i].toNat : Int) ≤ 122) ∧ plainChar s[i] = true) ∨ (122 < (s[i].toNat : Int) ∧ plainChar s[i] = false) ∨ ((48 ≤ (s[i].toNat : Int) ∧ (s[i].toNat : Int) ≤ 57) ∧ plainChar s[i] = true) ∨ ((57 < (s[i].toNat : Int) ∧ (s[i].toNat : Int) < 97) ∧ plainChar s[i] = false) ∨ ((s[i].toNat : Int) < 48 ∧ plainChar s[i] = false) := by
        unfold plainChar
        by_cases a1 : 97 ≤ s[i].toNat <;> by_cases a2 : s[i].toNat ≤ 122 <;> by_cases a3 : 48 ≤ s[i].toNat <;> by_cases a4 : s[i].toNat ≤ 57 <;> simp [a1, a2, a3, a4] <;> omega
      rcases ways with ⟨⟨q1, q2⟩, hp⟩ | ⟨q1, hp⟩ | ⟨⟨q1, q2⟩, hp⟩ | ⟨⟨q1, q2⟩, hp⟩ | ⟨q1, hp⟩
      all_goals
        have HPC := Lib.hid hp; clear hp
        go_wp2_with fail
        go_loopw [5, 6] (fun u x wr => ∃ (b : Bool) (k : Nat), k ≤ M.size ∧ u = .bool b ∧ x = .int .i64 k ∧ b = (plainChar s[i] || (M.data.toList.take k).any (fun m => s[i] == m)) ∧ ∃ j, wr = w.drewN j) (fun _ x _ => M.size - (intOf x).toNat)
        case atStart => exact ⟨_, 0, by omega, rfl, rfl, by rw [HPC.out]; first | rfl | (simp; omega), k0, rfl⟩
        case round =>
          obtain ⟨b, k, hk, rfl, rfl, hb, j, rfl⟩ := hrel
          have HB := Lib.hid hb; clear hb
          by_cases hkl : k < M.size
          · have hms := take_snoc M k hkl
            have HMS := Lib.hid hms; clear hms
            have step : (M.data.toList.take (k + 1)).any (fun m => s[i] == m) = ((M.data.toList.take k).any (fun m => s[i] == m) || (s[i] == M[k])) := by
              rw [HMS.out, List.any_append]; simp
            have STEP := Lib.hid step; clear step
            cases b
            · by_cases e : s[i].toNat = M[k].toNat
              · have q : ((s[i].toNat : Int) == (M[k].toNat : Int)) = true := by rw [beq_iff_eq]; omega
                have hsm : (s[i] == M[k]) = true := by rw [beq_iff_eq]; exact UInt8.toNat_inj.1 e
                have E := Lib.hid hsm; clear e hsm
                go_wp2_with fail
                go_quiet (fail)
                go_wp2_with fail
                go_roundw
                case rel => exact ⟨true, k + 1, by omega, rfl, by go_num, by rw [STEP.out, E.out]; simp, _, rfl⟩
                case measure => simp [intOf]; omega
              · have q : ((s[i].toNat : Int) == (M[k].toNat : Int)) = false := by rw [beq_eq_false_iff_ne]; omega
                have hsm : (s[i] == M[k]) = false := by rw [beq_eq_false_iff_ne]; intro h; exact e (by rw [h])
                have E := Lib.hid hsm; clear e hsm
                go_wp2_with fail
                go_quiet (fail)
                go_wp2_with fail
                go_roundw
                case rel => exact ⟨false, k + 1, by omega, rfl, by go_num, by rw [STEP.out, E.out, Bool.or_false]; exact HB.out, _, rfl⟩
                case measure => simp [intOf]; omega
            · go_wp2_with fail
              go_quiet (fail)
              go_wp2_with fail
              go_roundw
              case rel => exact ⟨true, k + 1, by omega, rfl, by go_num, by rw [STEP.out, ← Bool.or_assoc, ← HB.out]; rfl, _, rfl⟩
              case measure => simp [intOf]; omega
          · have hnc : nameChar s[i] = b := by
              have h := HB.out
              rw [List.take_of_length_le (by rw [← Lib.size_eq]; omega), HM.out] at h
              rw [h]; rfl
            have HNC := Lib.hid hnc; clear hnc
            cases b
            · have hf : s.data.toList.all nameChar = false := by
                rw [Bool.eq_false_iff]
                intro h
                have := List.all_eq_true.1 h s[i] (by have h := at_some s i hlt; exact List.mem_of_getElem? h)
                rw [HNC.out] at this; cases this
              have HF := Lib.hid hf; clear hf
              go_wp2_with fail
              go_ret
              exact ⟨ret_bool (by rw [HF.out]; simp), _, rfl⟩
            · go_wp2_with fail
              go_roundw
              case rel => exact ⟨i + 1, by omega, by go_num, by rw [HT.out, List.all_append, HA.out]; simp [HNC.out], _, rfl⟩
              case measure => simp [intOf]; omega
    · have hi2 : i = s.size := by omega
      have hall : s.data.toList.all nameChar = true := by
        have h := HA.out
        rw [List.take_of_length_le (by rw [← Lib.size_eq]; omega)] at h; exact h
      have HALL := Lib.hid hall; clear hall hi2
      have C := HP.out s (w.drewN k0) HS.out
      obtain ⟨r, hr⟩ : ∃ r, P s = r := ⟨_, rfl⟩
      rw [hr] at C
      have HC := Lib.hid C; clear C
      have HR := Lib.hid hr; clear hr
      go_wp2_with fail
      refine (HC.out).mono ?_
      rintro _ w' ⟨rfl, rfl⟩
      go_wp2_with fail
      go_ret
      refine ⟨ret_bool ?_, _, rfl⟩
      rw [HALL.out, HR.out, decide_eq_true (by omega : 1 ≤ s.size), decide_eq_true (by omega : s.size ≤ 40)]; rfl
end Go.Proofs.Ytdeelpagoffdjaa.Dat
