/- How many brackets and marks that open something stand in a text: no more than it has bytes. -/
import Derived.Test.YtabofebepefbgaaDoorRdTwo
import Derived.Test.YtabofebepefbgaaDoorDatW0M

namespace Go.Proofs.YtabofebepefbgaaDoor.Dat
open Go.RowKit
set_option linter.unusedVariables false

set_option maxHeartbeats 1000000 in
set_option maxRecDepth 100000 in
theorem deep_any (s : ByteArray) (hs : s.size ≤ 65536) (w : World) : Calls Tryd.prog 20 #[.string s] w fun e w' => (∃ n : Nat, n ≤ s.size ∧ e = .returned (.int .i64 n)) ∧ Below w.heap.size w w' := by
  go_enter Tryd.func20, Tryd.ntmps20
  go_wp2_with fail
  go_loopw [3, 4] (fun x y wr => ∃ (m i : Nat), m ≤ i ∧ i ≤ s.size ∧ x = .int .i64 m ∧ y = .int .i64 i ∧ Below w.heap.size w wr) (fun _ y _ => s.size - (intOf y).toNat)
  case atStart => exact ⟨0, 0, by omega, by omega, rfl, rfl, Below.refl _ _⟩
  case round =>
    obtain ⟨m, i, hm, hi, rfl, rfl, hb⟩ := hrel
    have HB := Lib.hid hb; clear hb
    by_cases hlt : i < s.size
    · by_cases h40 : ((s[i].toNat : Int) == 40) = true
      · go_wp2_with fail
        go_roundw
        case rel => exact ⟨m + 1, i + 1, by omega, by omega, by go_num, by go_num, HB.out⟩
        case measure => simp [intOf]; omega
      have h40 : ((s[i].toNat : Int) == 40) = false := Bool.eq_false_iff.2 h40
      by_cases h39 : ((s[i].toNat : Int) == 39) = true
      · go_wp2_with fail
        go_roundw
        case rel => exact ⟨m + 1, i + 1, by omega, by omega, by go_num, by go_num, HB.out⟩
        case measure => simp [intOf]; omega
      have h39 : ((s[i].toNat : Int) == 39) = false := Bool.eq_false_iff.2 h39
      go_wp2_with fail
      go_roundw
      case rel => exact ⟨m, i + 1, by omega, by omega, rfl, by go_num, HB.out⟩
      case measure => simp [intOf]; omega
    · go_wp2_with fail
      go_ret
      exact ⟨⟨m, by omega, rfl⟩, HB.out⟩
end Go.Proofs.YtabofebepefbgaaDoor.Dat
