/- strings.Cut at one byte, at every string. -/
import Derived.Test.YtabofebepefbgaaDoorDigits
import Derived.Test.YtabofebepefbgaaDoorShelf
namespace Go.Proofs.YtabofebepefbgaaDoor
open Go.RowKit NumPlain

set_option maxHeartbeats 400000 in
theorem cut_in (s : ByteArray) (hs : s.size ≤ maxLen) (i : Nat) (hi : Lib.indexByte s.data.toList 47 = (i : Int)) (hlt : i < s.size) (w : World) :
    Calls Tryd.prog 73 #[.string s, .string ⟨#[47]⟩] w fun e w' => e = .returned (.tuple #[.string (s.extract 0 i), .string (s.extract (i + 1) s.size), .bool true]) ∧ ∃ k, w' = w.drewN k := by
  unfold maxLen at hs
  have C := fun w => Tryd.stringslite_Index_one s 47 w
  rw [hi] at C
  have HC := Lib.hid C; clear C hi
  have C2 : Calls Tryd.prog 91 #[.string s, .string ⟨#[47]⟩] w fun e w' => e = .returned (.tuple #[.string (s.extract 0 i), .string (s.extract (i + 1) s.size), .bool true]) ∧ ∃ k, w' = w.drewN k := by
    go_enter Tryd.func91, Tryd.ntmps91
    go_wp2_with fail
    refine (HC.out _).mono ?_
    rintro _ w' ⟨rfl, rfl⟩
    go_wp2_with fail
    go_quiet (fail)
    go_wp2_with fail
    go_ret3
    exact ⟨rfl, _, rfl⟩
  have HC2 := Lib.hid C2; clear C2
  go_enter Tryd.func73, Tryd.ntmps73
  go_wp2_with fail
  refine (HC2.out).mono ?_
  rintro _ w' ⟨rfl, k, rfl⟩
  go_wp2_with fail
  go_ret3
  exact ⟨rfl, k, rfl⟩

set_option maxHeartbeats 400000 in
theorem cut_out (s : ByteArray) (hi : Lib.indexByte s.data.toList 47 = -1) (w : World) :
    Calls Tryd.prog 73 #[.string s, .string ⟨#[47]⟩] w fun e w' => e = .returned (.tuple #[.string s, .string ⟨#[]⟩, .bool false]) ∧ ∃ k, w' = w.drewN k := by
  have C := fun w => Tryd.stringslite_Index_one s 47 w
  rw [hi] at C
  have HC := Lib.hid C; clear C hi
  have C2 : Calls Tryd.prog 91 #[.string s, .string ⟨#[47]⟩] w fun e w' => e = .returned (.tuple #[.string s, .string ⟨#[]⟩, .bool false]) ∧ ∃ k, w' = w.drewN k := by
    go_enter Tryd.func91, Tryd.ntmps91
    go_wp2_with fail
    refine (HC.out _).mono ?_
    rintro _ w' ⟨rfl, rfl⟩
    go_wp2_with fail
    go_ret3
    exact ⟨rfl, 0, rfl⟩
  have HC2 := Lib.hid C2; clear C2
  go_enter Tryd.func73, Tryd.ntmps73
  go_wp2_with fail
  refine (HC2.out).mono ?_
  rintro _ w' ⟨rfl, k, rfl⟩
  go_wp2_with fail
  go_ret3
  exact ⟨rfl, k, rfl⟩
end Go.Proofs.YtabofebepefbgaaDoor
