/- The laws' example answers true. -/
import Derived.Test.YtabofebepefbgaaDoorRdLM

namespace Go.Proofs.YtabofebepefbgaaDoor.Dat
open Go.RowKit
open Go.Proofs.YtabofebepefbgaaDoor (textL parse res)
open NumPlain (rightB)
set_option linter.unusedVariables false

abbrev exS1 : ByteArray := ⟨#[40, 97, 32, 46, 32, 39, 98, 41, 32, 35, 40, 49, 41]⟩
abbrev exS2 : ByteArray := ⟨#[40, 46, 32, 97, 41]⟩
theorem ex_read1 (w : World) : Calls Tryd.prog 21 #[.string exS1] w fun e w' => (∃ b o cap, e = .returned (.tuple #[.slice (some ⟨b, o, none⟩) 2 cap, .int .i64 13, .int .i64 0]) ∧ Dt.AllAt w' [exA, exB] b o) ∧ Below w.heap.size w w' := by
  refine (read_ok exS1 [exA, exB] 2 w (by decide) rfl ex_one).mono ?_
  rintro e w' ⟨⟨p, cap, rfl, hr⟩, hb⟩
  rcases hr with h | ⟨b, o, rfl, ha⟩
  · cases h
  · exact ⟨⟨b, o, cap, rfl, ha⟩, hb⟩
theorem ex_read2 (w : World) : Calls Tryd.prog 21 #[.string exS2] w fun e w' => e = .returned (.tuple #[.slice none 0 0, .int .i64 1, .int .i64 2]) ∧ Below w.heap.size w w' :=
  read_bad exS2 [46, 32, 97, 41] w (by decide) ex_two
set_option maxHeartbeats 2000000 in
set_option maxRecDepth 100000 in
theorem awake3_any (w : World) (ht : Tab w) : Answers 19 #[] w (.bool true) := by
  unfold Answers
  have HT := Lib.hid ht; clear ht
  go_enter Tryd.func19, Tryd.ntmps19
  go_wp2_with fail
  refine (ex_read1 _).mono ?_
  rintro _ w1 ⟨⟨b, o, cap, rfl, ha⟩, hb1⟩
  have HA := Lib.hid ha; clear ha
  have HB1 := Lib.hid hb1; clear hb1
  go_wp2_with fail
  refine (ex_read2 _).mono ?_
  rintro _ w2 ⟨rfl, hb2⟩
  have ha2 := (HA.out).on (cell_on hb2)
  obtain ⟨v0, v1, v2, v3, v4, d0, d1, d2, d3, d4, hta⟩ := ha2.kid (i := 0) (t := exA) rfl
  obtain ⟨u0, u1, u2, u3, u4, f0, f1, f2, f3, f4, htb⟩ := ha2.kid (i := 1) (t := exB) rfl
  simp only [Nat.zero_mul, Nat.one_mul, Nat.add_zero] at d0 d1 d2 d3 d4 f0 f1 f2 f3 f4
  have HB2 := Lib.hid hb2
  have HTA := Lib.hid hta; clear hta
  have HTB := Lib.hid htb; clear htb ha2 hb2
  go_wp2_with fail
  refine (pText exA _ ⟨#[40, 97, 32, 113, 117, 111, 116, 101, 32, 98, 41]⟩ w2 HTA.out (tab_lasts _ _ (tab_lasts _ _ HT.out HB1.out) HB2.out) (fun _ => by decide +kernel) (by decide +kernel)).mono ?_
  rintro _ w3 ⟨rfl, hb3⟩
  have g0 := cell_on hb3 _ _ _ f0
  have g1 := cell_on hb3 _ _ _ f1
  have g2 := cell_on hb3 _ _ _ f2
  have g3 := cell_on hb3 _ _ _ f3
  have g4 := cell_on hb3 _ _ _ f4
  have HB3 := Lib.hid hb3; clear hb3
  go_wp2_with fail
  refine (pText exB _ ⟨#[35, 40, 49, 41]⟩ w3 ((HTB.out).below HB3.out) (tab_lasts _ _ (tab_lasts _ _ (tab_lasts _ _ HT.out HB1.out) HB2.out) HB3.out) (fun _ => by decide +kernel) (by decide +kernel)).mono ?_
  rintro _ w4 ⟨rfl, hb4⟩
  have h1 := HB1.out.size
  have h2 := HB2.out.size
  have h3 := HB3.out.size
  have HB4 := Lib.hid hb4; clear hb4
  go_wp2_with fail
  go_ret
  exact ⟨rfl, (((HB1.out).trans ((HB2.out).mono h1)).trans ((HB3.out).mono (by omega))).trans ((HB4.out).mono (by omega))⟩
end Go.Proofs.YtabofebepefbgaaDoor.Dat
