/- The law PrimsFacts. -/
import Derived.Test.YtdeelpagoffdjaaPxEM
import Derived.Test.YtdeelpagoffdjaaPwAM

namespace Go.Proofs.Ytdeelpagoffdjaa.Dat
open Go.RowKit
set_option linter.unusedVariables false

theorem fact_parts (n : Int) : ∃ fn fl fm fp ff ok, factV (factOf n) = .tuple #[.agg #[.string fn, .int .i64 fl, .int .i64 fm, .bool fp, .bool ff], .bool ok] := by
  cases h : factOf n with
  | none => exact ⟨_, _, _, _, _, _, rfl⟩
  | some f => obtain ⟨fn, fl, fm, fp, ff⟩ := f; exact ⟨_, _, _, _, _, _, rfl⟩
set_option maxHeartbeats 8000000 in
set_option maxRecDepth 100000 in
theorem primsFacts_any (n : Int) (s : ByteArray) (k : Int) (w : World) (hn : I64 n) (hs : s.size ≤ maxLen) (hk : I64 k) :
    Calls Try.prog 3 #[.int .i64 n, .string s, .int .i64 k] w fun e w' => e = .returned (.bool true) ∧ Below w.heap.size w w' := by
  obtain ⟨fn, fl, fm, fp, ff, ok, hf⟩ := fact_parts n
  have HF := Lib.hid (fun W => Facts_any n hn W)
  have HG := Lib.hid (fun W => rFacts_any n hn W)
  rw [hf] at HF HG
  obtain ⟨⟨x, xb⟩, hx⟩ : ∃ r, findB s = r := ⟨_, rfl⟩
  have HX := Lib.hid (fun W => Find_any s hs W)
  have HY := Lib.hid (fun W => rFind_any s hs W)
  rw [hx] at HX HY
  obtain ⟨tb, ht⟩ : ∃ r, takesB n k = r := ⟨_, rfl⟩
  have HT := Lib.hid (fun W => Takes_any n k hn hk W)
  have HU := Lib.hid (fun W => rTakes_any n k hn hk W)
  rw [ht] at HT HU
  clear hf hx ht hn hk hs
  go_enter Try.func3, Try.ntmps3
  go_wp2_with fail
  refine (awake5_any _).mono ?_
  rintro _ w1 ⟨rfl, hb1⟩
  have HB1 := Lib.hid hb1; clear hb1
  go_wp2_with fail
  refine (HF.out _).mono ?_
  rintro _ w2 ⟨rfl, hb2⟩
  have HB2 := Lib.hid (below_seq HB1.out hb2); clear hb2
  go_upto_region 3 with fail
  obtain ⟨W2, hW2⟩ : ∃ W, w2.alloc (Obj.cells #[.string fn, .int .i64 fl, .int .i64 fm, .bool fp, .bool ff] 24) = W := ⟨_, rfl⟩
  have hbx2 := hW2 ▸ at_new w2 (Obj.cells #[.string fn, .int .i64 fl, .int .i64 fm, .bool fp, .bool ff] 24)
  have hbw2 : Below w2.heap.size w2 W2 := hW2 ▸ box_below w2 _
  rw [hW2]
  have HW2 := Lib.hid (And.intro hbx2 (below_seq HB2.out hbw2)); clear hbx2 hbw2 hW2
  go_wp2_with fail
  refine (HG.out _).mono ?_
  rintro _ w3 ⟨rfl, hb3⟩
  have HB3 := Lib.hid (And.intro (block_on hb3 HW2.out.1) (below_seq HW2.out.2 hb3)); clear hb3
  go_upto_region 4 with fail
  obtain ⟨W3, hW3⟩ : ∃ W, w3.alloc (Obj.cells #[.string fn, .int .i64 fl, .int .i64 fm, .bool fp, .bool ff] 27) = W := ⟨_, rfl⟩
  have hbx3 := hW3 ▸ at_new w3 (Obj.cells #[.string fn, .int .i64 fl, .int .i64 fm, .bool fp, .bool ff] 27)
  have hbw3 : Below w3.heap.size w3 W3 := hW3 ▸ box_below w3 _
  rw [hW3]
  have HW3 := Lib.hid (And.intro hbx3 (And.intro (block_on hbw3 HB3.out.1) (below_seq HB3.out.2 hbw3))); clear hbx3 hbw3 hW3
  go_wp2_with fail
  refine (HX.out _).mono ?_
  rintro _ w4 ⟨rfl, hb4⟩
  have HB4 := Lib.hid (And.intro (block_on hb4 HW3.out.1) (And.intro (block_on hb4 HW3.out.2.1) (below_seq HW3.out.2.2 hb4))); clear hb4
  go_wp2_with fail
  refine (HY.out _).mono ?_
  rintro _ w5 ⟨rfl, hb5⟩
  have HB5 := Lib.hid (And.intro (block_on hb5 HB4.out.1) (And.intro (block_on hb5 HB4.out.2.1) (below_seq HB4.out.2.2 hb5))); clear hb5
  obtain ⟨c0, c1, c2, c3, c4⟩ := box_cells HB5.out.1
  obtain ⟨d0, d1, d2, d3, d4⟩ := box_cells HB5.out.2.1
  go_wp2_with fail
  refine (HT.out _).mono ?_
  rintro _ w6 ⟨rfl, hb6⟩
  have HB6 := Lib.hid (below_seq HB5.out.2.2 hb6); clear hb6 c0 c1 c2 c3 c4 d0 d1 d2 d3 d4
  go_wp2_with fail
  refine (HU.out _).mono ?_
  rintro _ w7 ⟨rfl, hb7⟩
  have HB7 := Lib.hid (below_seq HB6.out hb7); clear hb7
  go_wp2_with fail
  go_ret
  exact ⟨by simp, HB7.out⟩
end Go.Proofs.Ytdeelpagoffdjaa.Dat
