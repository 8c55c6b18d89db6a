/- The law PrimsNames, of a primitive. -/
import Derived.Test.YtdeelpagoffdjaaPwNM
import Derived.Test.YtdeelpagoffdjaaPrBM

namespace Go.Proofs.Ytdeelpagoffdjaa.Dat
open Go.RowKit
set_option linter.unusedVariables false

set_option maxHeartbeats 4000000 in
set_option maxRecDepth 100000 in
theorem names_c00one (n m : Int) (hn : I64 n) (hm : I64 m) (fn gn : ByteArray) (fl fm gl gm : Int) (fp : Bool) (gp gf : Bool) (hfl : 0 ≤ fl) (hmost : fm = -1) 
    (hfi : I64 fl ∧ I64 fm) (hF : ∀ W, Calls Try.prog 11 #[.int .i64 n] W fun e w' => e = .returned (.tuple #[.agg #[.string fn, .int .i64 fl, .int .i64 fm, .bool fp, .bool false], .bool true]) ∧ Below W.heap.size W w')
    (hG : ∀ W, Calls Try.prog 11 #[.int .i64 m] W fun e w' => e = .returned (.tuple #[.agg #[.string gn, .int .i64 gl, .int .i64 gm, .bool gp, .bool gf], .bool false]) ∧ Below W.heap.size W w')
    (hX : ∀ W, Calls Try.prog 13 #[.string fn] W fun e w' => e = .returned (.tuple #[.int .i64 n, .bool true]) ∧ Below W.heap.size W w') (w : World) :
    Calls Try.prog 5 #[.int .i64 n, .int .i64 m] w fun e w' => e = .returned (.bool true) ∧ Below w.heap.size w w' := by
  have HF := Lib.hid hF
  have HG := Lib.hid hG
  have HX := Lib.hid hX
  unfold I64 at hn hm hfi
  obtain ⟨⟨fl0, fl1⟩, ⟨fm0, fm1⟩⟩ := hfi
  clear hF hG hX
  subst hmost
  go_enter Try.func5, Try.ntmps5
  go_wp2_with fail
  refine (awake5_any _).mono ?_
  rintro _ w1 ⟨rfl, hb1⟩
  have HB1 := Lib.hid hb1; clear hb1
  go_wp2_with fail
  refine (HF.out _).mono ?_
  rintro _ w2 ⟨rfl, hb2⟩
  have HB2 := Lib.hid (below_seq HB1.out hb2); clear hb2
  go_upto_region 3 with fail
  obtain ⟨W2, hW2⟩ : ∃ W, w2.alloc (Obj.cells #[.string fn, .int .i64 fl, .int .i64 (-1), .bool fp, .bool false] 24) = W := ⟨_, rfl⟩
  have hbx2 := hW2 ▸ at_new w2 (Obj.cells #[.string fn, .int .i64 fl, .int .i64 (-1), .bool fp, .bool false] 24)
  have hbw2 : Below w2.heap.size w2 W2 := hW2 ▸ box_below w2 _
  rw [hW2]
  have HW2 := Lib.hid (And.intro hbx2 (below_seq HB2.out hbw2)); clear hbx2 hbw2 hW2
  go_wp2_with fail
  refine (HG.out _).mono ?_
  rintro _ w3 ⟨rfl, hb3⟩
  have HB3 := Lib.hid (And.intro (block_on hb3 HW2.out.1) (below_seq HW2.out.2 hb3)); clear hb3
  go_upto_region 4 with fail
  obtain ⟨W3, hW3⟩ : ∃ W, w3.alloc (Obj.cells #[.string gn, .int .i64 gl, .int .i64 gm, .bool gp, .bool gf] 24) = W := ⟨_, rfl⟩
  have hbx3 := hW3 ▸ at_new w3 (Obj.cells #[.string gn, .int .i64 gl, .int .i64 gm, .bool gp, .bool gf] 24)
  have hbw3 : Below w3.heap.size w3 W3 := hW3 ▸ box_below w3 _
  rw [hW3]
  have HW3 := Lib.hid (And.intro hbx3 (And.intro (block_on hbw3 HB3.out.1) (below_seq HB3.out.2 hbw3))); clear hbx3 hbw3 hW3
  obtain ⟨c0, c1, c2, c3, c4⟩ := box_cells HW3.out.2.1
  go_wp2_with fail
  refine (HX.out _).mono ?_
  rintro _ w4 ⟨rfl, hb4⟩
  have HB4 := Lib.hid (below_seq HW3.out.2.2 hb4)
  obtain ⟨d0, d1, d2, d3, d4⟩ := box_cells (block_on hb4 HW3.out.2.1)
  obtain ⟨e0, e1, e2, e3, e4⟩ := box_cells (block_on hb4 HW3.out.1)
  clear hb4 c0 c1 c2 c3 c4
  go_wp2_with fail
  go_ret
  exact ⟨rfl, HB4.out⟩
set_option maxHeartbeats 4000000 in
set_option maxRecDepth 100000 in
theorem names_c00other (n m : Int) (hn : I64 n) (hm : I64 m) (fn gn : ByteArray) (fl fm gl gm : Int) (fp : Bool) (gp gf : Bool) (hfl : 0 ≤ fl) (hmost : fm ≠ -1 ∧ fl ≤ fm) 
    (hfi : I64 fl ∧ I64 fm) (hF : ∀ W, Calls Try.prog 11 #[.int .i64 n] W fun e w' => e = .returned (.tuple #[.agg #[.string fn, .int .i64 fl, .int .i64 fm, .bool fp, .bool false], .bool true]) ∧ Below W.heap.size W w')
    (hG : ∀ W, Calls Try.prog 11 #[.int .i64 m] W fun e w' => e = .returned (.tuple #[.agg #[.string gn, .int .i64 gl, .int .i64 gm, .bool gp, .bool gf], .bool false]) ∧ Below W.heap.size W w')
    (hX : ∀ W, Calls Try.prog 13 #[.string fn] W fun e w' => e = .returned (.tuple #[.int .i64 n, .bool true]) ∧ Below W.heap.size W w') (w : World) :
    Calls Try.prog 5 #[.int .i64 n, .int .i64 m] w fun e w' => e = .returned (.bool true) ∧ Below w.heap.size w w' := by
  have HF := Lib.hid hF
  have HG := Lib.hid hG
  have HX := Lib.hid hX
  unfold I64 at hn hm hfi
  obtain ⟨⟨fl0, fl1⟩, ⟨fm0, fm1⟩⟩ := hfi
  clear hF hG hX
  have qm : (fm == -1) = false := by rw [beq_eq_false_iff_ne]; exact hmost.1
  have qg := hmost.2
  clear hmost
  go_enter Try.func5, Try.ntmps5
  go_wp2_with fail
  refine (awake5_any _).mono ?_
  rintro _ w1 ⟨rfl, hb1⟩
  have HB1 := Lib.hid hb1; clear hb1
  go_wp2_with fail
  refine (HF.out _).mono ?_
  rintro _ w2 ⟨rfl, hb2⟩
  have HB2 := Lib.hid (below_seq HB1.out hb2); clear hb2
  go_upto_region 3 with fail
  obtain ⟨W2, hW2⟩ : ∃ W, w2.alloc (Obj.cells #[.string fn, .int .i64 fl, .int .i64 fm, .bool fp, .bool false] 24) = W := ⟨_, rfl⟩
  have hbx2 := hW2 ▸ at_new w2 (Obj.cells #[.string fn, .int .i64 fl, .int .i64 fm, .bool fp, .bool false] 24)
  have hbw2 : Below w2.heap.size w2 W2 := hW2 ▸ box_below w2 _
  rw [hW2]
  have HW2 := Lib.hid (And.intro hbx2 (below_seq HB2.out hbw2)); clear hbx2 hbw2 hW2
  go_wp2_with fail
  refine (HG.out _).mono ?_
  rintro _ w3 ⟨rfl, hb3⟩
  have HB3 := Lib.hid (And.intro (block_on hb3 HW2.out.1) (below_seq HW2.out.2 hb3)); clear hb3
  go_upto_region 4 with fail
  obtain ⟨W3, hW3⟩ : ∃ W, w3.alloc (Obj.cells #[.string gn, .int .i64 gl, .int .i64 gm, .bool gp, .bool gf] 24) = W := ⟨_, rfl⟩
  have hbx3 := hW3 ▸ at_new w3 (Obj.cells #[.string gn, .int .i64 gl, .int .i64 gm, .bool gp, .bool gf] 24)
  have hbw3 : Below w3.heap.size w3 W3 := hW3 ▸ box_below w3 _
  rw [hW3]
  have HW3 := Lib.hid (And.intro hbx3 (And.intro (block_on hbw3 HB3.out.1) (below_seq HB3.out.2 hbw3))); clear hbx3 hbw3 hW3
  obtain ⟨c0, c1, c2, c3, c4⟩ := box_cells HW3.out.2.1
  go_wp2_with fail
  refine (HX.out _).mono ?_
  rintro _ w4 ⟨rfl, hb4⟩
  have HB4 := Lib.hid (below_seq HW3.out.2.2 hb4)
  obtain ⟨d0, d1, d2, d3, d4⟩ := box_cells (block_on hb4 HW3.out.2.1)
  obtain ⟨e0, e1, e2, e3, e4⟩ := box_cells (block_on hb4 HW3.out.1)
  clear hb4 c0 c1 c2 c3 c4
  go_wp2_with fail
  go_ret
  exact ⟨rfl, HB4.out⟩
set_option maxHeartbeats 4000000 in
set_option maxRecDepth 100000 in
theorem names_c01one (n m : Int) (hn : I64 n) (hm : I64 m) (fn gn : ByteArray) (fl fm gl gm : Int) (fp : Bool) (gp gf : Bool) (hfl : 0 ≤ fl) (hmost : fm = -1) (hnm : n = m)
    (hfi : I64 fl ∧ I64 fm) (hF : ∀ W, Calls Try.prog 11 #[.int .i64 n] W fun e w' => e = .returned (.tuple #[.agg #[.string fn, .int .i64 fl, .int .i64 fm, .bool fp, .bool false], .bool true]) ∧ Below W.heap.size W w')
    (hG : ∀ W, Calls Try.prog 11 #[.int .i64 m] W fun e w' => e = .returned (.tuple #[.agg #[.string gn, .int .i64 gl, .int .i64 gm, .bool gp, .bool gf], .bool true]) ∧ Below W.heap.size W w')
    (hX : ∀ W, Calls Try.prog 13 #[.string fn] W fun e w' => e = .returned (.tuple #[.int .i64 n, .bool true]) ∧ Below W.heap.size W w') (w : World) :
    Calls Try.prog 5 #[.int .i64 n, .int .i64 m] w fun e w' => e = .returned (.bool true) ∧ Below w.heap.size w w' := by
  have HF := Lib.hid hF
  have HG := Lib.hid hG
  have HX := Lib.hid hX
  unfold I64 at hn hm hfi
  obtain ⟨⟨fl0, fl1⟩, ⟨fm0, fm1⟩⟩ := hfi
  clear hF hG hX
  subst hnm
  subst hmost
  go_enter Try.func5, Try.ntmps5
  go_wp2_with fail
  refine (awake5_any _).mono ?_
  rintro _ w1 ⟨rfl, hb1⟩
  have HB1 := Lib.hid hb1; clear hb1
  go_wp2_with fail
  refine (HF.out _).mono ?_
  rintro _ w2 ⟨rfl, hb2⟩
  have HB2 := Lib.hid (below_seq HB1.out hb2); clear hb2
  go_upto_region 3 with fail
  obtain ⟨W2, hW2⟩ : ∃ W, w2.alloc (Obj.cells #[.string fn, .int .i64 fl, .int .i64 (-1), .bool fp, .bool false] 24) = W := ⟨_, rfl⟩
  have hbx2 := hW2 ▸ at_new w2 (Obj.cells #[.string fn, .int .i64 fl, .int .i64 (-1), .bool fp, .bool false] 24)
  have hbw2 : Below w2.heap.size w2 W2 := hW2 ▸ box_below w2 _
  rw [hW2]
  have HW2 := Lib.hid (And.intro hbx2 (below_seq HB2.out hbw2)); clear hbx2 hbw2 hW2
  go_wp2_with fail
  refine (HG.out _).mono ?_
  rintro _ w3 ⟨rfl, hb3⟩
  have HB3 := Lib.hid (And.intro (block_on hb3 HW2.out.1) (below_seq HW2.out.2 hb3)); clear hb3
  go_upto_region 4 with fail
  obtain ⟨W3, hW3⟩ : ∃ W, w3.alloc (Obj.cells #[.string gn, .int .i64 gl, .int .i64 gm, .bool gp, .bool gf] 24) = W := ⟨_, rfl⟩
  have hbx3 := hW3 ▸ at_new w3 (Obj.cells #[.string gn, .int .i64 gl, .int .i64 gm, .bool gp, .bool gf] 24)
  have hbw3 : Below w3.heap.size w3 W3 := hW3 ▸ box_below w3 _
  rw [hW3]
  have HW3 := Lib.hid (And.intro hbx3 (And.intro (block_on hbw3 HB3.out.1) (below_seq HB3.out.2 hbw3))); clear hbx3 hbw3 hW3
  obtain ⟨c0, c1, c2, c3, c4⟩ := box_cells HW3.out.2.1
  go_wp2_with fail
  refine (HX.out _).mono ?_
  rintro _ w4 ⟨rfl, hb4⟩
  have HB4 := Lib.hid (below_seq HW3.out.2.2 hb4)
  obtain ⟨d0, d1, d2, d3, d4⟩ := box_cells (block_on hb4 HW3.out.2.1)
  obtain ⟨e0, e1, e2, e3, e4⟩ := box_cells (block_on hb4 HW3.out.1)
  clear hb4 c0 c1 c2 c3 c4
  go_wp2_with fail
  go_ret
  exact ⟨rfl, HB4.out⟩
set_option maxHeartbeats 4000000 in
set_option maxRecDepth 100000 in
theorem names_c01other (n m : Int) (hn : I64 n) (hm : I64 m) (fn gn : ByteArray) (fl fm gl gm : Int) (fp : Bool) (gp gf : Bool) (hfl : 0 ≤ fl) (hmost : fm ≠ -1 ∧ fl ≤ fm) (hnm : n = m)
    (hfi : I64 fl ∧ I64 fm) (hF : ∀ W, Calls Try.prog 11 #[.int .i64 n] W fun e w' => e = .returned (.tuple #[.agg #[.string fn, .int .i64 fl, .int .i64 fm, .bool fp, .bool false], .bool true]) ∧ Below W.heap.size W w')
    (hG : ∀ W, Calls Try.prog 11 #[.int .i64 m] W fun e w' => e = .returned (.tuple #[.agg #[.string gn, .int .i64 gl, .int .i64 gm, .bool gp, .bool gf], .bool true]) ∧ Below W.heap.size W w')
    (hX : ∀ W, Calls Try.prog 13 #[.string fn] W fun e w' => e = .returned (.tuple #[.int .i64 n, .bool true]) ∧ Below W.heap.size W w') (w : World) :
    Calls Try.prog 5 #[.int .i64 n, .int .i64 m] w fun e w' => e = .returned (.bool true) ∧ Below w.heap.size w w' := by
  have HF := Lib.hid hF
  have HG := Lib.hid hG
  have HX := Lib.hid hX
  unfold I64 at hn hm hfi
  obtain ⟨⟨fl0, fl1⟩, ⟨fm0, fm1⟩⟩ := hfi
  clear hF hG hX
  subst hnm
  have qm : (fm == -1) = false := by rw [beq_eq_false_iff_ne]; exact hmost.1
  have qg := hmost.2
  clear hmost
  go_enter Try.func5, Try.ntmps5
  go_wp2_with fail
  refine (awake5_any _).mono ?_
  rintro _ w1 ⟨rfl, hb1⟩
  have HB1 := Lib.hid hb1; clear hb1
  go_wp2_with fail
  refine (HF.out _).mono ?_
  rintro _ w2 ⟨rfl, hb2⟩
  have HB2 := Lib.hid (below_seq HB1.out hb2); clear hb2
  go_upto_region 3 with fail
  obtain ⟨W2, hW2⟩ : ∃ W, w2.alloc (Obj.cells #[.string fn, .int .i64 fl, .int .i64 fm, .bool fp, .bool false] 24) = W := ⟨_, rfl⟩
  have hbx2 := hW2 ▸ at_new w2 (Obj.cells #[.string fn, .int .i64 fl, .int .i64 fm, .bool fp, .bool false] 24)
  have hbw2 : Below w2.heap.size w2 W2 := hW2 ▸ box_below w2 _
  rw [hW2]
  have HW2 := Lib.hid (And.intro hbx2 (below_seq HB2.out hbw2)); clear hbx2 hbw2 hW2
  go_wp2_with fail
  refine (HG.out _).mono ?_
  rintro _ w3 ⟨rfl, hb3⟩
  have HB3 := Lib.hid (And.intro (block_on hb3 HW2.out.1) (below_seq HW2.out.2 hb3)); clear hb3
  go_upto_region 4 with fail
  obtain ⟨W3, hW3⟩ : ∃ W, w3.alloc (Obj.cells #[.string gn, .int .i64 gl, .int .i64 gm, .bool gp, .bool gf] 24) = W := ⟨_, rfl⟩
  have hbx3 := hW3 ▸ at_new w3 (Obj.cells #[.string gn, .int .i64 gl, .int .i64 gm, .bool gp, .bool gf] 24)
  have hbw3 : Below w3.heap.size w3 W3 := hW3 ▸ box_below w3 _
  rw [hW3]
  have HW3 := Lib.hid (And.intro hbx3 (And.intro (block_on hbw3 HB3.out.1) (below_seq HB3.out.2 hbw3))); clear hbx3 hbw3 hW3
  obtain ⟨c0, c1, c2, c3, c4⟩ := box_cells HW3.out.2.1
  go_wp2_with fail
  refine (HX.out _).mono ?_
  rintro _ w4 ⟨rfl, hb4⟩
  have HB4 := Lib.hid (below_seq HW3.out.2.2 hb4)
  obtain ⟨d0, d1, d2, d3, d4⟩ := box_cells (block_on hb4 HW3.out.2.1)
  obtain ⟨e0, e1, e2, e3, e4⟩ := box_cells (block_on hb4 HW3.out.1)
  clear hb4 c0 c1 c2 c3 c4
  go_wp2_with fail
  go_ret
  exact ⟨rfl, HB4.out⟩
set_option maxHeartbeats 4000000 in
set_option maxRecDepth 100000 in
theorem names_c02one (n m : Int) (hn : I64 n) (hm : I64 m) (fn gn : ByteArray) (fl fm gl gm : Int) (fp : Bool) (gp gf : Bool) (hfl : 0 ≤ fl) (hmost : fm = -1) (hnm : n ≠ m) (hne : fn ≠ gn)
    (hfi : I64 fl ∧ I64 fm) (hF : ∀ W, Calls Try.prog 11 #[.int .i64 n] W fun e w' => e = .returned (.tuple #[.agg #[.string fn, .int .i64 fl, .int .i64 fm, .bool fp, .bool false], .bool true]) ∧ Below W.heap.size W w')
    (hG : ∀ W, Calls Try.prog 11 #[.int .i64 m] W fun e w' => e = .returned (.tuple #[.agg #[.string gn, .int .i64 gl, .int .i64 gm, .bool gp, .bool gf], .bool true]) ∧ Below W.heap.size W w')
    (hX : ∀ W, Calls Try.prog 13 #[.string fn] W fun e w' => e = .returned (.tuple #[.int .i64 n, .bool true]) ∧ Below W.heap.size W w') (w : World) :
    Calls Try.prog 5 #[.int .i64 n, .int .i64 m] w fun e w' => e = .returned (.bool true) ∧ Below w.heap.size w w' := by
  have HF := Lib.hid hF
  have HG := Lib.hid hG
  have HX := Lib.hid hX
  unfold I64 at hn hm hfi
  obtain ⟨⟨fl0, fl1⟩, ⟨fm0, fm1⟩⟩ := hfi
  clear hF hG hX
  have qn : (n == m) = false := by rw [beq_eq_false_iff_ne]; exact hnm
  have qs : (fn.toList == gn.toList) = false := by rw [beq_eq_false_iff_ne]; exact fun e => hne (bytes_inj e)
  clear hnm hne
  subst hmost
  go_enter Try.func5, Try.ntmps5
  go_wp2_with fail
  refine (awake5_any _).mono ?_
  rintro _ w1 ⟨rfl, hb1⟩
  have HB1 := Lib.hid hb1; clear hb1
  go_wp2_with fail
  refine (HF.out _).mono ?_
  rintro _ w2 ⟨rfl, hb2⟩
  have HB2 := Lib.hid (below_seq HB1.out hb2); clear hb2
  go_upto_region 3 with fail
  obtain ⟨W2, hW2⟩ : ∃ W, w2.alloc (Obj.cells #[.string fn, .int .i64 fl, .int .i64 (-1), .bool fp, .bool false] 24) = W := ⟨_, rfl⟩
  have hbx2 := hW2 ▸ at_new w2 (Obj.cells #[.string fn, .int .i64 fl, .int .i64 (-1), .bool fp, .bool false] 24)
  have hbw2 : Below w2.heap.size w2 W2 := hW2 ▸ box_below w2 _
  rw [hW2]
  have HW2 := Lib.hid (And.intro hbx2 (below_seq HB2.out hbw2)); clear hbx2 hbw2 hW2
  go_wp2_with fail
  refine (HG.out _).mono ?_
  rintro _ w3 ⟨rfl, hb3⟩
  have HB3 := Lib.hid (And.intro (block_on hb3 HW2.out.1) (below_seq HW2.out.2 hb3)); clear hb3
  go_upto_region 4 with fail
  obtain ⟨W3, hW3⟩ : ∃ W, w3.alloc (Obj.cells #[.string gn, .int .i64 gl, .int .i64 gm, .bool gp, .bool gf] 24) = W := ⟨_, rfl⟩
  have hbx3 := hW3 ▸ at_new w3 (Obj.cells #[.string gn, .int .i64 gl, .int .i64 gm, .bool gp, .bool gf] 24)
  have hbw3 : Below w3.heap.size w3 W3 := hW3 ▸ box_below w3 _
  rw [hW3]
  have HW3 := Lib.hid (And.intro hbx3 (And.intro (block_on hbw3 HB3.out.1) (below_seq HB3.out.2 hbw3))); clear hbx3 hbw3 hW3
  obtain ⟨c0, c1, c2, c3, c4⟩ := box_cells HW3.out.2.1
  go_wp2_with fail
  refine (HX.out _).mono ?_
  rintro _ w4 ⟨rfl, hb4⟩
  have HB4 := Lib.hid (below_seq HW3.out.2.2 hb4)
  obtain ⟨d0, d1, d2, d3, d4⟩ := box_cells (block_on hb4 HW3.out.2.1)
  obtain ⟨e0, e1, e2, e3, e4⟩ := box_cells (block_on hb4 HW3.out.1)
  clear hb4 c0 c1 c2 c3 c4
  go_wp2_with fail
  go_ret
  exact ⟨rfl, HB4.out⟩
set_option maxHeartbeats 4000000 in
set_option maxRecDepth 100000 in
theorem names_c02other (n m : Int) (hn : I64 n) (hm : I64 m) (fn gn : ByteArray) (fl fm gl gm : Int) (fp : Bool) (gp gf : Bool) (hfl : 0 ≤ fl) (hmost : fm ≠ -1 ∧ fl ≤ fm) (hnm : n ≠ m) (hne : fn ≠ gn)
    (hfi : I64 fl ∧ I64 fm) (hF : ∀ W, Calls Try.prog 11 #[.int .i64 n] W fun e w' => e = .returned (.tuple #[.agg #[.string fn, .int .i64 fl, .int .i64 fm, .bool fp, .bool false], .bool true]) ∧ Below W.heap.size W w')
    (hG : ∀ W, Calls Try.prog 11 #[.int .i64 m] W fun e w' => e = .returned (.tuple #[.agg #[.string gn, .int .i64 gl, .int .i64 gm, .bool gp, .bool gf], .bool true]) ∧ Below W.heap.size W w')
    (hX : ∀ W, Calls Try.prog 13 #[.string fn] W fun e w' => e = .returned (.tuple #[.int .i64 n, .bool true]) ∧ Below W.heap.size W w') (w : World) :
    Calls Try.prog 5 #[.int .i64 n, .int .i64 m] w fun e w' => e = .returned (.bool true) ∧ Below w.heap.size w w' := by
  have HF := Lib.hid hF
  have HG := Lib.hid hG
  have HX := Lib.hid hX
  unfold I64 at hn hm hfi
  obtain ⟨⟨fl0, fl1⟩, ⟨fm0, fm1⟩⟩ := hfi
  clear hF hG hX
  have qn : (n == m) = false := by rw [beq_eq_false_iff_ne]; exact hnm
  have qs : (fn.toList == gn.toList) = false := by rw [beq_eq_false_iff_ne]; exact fun e => hne (bytes_inj e)
  clear hnm hne
  have qm : (fm == -1) = false := by rw [beq_eq_false_iff_ne]; exact hmost.1
  have qg := hmost.2
  clear hmost
  go_enter Try.func5, Try.ntmps5
  go_wp2_with fail
  refine (awake5_any _).mono ?_
  rintro _ w1 ⟨rfl, hb1⟩
  have HB1 := Lib.hid hb1; clear hb1
  go_wp2_with fail
  refine (HF.out _).mono ?_
  rintro _ w2 ⟨rfl, hb2⟩
  have HB2 := Lib.hid (below_seq HB1.out hb2); clear hb2
  go_upto_region 3 with fail
  obtain ⟨W2, hW2⟩ : ∃ W, w2.alloc (Obj.cells #[.string fn, .int .i64 fl, .int .i64 fm, .bool fp, .bool false] 24) = W := ⟨_, rfl⟩
  have hbx2 := hW2 ▸ at_new w2 (Obj.cells #[.string fn, .int .i64 fl, .int .i64 fm, .bool fp, .bool false] 24)
  have hbw2 : Below w2.heap.size w2 W2 := hW2 ▸ box_below w2 _
  rw [hW2]
  have HW2 := Lib.hid (And.intro hbx2 (below_seq HB2.out hbw2)); clear hbx2 hbw2 hW2
  go_wp2_with fail
  refine (HG.out _).mono ?_
  rintro _ w3 ⟨rfl, hb3⟩
  have HB3 := Lib.hid (And.intro (block_on hb3 HW2.out.1) (below_seq HW2.out.2 hb3)); clear hb3
  go_upto_region 4 with fail
  obtain ⟨W3, hW3⟩ : ∃ W, w3.alloc (Obj.cells #[.string gn, .int .i64 gl, .int .i64 gm, .bool gp, .bool gf] 24) = W := ⟨_, rfl⟩
  have hbx3 := hW3 ▸ at_new w3 (Obj.cells #[.string gn, .int .i64 gl, .int .i64 gm, .bool gp, .bool gf] 24)
  have hbw3 : Below w3.heap.size w3 W3 := hW3 ▸ box_below w3 _
  rw [hW3]
  have HW3 := Lib.hid (And.intro hbx3 (And.intro (block_on hbw3 HB3.out.1) (below_seq HB3.out.2 hbw3))); clear hbx3 hbw3 hW3
  obtain ⟨c0, c1, c2, c3, c4⟩ := box_cells HW3.out.2.1
  go_wp2_with fail
  refine (HX.out _).mono ?_
  rintro _ w4 ⟨rfl, hb4⟩
  have HB4 := Lib.hid (below_seq HW3.out.2.2 hb4)
  obtain ⟨d0, d1, d2, d3, d4⟩ := box_cells (block_on hb4 HW3.out.2.1)
  obtain ⟨e0, e1, e2, e3, e4⟩ := box_cells (block_on hb4 HW3.out.1)
  clear hb4 c0 c1 c2 c3 c4
  go_wp2_with fail
  go_ret
  exact ⟨rfl, HB4.out⟩
set_option maxHeartbeats 4000000 in
set_option maxRecDepth 100000 in
theorem names_c10one (n m : Int) (hn : I64 n) (hm : I64 m) (fn gn : ByteArray) (fl fm gl gm : Int) (gp gf : Bool) (hfl : 0 ≤ fl) (hmost : fm = -1) 
    (hfi : I64 fl ∧ I64 fm) (hF : ∀ W, Calls Try.prog 11 #[.int .i64 n] W fun e w' => e = .returned (.tuple #[.agg #[.string fn, .int .i64 fl, .int .i64 fm, .bool true, .bool true], .bool true]) ∧ Below W.heap.size W w')
    (hG : ∀ W, Calls Try.prog 11 #[.int .i64 m] W fun e w' => e = .returned (.tuple #[.agg #[.string gn, .int .i64 gl, .int .i64 gm, .bool gp, .bool gf], .bool false]) ∧ Below W.heap.size W w')
    (hX : ∀ W, Calls Try.prog 13 #[.string fn] W fun e w' => e = .returned (.tuple #[.int .i64 n, .bool true]) ∧ Below W.heap.size W w') (w : World) :
    Calls Try.prog 5 #[.int .i64 n, .int .i64 m] w fun e w' => e = .returned (.bool true) ∧ Below w.heap.size w w' := by
  have HF := Lib.hid hF
  have HG := Lib.hid hG
  have HX := Lib.hid hX
  unfold I64 at hn hm hfi
  obtain ⟨⟨fl0, fl1⟩, ⟨fm0, fm1⟩⟩ := hfi
  clear hF hG hX
  subst hmost
  go_enter Try.func5, Try.ntmps5
  go_wp2_with fail
  refine (awake5_any _).mono ?_
  rintro _ w1 ⟨rfl, hb1⟩
  have HB1 := Lib.hid hb1; clear hb1
  go_wp2_with fail
  refine (HF.out _).mono ?_
  rintro _ w2 ⟨rfl, hb2⟩
  have HB2 := Lib.hid (below_seq HB1.out hb2); clear hb2
  go_upto_region 3 with fail
  obtain ⟨W2, hW2⟩ : ∃ W, w2.alloc (Obj.cells #[.string fn, .int .i64 fl, .int .i64 (-1), .bool true, .bool true] 24) = W := ⟨_, rfl⟩
  have hbx2 := hW2 ▸ at_new w2 (Obj.cells #[.string fn, .int .i64 fl, .int .i64 (-1), .bool true, .bool true] 24)
  have hbw2 : Below w2.heap.size w2 W2 := hW2 ▸ box_below w2 _
  rw [hW2]
  have HW2 := Lib.hid (And.intro hbx2 (below_seq HB2.out hbw2)); clear hbx2 hbw2 hW2
  go_wp2_with fail
  refine (HG.out _).mono ?_
  rintro _ w3 ⟨rfl, hb3⟩
  have HB3 := Lib.hid (And.intro (block_on hb3 HW2.out.1) (below_seq HW2.out.2 hb3)); clear hb3
  go_upto_region 4 with fail
  obtain ⟨W3, hW3⟩ : ∃ W, w3.alloc (Obj.cells #[.string gn, .int .i64 gl, .int .i64 gm, .bool gp, .bool gf] 24) = W := ⟨_, rfl⟩
  have hbx3 := hW3 ▸ at_new w3 (Obj.cells #[.string gn, .int .i64 gl, .int .i64 gm, .bool gp, .bool gf] 24)
  have hbw3 : Below w3.heap.size w3 W3 := hW3 ▸ box_below w3 _
  rw [hW3]
  have HW3 := Lib.hid (And.intro hbx3 (And.intro (block_on hbw3 HB3.out.1) (below_seq HB3.out.2 hbw3))); clear hbx3 hbw3 hW3
  obtain ⟨c0, c1, c2, c3, c4⟩ := box_cells HW3.out.2.1
  go_wp2_with fail
  refine (HX.out _).mono ?_
  rintro _ w4 ⟨rfl, hb4⟩
  have HB4 := Lib.hid (below_seq HW3.out.2.2 hb4)
  obtain ⟨d0, d1, d2, d3, d4⟩ := box_cells (block_on hb4 HW3.out.2.1)
  obtain ⟨e0, e1, e2, e3, e4⟩ := box_cells (block_on hb4 HW3.out.1)
  clear hb4 c0 c1 c2 c3 c4
  go_wp2_with fail
  go_ret
  exact ⟨rfl, HB4.out⟩
set_option maxHeartbeats 4000000 in
set_option maxRecDepth 100000 in
theorem names_c10other (n m : Int) (hn : I64 n) (hm : I64 m) (fn gn : ByteArray) (fl fm gl gm : Int) (gp gf : Bool) (hfl : 0 ≤ fl) (hmost : fm ≠ -1 ∧ fl ≤ fm) 
    (hfi : I64 fl ∧ I64 fm) (hF : ∀ W, Calls Try.prog 11 #[.int .i64 n] W fun e w' => e = .returned (.tuple #[.agg #[.string fn, .int .i64 fl, .int .i64 fm, .bool true, .bool true], .bool true]) ∧ Below W.heap.size W w')
    (hG : ∀ W, Calls Try.prog 11 #[.int .i64 m] W fun e w' => e = .returned (.tuple #[.agg #[.string gn, .int .i64 gl, .int .i64 gm, .bool gp, .bool gf], .bool false]) ∧ Below W.heap.size W w')
    (hX : ∀ W, Calls Try.prog 13 #[.string fn] W fun e w' => e = .returned (.tuple #[.int .i64 n, .bool true]) ∧ Below W.heap.size W w') (w : World) :
    Calls Try.prog 5 #[.int .i64 n, .int .i64 m] w fun e w' => e = .returned (.bool true) ∧ Below w.heap.size w w' := by
  have HF := Lib.hid hF
  have HG := Lib.hid hG
  have HX := Lib.hid hX
  unfold I64 at hn hm hfi
  obtain ⟨⟨fl0, fl1⟩, ⟨fm0, fm1⟩⟩ := hfi
  clear hF hG hX
  have qm : (fm == -1) = false := by rw [beq_eq_false_iff_ne]; exact hmost.1
  have qg := hmost.2
  clear hmost
  go_enter Try.func5, Try.ntmps5
  go_wp2_with fail
  refine (awake5_any _).mono ?_
  rintro _ w1 ⟨rfl, hb1⟩
  have HB1 := Lib.hid hb1; clear hb1
  go_wp2_with fail
  refine (HF.out _).mono ?_
  rintro _ w2 ⟨rfl, hb2⟩
  have HB2 := Lib.hid (below_seq HB1.out hb2); clear hb2
  go_upto_region 3 with fail
  obtain ⟨W2, hW2⟩ : ∃ W, w2.alloc (Obj.cells #[.string fn, .int .i64 fl, .int .i64 fm, .bool true, .bool true] 24) = W := ⟨_, rfl⟩
  have hbx2 := hW2 ▸ at_new w2 (Obj.cells #[.string fn, .int .i64 fl, .int .i64 fm, .bool true, .bool true] 24)
  have hbw2 : Below w2.heap.size w2 W2 := hW2 ▸ box_below w2 _
  rw [hW2]
  have HW2 := Lib.hid (And.intro hbx2 (below_seq HB2.out hbw2)); clear hbx2 hbw2 hW2
  go_wp2_with fail
  refine (HG.out _).mono ?_
  rintro _ w3 ⟨rfl, hb3⟩
  have HB3 := Lib.hid (And.intro (block_on hb3 HW2.out.1) (below_seq HW2.out.2 hb3)); clear hb3
  go_upto_region 4 with fail
  obtain ⟨W3, hW3⟩ : ∃ W, w3.alloc (Obj.cells #[.string gn, .int .i64 gl, .int .i64 gm, .bool gp, .bool gf] 24) = W := ⟨_, rfl⟩
  have hbx3 := hW3 ▸ at_new w3 (Obj.cells #[.string gn, .int .i64 gl, .int .i64 gm, .bool gp, .bool gf] 24)
  have hbw3 : Below w3.heap.size w3 W3 := hW3 ▸ box_below w3 _
  rw [hW3]
  have HW3 := Lib.hid (And.intro hbx3 (And.intro (block_on hbw3 HB3.out.1) (below_seq HB3.out.2 hbw3))); clear hbx3 hbw3 hW3
  obtain ⟨c0, c1, c2, c3, c4⟩ := box_cells HW3.out.2.1
  go_wp2_with fail
  refine (HX.out _).mono ?_
  rintro _ w4 ⟨rfl, hb4⟩
  have HB4 := Lib.hid (below_seq HW3.out.2.2 hb4)
  obtain ⟨d0, d1, d2, d3, d4⟩ := box_cells (block_on hb4 HW3.out.2.1)
  obtain ⟨e0, e1, e2, e3, e4⟩ := box_cells (block_on hb4 HW3.out.1)
  clear hb4 c0 c1 c2 c3 c4
  go_wp2_with fail
  go_ret
  exact ⟨rfl, HB4.out⟩
set_option maxHeartbeats 4000000 in
set_option maxRecDepth 100000 in
theorem names_c11one (n m : Int) (hn : I64 n) (hm : I64 m) (fn gn : ByteArray) (fl fm gl gm : Int) (gp gf : Bool) (hfl : 0 ≤ fl) (hmost : fm = -1) (hnm : n = m)
    (hfi : I64 fl ∧ I64 fm) (hF : ∀ W, Calls Try.prog 11 #[.int .i64 n] W fun e w' => e = .returned (.tuple #[.agg #[.string fn, .int .i64 fl, .int .i64 fm, .bool true, .bool true], .bool true]) ∧ Below W.heap.size W w')
    (hG : ∀ W, Calls Try.prog 11 #[.int .i64 m] W fun e w' => e = .returned (.tuple #[.agg #[.string gn, .int .i64 gl, .int .i64 gm, .bool gp, .bool gf], .bool true]) ∧ Below W.heap.size W w')
    (hX : ∀ W, Calls Try.prog 13 #[.string fn] W fun e w' => e = .returned (.tuple #[.int .i64 n, .bool true]) ∧ Below W.heap.size W w') (w : World) :
    Calls Try.prog 5 #[.int .i64 n, .int .i64 m] w fun e w' => e = .returned (.bool true) ∧ Below w.heap.size w w' := by
  have HF := Lib.hid hF
  have HG := Lib.hid hG
  have HX := Lib.hid hX
  unfold I64 at hn hm hfi
  obtain ⟨⟨fl0, fl1⟩, ⟨fm0, fm1⟩⟩ := hfi
  clear hF hG hX
  subst hnm
  subst hmost
  go_enter Try.func5, Try.ntmps5
  go_wp2_with fail
  refine (awake5_any _).mono ?_
  rintro _ w1 ⟨rfl, hb1⟩
  have HB1 := Lib.hid hb1; clear hb1
  go_wp2_with fail
  refine (HF.out _).mono ?_
  rintro _ w2 ⟨rfl, hb2⟩
  have HB2 := Lib.hid (below_seq HB1.out hb2); clear hb2
  go_upto_region 3 with fail
  obtain ⟨W2, hW2⟩ : ∃ W, w2.alloc (Obj.cells #[.string fn, .int .i64 fl, .int .i64 (-1), .bool true, .bool true] 24) = W := ⟨_, rfl⟩
  have hbx2 := hW2 ▸ at_new w2 (Obj.cells #[.string fn, .int .i64 fl, .int .i64 (-1), .bool true, .bool true] 24)
  have hbw2 : Below w2.heap.size w2 W2 := hW2 ▸ box_below w2 _
  rw [hW2]
  have HW2 := Lib.hid (And.intro hbx2 (below_seq HB2.out hbw2)); clear hbx2 hbw2 hW2
  go_wp2_with fail
  refine (HG.out _).mono ?_
  rintro _ w3 ⟨rfl, hb3⟩
  have HB3 := Lib.hid (And.intro (block_on hb3 HW2.out.1) (below_seq HW2.out.2 hb3)); clear hb3
  go_upto_region 4 with fail
  obtain ⟨W3, hW3⟩ : ∃ W, w3.alloc (Obj.cells #[.string gn, .int .i64 gl, .int .i64 gm, .bool gp, .bool gf] 24) = W := ⟨_, rfl⟩
  have hbx3 := hW3 ▸ at_new w3 (Obj.cells #[.string gn, .int .i64 gl, .int .i64 gm, .bool gp, .bool gf] 24)
  have hbw3 : Below w3.heap.size w3 W3 := hW3 ▸ box_below w3 _
  rw [hW3]
  have HW3 := Lib.hid (And.intro hbx3 (And.intro (block_on hbw3 HB3.out.1) (below_seq HB3.out.2 hbw3))); clear hbx3 hbw3 hW3
  obtain ⟨c0, c1, c2, c3, c4⟩ := box_cells HW3.out.2.1
  go_wp2_with fail
  refine (HX.out _).mono ?_
  rintro _ w4 ⟨rfl, hb4⟩
  have HB4 := Lib.hid (below_seq HW3.out.2.2 hb4)
  obtain ⟨d0, d1, d2, d3, d4⟩ := box_cells (block_on hb4 HW3.out.2.1)
  obtain ⟨e0, e1, e2, e3, e4⟩ := box_cells (block_on hb4 HW3.out.1)
  clear hb4 c0 c1 c2 c3 c4
  go_wp2_with fail
  go_ret
  exact ⟨rfl, HB4.out⟩
set_option maxHeartbeats 4000000 in
set_option maxRecDepth 100000 in
theorem names_c11other (n m : Int) (hn : I64 n) (hm : I64 m) (fn gn : ByteArray) (fl fm gl gm : Int) (gp gf : Bool) (hfl : 0 ≤ fl) (hmost : fm ≠ -1 ∧ fl ≤ fm) (hnm : n = m)
    (hfi : I64 fl ∧ I64 fm) (hF : ∀ W, Calls Try.prog 11 #[.int .i64 n] W fun e w' => e = .returned (.tuple #[.agg #[.string fn, .int .i64 fl, .int .i64 fm, .bool true, .bool true], .bool true]) ∧ Below W.heap.size W w')
    (hG : ∀ W, Calls Try.prog 11 #[.int .i64 m] W fun e w' => e = .returned (.tuple #[.agg #[.string gn, .int .i64 gl, .int .i64 gm, .bool gp, .bool gf], .bool true]) ∧ Below W.heap.size W w')
    (hX : ∀ W, Calls Try.prog 13 #[.string fn] W fun e w' => e = .returned (.tuple #[.int .i64 n, .bool true]) ∧ Below W.heap.size W w') (w : World) :
    Calls Try.prog 5 #[.int .i64 n, .int .i64 m] w fun e w' => e = .returned (.bool true) ∧ Below w.heap.size w w' := by
  have HF := Lib.hid hF
  have HG := Lib.hid hG
  have HX := Lib.hid hX
  unfold I64 at hn hm hfi
  obtain ⟨⟨fl0, fl1⟩, ⟨fm0, fm1⟩⟩ := hfi
  clear hF hG hX
  subst hnm
  have qm : (fm == -1) = false := by rw [beq_eq_false_iff_ne]; exact hmost.1
  have qg := hmost.2
  clear hmost
  go_enter Try.func5, Try.ntmps5
  go_wp2_with fail
  refine (awake5_any _).mono ?_
  rintro _ w1 ⟨rfl, hb1⟩
  have HB1 := Lib.hid hb1; clear hb1
  go_wp2_with fail
  refine (HF.out _).mono ?_
  rintro _ w2 ⟨rfl, hb2⟩
  have HB2 := Lib.hid (below_seq HB1.out hb2); clear hb2
  go_upto_region 3 with fail
  obtain ⟨W2, hW2⟩ : ∃ W, w2.alloc (Obj.cells #[.string fn, .int .i64 fl, .int .i64 fm, .bool true, .bool true] 24) = W := ⟨_, rfl⟩
  have hbx2 := hW2 ▸ at_new w2 (Obj.cells #[.string fn, .int .i64 fl, .int .i64 fm, .bool true, .bool true] 24)
  have hbw2 : Below w2.heap.size w2 W2 := hW2 ▸ box_below w2 _
  rw [hW2]
  have HW2 := Lib.hid (And.intro hbx2 (below_seq HB2.out hbw2)); clear hbx2 hbw2 hW2
  go_wp2_with fail
  refine (HG.out _).mono ?_
  rintro _ w3 ⟨rfl, hb3⟩
  have HB3 := Lib.hid (And.intro (block_on hb3 HW2.out.1) (below_seq HW2.out.2 hb3)); clear hb3
  go_upto_region 4 with fail
  obtain ⟨W3, hW3⟩ : ∃ W, w3.alloc (Obj.cells #[.string gn, .int .i64 gl, .int .i64 gm, .bool gp, .bool gf] 24) = W := ⟨_, rfl⟩
  have hbx3 := hW3 ▸ at_new w3 (Obj.cells #[.string gn, .int .i64 gl, .int .i64 gm, .bool gp, .bool gf] 24)
  have hbw3 : Below w3.heap.size w3 W3 := hW3 ▸ box_below w3 _
  rw [hW3]
  have HW3 := Lib.hid (And.intro hbx3 (And.intro (block_on hbw3 HB3.out.1) (below_seq HB3.out.2 hbw3))); clear hbx3 hbw3 hW3
  obtain ⟨c0, c1, c2, c3, c4⟩ := box_cells HW3.out.2.1
  go_wp2_with fail
  refine (HX.out _).mono ?_
  rintro _ w4 ⟨rfl, hb4⟩
  have HB4 := Lib.hid (below_seq HW3.out.2.2 hb4)
  obtain ⟨d0, d1, d2, d3, d4⟩ := box_cells (block_on hb4 HW3.out.2.1)
  obtain ⟨e0, e1, e2, e3, e4⟩ := box_cells (block_on hb4 HW3.out.1)
  clear hb4 c0 c1 c2 c3 c4
  go_wp2_with fail
  go_ret
  exact ⟨rfl, HB4.out⟩
set_option maxHeartbeats 4000000 in
set_option maxRecDepth 100000 in
theorem names_c12one (n m : Int) (hn : I64 n) (hm : I64 m) (fn gn : ByteArray) (fl fm gl gm : Int) (gp gf : Bool) (hfl : 0 ≤ fl) (hmost : fm = -1) (hnm : n ≠ m) (hne : fn ≠ gn)
    (hfi : I64 fl ∧ I64 fm) (hF : ∀ W, Calls Try.prog 11 #[.int .i64 n] W fun e w' => e = .returned (.tuple #[.agg #[.string fn, .int .i64 fl, .int .i64 fm, .bool true, .bool true], .bool true]) ∧ Below W.heap.size W w')
    (hG : ∀ W, Calls Try.prog 11 #[.int .i64 m] W fun e w' => e = .returned (.tuple #[.agg #[.string gn, .int .i64 gl, .int .i64 gm, .bool gp, .bool gf], .bool true]) ∧ Below W.heap.size W w')
    (hX : ∀ W, Calls Try.prog 13 #[.string fn] W fun e w' => e = .returned (.tuple #[.int .i64 n, .bool true]) ∧ Below W.heap.size W w') (w : World) :
    Calls Try.prog 5 #[.int .i64 n, .int .i64 m] w fun e w' => e = .returned (.bool true) ∧ Below w.heap.size w w' := by
  have HF := Lib.hid hF
  have HG := Lib.hid hG
  have HX := Lib.hid hX
  unfold I64 at hn hm hfi
  obtain ⟨⟨fl0, fl1⟩, ⟨fm0, fm1⟩⟩ := hfi
  clear hF hG hX
  have qn : (n == m) = false := by rw [beq_eq_false_iff_ne]; exact hnm
  have qs : (fn.toList == gn.toList) = false := by rw [beq_eq_false_iff_ne]; exact fun e => hne (bytes_inj e)
  clear hnm hne
  subst hmost
  go_enter Try.func5, Try.ntmps5
  go_wp2_with fail
  refine (awake5_any _).mono ?_
  rintro _ w1 ⟨rfl, hb1⟩
  have HB1 := Lib.hid hb1; clear hb1
  go_wp2_with fail
  refine (HF.out _).mono ?_
  rintro _ w2 ⟨rfl, hb2⟩
  have HB2 := Lib.hid (below_seq HB1.out hb2); clear hb2
  go_upto_region 3 with fail
  obtain ⟨W2, hW2⟩ : ∃ W, w2.alloc (Obj.cells #[.string fn, .int .i64 fl, .int .i64 (-1), .bool true, .bool true] 24) = W := ⟨_, rfl⟩
  have hbx2 := hW2 ▸ at_new w2 (Obj.cells #[.string fn, .int .i64 fl, .int .i64 (-1), .bool true, .bool true] 24)
  have hbw2 : Below w2.heap.size w2 W2 := hW2 ▸ box_below w2 _
  rw [hW2]
  have HW2 := Lib.hid (And.intro hbx2 (below_seq HB2.out hbw2)); clear hbx2 hbw2 hW2
  go_wp2_with fail
  refine (HG.out _).mono ?_
  rintro _ w3 ⟨rfl, hb3⟩
  have HB3 := Lib.hid (And.intro (block_on hb3 HW2.out.1) (below_seq HW2.out.2 hb3)); clear hb3
  go_upto_region 4 with fail
  obtain ⟨W3, hW3⟩ : ∃ W, w3.alloc (Obj.cells #[.string gn, .int .i64 gl, .int .i64 gm, .bool gp, .bool gf] 24) = W := ⟨_, rfl⟩
  have hbx3 := hW3 ▸ at_new w3 (Obj.cells #[.string gn, .int .i64 gl, .int .i64 gm, .bool gp, .bool gf] 24)
  have hbw3 : Below w3.heap.size w3 W3 := hW3 ▸ box_below w3 _
  rw [hW3]
  have HW3 := Lib.hid (And.intro hbx3 (And.intro (block_on hbw3 HB3.out.1) (below_seq HB3.out.2 hbw3))); clear hbx3 hbw3 hW3
  obtain ⟨c0, c1, c2, c3, c4⟩ := box_cells HW3.out.2.1
  go_wp2_with fail
  refine (HX.out _).mono ?_
  rintro _ w4 ⟨rfl, hb4⟩
  have HB4 := Lib.hid (below_seq HW3.out.2.2 hb4)
  obtain ⟨d0, d1, d2, d3, d4⟩ := box_cells (block_on hb4 HW3.out.2.1)
  obtain ⟨e0, e1, e2, e3, e4⟩ := box_cells (block_on hb4 HW3.out.1)
  clear hb4 c0 c1 c2 c3 c4
  go_wp2_with fail
  go_ret
  exact ⟨rfl, HB4.out⟩
set_option maxHeartbeats 4000000 in
set_option maxRecDepth 100000 in
theorem names_c12other (n m : Int) (hn : I64 n) (hm : I64 m) (fn gn : ByteArray) (fl fm gl gm : Int) (gp gf : Bool) (hfl : 0 ≤ fl) (hmost : fm ≠ -1 ∧ fl ≤ fm) (hnm : n ≠ m) (hne : fn ≠ gn)
    (hfi : I64 fl ∧ I64 fm) (hF : ∀ W, Calls Try.prog 11 #[.int .i64 n] W fun e w' => e = .returned (.tuple #[.agg #[.string fn, .int .i64 fl, .int .i64 fm, .bool true, .bool true], .bool true]) ∧ Below W.heap.size W w')
    (hG : ∀ W, Calls Try.prog 11 #[.int .i64 m] W fun e w' => e = .returned (.tuple #[.agg #[.string gn, .int .i64 gl, .int .i64 gm, .bool gp, .bool gf], .bool true]) ∧ Below W.heap.size W w')
    (hX : ∀ W, Calls Try.prog 13 #[.string fn] W fun e w' => e = .returned (.tuple #[.int .i64 n, .bool true]) ∧ Below W.heap.size W w') (w : World) :
    Calls Try.prog 5 #[.int .i64 n, .int .i64 m] w fun e w' => e = .returned (.bool true) ∧ Below w.heap.size w w' := by
  have HF := Lib.hid hF
  have HG := Lib.hid hG
  have HX := Lib.hid hX
  unfold I64 at hn hm hfi
  obtain ⟨⟨fl0, fl1⟩, ⟨fm0, fm1⟩⟩ := hfi
  clear hF hG hX
  have qn : (n == m) = false := by rw [beq_eq_false_iff_ne]; exact hnm
  have qs : (fn.toList == gn.toList) = false := by rw [beq_eq_false_iff_ne]; exact fun e => hne (bytes_inj e)
  clear hnm hne
  have qm : (fm == -1) = false := by rw [beq_eq_false_iff_ne]; exact hmost.1
  have qg := hmost.2
  clear hmost
  go_enter Try.func5, Try.ntmps5
  go_wp2_with fail
  refine (awake5_any _).mono ?_
  rintro _ w1 ⟨rfl, hb1⟩
  have HB1 := Lib.hid hb1; clear hb1
  go_wp2_with fail
  refine (HF.out _).mono ?_
  rintro _ w2 ⟨rfl, hb2⟩
  have HB2 := Lib.hid (below_seq HB1.out hb2); clear hb2
  go_upto_region 3 with fail
  obtain ⟨W2, hW2⟩ : ∃ W, w2.alloc (Obj.cells #[.string fn, .int .i64 fl, .int .i64 fm, .bool true, .bool true] 24) = W := ⟨_, rfl⟩
  have hbx2 := hW2 ▸ at_new w2 (Obj.cells #[.string fn, .int .i64 fl, .int .i64 fm, .bool true, .bool true] 24)
  have hbw2 : Below w2.heap.size w2 W2 := hW2 ▸ box_below w2 _
  rw [hW2]
  have HW2 := Lib.hid (And.intro hbx2 (below_seq HB2.out hbw2)); clear hbx2 hbw2 hW2
  go_wp2_with fail
  refine (HG.out _).mono ?_
  rintro _ w3 ⟨rfl, hb3⟩
  have HB3 := Lib.hid (And.intro (block_on hb3 HW2.out.1) (below_seq HW2.out.2 hb3)); clear hb3
  go_upto_region 4 with fail
  obtain ⟨W3, hW3⟩ : ∃ W, w3.alloc (Obj.cells #[.string gn, .int .i64 gl, .int .i64 gm, .bool gp, .bool gf] 24) = W := ⟨_, rfl⟩
  have hbx3 := hW3 ▸ at_new w3 (Obj.cells #[.string gn, .int .i64 gl, .int .i64 gm, .bool gp, .bool gf] 24)
  have hbw3 : Below w3.heap.size w3 W3 := hW3 ▸ box_below w3 _
  rw [hW3]
  have HW3 := Lib.hid (And.intro hbx3 (And.intro (block_on hbw3 HB3.out.1) (below_seq HB3.out.2 hbw3))); clear hbx3 hbw3 hW3
  obtain ⟨c0, c1, c2, c3, c4⟩ := box_cells HW3.out.2.1
  go_wp2_with fail
  refine (HX.out _).mono ?_
  rintro _ w4 ⟨rfl, hb4⟩
  have HB4 := Lib.hid (below_seq HW3.out.2.2 hb4)
  obtain ⟨d0, d1, d2, d3, d4⟩ := box_cells (block_on hb4 HW3.out.2.1)
  obtain ⟨e0, e1, e2, e3, e4⟩ := box_cells (block_on hb4 HW3.out.1)
  clear hb4 c0 c1 c2 c3 c4
  go_wp2_with fail
  go_ret
  exact ⟨rfl, HB4.out⟩
theorem primsNames_any (n m : Int) (hn : I64 n) (hm : I64 m) (w : World) : Calls Try.prog 5 #[.int .i64 n, .int .i64 m] w fun e w' => e = .returned (.bool true) ∧ Below w.heap.size w w' := by
  cases hf : factOf n with
  | none => exact names_none n m hn hm hf w
  | some f =>
    obtain ⟨h1, h2, h3, h4, h5⟩ := names_plain hf
    have hfit := table_fits hf
    have F := fun W => Facts_any n hn W
    rw [hf] at F
    have hsz : f.name.size ≤ maxLen := by
      obtain ⟨i, hi, rfl, ht⟩ := factOf_some hf
      have : ∀ g ∈ table, g.name.size ≤ 100 := by decide +kernel
      have := this f (List.mem_of_getElem? ht)
      unfold maxLen; omega
    have X := fun W => Find_any f.name hsz W
    rw [h1] at X
    obtain ⟨fn, fl, fm, fp, ff⟩ := f
    have hmost : fm = -1 ∨ (fm ≠ -1 ∧ fl ≤ fm) := by
      by_cases h : fm = -1
      · exact Or.inl h
      · exact Or.inr ⟨h, h4.resolve_left h⟩
    cases hg : factOf m with
    | none =>
      have G := fun W => Facts_any m hm W
      rw [hg] at G
      cases ff
      · rcases hmost with hmost | hmost
        · exact names_c00one n m hn hm fn _ fl fm _ _ fp _ _ h3 hmost hfit F G X w
        · exact names_c00other n m hn hm fn _ fl fm _ _ fp _ _ h3 hmost hfit F G X w
      · have hp : fp = true := by simpa using h2
        subst hp
        rcases hmost with hmost | hmost
        · exact names_c10one n m hn hm fn _ fl fm _ _ _ _ h3 hmost hfit F G X w
        · exact names_c10other n m hn hm fn _ fl fm _ _ _ _ h3 hmost hfit F G X w
    | some g =>
      have G := fun W => Facts_any m hm W
      rw [hg] at G
      have h6 := h5 m g hg
      obtain ⟨gn, gl, gm, gp, gf⟩ := g
      by_cases hnm : n = m
      · cases ff
        · rcases hmost with hmost | hmost
          · exact names_c01one n m hn hm fn _ fl fm _ _ fp _ _ h3 hmost hnm hfit F G X w
          · exact names_c01other n m hn hm fn _ fl fm _ _ fp _ _ h3 hmost hnm hfit F G X w
        · have hp : fp = true := by simpa using h2
          subst hp
          rcases hmost with hmost | hmost
          · exact names_c11one n m hn hm fn _ fl fm _ _ _ _ h3 hmost hnm hfit F G X w
          · exact names_c11other n m hn hm fn _ fl fm _ _ _ _ h3 hmost hnm hfit F G X w
      · have hne : fn ≠ gn := h6.resolve_left hnm
        cases ff
        · rcases hmost with hmost | hmost
          · exact names_c02one n m hn hm fn _ fl fm _ _ fp _ _ h3 hmost hnm hne hfit F G X w
          · exact names_c02other n m hn hm fn _ fl fm _ _ fp _ _ h3 hmost hnm hne hfit F G X w
        · have hp : fp = true := by simpa using h2
          subst hp
          rcases hmost with hmost | hmost
          · exact names_c12one n m hn hm fn _ fl fm _ _ _ _ h3 hmost hnm hne hfit F G X w
          · exact names_c12other n m hn hm fn _ fl fm _ _ _ _ h3 hmost hnm hne hfit F G X w
end Go.Proofs.Ytdeelpagoffdjaa.Dat
