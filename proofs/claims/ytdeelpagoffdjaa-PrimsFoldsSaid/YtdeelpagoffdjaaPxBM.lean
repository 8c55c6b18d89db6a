/- The reference's Facts: from 0 to 10. -/
import Derived.Test.YtdeelpagoffdjaaPrFs
import Derived.Test.YtdeelpagoffdjaaPrPs
import Derived.Test.YtdeelpagoffdjaaPxAM
import Derived.Deep.Cut

namespace Go.Proofs.Ytdeelpagoffdjaa.Dat
open Go.RowKit
set_option linter.unusedVariables false

set_option maxHeartbeats 2000000 in
set_option maxRecDepth 100000 in
theorem rfact0 (w : World) : Calls Try.prog 12 #[.int .i64 0] w fun e w' => e = .returned (.tuple #[.agg #[.string ⟨#[43]⟩, .int .i64 0, .int .i64 (-1), .bool true, .bool true], .bool true]) ∧ Below w.heap.size w w' := by
  go_enter Try.func12, Try.ntmps12
  go_upto_region 2 with fail
  obtain ⟨W, hW⟩ : ∃ W, (w.alloc (Obj.cells #[.string ⟨#[]⟩, .int .i64 0, .int .i64 0, .bool false, .bool false] 27)).alloc (Obj.cells namesA 9) = W := ⟨_, rfl⟩
  have hx := two_blocks w _ _ hW
  have hc := (cell_of_block hx.2.1 (j := 0)).trans (show namesA[0]? = some (.string ⟨#[43]⟩) from rfl)
  have HX := Lib.hid hx; clear hx
  change Code.wp _ _ _ _ ((w.alloc (Obj.cells #[.string ⟨#[]⟩, .int .i64 0, .int .i64 0, .bool false, .bool false] 27)).alloc (Obj.cells namesA 9))
  rw [hW]
  clear hW
  go_upto_region 28 with fail
  obtain ⟨W2, hW2⟩ : ∃ W2, W.alloc (Obj.cells #[.string ⟨#[43]⟩, .int .i64 0, .int .i64 (-1), .bool true, .bool true] 27) = W2 := ⟨_, rfl⟩
  have hn := hW2 ▸ at_new W (Obj.cells #[.string ⟨#[43]⟩, .int .i64 0, .int .i64 (-1), .bool true, .bool true] 27)
  have hb : Below W.heap.size W W2 := hW2 ▸ box_below W _
  rw [hW2]
  have hbx := block_on hb HX.out.1
  have HB := Lib.hid (And.intro hbx (below_seq HX.out.2.2 hb))
  obtain ⟨a0, a1, a2, a3, a4⟩ := box_cells hn
  obtain ⟨c0, c1, c2, c3, c4⟩ := box_cells hbx
  have z0 := box_frozen hbx 0
  have z1 := box_frozen hbx 1
  have z2 := box_frozen hbx 2
  have z3 := box_frozen hbx 3
  have z4 := box_frozen hbx 4
  clear hn hb hW2 hbx hc
  go_wp2_with fail
  refine bodyPost_ret (results_row1 rfl _ _ w.heap.size 27 _ (0, 0) _ _ rfl rfl (set_five HB.out.1) Try.underlying27 rfl Try.infoFr) rfl ?_
  exact ⟨rfl, set_five_below HB.out.2 (Nat.le_refl _)⟩
set_option maxHeartbeats 2000000 in
set_option maxRecDepth 100000 in
theorem rfact1 (w : World) : Calls Try.prog 12 #[.int .i64 1] w fun e w' => e = .returned (.tuple #[.agg #[.string ⟨#[45]⟩, .int .i64 1, .int .i64 (-1), .bool true, .bool true], .bool true]) ∧ Below w.heap.size w w' := by
  go_enter Try.func12, Try.ntmps12
  go_upto_region 2 with fail
  obtain ⟨W, hW⟩ : ∃ W, (w.alloc (Obj.cells #[.string ⟨#[]⟩, .int .i64 0, .int .i64 0, .bool false, .bool false] 27)).alloc (Obj.cells namesA 9) = W := ⟨_, rfl⟩
  have hx := two_blocks w _ _ hW
  have hc := (cell_of_block hx.2.1 (j := 1)).trans (show namesA[1]? = some (.string ⟨#[45]⟩) from rfl)
  have HX := Lib.hid hx; clear hx
  change Code.wp _ _ _ _ ((w.alloc (Obj.cells #[.string ⟨#[]⟩, .int .i64 0, .int .i64 0, .bool false, .bool false] 27)).alloc (Obj.cells namesA 9))
  rw [hW]
  clear hW
  go_upto_region 28 with fail
  obtain ⟨W2, hW2⟩ : ∃ W2, W.alloc (Obj.cells #[.string ⟨#[45]⟩, .int .i64 1, .int .i64 (-1), .bool true, .bool true] 27) = W2 := ⟨_, rfl⟩
  have hn := hW2 ▸ at_new W (Obj.cells #[.string ⟨#[45]⟩, .int .i64 1, .int .i64 (-1), .bool true, .bool true] 27)
  have hb : Below W.heap.size W W2 := hW2 ▸ box_below W _
  rw [hW2]
  have hbx := block_on hb HX.out.1
  have HB := Lib.hid (And.intro hbx (below_seq HX.out.2.2 hb))
  obtain ⟨a0, a1, a2, a3, a4⟩ := box_cells hn
  obtain ⟨c0, c1, c2, c3, c4⟩ := box_cells hbx
  have z0 := box_frozen hbx 0
  have z1 := box_frozen hbx 1
  have z2 := box_frozen hbx 2
  have z3 := box_frozen hbx 3
  have z4 := box_frozen hbx 4
  clear hn hb hW2 hbx hc
  go_wp2_with fail
  refine bodyPost_ret (results_row1 rfl _ _ w.heap.size 27 _ (0, 0) _ _ rfl rfl (set_five HB.out.1) Try.underlying27 rfl Try.infoFr) rfl ?_
  exact ⟨rfl, set_five_below HB.out.2 (Nat.le_refl _)⟩
set_option maxHeartbeats 2000000 in
set_option maxRecDepth 100000 in
theorem rfact2 (w : World) : Calls Try.prog 12 #[.int .i64 2] w fun e w' => e = .returned (.tuple #[.agg #[.string ⟨#[42]⟩, .int .i64 0, .int .i64 (-1), .bool true, .bool true], .bool true]) ∧ Below w.heap.size w w' := by
  go_enter Try.func12, Try.ntmps12
  go_upto_region 2 with fail
  obtain ⟨W, hW⟩ : ∃ W, (w.alloc (Obj.cells #[.string ⟨#[]⟩, .int .i64 0, .int .i64 0, .bool false, .bool false] 27)).alloc (Obj.cells namesA 9) = W := ⟨_, rfl⟩
  have hx := two_blocks w _ _ hW
  have hc := (cell_of_block hx.2.1 (j := 2)).trans (show namesA[2]? = some (.string ⟨#[42]⟩) from rfl)
  have HX := Lib.hid hx; clear hx
  change Code.wp _ _ _ _ ((w.alloc (Obj.cells #[.string ⟨#[]⟩, .int .i64 0, .int .i64 0, .bool false, .bool false] 27)).alloc (Obj.cells namesA 9))
  rw [hW]
  clear hW
  go_upto_region 28 with fail
  obtain ⟨W2, hW2⟩ : ∃ W2, W.alloc (Obj.cells #[.string ⟨#[42]⟩, .int .i64 0, .int .i64 (-1), .bool true, .bool true] 27) = W2 := ⟨_, rfl⟩
  have hn := hW2 ▸ at_new W (Obj.cells #[.string ⟨#[42]⟩, .int .i64 0, .int .i64 (-1), .bool true, .bool true] 27)
  have hb : Below W.heap.size W W2 := hW2 ▸ box_below W _
  rw [hW2]
  have hbx := block_on hb HX.out.1
  have HB := Lib.hid (And.intro hbx (below_seq HX.out.2.2 hb))
  obtain ⟨a0, a1, a2, a3, a4⟩ := box_cells hn
  obtain ⟨c0, c1, c2, c3, c4⟩ := box_cells hbx
  have z0 := box_frozen hbx 0
  have z1 := box_frozen hbx 1
  have z2 := box_frozen hbx 2
  have z3 := box_frozen hbx 3
  have z4 := box_frozen hbx 4
  clear hn hb hW2 hbx hc
  go_wp2_with fail
  refine bodyPost_ret (results_row1 rfl _ _ w.heap.size 27 _ (0, 0) _ _ rfl rfl (set_five HB.out.1) Try.underlying27 rfl Try.infoFr) rfl ?_
  exact ⟨rfl, set_five_below HB.out.2 (Nat.le_refl _)⟩
set_option maxHeartbeats 2000000 in
set_option maxRecDepth 100000 in
theorem rfact3 (w : World) : Calls Try.prog 12 #[.int .i64 3] w fun e w' => e = .returned (.tuple #[.agg #[.string ⟨#[47]⟩, .int .i64 1, .int .i64 (-1), .bool true, .bool true], .bool true]) ∧ Below w.heap.size w w' := by
  go_enter Try.func12, Try.ntmps12
  go_upto_region 2 with fail
  obtain ⟨W, hW⟩ : ∃ W, (w.alloc (Obj.cells #[.string ⟨#[]⟩, .int .i64 0, .int .i64 0, .bool false, .bool false] 27)).alloc (Obj.cells namesA 9) = W := ⟨_, rfl⟩
  have hx := two_blocks w _ _ hW
  have hc := (cell_of_block hx.2.1 (j := 3)).trans (show namesA[3]? = some (.string ⟨#[47]⟩) from rfl)
  have HX := Lib.hid hx; clear hx
  change Code.wp _ _ _ _ ((w.alloc (Obj.cells #[.string ⟨#[]⟩, .int .i64 0, .int .i64 0, .bool false, .bool false] 27)).alloc (Obj.cells namesA 9))
  rw [hW]
  clear hW
  go_upto_region 28 with fail
  obtain ⟨W2, hW2⟩ : ∃ W2, W.alloc (Obj.cells #[.string ⟨#[47]⟩, .int .i64 1, .int .i64 (-1), .bool true, .bool true] 27) = W2 := ⟨_, rfl⟩
  have hn := hW2 ▸ at_new W (Obj.cells #[.string ⟨#[47]⟩, .int .i64 1, .int .i64 (-1), .bool true, .bool true] 27)
  have hb : Below W.heap.size W W2 := hW2 ▸ box_below W _
  rw [hW2]
  have hbx := block_on hb HX.out.1
  have HB := Lib.hid (And.intro hbx (below_seq HX.out.2.2 hb))
  obtain ⟨a0, a1, a2, a3, a4⟩ := box_cells hn
  obtain ⟨c0, c1, c2, c3, c4⟩ := box_cells hbx
  have z0 := box_frozen hbx 0
  have z1 := box_frozen hbx 1
  have z2 := box_frozen hbx 2
  have z3 := box_frozen hbx 3
  have z4 := box_frozen hbx 4
  clear hn hb hW2 hbx hc
  go_wp2_with fail
  refine bodyPost_ret (results_row1 rfl _ _ w.heap.size 27 _ (0, 0) _ _ rfl rfl (set_five HB.out.1) Try.underlying27 rfl Try.infoFr) rfl ?_
  exact ⟨rfl, set_five_below HB.out.2 (Nat.le_refl _)⟩
set_option maxHeartbeats 2000000 in
set_option maxRecDepth 100000 in
theorem rfact4 (w : World) : Calls Try.prog 12 #[.int .i64 4] w fun e w' => e = .returned (.tuple #[.agg #[.string ⟨#[61]⟩, .int .i64 2, .int .i64 2, .bool true, .bool true], .bool true]) ∧ Below w.heap.size w w' := by
  go_enter Try.func12, Try.ntmps12
  go_upto_region 2 with fail
  obtain ⟨W, hW⟩ : ∃ W, (w.alloc (Obj.cells #[.string ⟨#[]⟩, .int .i64 0, .int .i64 0, .bool false, .bool false] 27)).alloc (Obj.cells namesA 9) = W := ⟨_, rfl⟩
  have hx := two_blocks w _ _ hW
  have hc := (cell_of_block hx.2.1 (j := 4)).trans (show namesA[4]? = some (.string ⟨#[61]⟩) from rfl)
  have HX := Lib.hid hx; clear hx
  change Code.wp _ _ _ _ ((w.alloc (Obj.cells #[.string ⟨#[]⟩, .int .i64 0, .int .i64 0, .bool false, .bool false] 27)).alloc (Obj.cells namesA 9))
  rw [hW]
  clear hW
  go_upto_region 28 with fail
  obtain ⟨W2, hW2⟩ : ∃ W2, W.alloc (Obj.cells #[.string ⟨#[61]⟩, .int .i64 2, .int .i64 2, .bool true, .bool true] 27) = W2 := ⟨_, rfl⟩
  have hn := hW2 ▸ at_new W (Obj.cells #[.string ⟨#[61]⟩, .int .i64 2, .int .i64 2, .bool true, .bool true] 27)
  have hb : Below W.heap.size W W2 := hW2 ▸ box_below W _
  rw [hW2]
  have hbx := block_on hb HX.out.1
  have HB := Lib.hid (And.intro hbx (below_seq HX.out.2.2 hb))
  obtain ⟨a0, a1, a2, a3, a4⟩ := box_cells hn
  obtain ⟨c0, c1, c2, c3, c4⟩ := box_cells hbx
  have z0 := box_frozen hbx 0
  have z1 := box_frozen hbx 1
  have z2 := box_frozen hbx 2
  have z3 := box_frozen hbx 3
  have z4 := box_frozen hbx 4
  clear hn hb hW2 hbx hc
  go_wp2_with fail
  refine bodyPost_ret (results_row1 rfl _ _ w.heap.size 27 _ (0, 0) _ _ rfl rfl (set_five HB.out.1) Try.underlying27 rfl Try.infoFr) rfl ?_
  exact ⟨rfl, set_five_below HB.out.2 (Nat.le_refl _)⟩
set_option maxHeartbeats 2000000 in
set_option maxRecDepth 100000 in
theorem rfact5 (w : World) : Calls Try.prog 12 #[.int .i64 5] w fun e w' => e = .returned (.tuple #[.agg #[.string ⟨#[60]⟩, .int .i64 2, .int .i64 2, .bool true, .bool true], .bool true]) ∧ Below w.heap.size w w' := by
  go_enter Try.func12, Try.ntmps12
  go_upto_region 2 with fail
  obtain ⟨W, hW⟩ : ∃ W, (w.alloc (Obj.cells #[.string ⟨#[]⟩, .int .i64 0, .int .i64 0, .bool false, .bool false] 27)).alloc (Obj.cells namesA 9) = W := ⟨_, rfl⟩
  have hx := two_blocks w _ _ hW
  have hc := (cell_of_block hx.2.1 (j := 5)).trans (show namesA[5]? = some (.string ⟨#[60]⟩) from rfl)
  have HX := Lib.hid hx; clear hx
  change Code.wp _ _ _ _ ((w.alloc (Obj.cells #[.string ⟨#[]⟩, .int .i64 0, .int .i64 0, .bool false, .bool false] 27)).alloc (Obj.cells namesA 9))
  rw [hW]
  clear hW
  go_upto_region 28 with fail
  obtain ⟨W2, hW2⟩ : ∃ W2, W.alloc (Obj.cells #[.string ⟨#[60]⟩, .int .i64 2, .int .i64 2, .bool true, .bool true] 27) = W2 := ⟨_, rfl⟩
  have hn := hW2 ▸ at_new W (Obj.cells #[.string ⟨#[60]⟩, .int .i64 2, .int .i64 2, .bool true, .bool true] 27)
  have hb : Below W.heap.size W W2 := hW2 ▸ box_below W _
  rw [hW2]
  have hbx := block_on hb HX.out.1
  have HB := Lib.hid (And.intro hbx (below_seq HX.out.2.2 hb))
  obtain ⟨a0, a1, a2, a3, a4⟩ := box_cells hn
  obtain ⟨c0, c1, c2, c3, c4⟩ := box_cells hbx
  have z0 := box_frozen hbx 0
  have z1 := box_frozen hbx 1
  have z2 := box_frozen hbx 2
  have z3 := box_frozen hbx 3
  have z4 := box_frozen hbx 4
  clear hn hb hW2 hbx hc
  go_wp2_with fail
  refine bodyPost_ret (results_row1 rfl _ _ w.heap.size 27 _ (0, 0) _ _ rfl rfl (set_five HB.out.1) Try.underlying27 rfl Try.infoFr) rfl ?_
  exact ⟨rfl, set_five_below HB.out.2 (Nat.le_refl _)⟩
set_option maxHeartbeats 2000000 in
set_option maxRecDepth 100000 in
theorem rfact6 (w : World) : Calls Try.prog 12 #[.int .i64 6] w fun e w' => e = .returned (.tuple #[.agg #[.string ⟨#[101, 113, 63]⟩, .int .i64 2, .int .i64 2, .bool true, .bool true], .bool true]) ∧ Below w.heap.size w w' := by
  go_enter Try.func12, Try.ntmps12
  go_upto_region 2 with fail
  obtain ⟨W, hW⟩ : ∃ W, (w.alloc (Obj.cells #[.string ⟨#[]⟩, .int .i64 0, .int .i64 0, .bool false, .bool false] 27)).alloc (Obj.cells namesA 9) = W := ⟨_, rfl⟩
  have hx := two_blocks w _ _ hW
  have hc := (cell_of_block hx.2.1 (j := 6)).trans (show namesA[6]? = some (.string ⟨#[101, 113, 63]⟩) from rfl)
  have HX := Lib.hid hx; clear hx
  change Code.wp _ _ _ _ ((w.alloc (Obj.cells #[.string ⟨#[]⟩, .int .i64 0, .int .i64 0, .bool false, .bool false] 27)).alloc (Obj.cells namesA 9))
  rw [hW]
  clear hW
  go_upto_region 28 with fail
  obtain ⟨W2, hW2⟩ : ∃ W2, W.alloc (Obj.cells #[.string ⟨#[101, 113, 63]⟩, .int .i64 2, .int .i64 2, .bool true, .bool true] 27) = W2 := ⟨_, rfl⟩
  have hn := hW2 ▸ at_new W (Obj.cells #[.string ⟨#[101, 113, 63]⟩, .int .i64 2, .int .i64 2, .bool true, .bool true] 27)
  have hb : Below W.heap.size W W2 := hW2 ▸ box_below W _
  rw [hW2]
  have hbx := block_on hb HX.out.1
  have HB := Lib.hid (And.intro hbx (below_seq HX.out.2.2 hb))
  obtain ⟨a0, a1, a2, a3, a4⟩ := box_cells hn
  obtain ⟨c0, c1, c2, c3, c4⟩ := box_cells hbx
  have z0 := box_frozen hbx 0
  have z1 := box_frozen hbx 1
  have z2 := box_frozen hbx 2
  have z3 := box_frozen hbx 3
  have z4 := box_frozen hbx 4
  clear hn hb hW2 hbx hc
  go_wp2_with fail
  refine bodyPost_ret (results_row1 rfl _ _ w.heap.size 27 _ (0, 0) _ _ rfl rfl (set_five HB.out.1) Try.underlying27 rfl Try.infoFr) rfl ?_
  exact ⟨rfl, set_five_below HB.out.2 (Nat.le_refl _)⟩
set_option maxHeartbeats 2000000 in
set_option maxRecDepth 100000 in
theorem rfact7 (w : World) : Calls Try.prog 12 #[.int .i64 7] w fun e w' => e = .returned (.tuple #[.agg #[.string ⟨#[101, 113, 117, 97, 108, 63]⟩, .int .i64 2, .int .i64 2, .bool true, .bool true], .bool true]) ∧ Below w.heap.size w w' := by
  go_enter Try.func12, Try.ntmps12
  go_upto_region 2 with fail
  obtain ⟨W, hW⟩ : ∃ W, (w.alloc (Obj.cells #[.string ⟨#[]⟩, .int .i64 0, .int .i64 0, .bool false, .bool false] 27)).alloc (Obj.cells namesA 9) = W := ⟨_, rfl⟩
  have hx := two_blocks w _ _ hW
  have hc := (cell_of_block hx.2.1 (j := 7)).trans (show namesA[7]? = some (.string ⟨#[101, 113, 117, 97, 108, 63]⟩) from rfl)
  have HX := Lib.hid hx; clear hx
  change Code.wp _ _ _ _ ((w.alloc (Obj.cells #[.string ⟨#[]⟩, .int .i64 0, .int .i64 0, .bool false, .bool false] 27)).alloc (Obj.cells namesA 9))
  rw [hW]
  clear hW
  go_upto_region 28 with fail
  obtain ⟨W2, hW2⟩ : ∃ W2, W.alloc (Obj.cells #[.string ⟨#[101, 113, 117, 97, 108, 63]⟩, .int .i64 2, .int .i64 2, .bool true, .bool true] 27) = W2 := ⟨_, rfl⟩
  have hn := hW2 ▸ at_new W (Obj.cells #[.string ⟨#[101, 113, 117, 97, 108, 63]⟩, .int .i64 2, .int .i64 2, .bool true, .bool true] 27)
  have hb : Below W.heap.size W W2 := hW2 ▸ box_below W _
  rw [hW2]
  have hbx := block_on hb HX.out.1
  have HB := Lib.hid (And.intro hbx (below_seq HX.out.2.2 hb))
  obtain ⟨a0, a1, a2, a3, a4⟩ := box_cells hn
  obtain ⟨c0, c1, c2, c3, c4⟩ := box_cells hbx
  have z0 := box_frozen hbx 0
  have z1 := box_frozen hbx 1
  have z2 := box_frozen hbx 2
  have z3 := box_frozen hbx 3
  have z4 := box_frozen hbx 4
  clear hn hb hW2 hbx hc
  go_wp2_with fail
  refine bodyPost_ret (results_row1 rfl _ _ w.heap.size 27 _ (0, 0) _ _ rfl rfl (set_five HB.out.1) Try.underlying27 rfl Try.infoFr) rfl ?_
  exact ⟨rfl, set_five_below HB.out.2 (Nat.le_refl _)⟩
set_option maxHeartbeats 2000000 in
set_option maxRecDepth 100000 in
theorem rfact8 (w : World) : Calls Try.prog 12 #[.int .i64 8] w fun e w' => e = .returned (.tuple #[.agg #[.string ⟨#[110, 111, 116]⟩, .int .i64 1, .int .i64 1, .bool true, .bool true], .bool true]) ∧ Below w.heap.size w w' := by
  go_enter Try.func12, Try.ntmps12
  go_upto_region 2 with fail
  obtain ⟨W, hW⟩ : ∃ W, (w.alloc (Obj.cells #[.string ⟨#[]⟩, .int .i64 0, .int .i64 0, .bool false, .bool false] 27)).alloc (Obj.cells namesA 9) = W := ⟨_, rfl⟩
  have hx := two_blocks w _ _ hW
  have hc := (cell_of_block hx.2.1 (j := 8)).trans (show namesA[8]? = some (.string ⟨#[110, 111, 116]⟩) from rfl)
  have HX := Lib.hid hx; clear hx
  change Code.wp _ _ _ _ ((w.alloc (Obj.cells #[.string ⟨#[]⟩, .int .i64 0, .int .i64 0, .bool false, .bool false] 27)).alloc (Obj.cells namesA 9))
  rw [hW]
  clear hW
  go_upto_region 28 with fail
  obtain ⟨W2, hW2⟩ : ∃ W2, W.alloc (Obj.cells #[.string ⟨#[110, 111, 116]⟩, .int .i64 1, .int .i64 1, .bool true, .bool true] 27) = W2 := ⟨_, rfl⟩
  have hn := hW2 ▸ at_new W (Obj.cells #[.string ⟨#[110, 111, 116]⟩, .int .i64 1, .int .i64 1, .bool true, .bool true] 27)
  have hb : Below W.heap.size W W2 := hW2 ▸ box_below W _
  rw [hW2]
  have hbx := block_on hb HX.out.1
  have HB := Lib.hid (And.intro hbx (below_seq HX.out.2.2 hb))
  obtain ⟨a0, a1, a2, a3, a4⟩ := box_cells hn
  obtain ⟨c0, c1, c2, c3, c4⟩ := box_cells hbx
  have z0 := box_frozen hbx 0
  have z1 := box_frozen hbx 1
  have z2 := box_frozen hbx 2
  have z3 := box_frozen hbx 3
  have z4 := box_frozen hbx 4
  clear hn hb hW2 hbx hc
  go_wp2_with fail
  refine bodyPost_ret (results_row1 rfl _ _ w.heap.size 27 _ (0, 0) _ _ rfl rfl (set_five HB.out.1) Try.underlying27 rfl Try.infoFr) rfl ?_
  exact ⟨rfl, set_five_below HB.out.2 (Nat.le_refl _)⟩
set_option maxHeartbeats 2000000 in
set_option maxRecDepth 100000 in
theorem rfact9 (w : World) : Calls Try.prog 12 #[.int .i64 9] w fun e w' => e = .returned (.tuple #[.agg #[.string ⟨#[110, 117, 108, 108, 63]⟩, .int .i64 1, .int .i64 1, .bool true, .bool true], .bool true]) ∧ Below w.heap.size w w' := by
  go_enter Try.func12, Try.ntmps12
  go_upto_region 2 with fail
  obtain ⟨W, hW⟩ : ∃ W, (w.alloc (Obj.cells #[.string ⟨#[]⟩, .int .i64 0, .int .i64 0, .bool false, .bool false] 27)).alloc (Obj.cells namesA 9) = W := ⟨_, rfl⟩
  have hx := two_blocks w _ _ hW
  have hc := (cell_of_block hx.2.1 (j := 9)).trans (show namesA[9]? = some (.string ⟨#[110, 117, 108, 108, 63]⟩) from rfl)
  have HX := Lib.hid hx; clear hx
  change Code.wp _ _ _ _ ((w.alloc (Obj.cells #[.string ⟨#[]⟩, .int .i64 0, .int .i64 0, .bool false, .bool false] 27)).alloc (Obj.cells namesA 9))
  rw [hW]
  clear hW
  go_upto_region 28 with fail
  obtain ⟨W2, hW2⟩ : ∃ W2, W.alloc (Obj.cells #[.string ⟨#[110, 117, 108, 108, 63]⟩, .int .i64 1, .int .i64 1, .bool true, .bool true] 27) = W2 := ⟨_, rfl⟩
  have hn := hW2 ▸ at_new W (Obj.cells #[.string ⟨#[110, 117, 108, 108, 63]⟩, .int .i64 1, .int .i64 1, .bool true, .bool true] 27)
  have hb : Below W.heap.size W W2 := hW2 ▸ box_below W _
  rw [hW2]
  have hbx := block_on hb HX.out.1
  have HB := Lib.hid (And.intro hbx (below_seq HX.out.2.2 hb))
  obtain ⟨a0, a1, a2, a3, a4⟩ := box_cells hn
  obtain ⟨c0, c1, c2, c3, c4⟩ := box_cells hbx
  have z0 := box_frozen hbx 0
  have z1 := box_frozen hbx 1
  have z2 := box_frozen hbx 2
  have z3 := box_frozen hbx 3
  have z4 := box_frozen hbx 4
  clear hn hb hW2 hbx hc
  go_wp2_with fail
  refine bodyPost_ret (results_row1 rfl _ _ w.heap.size 27 _ (0, 0) _ _ rfl rfl (set_five HB.out.1) Try.underlying27 rfl Try.infoFr) rfl ?_
  exact ⟨rfl, set_five_below HB.out.2 (Nat.le_refl _)⟩
set_option maxHeartbeats 2000000 in
set_option maxRecDepth 100000 in
theorem rfact10 (w : World) : Calls Try.prog 12 #[.int .i64 10] w fun e w' => e = .returned (.tuple #[.agg #[.string ⟨#[112, 97, 105, 114, 63]⟩, .int .i64 1, .int .i64 1, .bool true, .bool true], .bool true]) ∧ Below w.heap.size w w' := by
  go_enter Try.func12, Try.ntmps12
  go_upto_region 2 with fail
  obtain ⟨W, hW⟩ : ∃ W, (w.alloc (Obj.cells #[.string ⟨#[]⟩, .int .i64 0, .int .i64 0, .bool false, .bool false] 27)).alloc (Obj.cells namesA 9) = W := ⟨_, rfl⟩
  have hx := two_blocks w _ _ hW
  have hc := (cell_of_block hx.2.1 (j := 10)).trans (show namesA[10]? = some (.string ⟨#[112, 97, 105, 114, 63]⟩) from rfl)
  have HX := Lib.hid hx; clear hx
  change Code.wp _ _ _ _ ((w.alloc (Obj.cells #[.string ⟨#[]⟩, .int .i64 0, .int .i64 0, .bool false, .bool false] 27)).alloc (Obj.cells namesA 9))
  rw [hW]
  clear hW
  go_upto_region 28 with fail
  obtain ⟨W2, hW2⟩ : ∃ W2, W.alloc (Obj.cells #[.string ⟨#[112, 97, 105, 114, 63]⟩, .int .i64 1, .int .i64 1, .bool true, .bool true] 27) = W2 := ⟨_, rfl⟩
  have hn := hW2 ▸ at_new W (Obj.cells #[.string ⟨#[112, 97, 105, 114, 63]⟩, .int .i64 1, .int .i64 1, .bool true, .bool true] 27)
  have hb : Below W.heap.size W W2 := hW2 ▸ box_below W _
  rw [hW2]
  have hbx := block_on hb HX.out.1
  have HB := Lib.hid (And.intro hbx (below_seq HX.out.2.2 hb))
  obtain ⟨a0, a1, a2, a3, a4⟩ := box_cells hn
  obtain ⟨c0, c1, c2, c3, c4⟩ := box_cells hbx
  have z0 := box_frozen hbx 0
  have z1 := box_frozen hbx 1
  have z2 := box_frozen hbx 2
  have z3 := box_frozen hbx 3
  have z4 := box_frozen hbx 4
  clear hn hb hW2 hbx hc
  go_wp2_with fail
  refine bodyPost_ret (results_row1 rfl _ _ w.heap.size 27 _ (0, 0) _ _ rfl rfl (set_five HB.out.1) Try.underlying27 rfl Try.infoFr) rfl ?_
  exact ⟨rfl, set_five_below HB.out.2 (Nat.le_refl _)⟩
end Go.Proofs.Ytdeelpagoffdjaa.Dat
