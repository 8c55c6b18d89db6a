/- The reference's Facts: from 11 to 20. -/
import Derived.Test.YtdeelpagoffdjaaPrFs
import Derived.Test.YtdeelpagoffdjaaPrPs
import Derived.Test.YtdeelpagoffdjaaPxAM
import Derived.Deep.Cut

namespace Go.Proofs.Ytdeelpagoffdjaa.Dat
open Go.RowKit
set_option linter.unusedVariables false

set_option maxHeartbeats 2000000 in
set_option maxRecDepth 100000 in
theorem rfact11 (w : World) : Calls Try.prog 12 #[.int .i64 11] w fun e w' => e = .returned (.tuple #[.agg #[.string ⟨#[110, 117, 109, 98, 101, 114, 63]⟩, .int .i64 1, .int .i64 1, .bool true, .bool true], .bool true]) ∧ Below w.heap.size w w' := by
  go_enter Try.func12, Try.ntmps12
  go_upto_region 2 with fail
  obtain ⟨W, hW⟩ : ∃ W, (w.alloc (Obj.cells #[.string ⟨#[]⟩, .int .i64 0, .int .i64 0, .bool false, .bool false] 27)).alloc (Obj.cells namesA 9) = W := ⟨_, rfl⟩
  have hx := two_blocks w _ _ hW
  have hc := (cell_of_block hx.2.1 (j := 11)).trans (show namesA[11]? = some (.string ⟨#[110, 117, 109, 98, 101, 114, 63]⟩) from rfl)
  have HX := Lib.hid hx; clear hx
  change Code.wp _ _ _ _ ((w.alloc (Obj.cells #[.string ⟨#[]⟩, .int .i64 0, .int .i64 0, .bool false, .bool false] 27)).alloc (Obj.cells namesA 9))
  rw [hW]
  clear hW
  go_upto_region 28 with fail
  obtain ⟨W2, hW2⟩ : ∃ W2, W.alloc (Obj.cells #[.string ⟨#[110, 117, 109, 98, 101, 114, 63]⟩, .int .i64 1, .int .i64 1, .bool true, .bool true] 27) = W2 := ⟨_, rfl⟩
  have hn := hW2 ▸ at_new W (Obj.cells #[.string ⟨#[110, 117, 109, 98, 101, 114, 63]⟩, .int .i64 1, .int .i64 1, .bool true, .bool true] 27)
  have hb : Below W.heap.size W W2 := hW2 ▸ box_below W _
  rw [hW2]
  have hbx := block_on hb HX.out.1
  have HB := Lib.hid (And.intro hbx (below_seq HX.out.2.2 hb))
  obtain ⟨a0, a1, a2, a3, a4⟩ := box_cells hn
  obtain ⟨c0, c1, c2, c3, c4⟩ := box_cells hbx
  have z0 := box_frozen hbx 0
  have z1 := box_frozen hbx 1
  have z2 := box_frozen hbx 2
  have z3 := box_frozen hbx 3
  have z4 := box_frozen hbx 4
  clear hn hb hW2 hbx hc
  go_wp2_with fail
  refine bodyPost_ret (results_row1 rfl _ _ w.heap.size 27 _ (0, 0) _ _ rfl rfl (set_five HB.out.1) Try.underlying27 rfl Try.infoFr) rfl ?_
  exact ⟨rfl, set_five_below HB.out.2 (Nat.le_refl _)⟩
set_option maxHeartbeats 2000000 in
set_option maxRecDepth 100000 in
theorem rfact12 (w : World) : Calls Try.prog 12 #[.int .i64 12] w fun e w' => e = .returned (.tuple #[.agg #[.string ⟨#[115, 121, 109, 98, 111, 108, 63]⟩, .int .i64 1, .int .i64 1, .bool true, .bool true], .bool true]) ∧ Below w.heap.size w w' := by
  go_enter Try.func12, Try.ntmps12
  go_upto_region 2 with fail
  obtain ⟨W, hW⟩ : ∃ W, (w.alloc (Obj.cells #[.string ⟨#[]⟩, .int .i64 0, .int .i64 0, .bool false, .bool false] 27)).alloc (Obj.cells namesA 9) = W := ⟨_, rfl⟩
  have hx := two_blocks w _ _ hW
  have hc := (cell_of_block hx.2.1 (j := 12)).trans (show namesA[12]? = some (.string ⟨#[115, 121, 109, 98, 111, 108, 63]⟩) from rfl)
  have HX := Lib.hid hx; clear hx
  change Code.wp _ _ _ _ ((w.alloc (Obj.cells #[.string ⟨#[]⟩, .int .i64 0, .int .i64 0, .bool false, .bool false] 27)).alloc (Obj.cells namesA 9))
  rw [hW]
  clear hW
  go_upto_region 28 with fail
  obtain ⟨W2, hW2⟩ : ∃ W2, W.alloc (Obj.cells #[.string ⟨#[115, 121, 109, 98, 111, 108, 63]⟩, .int .i64 1, .int .i64 1, .bool true, .bool true] 27) = W2 := ⟨_, rfl⟩
  have hn := hW2 ▸ at_new W (Obj.cells #[.string ⟨#[115, 121, 109, 98, 111, 108, 63]⟩, .int .i64 1, .int .i64 1, .bool true, .bool true] 27)
  have hb : Below W.heap.size W W2 := hW2 ▸ box_below W _
  rw [hW2]
  have hbx := block_on hb HX.out.1
  have HB := Lib.hid (And.intro hbx (below_seq HX.out.2.2 hb))
  obtain ⟨a0, a1, a2, a3, a4⟩ := box_cells hn
  obtain ⟨c0, c1, c2, c3, c4⟩ := box_cells hbx
  have z0 := box_frozen hbx 0
  have z1 := box_frozen hbx 1
  have z2 := box_frozen hbx 2
  have z3 := box_frozen hbx 3
  have z4 := box_frozen hbx 4
  clear hn hb hW2 hbx hc
  go_wp2_with fail
  refine bodyPost_ret (results_row1 rfl _ _ w.heap.size 27 _ (0, 0) _ _ rfl rfl (set_five HB.out.1) Try.underlying27 rfl Try.infoFr) rfl ?_
  exact ⟨rfl, set_five_below HB.out.2 (Nat.le_refl _)⟩
set_option maxHeartbeats 2000000 in
set_option maxRecDepth 100000 in
theorem rfact13 (w : World) : Calls Try.prog 12 #[.int .i64 13] w fun e w' => e = .returned (.tuple #[.agg #[.string ⟨#[98, 111, 111, 108, 101, 97, 110, 63]⟩, .int .i64 1, .int .i64 1, .bool true, .bool true], .bool true]) ∧ Below w.heap.size w w' := by
  go_enter Try.func12, Try.ntmps12
  go_upto_region 2 with fail
  obtain ⟨W, hW⟩ : ∃ W, (w.alloc (Obj.cells #[.string ⟨#[]⟩, .int .i64 0, .int .i64 0, .bool false, .bool false] 27)).alloc (Obj.cells namesA 9) = W := ⟨_, rfl⟩
  have hx := two_blocks w _ _ hW
  have hc := (cell_of_block hx.2.1 (j := 13)).trans (show namesA[13]? = some (.string ⟨#[98, 111, 111, 108, 101, 97, 110, 63]⟩) from rfl)
  have HX := Lib.hid hx; clear hx
  change Code.wp _ _ _ _ ((w.alloc (Obj.cells #[.string ⟨#[]⟩, .int .i64 0, .int .i64 0, .bool false, .bool false] 27)).alloc (Obj.cells namesA 9))
  rw [hW]
  clear hW
  go_upto_region 28 with fail
  obtain ⟨W2, hW2⟩ : ∃ W2, W.alloc (Obj.cells #[.string ⟨#[98, 111, 111, 108, 101, 97, 110, 63]⟩, .int .i64 1, .int .i64 1, .bool true, .bool true] 27) = W2 := ⟨_, rfl⟩
  have hn := hW2 ▸ at_new W (Obj.cells #[.string ⟨#[98, 111, 111, 108, 101, 97, 110, 63]⟩, .int .i64 1, .int .i64 1, .bool true, .bool true] 27)
  have hb : Below W.heap.size W W2 := hW2 ▸ box_below W _
  rw [hW2]
  have hbx := block_on hb HX.out.1
  have HB := Lib.hid (And.intro hbx (below_seq HX.out.2.2 hb))
  obtain ⟨a0, a1, a2, a3, a4⟩ := box_cells hn
  obtain ⟨c0, c1, c2, c3, c4⟩ := box_cells hbx
  have z0 := box_frozen hbx 0
  have z1 := box_frozen hbx 1
  have z2 := box_frozen hbx 2
  have z3 := box_frozen hbx 3
  have z4 := box_frozen hbx 4
  clear hn hb hW2 hbx hc
  go_wp2_with fail
  refine bodyPost_ret (results_row1 rfl _ _ w.heap.size 27 _ (0, 0) _ _ rfl rfl (set_five HB.out.1) Try.underlying27 rfl Try.infoFr) rfl ?_
  exact ⟨rfl, set_five_below HB.out.2 (Nat.le_refl _)⟩
set_option maxHeartbeats 2000000 in
set_option maxRecDepth 100000 in
theorem rfact14 (w : World) : Calls Try.prog 12 #[.int .i64 14] w fun e w' => e = .returned (.tuple #[.agg #[.string ⟨#[115, 116, 114, 105, 110, 103, 63]⟩, .int .i64 1, .int .i64 1, .bool true, .bool true], .bool true]) ∧ Below w.heap.size w w' := by
  go_enter Try.func12, Try.ntmps12
  go_upto_region 2 with fail
  obtain ⟨W, hW⟩ : ∃ W, (w.alloc (Obj.cells #[.string ⟨#[]⟩, .int .i64 0, .int .i64 0, .bool false, .bool false] 27)).alloc (Obj.cells namesA 9) = W := ⟨_, rfl⟩
  have hx := two_blocks w _ _ hW
  have hc := (cell_of_block hx.2.1 (j := 14)).trans (show namesA[14]? = some (.string ⟨#[115, 116, 114, 105, 110, 103, 63]⟩) from rfl)
  have HX := Lib.hid hx; clear hx
  change Code.wp _ _ _ _ ((w.alloc (Obj.cells #[.string ⟨#[]⟩, .int .i64 0, .int .i64 0, .bool false, .bool false] 27)).alloc (Obj.cells namesA 9))
  rw [hW]
  clear hW
  go_upto_region 28 with fail
  obtain ⟨W2, hW2⟩ : ∃ W2, W.alloc (Obj.cells #[.string ⟨#[115, 116, 114, 105, 110, 103, 63]⟩, .int .i64 1, .int .i64 1, .bool true, .bool true] 27) = W2 := ⟨_, rfl⟩
  have hn := hW2 ▸ at_new W (Obj.cells #[.string ⟨#[115, 116, 114, 105, 110, 103, 63]⟩, .int .i64 1, .int .i64 1, .bool true, .bool true] 27)
  have hb : Below W.heap.size W W2 := hW2 ▸ box_below W _
  rw [hW2]
  have hbx := block_on hb HX.out.1
  have HB := Lib.hid (And.intro hbx (below_seq HX.out.2.2 hb))
  obtain ⟨a0, a1, a2, a3, a4⟩ := box_cells hn
  obtain ⟨c0, c1, c2, c3, c4⟩ := box_cells hbx
  have z0 := box_frozen hbx 0
  have z1 := box_frozen hbx 1
  have z2 := box_frozen hbx 2
  have z3 := box_frozen hbx 3
  have z4 := box_frozen hbx 4
  clear hn hb hW2 hbx hc
  go_wp2_with fail
  refine bodyPost_ret (results_row1 rfl _ _ w.heap.size 27 _ (0, 0) _ _ rfl rfl (set_five HB.out.1) Try.underlying27 rfl Try.infoFr) rfl ?_
  exact ⟨rfl, set_five_below HB.out.2 (Nat.le_refl _)⟩
set_option maxHeartbeats 2000000 in
set_option maxRecDepth 100000 in
theorem rfact15 (w : World) : Calls Try.prog 12 #[.int .i64 15] w fun e w' => e = .returned (.tuple #[.agg #[.string ⟨#[118, 101, 99, 116, 111, 114, 63]⟩, .int .i64 1, .int .i64 1, .bool true, .bool true], .bool true]) ∧ Below w.heap.size w w' := by
  go_enter Try.func12, Try.ntmps12
  go_upto_region 2 with fail
  obtain ⟨W, hW⟩ : ∃ W, (w.alloc (Obj.cells #[.string ⟨#[]⟩, .int .i64 0, .int .i64 0, .bool false, .bool false] 27)).alloc (Obj.cells namesA 9) = W := ⟨_, rfl⟩
  have hx := two_blocks w _ _ hW
  have hc := (cell_of_block hx.2.1 (j := 15)).trans (show namesA[15]? = some (.string ⟨#[118, 101, 99, 116, 111, 114, 63]⟩) from rfl)
  have HX := Lib.hid hx; clear hx
  change Code.wp _ _ _ _ ((w.alloc (Obj.cells #[.string ⟨#[]⟩, .int .i64 0, .int .i64 0, .bool false, .bool false] 27)).alloc (Obj.cells namesA 9))
  rw [hW]
  clear hW
  go_upto_region 28 with fail
  obtain ⟨W2, hW2⟩ : ∃ W2, W.alloc (Obj.cells #[.string ⟨#[118, 101, 99, 116, 111, 114, 63]⟩, .int .i64 1, .int .i64 1, .bool true, .bool true] 27) = W2 := ⟨_, rfl⟩
  have hn := hW2 ▸ at_new W (Obj.cells #[.string ⟨#[118, 101, 99, 116, 111, 114, 63]⟩, .int .i64 1, .int .i64 1, .bool true, .bool true] 27)
  have hb : Below W.heap.size W W2 := hW2 ▸ box_below W _
  rw [hW2]
  have hbx := block_on hb HX.out.1
  have HB := Lib.hid (And.intro hbx (below_seq HX.out.2.2 hb))
  obtain ⟨a0, a1, a2, a3, a4⟩ := box_cells hn
  obtain ⟨c0, c1, c2, c3, c4⟩ := box_cells hbx
  have z0 := box_frozen hbx 0
  have z1 := box_frozen hbx 1
  have z2 := box_frozen hbx 2
  have z3 := box_frozen hbx 3
  have z4 := box_frozen hbx 4
  clear hn hb hW2 hbx hc
  go_wp2_with fail
  refine bodyPost_ret (results_row1 rfl _ _ w.heap.size 27 _ (0, 0) _ _ rfl rfl (set_five HB.out.1) Try.underlying27 rfl Try.infoFr) rfl ?_
  exact ⟨rfl, set_five_below HB.out.2 (Nat.le_refl _)⟩
set_option maxHeartbeats 2000000 in
set_option maxRecDepth 100000 in
theorem rfact16 (w : World) : Calls Try.prog 12 #[.int .i64 16] w fun e w' => e = .returned (.tuple #[.agg #[.string ⟨#[112, 114, 111, 99, 101, 100, 117, 114, 101, 63]⟩, .int .i64 1, .int .i64 1, .bool true, .bool true], .bool true]) ∧ Below w.heap.size w w' := by
  go_enter Try.func12, Try.ntmps12
  go_upto_region 2 with fail
  obtain ⟨W, hW⟩ : ∃ W, (w.alloc (Obj.cells #[.string ⟨#[]⟩, .int .i64 0, .int .i64 0, .bool false, .bool false] 27)).alloc (Obj.cells namesA 9) = W := ⟨_, rfl⟩
  have hx := two_blocks w _ _ hW
  have hc := (cell_of_block hx.2.1 (j := 16)).trans (show namesA[16]? = some (.string ⟨#[112, 114, 111, 99, 101, 100, 117, 114, 101, 63]⟩) from rfl)
  have HX := Lib.hid hx; clear hx
  change Code.wp _ _ _ _ ((w.alloc (Obj.cells #[.string ⟨#[]⟩, .int .i64 0, .int .i64 0, .bool false, .bool false] 27)).alloc (Obj.cells namesA 9))
  rw [hW]
  clear hW
  go_upto_region 28 with fail
  obtain ⟨W2, hW2⟩ : ∃ W2, W.alloc (Obj.cells #[.string ⟨#[112, 114, 111, 99, 101, 100, 117, 114, 101, 63]⟩, .int .i64 1, .int .i64 1, .bool true, .bool true] 27) = W2 := ⟨_, rfl⟩
  have hn := hW2 ▸ at_new W (Obj.cells #[.string ⟨#[112, 114, 111, 99, 101, 100, 117, 114, 101, 63]⟩, .int .i64 1, .int .i64 1, .bool true, .bool true] 27)
  have hb : Below W.heap.size W W2 := hW2 ▸ box_below W _
  rw [hW2]
  have hbx := block_on hb HX.out.1
  have HB := Lib.hid (And.intro hbx (below_seq HX.out.2.2 hb))
  obtain ⟨a0, a1, a2, a3, a4⟩ := box_cells hn
  obtain ⟨c0, c1, c2, c3, c4⟩ := box_cells hbx
  have z0 := box_frozen hbx 0
  have z1 := box_frozen hbx 1
  have z2 := box_frozen hbx 2
  have z3 := box_frozen hbx 3
  have z4 := box_frozen hbx 4
  clear hn hb hW2 hbx hc
  go_wp2_with fail
  refine bodyPost_ret (results_row1 rfl _ _ w.heap.size 27 _ (0, 0) _ _ rfl rfl (set_five HB.out.1) Try.underlying27 rfl Try.infoFr) rfl ?_
  exact ⟨rfl, set_five_below HB.out.2 (Nat.le_refl _)⟩
set_option maxHeartbeats 2000000 in
set_option maxRecDepth 100000 in
theorem rfact17 (w : World) : Calls Try.prog 12 #[.int .i64 17] w fun e w' => e = .returned (.tuple #[.agg #[.string ⟨#[99, 111, 110, 115]⟩, .int .i64 2, .int .i64 2, .bool true, .bool false], .bool true]) ∧ Below w.heap.size w w' := by
  go_enter Try.func12, Try.ntmps12
  go_upto_region 2 with fail
  obtain ⟨W, hW⟩ : ∃ W, (w.alloc (Obj.cells #[.string ⟨#[]⟩, .int .i64 0, .int .i64 0, .bool false, .bool false] 27)).alloc (Obj.cells namesA 9) = W := ⟨_, rfl⟩
  have hx := two_blocks w _ _ hW
  have hc := (cell_of_block hx.2.1 (j := 17)).trans (show namesA[17]? = some (.string ⟨#[99, 111, 110, 115]⟩) from rfl)
  have HX := Lib.hid hx; clear hx
  change Code.wp _ _ _ _ ((w.alloc (Obj.cells #[.string ⟨#[]⟩, .int .i64 0, .int .i64 0, .bool false, .bool false] 27)).alloc (Obj.cells namesA 9))
  rw [hW]
  clear hW
  go_upto_region 28 with fail
  obtain ⟨W2, hW2⟩ : ∃ W2, W.alloc (Obj.cells #[.string ⟨#[99, 111, 110, 115]⟩, .int .i64 2, .int .i64 2, .bool true, .bool false] 27) = W2 := ⟨_, rfl⟩
  have hn := hW2 ▸ at_new W (Obj.cells #[.string ⟨#[99, 111, 110, 115]⟩, .int .i64 2, .int .i64 2, .bool true, .bool false] 27)
  have hb : Below W.heap.size W W2 := hW2 ▸ box_below W _
  rw [hW2]
  have hbx := block_on hb HX.out.1
  have HB := Lib.hid (And.intro hbx (below_seq HX.out.2.2 hb))
  obtain ⟨a0, a1, a2, a3, a4⟩ := box_cells hn
  obtain ⟨c0, c1, c2, c3, c4⟩ := box_cells hbx
  have z0 := box_frozen hbx 0
  have z1 := box_frozen hbx 1
  have z2 := box_frozen hbx 2
  have z3 := box_frozen hbx 3
  have z4 := box_frozen hbx 4
  clear hn hb hW2 hbx hc
  go_wp2_with fail
  refine bodyPost_ret (results_row1 rfl _ _ w.heap.size 27 _ (0, 0) _ _ rfl rfl (set_five HB.out.1) Try.underlying27 rfl Try.infoFr) rfl ?_
  exact ⟨rfl, set_five_below HB.out.2 (Nat.le_refl _)⟩
set_option maxHeartbeats 2000000 in
set_option maxRecDepth 100000 in
theorem rfact18 (w : World) : Calls Try.prog 12 #[.int .i64 18] w fun e w' => e = .returned (.tuple #[.agg #[.string ⟨#[99, 97, 114]⟩, .int .i64 1, .int .i64 1, .bool true, .bool true], .bool true]) ∧ Below w.heap.size w w' := by
  go_enter Try.func12, Try.ntmps12
  go_upto_region 2 with fail
  obtain ⟨W, hW⟩ : ∃ W, (w.alloc (Obj.cells #[.string ⟨#[]⟩, .int .i64 0, .int .i64 0, .bool false, .bool false] 27)).alloc (Obj.cells namesA 9) = W := ⟨_, rfl⟩
  have hx := two_blocks w _ _ hW
  have hc := (cell_of_block hx.2.1 (j := 18)).trans (show namesA[18]? = some (.string ⟨#[99, 97, 114]⟩) from rfl)
  have HX := Lib.hid hx; clear hx
  change Code.wp _ _ _ _ ((w.alloc (Obj.cells #[.string ⟨#[]⟩, .int .i64 0, .int .i64 0, .bool false, .bool false] 27)).alloc (Obj.cells namesA 9))
  rw [hW]
  clear hW
  go_upto_region 28 with fail
  obtain ⟨W2, hW2⟩ : ∃ W2, W.alloc (Obj.cells #[.string ⟨#[99, 97, 114]⟩, .int .i64 1, .int .i64 1, .bool true, .bool true] 27) = W2 := ⟨_, rfl⟩
  have hn := hW2 ▸ at_new W (Obj.cells #[.string ⟨#[99, 97, 114]⟩, .int .i64 1, .int .i64 1, .bool true, .bool true] 27)
  have hb : Below W.heap.size W W2 := hW2 ▸ box_below W _
  rw [hW2]
  have hbx := block_on hb HX.out.1
  have HB := Lib.hid (And.intro hbx (below_seq HX.out.2.2 hb))
  obtain ⟨a0, a1, a2, a3, a4⟩ := box_cells hn
  obtain ⟨c0, c1, c2, c3, c4⟩ := box_cells hbx
  have z0 := box_frozen hbx 0
  have z1 := box_frozen hbx 1
  have z2 := box_frozen hbx 2
  have z3 := box_frozen hbx 3
  have z4 := box_frozen hbx 4
  clear hn hb hW2 hbx hc
  go_wp2_with fail
  refine bodyPost_ret (results_row1 rfl _ _ w.heap.size 27 _ (0, 0) _ _ rfl rfl (set_five HB.out.1) Try.underlying27 rfl Try.infoFr) rfl ?_
  exact ⟨rfl, set_five_below HB.out.2 (Nat.le_refl _)⟩
set_option maxHeartbeats 2000000 in
set_option maxRecDepth 100000 in
theorem rfact19 (w : World) : Calls Try.prog 12 #[.int .i64 19] w fun e w' => e = .returned (.tuple #[.agg #[.string ⟨#[99, 100, 114]⟩, .int .i64 1, .int .i64 1, .bool true, .bool true], .bool true]) ∧ Below w.heap.size w w' := by
  go_enter Try.func12, Try.ntmps12
  go_upto_region 2 with fail
  obtain ⟨W, hW⟩ : ∃ W, (w.alloc (Obj.cells #[.string ⟨#[]⟩, .int .i64 0, .int .i64 0, .bool false, .bool false] 27)).alloc (Obj.cells namesA 9) = W := ⟨_, rfl⟩
  have hx := two_blocks w _ _ hW
  have hc := (cell_of_block hx.2.1 (j := 19)).trans (show namesA[19]? = some (.string ⟨#[99, 100, 114]⟩) from rfl)
  have HX := Lib.hid hx; clear hx
  change Code.wp _ _ _ _ ((w.alloc (Obj.cells #[.string ⟨#[]⟩, .int .i64 0, .int .i64 0, .bool false, .bool false] 27)).alloc (Obj.cells namesA 9))
  rw [hW]
  clear hW
  go_upto_region 28 with fail
  obtain ⟨W2, hW2⟩ : ∃ W2, W.alloc (Obj.cells #[.string ⟨#[99, 100, 114]⟩, .int .i64 1, .int .i64 1, .bool true, .bool true] 27) = W2 := ⟨_, rfl⟩
  have hn := hW2 ▸ at_new W (Obj.cells #[.string ⟨#[99, 100, 114]⟩, .int .i64 1, .int .i64 1, .bool true, .bool true] 27)
  have hb : Below W.heap.size W W2 := hW2 ▸ box_below W _
  rw [hW2]
  have hbx := block_on hb HX.out.1
  have HB := Lib.hid (And.intro hbx (below_seq HX.out.2.2 hb))
  obtain ⟨a0, a1, a2, a3, a4⟩ := box_cells hn
  obtain ⟨c0, c1, c2, c3, c4⟩ := box_cells hbx
  have z0 := box_frozen hbx 0
  have z1 := box_frozen hbx 1
  have z2 := box_frozen hbx 2
  have z3 := box_frozen hbx 3
  have z4 := box_frozen hbx 4
  clear hn hb hW2 hbx hc
  go_wp2_with fail
  refine bodyPost_ret (results_row1 rfl _ _ w.heap.size 27 _ (0, 0) _ _ rfl rfl (set_five HB.out.1) Try.underlying27 rfl Try.infoFr) rfl ?_
  exact ⟨rfl, set_five_below HB.out.2 (Nat.le_refl _)⟩
set_option maxHeartbeats 2000000 in
set_option maxRecDepth 100000 in
theorem rfact20 (w : World) : Calls Try.prog 12 #[.int .i64 20] w fun e w' => e = .returned (.tuple #[.agg #[.string ⟨#[108, 105, 115, 116]⟩, .int .i64 0, .int .i64 (-1), .bool true, .bool false], .bool true]) ∧ Below w.heap.size w w' := by
  go_enter Try.func12, Try.ntmps12
  go_upto_region 2 with fail
  obtain ⟨W, hW⟩ : ∃ W, (w.alloc (Obj.cells #[.string ⟨#[]⟩, .int .i64 0, .int .i64 0, .bool false, .bool false] 27)).alloc (Obj.cells namesA 9) = W := ⟨_, rfl⟩
  have hx := two_blocks w _ _ hW
  have hc := (cell_of_block hx.2.1 (j := 20)).trans (show namesA[20]? = some (.string ⟨#[108, 105, 115, 116]⟩) from rfl)
  have HX := Lib.hid hx; clear hx
  change Code.wp _ _ _ _ ((w.alloc (Obj.cells #[.string ⟨#[]⟩, .int .i64 0, .int .i64 0, .bool false, .bool false] 27)).alloc (Obj.cells namesA 9))
  rw [hW]
  clear hW
  go_upto_region 28 with fail
  obtain ⟨W2, hW2⟩ : ∃ W2, W.alloc (Obj.cells #[.string ⟨#[108, 105, 115, 116]⟩, .int .i64 0, .int .i64 (-1), .bool true, .bool false] 27) = W2 := ⟨_, rfl⟩
  have hn := hW2 ▸ at_new W (Obj.cells #[.string ⟨#[108, 105, 115, 116]⟩, .int .i64 0, .int .i64 (-1), .bool true, .bool false] 27)
  have hb : Below W.heap.size W W2 := hW2 ▸ box_below W _
  rw [hW2]
  have hbx := block_on hb HX.out.1
  have HB := Lib.hid (And.intro hbx (below_seq HX.out.2.2 hb))
  obtain ⟨a0, a1, a2, a3, a4⟩ := box_cells hn
  obtain ⟨c0, c1, c2, c3, c4⟩ := box_cells hbx
  have z0 := box_frozen hbx 0
  have z1 := box_frozen hbx 1
  have z2 := box_frozen hbx 2
  have z3 := box_frozen hbx 3
  have z4 := box_frozen hbx 4
  clear hn hb hW2 hbx hc
  go_wp2_with fail
  refine bodyPost_ret (results_row1 rfl _ _ w.heap.size 27 _ (0, 0) _ _ rfl rfl (set_five HB.out.1) Try.underlying27 rfl Try.infoFr) rfl ?_
  exact ⟨rfl, set_five_below HB.out.2 (Nat.le_refl _)⟩
end Go.Proofs.Ytdeelpagoffdjaa.Dat
