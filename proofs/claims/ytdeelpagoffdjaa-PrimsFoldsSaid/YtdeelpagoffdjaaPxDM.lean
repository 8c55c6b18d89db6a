/- The reference's Facts: from 21 to 30. -/
import Derived.Test.YtdeelpagoffdjaaPrFs
import Derived.Test.YtdeelpagoffdjaaPrPs
import Derived.Test.YtdeelpagoffdjaaPxAM
import Derived.Deep.Cut

namespace Go.Proofs.Ytdeelpagoffdjaa.Dat
open Go.RowKit
set_option linter.unusedVariables false

set_option maxHeartbeats 2000000 in
set_option maxRecDepth 100000 in
theorem rfact21 (w : World) : Calls Try.prog 12 #[.int .i64 21] w fun e w' => e = .returned (.tuple #[.agg #[.string ⟨#[118, 101, 99, 116, 111, 114]⟩, .int .i64 0, .int .i64 (-1), .bool true, .bool false], .bool true]) ∧ Below w.heap.size w w' := by
  go_enter Try.func12, Try.ntmps12
  go_upto_region 2 with fail
  obtain ⟨W, hW⟩ : ∃ W, (w.alloc (Obj.cells #[.string ⟨#[]⟩, .int .i64 0, .int .i64 0, .bool false, .bool false] 27)).alloc (Obj.cells namesA 9) = W := ⟨_, rfl⟩
  have hx := two_blocks w _ _ hW
  have hc := (cell_of_block hx.2.1 (j := 21)).trans (show namesA[21]? = some (.string ⟨#[118, 101, 99, 116, 111, 114]⟩) from rfl)
  have HX := Lib.hid hx; clear hx
  change Code.wp _ _ _ _ ((w.alloc (Obj.cells #[.string ⟨#[]⟩, .int .i64 0, .int .i64 0, .bool false, .bool false] 27)).alloc (Obj.cells namesA 9))
  rw [hW]
  clear hW
  go_upto_region 28 with fail
  obtain ⟨W2, hW2⟩ : ∃ W2, W.alloc (Obj.cells #[.string ⟨#[118, 101, 99, 116, 111, 114]⟩, .int .i64 0, .int .i64 (-1), .bool true, .bool false] 27) = W2 := ⟨_, rfl⟩
  have hn := hW2 ▸ at_new W (Obj.cells #[.string ⟨#[118, 101, 99, 116, 111, 114]⟩, .int .i64 0, .int .i64 (-1), .bool true, .bool false] 27)
  have hb : Below W.heap.size W W2 := hW2 ▸ box_below W _
  rw [hW2]
  have hbx := block_on hb HX.out.1
  have HB := Lib.hid (And.intro hbx (below_seq HX.out.2.2 hb))
  obtain ⟨a0, a1, a2, a3, a4⟩ := box_cells hn
  obtain ⟨c0, c1, c2, c3, c4⟩ := box_cells hbx
  have z0 := box_frozen hbx 0
  have z1 := box_frozen hbx 1
  have z2 := box_frozen hbx 2
  have z3 := box_frozen hbx 3
  have z4 := box_frozen hbx 4
  clear hn hb hW2 hbx hc
  go_wp2_with fail
  refine bodyPost_ret (results_row1 rfl _ _ w.heap.size 27 _ (0, 0) _ _ rfl rfl (set_five HB.out.1) Try.underlying27 rfl Try.infoFr) rfl ?_
  exact ⟨rfl, set_five_below HB.out.2 (Nat.le_refl _)⟩
set_option maxHeartbeats 2000000 in
set_option maxRecDepth 100000 in
theorem rfact22 (w : World) : Calls Try.prog 12 #[.int .i64 22] w fun e w' => e = .returned (.tuple #[.agg #[.string ⟨#[118, 101, 99, 116, 111, 114, 45, 114, 101, 102]⟩, .int .i64 2, .int .i64 2, .bool true, .bool true], .bool true]) ∧ Below w.heap.size w w' := by
  go_enter Try.func12, Try.ntmps12
  go_upto_region 2 with fail
  obtain ⟨W, hW⟩ : ∃ W, (w.alloc (Obj.cells #[.string ⟨#[]⟩, .int .i64 0, .int .i64 0, .bool false, .bool false] 27)).alloc (Obj.cells namesA 9) = W := ⟨_, rfl⟩
  have hx := two_blocks w _ _ hW
  have hc := (cell_of_block hx.2.1 (j := 22)).trans (show namesA[22]? = some (.string ⟨#[118, 101, 99, 116, 111, 114, 45, 114, 101, 102]⟩) from rfl)
  have HX := Lib.hid hx; clear hx
  change Code.wp _ _ _ _ ((w.alloc (Obj.cells #[.string ⟨#[]⟩, .int .i64 0, .int .i64 0, .bool false, .bool false] 27)).alloc (Obj.cells namesA 9))
  rw [hW]
  clear hW
  go_upto_region 28 with fail
  obtain ⟨W2, hW2⟩ : ∃ W2, W.alloc (Obj.cells #[.string ⟨#[118, 101, 99, 116, 111, 114, 45, 114, 101, 102]⟩, .int .i64 2, .int .i64 2, .bool true, .bool true] 27) = W2 := ⟨_, rfl⟩
  have hn := hW2 ▸ at_new W (Obj.cells #[.string ⟨#[118, 101, 99, 116, 111, 114, 45, 114, 101, 102]⟩, .int .i64 2, .int .i64 2, .bool true, .bool true] 27)
  have hb : Below W.heap.size W W2 := hW2 ▸ box_below W _
  rw [hW2]
  have hbx := block_on hb HX.out.1
  have HB := Lib.hid (And.intro hbx (below_seq HX.out.2.2 hb))
  obtain ⟨a0, a1, a2, a3, a4⟩ := box_cells hn
  obtain ⟨c0, c1, c2, c3, c4⟩ := box_cells hbx
  have z0 := box_frozen hbx 0
  have z1 := box_frozen hbx 1
  have z2 := box_frozen hbx 2
  have z3 := box_frozen hbx 3
  have z4 := box_frozen hbx 4
  clear hn hb hW2 hbx hc
  go_wp2_with fail
  refine bodyPost_ret (results_row1 rfl _ _ w.heap.size 27 _ (0, 0) _ _ rfl rfl (set_five HB.out.1) Try.underlying27 rfl Try.infoFr) rfl ?_
  exact ⟨rfl, set_five_below HB.out.2 (Nat.le_refl _)⟩
set_option maxHeartbeats 2000000 in
set_option maxRecDepth 100000 in
theorem rfact23 (w : World) : Calls Try.prog 12 #[.int .i64 23] w fun e w' => e = .returned (.tuple #[.agg #[.string ⟨#[118, 101, 99, 116, 111, 114, 45, 108, 101, 110, 103, 116, 104]⟩, .int .i64 1, .int .i64 1, .bool true, .bool true], .bool true]) ∧ Below w.heap.size w w' := by
  go_enter Try.func12, Try.ntmps12
  go_upto_region 2 with fail
  obtain ⟨W, hW⟩ : ∃ W, (w.alloc (Obj.cells #[.string ⟨#[]⟩, .int .i64 0, .int .i64 0, .bool false, .bool false] 27)).alloc (Obj.cells namesA 9) = W := ⟨_, rfl⟩
  have hx := two_blocks w _ _ hW
  have hc := (cell_of_block hx.2.1 (j := 23)).trans (show namesA[23]? = some (.string ⟨#[118, 101, 99, 116, 111, 114, 45, 108, 101, 110, 103, 116, 104]⟩) from rfl)
  have HX := Lib.hid hx; clear hx
  change Code.wp _ _ _ _ ((w.alloc (Obj.cells #[.string ⟨#[]⟩, .int .i64 0, .int .i64 0, .bool false, .bool false] 27)).alloc (Obj.cells namesA 9))
  rw [hW]
  clear hW
  go_upto_region 28 with fail
  obtain ⟨W2, hW2⟩ : ∃ W2, W.alloc (Obj.cells #[.string ⟨#[118, 101, 99, 116, 111, 114, 45, 108, 101, 110, 103, 116, 104]⟩, .int .i64 1, .int .i64 1, .bool true, .bool true] 27) = W2 := ⟨_, rfl⟩
  have hn := hW2 ▸ at_new W (Obj.cells #[.string ⟨#[118, 101, 99, 116, 111, 114, 45, 108, 101, 110, 103, 116, 104]⟩, .int .i64 1, .int .i64 1, .bool true, .bool true] 27)
  have hb : Below W.heap.size W W2 := hW2 ▸ box_below W _
  rw [hW2]
  have hbx := block_on hb HX.out.1
  have HB := Lib.hid (And.intro hbx (below_seq HX.out.2.2 hb))
  obtain ⟨a0, a1, a2, a3, a4⟩ := box_cells hn
  obtain ⟨c0, c1, c2, c3, c4⟩ := box_cells hbx
  have z0 := box_frozen hbx 0
  have z1 := box_frozen hbx 1
  have z2 := box_frozen hbx 2
  have z3 := box_frozen hbx 3
  have z4 := box_frozen hbx 4
  clear hn hb hW2 hbx hc
  go_wp2_with fail
  refine bodyPost_ret (results_row1 rfl _ _ w.heap.size 27 _ (0, 0) _ _ rfl rfl (set_five HB.out.1) Try.underlying27 rfl Try.infoFr) rfl ?_
  exact ⟨rfl, set_five_below HB.out.2 (Nat.le_refl _)⟩
set_option maxHeartbeats 2000000 in
set_option maxRecDepth 100000 in
theorem rfact24 (w : World) : Calls Try.prog 12 #[.int .i64 24] w fun e w' => e = .returned (.tuple #[.agg #[.string ⟨#[108, 101, 110, 103, 116, 104]⟩, .int .i64 1, .int .i64 1, .bool true, .bool true], .bool true]) ∧ Below w.heap.size w w' := by
  go_enter Try.func12, Try.ntmps12
  go_upto_region 2 with fail
  obtain ⟨W, hW⟩ : ∃ W, (w.alloc (Obj.cells #[.string ⟨#[]⟩, .int .i64 0, .int .i64 0, .bool false, .bool false] 27)).alloc (Obj.cells namesA 9) = W := ⟨_, rfl⟩
  have hx := two_blocks w _ _ hW
  have hc := (cell_of_block hx.2.1 (j := 24)).trans (show namesA[24]? = some (.string ⟨#[108, 101, 110, 103, 116, 104]⟩) from rfl)
  have HX := Lib.hid hx; clear hx
  change Code.wp _ _ _ _ ((w.alloc (Obj.cells #[.string ⟨#[]⟩, .int .i64 0, .int .i64 0, .bool false, .bool false] 27)).alloc (Obj.cells namesA 9))
  rw [hW]
  clear hW
  go_upto_region 28 with fail
  obtain ⟨W2, hW2⟩ : ∃ W2, W.alloc (Obj.cells #[.string ⟨#[108, 101, 110, 103, 116, 104]⟩, .int .i64 1, .int .i64 1, .bool true, .bool true] 27) = W2 := ⟨_, rfl⟩
  have hn := hW2 ▸ at_new W (Obj.cells #[.string ⟨#[108, 101, 110, 103, 116, 104]⟩, .int .i64 1, .int .i64 1, .bool true, .bool true] 27)
  have hb : Below W.heap.size W W2 := hW2 ▸ box_below W _
  rw [hW2]
  have hbx := block_on hb HX.out.1
  have HB := Lib.hid (And.intro hbx (below_seq HX.out.2.2 hb))
  obtain ⟨a0, a1, a2, a3, a4⟩ := box_cells hn
  obtain ⟨c0, c1, c2, c3, c4⟩ := box_cells hbx
  have z0 := box_frozen hbx 0
  have z1 := box_frozen hbx 1
  have z2 := box_frozen hbx 2
  have z3 := box_frozen hbx 3
  have z4 := box_frozen hbx 4
  clear hn hb hW2 hbx hc
  go_wp2_with fail
  refine bodyPost_ret (results_row1 rfl _ _ w.heap.size 27 _ (0, 0) _ _ rfl rfl (set_five HB.out.1) Try.underlying27 rfl Try.infoFr) rfl ?_
  exact ⟨rfl, set_five_below HB.out.2 (Nat.le_refl _)⟩
set_option maxHeartbeats 2000000 in
set_option maxRecDepth 100000 in
theorem rfact25 (w : World) : Calls Try.prog 12 #[.int .i64 25] w fun e w' => e = .returned (.tuple #[.agg #[.string ⟨#[118, 111, 105, 100]⟩, .int .i64 0, .int .i64 0, .bool true, .bool true], .bool true]) ∧ Below w.heap.size w w' := by
  go_enter Try.func12, Try.ntmps12
  go_upto_region 2 with fail
  obtain ⟨W, hW⟩ : ∃ W, (w.alloc (Obj.cells #[.string ⟨#[]⟩, .int .i64 0, .int .i64 0, .bool false, .bool false] 27)).alloc (Obj.cells namesA 9) = W := ⟨_, rfl⟩
  have hx := two_blocks w _ _ hW
  have hc := (cell_of_block hx.2.1 (j := 25)).trans (show namesA[25]? = some (.string ⟨#[118, 111, 105, 100]⟩) from rfl)
  have HX := Lib.hid hx; clear hx
  change Code.wp _ _ _ _ ((w.alloc (Obj.cells #[.string ⟨#[]⟩, .int .i64 0, .int .i64 0, .bool false, .bool false] 27)).alloc (Obj.cells namesA 9))
  rw [hW]
  clear hW
  go_upto_region 28 with fail
  obtain ⟨W2, hW2⟩ : ∃ W2, W.alloc (Obj.cells #[.string ⟨#[118, 111, 105, 100]⟩, .int .i64 0, .int .i64 0, .bool true, .bool true] 27) = W2 := ⟨_, rfl⟩
  have hn := hW2 ▸ at_new W (Obj.cells #[.string ⟨#[118, 111, 105, 100]⟩, .int .i64 0, .int .i64 0, .bool true, .bool true] 27)
  have hb : Below W.heap.size W W2 := hW2 ▸ box_below W _
  rw [hW2]
  have hbx := block_on hb HX.out.1
  have HB := Lib.hid (And.intro hbx (below_seq HX.out.2.2 hb))
  obtain ⟨a0, a1, a2, a3, a4⟩ := box_cells hn
  obtain ⟨c0, c1, c2, c3, c4⟩ := box_cells hbx
  have z0 := box_frozen hbx 0
  have z1 := box_frozen hbx 1
  have z2 := box_frozen hbx 2
  have z3 := box_frozen hbx 3
  have z4 := box_frozen hbx 4
  clear hn hb hW2 hbx hc
  go_wp2_with fail
  refine bodyPost_ret (results_row1 rfl _ _ w.heap.size 27 _ (0, 0) _ _ rfl rfl (set_five HB.out.1) Try.underlying27 rfl Try.infoFr) rfl ?_
  exact ⟨rfl, set_five_below HB.out.2 (Nat.le_refl _)⟩
set_option maxHeartbeats 2000000 in
set_option maxRecDepth 100000 in
theorem rfact26 (w : World) : Calls Try.prog 12 #[.int .i64 26] w fun e w' => e = .returned (.tuple #[.agg #[.string ⟨#[100, 105, 115, 112, 108, 97, 121]⟩, .int .i64 1, .int .i64 1, .bool false, .bool false], .bool true]) ∧ Below w.heap.size w w' := by
  go_enter Try.func12, Try.ntmps12
  go_upto_region 2 with fail
  obtain ⟨W, hW⟩ : ∃ W, (w.alloc (Obj.cells #[.string ⟨#[]⟩, .int .i64 0, .int .i64 0, .bool false, .bool false] 27)).alloc (Obj.cells namesA 9) = W := ⟨_, rfl⟩
  have hx := two_blocks w _ _ hW
  have hc := (cell_of_block hx.2.1 (j := 26)).trans (show namesA[26]? = some (.string ⟨#[100, 105, 115, 112, 108, 97, 121]⟩) from rfl)
  have HX := Lib.hid hx; clear hx
  change Code.wp _ _ _ _ ((w.alloc (Obj.cells #[.string ⟨#[]⟩, .int .i64 0, .int .i64 0, .bool false, .bool false] 27)).alloc (Obj.cells namesA 9))
  rw [hW]
  clear hW
  go_upto_region 28 with fail
  obtain ⟨W2, hW2⟩ : ∃ W2, W.alloc (Obj.cells #[.string ⟨#[100, 105, 115, 112, 108, 97, 121]⟩, .int .i64 1, .int .i64 1, .bool false, .bool false] 27) = W2 := ⟨_, rfl⟩
  have hn := hW2 ▸ at_new W (Obj.cells #[.string ⟨#[100, 105, 115, 112, 108, 97, 121]⟩, .int .i64 1, .int .i64 1, .bool false, .bool false] 27)
  have hb : Below W.heap.size W W2 := hW2 ▸ box_below W _
  rw [hW2]
  have hbx := block_on hb HX.out.1
  have HB := Lib.hid (And.intro hbx (below_seq HX.out.2.2 hb))
  obtain ⟨a0, a1, a2, a3, a4⟩ := box_cells hn
  obtain ⟨c0, c1, c2, c3, c4⟩ := box_cells hbx
  have z0 := box_frozen hbx 0
  have z1 := box_frozen hbx 1
  have z2 := box_frozen hbx 2
  have z3 := box_frozen hbx 3
  have z4 := box_frozen hbx 4
  clear hn hb hW2 hbx hc
  go_wp2_with fail
  refine bodyPost_ret (results_row1 rfl _ _ w.heap.size 27 _ (0, 0) _ _ rfl rfl (set_five HB.out.1) Try.underlying27 rfl Try.infoFr) rfl ?_
  exact ⟨rfl, set_five_below HB.out.2 (Nat.le_refl _)⟩
set_option maxHeartbeats 2000000 in
set_option maxRecDepth 100000 in
theorem rfact27 (w : World) : Calls Try.prog 12 #[.int .i64 27] w fun e w' => e = .returned (.tuple #[.agg #[.string ⟨#[110, 101, 119, 108, 105, 110, 101]⟩, .int .i64 0, .int .i64 0, .bool false, .bool false], .bool true]) ∧ Below w.heap.size w w' := by
  go_enter Try.func12, Try.ntmps12
  go_upto_region 2 with fail
  obtain ⟨W, hW⟩ : ∃ W, (w.alloc (Obj.cells #[.string ⟨#[]⟩, .int .i64 0, .int .i64 0, .bool false, .bool false] 27)).alloc (Obj.cells namesA 9) = W := ⟨_, rfl⟩
  have hx := two_blocks w _ _ hW
  have hc := (cell_of_block hx.2.1 (j := 27)).trans (show namesA[27]? = some (.string ⟨#[110, 101, 119, 108, 105, 110, 101]⟩) from rfl)
  have HX := Lib.hid hx; clear hx
  change Code.wp _ _ _ _ ((w.alloc (Obj.cells #[.string ⟨#[]⟩, .int .i64 0, .int .i64 0, .bool false, .bool false] 27)).alloc (Obj.cells namesA 9))
  rw [hW]
  clear hW
  go_upto_region 28 with fail
  obtain ⟨W2, hW2⟩ : ∃ W2, W.alloc (Obj.cells #[.string ⟨#[110, 101, 119, 108, 105, 110, 101]⟩, .int .i64 0, .int .i64 0, .bool false, .bool false] 27) = W2 := ⟨_, rfl⟩
  have hn := hW2 ▸ at_new W (Obj.cells #[.string ⟨#[110, 101, 119, 108, 105, 110, 101]⟩, .int .i64 0, .int .i64 0, .bool false, .bool false] 27)
  have hb : Below W.heap.size W W2 := hW2 ▸ box_below W _
  rw [hW2]
  have hbx := block_on hb HX.out.1
  have HB := Lib.hid (And.intro hbx (below_seq HX.out.2.2 hb))
  obtain ⟨a0, a1, a2, a3, a4⟩ := box_cells hn
  obtain ⟨c0, c1, c2, c3, c4⟩ := box_cells hbx
  have z0 := box_frozen hbx 0
  have z1 := box_frozen hbx 1
  have z2 := box_frozen hbx 2
  have z3 := box_frozen hbx 3
  have z4 := box_frozen hbx 4
  clear hn hb hW2 hbx hc
  go_wp2_with fail
  refine bodyPost_ret (results_row1 rfl _ _ w.heap.size 27 _ (0, 0) _ _ rfl rfl (set_five HB.out.1) Try.underlying27 rfl Try.infoFr) rfl ?_
  exact ⟨rfl, set_five_below HB.out.2 (Nat.le_refl _)⟩
set_option maxHeartbeats 2000000 in
set_option maxRecDepth 100000 in
theorem rfact28 (w : World) : Calls Try.prog 12 #[.int .i64 28] w fun e w' => e = .returned (.tuple #[.agg #[.string ⟨#[114, 97, 105, 115, 101]⟩, .int .i64 1, .int .i64 1, .bool false, .bool false], .bool true]) ∧ Below w.heap.size w w' := by
  go_enter Try.func12, Try.ntmps12
  go_upto_region 2 with fail
  obtain ⟨W, hW⟩ : ∃ W, (w.alloc (Obj.cells #[.string ⟨#[]⟩, .int .i64 0, .int .i64 0, .bool false, .bool false] 27)).alloc (Obj.cells namesA 9) = W := ⟨_, rfl⟩
  have hx := two_blocks w _ _ hW
  have hc := (cell_of_block hx.2.1 (j := 28)).trans (show namesA[28]? = some (.string ⟨#[114, 97, 105, 115, 101]⟩) from rfl)
  have HX := Lib.hid hx; clear hx
  change Code.wp _ _ _ _ ((w.alloc (Obj.cells #[.string ⟨#[]⟩, .int .i64 0, .int .i64 0, .bool false, .bool false] 27)).alloc (Obj.cells namesA 9))
  rw [hW]
  clear hW
  go_upto_region 28 with fail
  obtain ⟨W2, hW2⟩ : ∃ W2, W.alloc (Obj.cells #[.string ⟨#[114, 97, 105, 115, 101]⟩, .int .i64 1, .int .i64 1, .bool false, .bool false] 27) = W2 := ⟨_, rfl⟩
  have hn := hW2 ▸ at_new W (Obj.cells #[.string ⟨#[114, 97, 105, 115, 101]⟩, .int .i64 1, .int .i64 1, .bool false, .bool false] 27)
  have hb : Below W.heap.size W W2 := hW2 ▸ box_below W _
  rw [hW2]
  have hbx := block_on hb HX.out.1
  have HB := Lib.hid (And.intro hbx (below_seq HX.out.2.2 hb))
  obtain ⟨a0, a1, a2, a3, a4⟩ := box_cells hn
  obtain ⟨c0, c1, c2, c3, c4⟩ := box_cells hbx
  have z0 := box_frozen hbx 0
  have z1 := box_frozen hbx 1
  have z2 := box_frozen hbx 2
  have z3 := box_frozen hbx 3
  have z4 := box_frozen hbx 4
  clear hn hb hW2 hbx hc
  go_wp2_with fail
  refine bodyPost_ret (results_row1 rfl _ _ w.heap.size 27 _ (0, 0) _ _ rfl rfl (set_five HB.out.1) Try.underlying27 rfl Try.infoFr) rfl ?_
  exact ⟨rfl, set_five_below HB.out.2 (Nat.le_refl _)⟩
set_option maxHeartbeats 2000000 in
set_option maxRecDepth 100000 in
theorem rfact29 (w : World) : Calls Try.prog 12 #[.int .i64 29] w fun e w' => e = .returned (.tuple #[.agg #[.string ⟨#[99, 97, 108, 108, 47, 99, 99]⟩, .int .i64 1, .int .i64 1, .bool false, .bool false], .bool true]) ∧ Below w.heap.size w w' := by
  go_enter Try.func12, Try.ntmps12
  go_upto_region 2 with fail
  obtain ⟨W, hW⟩ : ∃ W, (w.alloc (Obj.cells #[.string ⟨#[]⟩, .int .i64 0, .int .i64 0, .bool false, .bool false] 27)).alloc (Obj.cells namesA 9) = W := ⟨_, rfl⟩
  have hx := two_blocks w _ _ hW
  have hc := (cell_of_block hx.2.1 (j := 29)).trans (show namesA[29]? = some (.string ⟨#[99, 97, 108, 108, 47, 99, 99]⟩) from rfl)
  have HX := Lib.hid hx; clear hx
  change Code.wp _ _ _ _ ((w.alloc (Obj.cells #[.string ⟨#[]⟩, .int .i64 0, .int .i64 0, .bool false, .bool false] 27)).alloc (Obj.cells namesA 9))
  rw [hW]
  clear hW
  go_upto_region 28 with fail
  obtain ⟨W2, hW2⟩ : ∃ W2, W.alloc (Obj.cells #[.string ⟨#[99, 97, 108, 108, 47, 99, 99]⟩, .int .i64 1, .int .i64 1, .bool false, .bool false] 27) = W2 := ⟨_, rfl⟩
  have hn := hW2 ▸ at_new W (Obj.cells #[.string ⟨#[99, 97, 108, 108, 47, 99, 99]⟩, .int .i64 1, .int .i64 1, .bool false, .bool false] 27)
  have hb : Below W.heap.size W W2 := hW2 ▸ box_below W _
  rw [hW2]
  have hbx := block_on hb HX.out.1
  have HB := Lib.hid (And.intro hbx (below_seq HX.out.2.2 hb))
  obtain ⟨a0, a1, a2, a3, a4⟩ := box_cells hn
  obtain ⟨c0, c1, c2, c3, c4⟩ := box_cells hbx
  have z0 := box_frozen hbx 0
  have z1 := box_frozen hbx 1
  have z2 := box_frozen hbx 2
  have z3 := box_frozen hbx 3
  have z4 := box_frozen hbx 4
  clear hn hb hW2 hbx hc
  go_wp2_with fail
  refine bodyPost_ret (results_row1 rfl _ _ w.heap.size 27 _ (0, 0) _ _ rfl rfl (set_five HB.out.1) Try.underlying27 rfl Try.infoFr) rfl ?_
  exact ⟨rfl, set_five_below HB.out.2 (Nat.le_refl _)⟩
set_option maxHeartbeats 2000000 in
set_option maxRecDepth 100000 in
theorem rfact30 (w : World) : Calls Try.prog 12 #[.int .i64 30] w fun e w' => e = .returned (.tuple #[.agg #[.string ⟨#[97, 112, 112, 108, 121]⟩, .int .i64 2, .int .i64 2, .bool false, .bool false], .bool true]) ∧ Below w.heap.size w w' := by
  go_enter Try.func12, Try.ntmps12
  go_upto_region 2 with fail
  obtain ⟨W, hW⟩ : ∃ W, (w.alloc (Obj.cells #[.string ⟨#[]⟩, .int .i64 0, .int .i64 0, .bool false, .bool false] 27)).alloc (Obj.cells namesA 9) = W := ⟨_, rfl⟩
  have hx := two_blocks w _ _ hW
  have hc := (cell_of_block hx.2.1 (j := 30)).trans (show namesA[30]? = some (.string ⟨#[97, 112, 112, 108, 121]⟩) from rfl)
  have HX := Lib.hid hx; clear hx
  change Code.wp _ _ _ _ ((w.alloc (Obj.cells #[.string ⟨#[]⟩, .int .i64 0, .int .i64 0, .bool false, .bool false] 27)).alloc (Obj.cells namesA 9))
  rw [hW]
  clear hW
  go_upto_region 28 with fail
  obtain ⟨W2, hW2⟩ : ∃ W2, W.alloc (Obj.cells #[.string ⟨#[97, 112, 112, 108, 121]⟩, .int .i64 2, .int .i64 2, .bool false, .bool false] 27) = W2 := ⟨_, rfl⟩
  have hn := hW2 ▸ at_new W (Obj.cells #[.string ⟨#[97, 112, 112, 108, 121]⟩, .int .i64 2, .int .i64 2, .bool false, .bool false] 27)
  have hb : Below W.heap.size W W2 := hW2 ▸ box_below W _
  rw [hW2]
  have hbx := block_on hb HX.out.1
  have HB := Lib.hid (And.intro hbx (below_seq HX.out.2.2 hb))
  obtain ⟨a0, a1, a2, a3, a4⟩ := box_cells hn
  obtain ⟨c0, c1, c2, c3, c4⟩ := box_cells hbx
  have z0 := box_frozen hbx 0
  have z1 := box_frozen hbx 1
  have z2 := box_frozen hbx 2
  have z3 := box_frozen hbx 3
  have z4 := box_frozen hbx 4
  clear hn hb hW2 hbx hc
  go_wp2_with fail
  refine bodyPost_ret (results_row1 rfl _ _ w.heap.size 27 _ (0, 0) _ _ rfl rfl (set_five HB.out.1) Try.underlying27 rfl Try.infoFr) rfl ?_
  exact ⟨rfl, set_five_below HB.out.2 (Nat.le_refl _)⟩
end Go.Proofs.Ytdeelpagoffdjaa.Dat
