/- The reference's does: lengths, void. -/
import Derived.Test.YtdeelpagoffdjaaPyOne
import Derived.Test.YtdeelpagoffdjaaPrMs

/- The reference's does: truth. -/
namespace Go.Proofs.Ytdeelpagoffdjaa.Dat
open Go.RowKit
open Go.Proofs.Ytdeelpagoffdjaa (addF subF mulF divF lessF lessRef_any)
open NumPlain
set_option linter.unusedVariables false

theorem rtruth_bit (b : Bool) (x : Int) (hx : (if b = true then (1 : Int) else 0) = x) (w : World) : Calls Try.prog 63 #[.bool b] w fun e w' => e = .returned (.agg #[.int .i64 1, .int .i64 x, .int .i64 0, .string ⟨#[]⟩, .slice none 0 0]) ∧ Below w.heap.size w w' := by
  subst hx; exact rTruth_any b w
end Go.Proofs.Ytdeelpagoffdjaa.Dat

/- The reference's does: sums, and what compares numbers. -/
namespace Go.Proofs.Ytdeelpagoffdjaa.Dat
open Go.RowKit
open Go.Proofs.Ytdeelpagoffdjaa (addF subF mulF divF lessF lessRef_any)
open NumPlain
set_option linter.unusedVariables false

theorem sumsV_shape (l : List Dt) (x : Int × Int × Int) : ∃ n d e, sumsV l x = .tuple #[.agg #[.int .i64 0, .int .i64 n, .int .i64 d, .string ⟨#[]⟩, .slice none 0 0], .int .i64 e] := by
  unfold sumsV numV leafV
  split
  · split
    · exact ⟨_, _, _, rfl⟩
    · exact ⟨_, _, _, rfl⟩
  · exact ⟨_, _, _, rfl⟩
set_option maxHeartbeats 4000000 in
set_option maxRecDepth 100000 in
theorem rdoes_sum0 (l : List Dt) (p : Option Addr) (cap : Nat) (w : World) (hlm : l.length ≤ maxLen) (hcap : l.length ≤ cap) (hl : Lies w l p) :
    Calls Try.prog 33 #[.int .i64 0, .slice p l.length cap] w fun e w' => e = .returned (sumsV l (sumB 0 l)) ∧ Below w.heap.size w w' := by
  obtain ⟨nz, dz, ez, hz⟩ := sumsV_shape l (sumB 0 l)
  have HS := Lib.hid (fun W (hb : Below w.heap.size w W) => rSums_any 0 (by omega) l p cap W hlm hcap (hl.below hb))
  rw [hz] at HS ⊢
  clear hz hlm hcap hl
  go_enter Try.func33, Try.ntmps33
  go_wp2_with fail
  refine (HS.out _ (box_below w _)).mono ?_
  rintro _ w1 ⟨rfl, hb1⟩
  have hbx := one_box hb1
  have HB := Lib.hid (And.intro hbx (below_after hb1))
  obtain ⟨y0, y1, y2, y3, y4⟩ := box_cells hbx
  have z0 := box_frozen hbx 0
  have z1 := box_frozen hbx 1
  have z2 := box_frozen hbx 2
  have z3 := box_frozen hbx 3
  have z4 := box_frozen hbx 4
  clear hbx hb1
  go_wp2_with fail
  refine bodyPost_ret (results_row1 rfl _ _ w.heap.size 37 _ (0, 0) _ _ rfl rfl (set_five HB.out.1) Try.underlying37 rfl Try.sizD) rfl ?_
  exact ⟨rfl, set_five_below HB.out.2 (Nat.le_refl _)⟩
set_option maxHeartbeats 4000000 in
set_option maxRecDepth 100000 in
theorem rdoes_sum1 (l : List Dt) (p : Option Addr) (cap : Nat) (w : World) (hlm : l.length ≤ maxLen) (hcap : l.length ≤ cap) (hl : Lies w l p) :
    Calls Try.prog 33 #[.int .i64 1, .slice p l.length cap] w fun e w' => e = .returned (sumsV l (sumB 1 l)) ∧ Below w.heap.size w w' := by
  obtain ⟨nz, dz, ez, hz⟩ := sumsV_shape l (sumB 1 l)
  have HS := Lib.hid (fun W (hb : Below w.heap.size w W) => rSums_any 1 (by omega) l p cap W hlm hcap (hl.below hb))
  rw [hz] at HS ⊢
  clear hz hlm hcap hl
  go_enter Try.func33, Try.ntmps33
  go_wp2_with fail
  refine (HS.out _ (box_below w _)).mono ?_
  rintro _ w1 ⟨rfl, hb1⟩
  have hbx := one_box hb1
  have HB := Lib.hid (And.intro hbx (below_after hb1))
  obtain ⟨y0, y1, y2, y3, y4⟩ := box_cells hbx
  have z0 := box_frozen hbx 0
  have z1 := box_frozen hbx 1
  have z2 := box_frozen hbx 2
  have z3 := box_frozen hbx 3
  have z4 := box_frozen hbx 4
  clear hbx hb1
  go_wp2_with fail
  refine bodyPost_ret (results_row1 rfl _ _ w.heap.size 37 _ (0, 0) _ _ rfl rfl (set_five HB.out.1) Try.underlying37 rfl Try.sizD) rfl ?_
  exact ⟨rfl, set_five_below HB.out.2 (Nat.le_refl _)⟩
set_option maxHeartbeats 4000000 in
set_option maxRecDepth 100000 in
theorem rdoes_sum2 (l : List Dt) (p : Option Addr) (cap : Nat) (w : World) (hlm : l.length ≤ maxLen) (hcap : l.length ≤ cap) (hl : Lies w l p) :
    Calls Try.prog 33 #[.int .i64 2, .slice p l.length cap] w fun e w' => e = .returned (sumsV l (sumB 2 l)) ∧ Below w.heap.size w w' := by
  obtain ⟨nz, dz, ez, hz⟩ := sumsV_shape l (sumB 2 l)
  have HS := Lib.hid (fun W (hb : Below w.heap.size w W) => rSums_any 2 (by omega) l p cap W hlm hcap (hl.below hb))
  rw [hz] at HS ⊢
  clear hz hlm hcap hl
  go_enter Try.func33, Try.ntmps33
  go_wp2_with fail
  refine (HS.out _ (box_below w _)).mono ?_
  rintro _ w1 ⟨rfl, hb1⟩
  have hbx := one_box hb1
  have HB := Lib.hid (And.intro hbx (below_after hb1))
  obtain ⟨y0, y1, y2, y3, y4⟩ := box_cells hbx
  have z0 := box_frozen hbx 0
  have z1 := box_frozen hbx 1
  have z2 := box_frozen hbx 2
  have z3 := box_frozen hbx 3
  have z4 := box_frozen hbx 4
  clear hbx hb1
  go_wp2_with fail
  refine bodyPost_ret (results_row1 rfl _ _ w.heap.size 37 _ (0, 0) _ _ rfl rfl (set_five HB.out.1) Try.underlying37 rfl Try.sizD) rfl ?_
  exact ⟨rfl, set_five_below HB.out.2 (Nat.le_refl _)⟩
set_option maxHeartbeats 4000000 in
set_option maxRecDepth 100000 in
theorem rdoes_sum3 (l : List Dt) (p : Option Addr) (cap : Nat) (w : World) (hlm : l.length ≤ maxLen) (hcap : l.length ≤ cap) (hl : Lies w l p) :
    Calls Try.prog 33 #[.int .i64 3, .slice p l.length cap] w fun e w' => e = .returned (sumsV l (sumB 3 l)) ∧ Below w.heap.size w w' := by
  obtain ⟨nz, dz, ez, hz⟩ := sumsV_shape l (sumB 3 l)
  have HS := Lib.hid (fun W (hb : Below w.heap.size w W) => rSums_any 3 (by omega) l p cap W hlm hcap (hl.below hb))
  rw [hz] at HS ⊢
  clear hz hlm hcap hl
  go_enter Try.func33, Try.ntmps33
  go_wp2_with fail
  refine (HS.out _ (box_below w _)).mono ?_
  rintro _ w1 ⟨rfl, hb1⟩
  have hbx := one_box hb1
  have HB := Lib.hid (And.intro hbx (below_after hb1))
  obtain ⟨y0, y1, y2, y3, y4⟩ := box_cells hbx
  have z0 := box_frozen hbx 0
  have z1 := box_frozen hbx 1
  have z2 := box_frozen hbx 2
  have z3 := box_frozen hbx 3
  have z4 := box_frozen hbx 4
  clear hbx hb1
  go_wp2_with fail
  refine bodyPost_ret (results_row1 rfl _ _ w.heap.size 37 _ (0, 0) _ _ rfl rfl (set_five HB.out.1) Try.underlying37 rfl Try.sizD) rfl ?_
  exact ⟨rfl, set_five_below HB.out.2 (Nat.le_refl _)⟩
set_option maxHeartbeats 4000000 in
set_option maxRecDepth 100000 in
theorem rdoes4_bada (t u : Dt) (p : Option Addr) (cap : Nat) (w : World) (h1 : t.kd ≠ 0) (hl : [t, u] = [] ∨ ∃ b o, p = some ⟨b, o, none⟩ ∧ Dt.AllAt w [t, u] b o) :
    Calls Try.prog 33 #[.int .i64 4, .slice p 2 cap] w fun e w' => Gives (zeroD, 1) e w' ∧ Below w.heap.size w w' := by
  obtain ⟨b, o, k, n, d, s, l, q, c, k', n', d', s', l', q', c', rfl, rfl, rfl, ⟨hk, hn, hd, hlm⟩, ⟨hk', hn', hd', hlm'⟩, hat, hat', ⟨e0, e1, e2, e3, e4⟩, ⟨f0, f1, f2, f3, f4⟩⟩ := two_args hl
  have HE := Lib.hid (And.intro e0 (And.intro e1 (And.intro e2 (And.intro e3 e4))))
  have HF := Lib.hid (And.intro f0 (And.intro f1 (And.intro f2 (And.intro f3 f4))))
  have HA := Lib.hid (And.intro hat hat')
  have HI := Lib.hid (And.intro hk (And.intro hn (And.intro hd (And.intro hk' (And.intro hn' hd')))))
  have HLM := Lib.hid (And.intro hlm hlm')
  have HNE := Lib.hid (show b ≠ w.heap.size from by have := cell_lt e0; omega)
  clear e0 e1 e2 e3 e4 f0 f1 f2 f3 f4 hat hat' hk hn hd hk' hn' hd' hl hlm hlm'
  have h1 : k ≠ 0 := h1
  have hq : (k != 0) = true := by rw [bne_iff_ne]; exact h1
  go_enter Try.func33, Try.ntmps33
  go_upto_region 9 with fail
  obtain ⟨W, hW⟩ : ∃ W, w.alloc (Obj.cells #[.int .i64 0, .int .i64 0, .int .i64 0, .string ⟨#[]⟩, .slice none 0 0] 37) = W := ⟨_, rfl⟩
  have hbw : Below w.heap.size w W := hW ▸ box_below w _
  have hbx := hW ▸ at_new w (Obj.cells #[.int .i64 0, .int .i64 0, .int .i64 0, .string ⟨#[]⟩, .slice none 0 0] 37)
  rw [hW]
  have HB := Lib.hid (And.intro hbx hbw)
  obtain ⟨y0, y1, y2, y3, y4⟩ := box_cells hbx
  have z0 := box_frozen hbx 0
  have z1 := box_frozen hbx 1
  have z2 := box_frozen hbx 2
  have z3 := box_frozen hbx 3
  have z4 := box_frozen hbx 4
  have e0 := cell_on hbw _ _ _ HE.out.1
  have e1 := cell_on hbw _ _ _ HE.out.2.1
  have e2 := cell_on hbw _ _ _ HE.out.2.2.1
  have e3 := cell_on hbw _ _ _ HE.out.2.2.2.1
  have e4 := cell_on hbw _ _ _ HE.out.2.2.2.2
  have f0 := cell_on hbw _ _ _ HF.out.1
  have f1 := cell_on hbw _ _ _ HF.out.2.1
  have f2 := cell_on hbw _ _ _ HF.out.2.2.1
  have f3 := cell_on hbw _ _ _ HF.out.2.2.2.1
  have f4 := cell_on hbw _ _ _ HF.out.2.2.2.2
  clear hW hbw hbx
  go_wp2_with fail
  refine bodyPost_ret (results_row1 rfl _ _ w.heap.size 37 _ (0, 0) _ _ rfl rfl (set_five HB.out.1) Try.underlying37 rfl Try.sizD) rfl ?_
  exact ⟨gives_zero rfl, set_five_below HB.out.2 (Nat.le_refl _)⟩
set_option maxHeartbeats 4000000 in
set_option maxRecDepth 100000 in
theorem rdoes4_badb (t u : Dt) (p : Option Addr) (cap : Nat) (w : World) (h1 : t.kd = 0) (h2 : u.kd ≠ 0) (hl : [t, u] = [] ∨ ∃ b o, p = some ⟨b, o, none⟩ ∧ Dt.AllAt w [t, u] b o) :
    Calls Try.prog 33 #[.int .i64 4, .slice p 2 cap] w fun e w' => Gives (zeroD, 1) e w' ∧ Below w.heap.size w w' := by
  obtain ⟨b, o, k, n, d, s, l, q, c, k', n', d', s', l', q', c', rfl, rfl, rfl, ⟨hk, hn, hd, hlm⟩, ⟨hk', hn', hd', hlm'⟩, hat, hat', ⟨e0, e1, e2, e3, e4⟩, ⟨f0, f1, f2, f3, f4⟩⟩ := two_args hl
  have HE := Lib.hid (And.intro e0 (And.intro e1 (And.intro e2 (And.intro e3 e4))))
  have HF := Lib.hid (And.intro f0 (And.intro f1 (And.intro f2 (And.intro f3 f4))))
  have HA := Lib.hid (And.intro hat hat')
  have HI := Lib.hid (And.intro hk (And.intro hn (And.intro hd (And.intro hk' (And.intro hn' hd')))))
  have HLM := Lib.hid (And.intro hlm hlm')
  have HNE := Lib.hid (show b ≠ w.heap.size from by have := cell_lt e0; omega)
  clear e0 e1 e2 e3 e4 f0 f1 f2 f3 f4 hat hat' hk hn hd hk' hn' hd' hl hlm hlm'
  have h1 : k = 0 := h1
  subst h1
  have h2 : k' ≠ 0 := h2
  have hq : (k' != 0) = true := by rw [bne_iff_ne]; exact h2
  go_enter Try.func33, Try.ntmps33
  go_upto_region 9 with fail
  obtain ⟨W, hW⟩ : ∃ W, w.alloc (Obj.cells #[.int .i64 0, .int .i64 0, .int .i64 0, .string ⟨#[]⟩, .slice none 0 0] 37) = W := ⟨_, rfl⟩
  have hbw : Below w.heap.size w W := hW ▸ box_below w _
  have hbx := hW ▸ at_new w (Obj.cells #[.int .i64 0, .int .i64 0, .int .i64 0, .string ⟨#[]⟩, .slice none 0 0] 37)
  rw [hW]
  have HB := Lib.hid (And.intro hbx hbw)
  obtain ⟨y0, y1, y2, y3, y4⟩ := box_cells hbx
  have z0 := box_frozen hbx 0
  have z1 := box_frozen hbx 1
  have z2 := box_frozen hbx 2
  have z3 := box_frozen hbx 3
  have z4 := box_frozen hbx 4
  have e0 := cell_on hbw _ _ _ HE.out.1
  have e1 := cell_on hbw _ _ _ HE.out.2.1
  have e2 := cell_on hbw _ _ _ HE.out.2.2.1
  have e3 := cell_on hbw _ _ _ HE.out.2.2.2.1
  have e4 := cell_on hbw _ _ _ HE.out.2.2.2.2
  have f0 := cell_on hbw _ _ _ HF.out.1
  have f1 := cell_on hbw _ _ _ HF.out.2.1
  have f2 := cell_on hbw _ _ _ HF.out.2.2.1
  have f3 := cell_on hbw _ _ _ HF.out.2.2.2.1
  have f4 := cell_on hbw _ _ _ HF.out.2.2.2.2
  clear hW hbw hbx
  go_wp2_with fail
  refine bodyPost_ret (results_row1 rfl _ _ w.heap.size 37 _ (0, 0) _ _ rfl rfl (set_five HB.out.1) Try.underlying37 rfl Try.sizD) rfl ?_
  exact ⟨gives_zero rfl, set_five_below HB.out.2 (Nat.le_refl _)⟩
set_option maxHeartbeats 4000000 in
set_option maxRecDepth 100000 in
theorem rdoes5_bada (t u : Dt) (p : Option Addr) (cap : Nat) (w : World) (h1 : t.kd ≠ 0) (hl : [t, u] = [] ∨ ∃ b o, p = some ⟨b, o, none⟩ ∧ Dt.AllAt w [t, u] b o) :
    Calls Try.prog 33 #[.int .i64 5, .slice p 2 cap] w fun e w' => Gives (zeroD, 1) e w' ∧ Below w.heap.size w w' := by
  obtain ⟨b, o, k, n, d, s, l, q, c, k', n', d', s', l', q', c', rfl, rfl, rfl, ⟨hk, hn, hd, hlm⟩, ⟨hk', hn', hd', hlm'⟩, hat, hat', ⟨e0, e1, e2, e3, e4⟩, ⟨f0, f1, f2, f3, f4⟩⟩ := two_args hl
  have HE := Lib.hid (And.intro e0 (And.intro e1 (And.intro e2 (And.intro e3 e4))))
  have HF := Lib.hid (And.intro f0 (And.intro f1 (And.intro f2 (And.intro f3 f4))))
  have HA := Lib.hid (And.intro hat hat')
  have HI := Lib.hid (And.intro hk (And.intro hn (And.intro hd (And.intro hk' (And.intro hn' hd')))))
  have HLM := Lib.hid (And.intro hlm hlm')
  have HNE := Lib.hid (show b ≠ w.heap.size from by have := cell_lt e0; omega)
  clear e0 e1 e2 e3 e4 f0 f1 f2 f3 f4 hat hat' hk hn hd hk' hn' hd' hl hlm hlm'
  have h1 : k ≠ 0 := h1
  have hq : (k != 0) = true := by rw [bne_iff_ne]; exact h1
  go_enter Try.func33, Try.ntmps33
  go_upto_region 9 with fail
  obtain ⟨W, hW⟩ : ∃ W, w.alloc (Obj.cells #[.int .i64 0, .int .i64 0, .int .i64 0, .string ⟨#[]⟩, .slice none 0 0] 37) = W := ⟨_, rfl⟩
  have hbw : Below w.heap.size w W := hW ▸ box_below w _
  have hbx := hW ▸ at_new w (Obj.cells #[.int .i64 0, .int .i64 0, .int .i64 0, .string ⟨#[]⟩, .slice none 0 0] 37)
  rw [hW]
  have HB := Lib.hid (And.intro hbx hbw)
  obtain ⟨y0, y1, y2, y3, y4⟩ := box_cells hbx
  have z0 := box_frozen hbx 0
  have z1 := box_frozen hbx 1
  have z2 := box_frozen hbx 2
  have z3 := box_frozen hbx 3
  have z4 := box_frozen hbx 4
  have e0 := cell_on hbw _ _ _ HE.out.1
  have e1 := cell_on hbw _ _ _ HE.out.2.1
  have e2 := cell_on hbw _ _ _ HE.out.2.2.1
  have e3 := cell_on hbw _ _ _ HE.out.2.2.2.1
  have e4 := cell_on hbw _ _ _ HE.out.2.2.2.2
  have f0 := cell_on hbw _ _ _ HF.out.1
  have f1 := cell_on hbw _ _ _ HF.out.2.1
  have f2 := cell_on hbw _ _ _ HF.out.2.2.1
  have f3 := cell_on hbw _ _ _ HF.out.2.2.2.1
  have f4 := cell_on hbw _ _ _ HF.out.2.2.2.2
  clear hW hbw hbx
  go_wp2_with fail
  refine bodyPost_ret (results_row1 rfl _ _ w.heap.size 37 _ (0, 0) _ _ rfl rfl (set_five HB.out.1) Try.underlying37 rfl Try.sizD) rfl ?_
  exact ⟨gives_zero rfl, set_five_below HB.out.2 (Nat.le_refl _)⟩
set_option maxHeartbeats 4000000 in
set_option maxRecDepth 100000 in
theorem rdoes5_badb (t u : Dt) (p : Option Addr) (cap : Nat) (w : World) (h1 : t.kd = 0) (h2 : u.kd ≠ 0) (hl : [t, u] = [] ∨ ∃ b o, p = some ⟨b, o, none⟩ ∧ Dt.AllAt w [t, u] b o) :
    Calls Try.prog 33 #[.int .i64 5, .slice p 2 cap] w fun e w' => Gives (zeroD, 1) e w' ∧ Below w.heap.size w w' := by
  obtain ⟨b, o, k, n, d, s, l, q, c, k', n', d', s', l', q', c', rfl, rfl, rfl, ⟨hk, hn, hd, hlm⟩, ⟨hk', hn', hd', hlm'⟩, hat, hat', ⟨e0, e1, e2, e3, e4⟩, ⟨f0, f1, f2, f3, f4⟩⟩ := two_args hl
  have HE := Lib.hid (And.intro e0 (And.intro e1 (And.intro e2 (And.intro e3 e4))))
  have HF := Lib.hid (And.intro f0 (And.intro f1 (And.intro f2 (And.intro f3 f4))))
  have HA := Lib.hid (And.intro hat hat')
  have HI := Lib.hid (And.intro hk (And.intro hn (And.intro hd (And.intro hk' (And.intro hn' hd')))))
  have HLM := Lib.hid (And.intro hlm hlm')
  have HNE := Lib.hid (show b ≠ w.heap.size from by have := cell_lt e0; omega)
  clear e0 e1 e2 e3 e4 f0 f1 f2 f3 f4 hat hat' hk hn hd hk' hn' hd' hl hlm hlm'
  have h1 : k = 0 := h1
  subst h1
  have h2 : k' ≠ 0 := h2
  have hq : (k' != 0) = true := by rw [bne_iff_ne]; exact h2
  go_enter Try.func33, Try.ntmps33
  go_upto_region 9 with fail
  obtain ⟨W, hW⟩ : ∃ W, w.alloc (Obj.cells #[.int .i64 0, .int .i64 0, .int .i64 0, .string ⟨#[]⟩, .slice none 0 0] 37) = W := ⟨_, rfl⟩
  have hbw : Below w.heap.size w W := hW ▸ box_below w _
  have hbx := hW ▸ at_new w (Obj.cells #[.int .i64 0, .int .i64 0, .int .i64 0, .string ⟨#[]⟩, .slice none 0 0] 37)
  rw [hW]
  have HB := Lib.hid (And.intro hbx hbw)
  obtain ⟨y0, y1, y2, y3, y4⟩ := box_cells hbx
  have z0 := box_frozen hbx 0
  have z1 := box_frozen hbx 1
  have z2 := box_frozen hbx 2
  have z3 := box_frozen hbx 3
  have z4 := box_frozen hbx 4
  have e0 := cell_on hbw _ _ _ HE.out.1
  have e1 := cell_on hbw _ _ _ HE.out.2.1
  have e2 := cell_on hbw _ _ _ HE.out.2.2.1
  have e3 := cell_on hbw _ _ _ HE.out.2.2.2.1
  have e4 := cell_on hbw _ _ _ HE.out.2.2.2.2
  have f0 := cell_on hbw _ _ _ HF.out.1
  have f1 := cell_on hbw _ _ _ HF.out.2.1
  have f2 := cell_on hbw _ _ _ HF.out.2.2.1
  have f3 := cell_on hbw _ _ _ HF.out.2.2.2.1
  have f4 := cell_on hbw _ _ _ HF.out.2.2.2.2
  clear hW hbw hbx
  go_wp2_with fail
  refine bodyPost_ret (results_row1 rfl _ _ w.heap.size 37 _ (0, 0) _ _ rfl rfl (set_five HB.out.1) Try.underlying37 rfl Try.sizD) rfl ?_
  exact ⟨gives_zero rfl, set_five_below HB.out.2 (Nat.le_refl _)⟩
set_option maxHeartbeats 4000000 in
set_option maxRecDepth 100000 in
theorem rdoes4 (t u : Dt) (p : Option Addr) (cap : Nat) (w : World) (h1 : t.kd = 0) (h2 : u.kd = 0) (hl : [t, u] = [] ∨ ∃ b o, p = some ⟨b, o, none⟩ ∧ Dt.AllAt w [t, u] b o) :
    Calls Try.prog 33 #[.int .i64 4, .slice p 2 cap] w fun e w' => Gives (boolD (t.alike u), 0) e w' ∧ Below w.heap.size w w' := by
  obtain ⟨r, hrr⟩ : ∃ r, t.alike u = r := ⟨_, rfl⟩
  obtain ⟨y, hy⟩ : ∃ y, (if r = true then (1 : Int) else 0) = y := ⟨_, rfl⟩
  rw [hrr]
  have HR := Lib.hid hrr
  have HY := Lib.hid hy
  clear hrr hy
  obtain ⟨b, o, k, n, d, s, l, q, c, k', n', d', s', l', q', c', rfl, rfl, rfl, ⟨hk, hn, hd, hlm⟩, ⟨hk', hn', hd', hlm'⟩, hat, hat', ⟨e0, e1, e2, e3, e4⟩, ⟨f0, f1, f2, f3, f4⟩⟩ := two_args hl
  have HE := Lib.hid (And.intro e0 (And.intro e1 (And.intro e2 (And.intro e3 e4))))
  have HF := Lib.hid (And.intro f0 (And.intro f1 (And.intro f2 (And.intro f3 f4))))
  have HA := Lib.hid (And.intro hat hat')
  have HI := Lib.hid (And.intro hk (And.intro hn (And.intro hd (And.intro hk' (And.intro hn' hd')))))
  have HLM := Lib.hid (And.intro hlm hlm')
  have HNE := Lib.hid (show b ≠ w.heap.size from by have := cell_lt e0; omega)
  clear e0 e1 e2 e3 e4 f0 f1 f2 f3 f4 hat hat' hk hn hd hk' hn' hd' hl hlm hlm'
  have h1 : k = 0 := h1
  have h2 : k' = 0 := h2
  subst h1 h2
  go_enter Try.func33, Try.ntmps33
  go_upto_region 9 with fail
  obtain ⟨W, hW⟩ : ∃ W, w.alloc (Obj.cells #[.int .i64 0, .int .i64 0, .int .i64 0, .string ⟨#[]⟩, .slice none 0 0] 37) = W := ⟨_, rfl⟩
  have hbw : Below w.heap.size w W := hW ▸ box_below w _
  have hbx := hW ▸ at_new w (Obj.cells #[.int .i64 0, .int .i64 0, .int .i64 0, .string ⟨#[]⟩, .slice none 0 0] 37)
  rw [hW]
  have HB := Lib.hid (And.intro hbx hbw)
  have e0 := cell_on hbw _ _ _ HE.out.1
  have e1 := cell_on hbw _ _ _ HE.out.2.1
  have e2 := cell_on hbw _ _ _ HE.out.2.2.1
  have e3 := cell_on hbw _ _ _ HE.out.2.2.2.1
  have e4 := cell_on hbw _ _ _ HE.out.2.2.2.2
  have f0 := cell_on hbw _ _ _ HF.out.1
  have f1 := cell_on hbw _ _ _ HF.out.2.1
  have f2 := cell_on hbw _ _ _ HF.out.2.2.1
  have f3 := cell_on hbw _ _ _ HF.out.2.2.2.1
  have f4 := cell_on hbw _ _ _ HF.out.2.2.2.2
  clear hW hbw hbx
  go_upto_region 12 with fail
  have e0' : W.drew.cell? ⟨b, o, none⟩ = some (.int .i64 0) := e0
  have e1' : W.drew.cell? ⟨b, o + 1, none⟩ = some (.int .i64 n) := e1
  have e2' : W.drew.cell? ⟨b, o + 2, none⟩ = some (.int .i64 d) := e2
  have e3' : W.drew.cell? ⟨b, o + 3, none⟩ = some (.string s) := e3
  have e4' : W.drew.cell? ⟨b, o + 4, none⟩ = some (.slice q l.length c) := e4
  have f0' : W.drew.cell? ⟨b, o + 5, none⟩ = some (.int .i64 0) := f0
  have f1' : W.drew.cell? ⟨b, o + 5 + 1, none⟩ = some (.int .i64 n') := f1
  have f2' : W.drew.cell? ⟨b, o + 5 + 2, none⟩ = some (.int .i64 d') := f2
  have f3' : W.drew.cell? ⟨b, o + 5 + 3, none⟩ = some (.string s') := f3
  have f4' : W.drew.cell? ⟨b, o + 5 + 4, none⟩ = some (.slice q' l'.length c') := f4
  have C := alike_any _ _ _ _ _ W.drew (Nat.le_refl _) (at_drew' (HA.out.1.below HB.out.2)) (at_drew' (HA.out.2.below HB.out.2))
  rw [HR.out] at C
  have HEQ := Lib.hid C; clear C
  go_region_held3 (fun w' => w'.cell? ⟨b, o, none⟩ = some (.int .i64 0) ∧ w'.cell? ⟨b, o + 1, none⟩ = some (.int .i64 n) ∧ w'.cell? ⟨b, o + 2, none⟩ = some (.int .i64 d) ∧ w'.cell? ⟨b, o + 3, none⟩ = some (.string s) ∧ w'.cell? ⟨b, o + 4, none⟩ = some (.slice q l.length c) ∧ w'.cell? ⟨b, o + 5, none⟩ = some (.int .i64 0) ∧ w'.cell? ⟨b, o + 5 + 1, none⟩ = some (.int .i64 n') ∧ w'.cell? ⟨b, o + 5 + 2, none⟩ = some (.int .i64 d') ∧ w'.cell? ⟨b, o + 5 + 3, none⟩ = some (.string s') ∧ w'.cell? ⟨b, o + 5 + 4, none⟩ = some (.slice q' l'.length c'))
    (with_reducible (first | (refine ⟨?_, ?_, ?_, ?_, ?_, ?_, ?_, ?_, ?_, ?_⟩ <;> assumption) | exact ⟨five_other HNE.out e0, five_other HNE.out e1, five_other HNE.out e2, five_other HNE.out e3, five_other HNE.out e4, five_other HNE.out f0, five_other HNE.out f1, five_other HNE.out f2, five_other HNE.out f3, five_other HNE.out f4⟩))
    (first
      | (go_at_call 20
         with_reducible refine Calls.mono (HEQ.out) ?_
         rintro _ w3 ⟨rfl, hb⟩
         have hb' := below_drew hb
         have HB3 := Lib.hid (And.intro (block_on hb' HB.out.1) (below_seq HB.out.2 hb'))
         replace e0 := cell_on hb' _ _ _ e0
         replace e1 := cell_on hb' _ _ _ e1
         replace e2 := cell_on hb' _ _ _ e2
         replace e3 := cell_on hb' _ _ _ e3
         replace e4 := cell_on hb' _ _ _ e4
         replace f0 := cell_on hb' _ _ _ f0
         replace f1 := cell_on hb' _ _ _ f1
         replace f2 := cell_on hb' _ _ _ f2
         replace f3 := cell_on hb' _ _ _ f3
         replace f4 := cell_on hb' _ _ _ f4
         clear hb hb')
      | (go_at_call 63
         with_reducible refine Calls.mono (rtruth_bit _ y HY.out w3) ?_
         rintro _ w4 ⟨rfl, hb⟩
         have hbx := block_on hb HB3.out.1
         have HB4 := Lib.hid (And.intro hbx (below_seq HB3.out.2 hb))
         replace e0 := cell_on hb _ _ _ e0
         replace e1 := cell_on hb _ _ _ e1
         replace e2 := cell_on hb _ _ _ e2
         replace e3 := cell_on hb _ _ _ e3
         replace e4 := cell_on hb _ _ _ e4
         replace f0 := cell_on hb _ _ _ f0
         replace f1 := cell_on hb _ _ _ f1
         replace f2 := cell_on hb _ _ _ f2
         replace f3 := cell_on hb _ _ _ f3
         replace f4 := cell_on hb _ _ _ f4
         obtain ⟨y0, y1, y2, y3, y4⟩ := box_cells hbx
         have z0 := box_frozen hbx 0
         have z1 := box_frozen hbx 1
         have z2 := box_frozen hbx 2
         have z3 := box_frozen hbx 3
         have z4 := box_frozen hbx 4
         clear hbx hb))
  go_wp2_with fail
  refine bodyPost_ret (results_row1 rfl _ _ w.heap.size 37 _ (0, 0) _ _ rfl rfl (set_five HB4.out.1) Try.underlying37 rfl Try.sizD) rfl ?_
  exact ⟨gives_bool HY.out rfl, set_five_below HB4.out.2 (Nat.le_refl _)⟩
set_option maxHeartbeats 4000000 in
set_option maxRecDepth 100000 in
theorem rdoes5 (t u : Dt) (p : Option Addr) (cap : Nat) (w : World) (h1 : t.kd = 0) (h2 : u.kd = 0) (hl : [t, u] = [] ∨ ∃ b o, p = some ⟨b, o, none⟩ ∧ Dt.AllAt w [t, u] b o) :
    Calls Try.prog 33 #[.int .i64 5, .slice p 2 cap] w fun e w' => Gives (boolD (lessF t.nm t.dn u.nm u.dn), 0) e w' ∧ Below w.heap.size w w' := by
  obtain ⟨r, hrr⟩ : ∃ r, lessF t.nm t.dn u.nm u.dn = r := ⟨_, rfl⟩
  obtain ⟨y, hy⟩ : ∃ y, (if r = true then (1 : Int) else 0) = y := ⟨_, rfl⟩
  rw [hrr]
  have HY := Lib.hid hy
  obtain ⟨b, o, k, n, d, s, l, q, c, k', n', d', s', l', q', c', rfl, rfl, rfl, ⟨hk, hn, hd, hlm⟩, ⟨hk', hn', hd', hlm'⟩, hat, hat', ⟨e0, e1, e2, e3, e4⟩, ⟨f0, f1, f2, f3, f4⟩⟩ := two_args hl
  have HE := Lib.hid (And.intro e0 (And.intro e1 (And.intro e2 (And.intro e3 e4))))
  have HF := Lib.hid (And.intro f0 (And.intro f1 (And.intro f2 (And.intro f3 f4))))
  have HA := Lib.hid (And.intro hat hat')
  have HI := Lib.hid (And.intro hk (And.intro hn (And.intro hd (And.intro hk' (And.intro hn' hd')))))
  have HLM := Lib.hid (And.intro hlm hlm')
  have HNE := Lib.hid (show b ≠ w.heap.size from by have := cell_lt e0; omega)
  clear e0 e1 e2 e3 e4 f0 f1 f2 f3 f4 hat hat' hk hn hd hk' hn' hd' hl hlm hlm'
  have hrr : lessF n d n' d' = r := hrr
  have HLS := Lib.hid (fun W => lessRef_any n d n' d' r hrr W HI.out.2.1 HI.out.2.2.1 HI.out.2.2.2.2.1 HI.out.2.2.2.2.2)
  have h1 : k = 0 := h1
  have h2 : k' = 0 := h2
  subst h1 h2
  clear hrr hy
  go_enter Try.func33, Try.ntmps33
  go_upto_region 9 with fail
  obtain ⟨W, hW⟩ : ∃ W, w.alloc (Obj.cells #[.int .i64 0, .int .i64 0, .int .i64 0, .string ⟨#[]⟩, .slice none 0 0] 37) = W := ⟨_, rfl⟩
  have hbw : Below w.heap.size w W := hW ▸ box_below w _
  have hbx := hW ▸ at_new w (Obj.cells #[.int .i64 0, .int .i64 0, .int .i64 0, .string ⟨#[]⟩, .slice none 0 0] 37)
  rw [hW]
  have HB := Lib.hid (And.intro hbx hbw)
  have e0 := cell_on hbw _ _ _ HE.out.1
  have e1 := cell_on hbw _ _ _ HE.out.2.1
  have e2 := cell_on hbw _ _ _ HE.out.2.2.1
  have e3 := cell_on hbw _ _ _ HE.out.2.2.2.1
  have e4 := cell_on hbw _ _ _ HE.out.2.2.2.2
  have f0 := cell_on hbw _ _ _ HF.out.1
  have f1 := cell_on hbw _ _ _ HF.out.2.1
  have f2 := cell_on hbw _ _ _ HF.out.2.2.1
  have f3 := cell_on hbw _ _ _ HF.out.2.2.2.1
  have f4 := cell_on hbw _ _ _ HF.out.2.2.2.2
  clear hW hbw hbx
  go_upto_region 13 with fail
  have e1' : W.drew.cell? ⟨b, o + 1, none⟩ = some (.int .i64 n) := e1
  have e2' : W.drew.cell? ⟨b, o + 2, none⟩ = some (.int .i64 d) := e2
  have f1' : W.drew.cell? ⟨b, o + 5 + 1, none⟩ = some (.int .i64 n') := f1
  have f2' : W.drew.cell? ⟨b, o + 5 + 2, none⟩ = some (.int .i64 d') := f2
  go_region_held3 (fun w' => w'.cell? ⟨b, o + 1, none⟩ = some (.int .i64 n) ∧ w'.cell? ⟨b, o + 2, none⟩ = some (.int .i64 d) ∧ w'.cell? ⟨b, o + 5 + 1, none⟩ = some (.int .i64 n') ∧ w'.cell? ⟨b, o + 5 + 2, none⟩ = some (.int .i64 d'))
    (with_reducible (first | (refine ⟨?_, ?_, ?_, ?_⟩ <;> assumption) | exact ⟨five_other HNE.out e1, five_other HNE.out e2, five_other HNE.out f1, five_other HNE.out f2⟩))
    (first
      | (go_at_call 64
         with_reducible refine Calls.mono (HLS.out W.drew) ?_
         rintro _ w3 ⟨rfl, hw⟩
         have hb' : Below W.heap.size W w3 := hw ▸ below_drewN W 1
         have HB3 := Lib.hid (And.intro (block_on hb' HB.out.1) (below_seq HB.out.2 hb'))
         replace e1 := cell_on hb' _ _ _ e1
         replace e2 := cell_on hb' _ _ _ e2
         replace f1 := cell_on hb' _ _ _ f1
         replace f2 := cell_on hb' _ _ _ f2
         clear hw hb')
      | (go_at_call 63
         with_reducible refine Calls.mono (rtruth_bit _ y HY.out w3) ?_
         rintro _ w4 ⟨rfl, hb⟩
         have hbx := block_on hb HB3.out.1
         have HB4 := Lib.hid (And.intro hbx (below_seq HB3.out.2 hb))
         replace e1 := cell_on hb _ _ _ e1
         replace e2 := cell_on hb _ _ _ e2
         replace f1 := cell_on hb _ _ _ f1
         replace f2 := cell_on hb _ _ _ f2
         obtain ⟨y0, y1, y2, y3, y4⟩ := box_cells hbx
         have z0 := box_frozen hbx 0
         have z1 := box_frozen hbx 1
         have z2 := box_frozen hbx 2
         have z3 := box_frozen hbx 3
         have z4 := box_frozen hbx 4
         clear hbx hb))
  go_wp2_with fail
  refine bodyPost_ret (results_row1 rfl _ _ w.heap.size 37 _ (0, 0) _ _ rfl rfl (set_five HB4.out.1) Try.underlying37 rfl Try.sizD) rfl ?_
  exact ⟨gives_bool HY.out rfl, set_five_below HB4.out.2 (Nat.le_refl _)⟩
end Go.Proofs.Ytdeelpagoffdjaa.Dat

/- The reference's does: eq? and equal?. -/
namespace Go.Proofs.Ytdeelpagoffdjaa.Dat
open Go.RowKit
open Go.Proofs.Ytdeelpagoffdjaa (addF subF mulF divF lessF lessRef_any)
open NumPlain
set_option linter.unusedVariables false

set_option maxHeartbeats 4000000 in
set_option maxRecDepth 100000 in
theorem rdoes6 (t u : Dt) (p : Option Addr) (cap : Nat) (w : World) (hl : [t, u] = [] ∨ ∃ b o, p = some ⟨b, o, none⟩ ∧ Dt.AllAt w [t, u] b o) :
    Calls Try.prog 33 #[.int .i64 6, .slice p 2 cap] w fun e w' => Gives (boolD (rEqB t u), 0) e w' ∧ Below w.heap.size w w' := by
  obtain ⟨r, hrr⟩ : ∃ r, rEqB t u = r := ⟨_, rfl⟩
  obtain ⟨y, hy⟩ : ∃ y, (if r = true then (1 : Int) else 0) = y := ⟨_, rfl⟩
  rw [hrr]
  have HR := Lib.hid hrr
  have HY := Lib.hid hy
  clear hrr hy
  obtain ⟨b, o, k, n, d, s, l, q, c, k', n', d', s', l', q', c', rfl, rfl, rfl, ⟨hk, hn, hd, hlm⟩, ⟨hk', hn', hd', hlm'⟩, hat, hat', ⟨e0, e1, e2, e3, e4⟩, ⟨f0, f1, f2, f3, f4⟩⟩ := two_args hl
  have HE := Lib.hid (And.intro e0 (And.intro e1 (And.intro e2 (And.intro e3 e4))))
  have HF := Lib.hid (And.intro f0 (And.intro f1 (And.intro f2 (And.intro f3 f4))))
  have HA := Lib.hid (And.intro hat hat')
  have HI := Lib.hid (And.intro hk (And.intro hn (And.intro hd (And.intro hk' (And.intro hn' hd')))))
  have HLM := Lib.hid (And.intro hlm hlm')
  have HNE := Lib.hid (show b ≠ w.heap.size from by have := cell_lt e0; omega)
  clear e0 e1 e2 e3 e4 f0 f1 f2 f3 f4 hat hat' hk hn hd hk' hn' hd' hl hlm hlm'
  go_enter Try.func33, Try.ntmps33
  go_upto_region 15 with fail
  obtain ⟨W, hW⟩ : ∃ W, w.alloc (Obj.cells #[.int .i64 0, .int .i64 0, .int .i64 0, .string ⟨#[]⟩, .slice none 0 0] 37) = W := ⟨_, rfl⟩
  have hbw : Below w.heap.size w W := hW ▸ box_below w _
  have hbx := hW ▸ at_new w (Obj.cells #[.int .i64 0, .int .i64 0, .int .i64 0, .string ⟨#[]⟩, .slice none 0 0] 37)
  rw [hW]
  have HB := Lib.hid (And.intro hbx hbw)
  have e0 := cell_on hbw _ _ _ HE.out.1
  have e1 := cell_on hbw _ _ _ HE.out.2.1
  have e2 := cell_on hbw _ _ _ HE.out.2.2.1
  have e3 := cell_on hbw _ _ _ HE.out.2.2.2.1
  have e4 := cell_on hbw _ _ _ HE.out.2.2.2.2
  have f0 := cell_on hbw _ _ _ HF.out.1
  have f1 := cell_on hbw _ _ _ HF.out.2.1
  have f2 := cell_on hbw _ _ _ HF.out.2.2.1
  have f3 := cell_on hbw _ _ _ HF.out.2.2.2.1
  have f4 := cell_on hbw _ _ _ HF.out.2.2.2.2
  clear hW hbw hbx
  have e0' : W.drew.cell? ⟨b, o, none⟩ = some (.int .i64 k) := e0
  have e1' : W.drew.cell? ⟨b, o + 1, none⟩ = some (.int .i64 n) := e1
  have e2' : W.drew.cell? ⟨b, o + 2, none⟩ = some (.int .i64 d) := e2
  have e3' : W.drew.cell? ⟨b, o + 3, none⟩ = some (.string s) := e3
  have e4' : W.drew.cell? ⟨b, o + 4, none⟩ = some (.slice q l.length c) := e4
  have f0' : W.drew.cell? ⟨b, o + 5, none⟩ = some (.int .i64 k') := f0
  have f1' : W.drew.cell? ⟨b, o + 5 + 1, none⟩ = some (.int .i64 n') := f1
  have f2' : W.drew.cell? ⟨b, o + 5 + 2, none⟩ = some (.int .i64 d') := f2
  have f3' : W.drew.cell? ⟨b, o + 5 + 3, none⟩ = some (.string s') := f3
  have f4' : W.drew.cell? ⟨b, o + 5 + 4, none⟩ = some (.slice q' l'.length c') := f4
  have C := rEq_any _ _ _ _ W.drew (at_drew' (HA.out.1.below HB.out.2)) (at_drew' (HA.out.2.below HB.out.2))
  rw [HR.out] at C
  have HEQ := Lib.hid C; clear C
  go_region_held3 (fun w' => w'.cell? ⟨b, o, none⟩ = some (.int .i64 k) ∧ w'.cell? ⟨b, o + 1, none⟩ = some (.int .i64 n) ∧ w'.cell? ⟨b, o + 2, none⟩ = some (.int .i64 d) ∧ w'.cell? ⟨b, o + 3, none⟩ = some (.string s) ∧ w'.cell? ⟨b, o + 4, none⟩ = some (.slice q l.length c) ∧ w'.cell? ⟨b, o + 5, none⟩ = some (.int .i64 k') ∧ w'.cell? ⟨b, o + 5 + 1, none⟩ = some (.int .i64 n') ∧ w'.cell? ⟨b, o + 5 + 2, none⟩ = some (.int .i64 d') ∧ w'.cell? ⟨b, o + 5 + 3, none⟩ = some (.string s') ∧ w'.cell? ⟨b, o + 5 + 4, none⟩ = some (.slice q' l'.length c'))
    (with_reducible (first | (refine ⟨?_, ?_, ?_, ?_, ?_, ?_, ?_, ?_, ?_, ?_⟩ <;> assumption) | exact ⟨five_other HNE.out e0, five_other HNE.out e1, five_other HNE.out e2, five_other HNE.out e3, five_other HNE.out e4, five_other HNE.out f0, five_other HNE.out f1, five_other HNE.out f2, five_other HNE.out f3, five_other HNE.out f4⟩))
    (first
      | (go_at_call 65
         with_reducible refine Calls.mono (HEQ.out) ?_
         rintro _ w3 ⟨rfl, hb⟩
         have hb' := below_drew hb
         have HB3 := Lib.hid (And.intro (block_on hb' HB.out.1) (below_seq HB.out.2 hb'))
         replace e0 := cell_on hb' _ _ _ e0
         replace e1 := cell_on hb' _ _ _ e1
         replace e2 := cell_on hb' _ _ _ e2
         replace e3 := cell_on hb' _ _ _ e3
         replace e4 := cell_on hb' _ _ _ e4
         replace f0 := cell_on hb' _ _ _ f0
         replace f1 := cell_on hb' _ _ _ f1
         replace f2 := cell_on hb' _ _ _ f2
         replace f3 := cell_on hb' _ _ _ f3
         replace f4 := cell_on hb' _ _ _ f4
         clear hb hb')
      | (go_at_call 63
         with_reducible refine Calls.mono (rtruth_bit _ y HY.out w3) ?_
         rintro _ w4 ⟨rfl, hb⟩
         have hbx := block_on hb HB3.out.1
         have HB4 := Lib.hid (And.intro hbx (below_seq HB3.out.2 hb))
         replace e0 := cell_on hb _ _ _ e0
         replace e1 := cell_on hb _ _ _ e1
         replace e2 := cell_on hb _ _ _ e2
         replace e3 := cell_on hb _ _ _ e3
         replace e4 := cell_on hb _ _ _ e4
         replace f0 := cell_on hb _ _ _ f0
         replace f1 := cell_on hb _ _ _ f1
         replace f2 := cell_on hb _ _ _ f2
         replace f3 := cell_on hb _ _ _ f3
         replace f4 := cell_on hb _ _ _ f4
         obtain ⟨y0, y1, y2, y3, y4⟩ := box_cells hbx
         have z0 := box_frozen hbx 0
         have z1 := box_frozen hbx 1
         have z2 := box_frozen hbx 2
         have z3 := box_frozen hbx 3
         have z4 := box_frozen hbx 4
         clear hbx hb))
  go_wp2_with fail
  refine bodyPost_ret (results_row1 rfl _ _ w.heap.size 37 _ (0, 0) _ _ rfl rfl (set_five HB4.out.1) Try.underlying37 rfl Try.sizD) rfl ?_
  exact ⟨gives_bool HY.out rfl, set_five_below HB4.out.2 (Nat.le_refl _)⟩
set_option maxHeartbeats 4000000 in
set_option maxRecDepth 100000 in
theorem rdoes7_bad (t u : Dt) (p : Option Addr) (cap : Nat) (w : World) (hc : (eqD t u 1000).2 < 0) (hl : [t, u] = [] ∨ ∃ b o, p = some ⟨b, o, none⟩ ∧ Dt.AllAt w [t, u] b o) :
    Calls Try.prog 33 #[.int .i64 7, .slice p 2 cap] w fun e w' => Gives (zeroD, 3) e w' ∧ Below w.heap.size w w' := by
  have HQ := Lib.hid (rEqual_any t.size t (Nat.le_refl _))
  obtain ⟨⟨r, m⟩, hrr⟩ : ∃ r, eqD t u 1000 = r := ⟨_, rfl⟩
  rw [hrr] at hc
  try rw [hrr]
  simp only at hc ⊢
  have HR := Lib.hid hrr
  obtain ⟨y, hy⟩ : ∃ y, (if r = true then (1 : Int) else 0) = y := ⟨_, rfl⟩
  have HY := Lib.hid hy
  clear hrr hy
  obtain ⟨b, o, k, n, d, s, l, q, c, k', n', d', s', l', q', c', rfl, rfl, rfl, ⟨hk, hn, hd, hlm⟩, ⟨hk', hn', hd', hlm'⟩, hat, hat', ⟨e0, e1, e2, e3, e4⟩, ⟨f0, f1, f2, f3, f4⟩⟩ := two_args hl
  have HE := Lib.hid (And.intro e0 (And.intro e1 (And.intro e2 (And.intro e3 e4))))
  have HF := Lib.hid (And.intro f0 (And.intro f1 (And.intro f2 (And.intro f3 f4))))
  have HA := Lib.hid (And.intro hat hat')
  have HI := Lib.hid (And.intro hk (And.intro hn (And.intro hd (And.intro hk' (And.intro hn' hd')))))
  have HLM := Lib.hid (And.intro hlm hlm')
  have HNE := Lib.hid (show b ≠ w.heap.size from by have := cell_lt e0; omega)
  clear e0 e1 e2 e3 e4 f0 f1 f2 f3 f4 hat hat' hk hn hd hk' hn' hd' hl hlm hlm'
  go_enter Try.func33, Try.ntmps33
  go_upto_region 18 with fail
  obtain ⟨W, hW⟩ : ∃ W, (w.alloc (Obj.cells #[.int .i64 0, .int .i64 0, .int .i64 0, .string ⟨#[]⟩, .slice none 0 0] 37)).alloc (Obj.cells #[.int .i64 1000] 3) = W := ⟨_, rfl⟩
  have hx := two_blocks w _ _ hW
  rw [hW]
  have HB := Lib.hid hx
  have hbw := hx.2.2
  have hsw := lt_of_block hx.2.1
  clear hW hx
  have e0 := cell_on hbw _ _ _ HE.out.1
  have e1 := cell_on hbw _ _ _ HE.out.2.1
  have e2 := cell_on hbw _ _ _ HE.out.2.2.1
  have e3 := cell_on hbw _ _ _ HE.out.2.2.2.1
  have e4 := cell_on hbw _ _ _ HE.out.2.2.2.2
  have f0 := cell_on hbw _ _ _ HF.out.1
  have f1 := cell_on hbw _ _ _ HF.out.2.1
  have f2 := cell_on hbw _ _ _ HF.out.2.2.1
  have f3 := cell_on hbw _ _ _ HF.out.2.2.2.1
  have f4 := cell_on hbw _ _ _ HF.out.2.2.2.2
  have e0' : W.drew.cell? ⟨b, o, none⟩ = some (.int .i64 k) := e0
  have e1' : W.drew.cell? ⟨b, o + 1, none⟩ = some (.int .i64 n) := e1
  have e2' : W.drew.cell? ⟨b, o + 2, none⟩ = some (.int .i64 d) := e2
  have e3' : W.drew.cell? ⟨b, o + 3, none⟩ = some (.string s) := e3
  have e4' : W.drew.cell? ⟨b, o + 4, none⟩ = some (.slice q l.length c) := e4
  have f0' : W.drew.cell? ⟨b, o + 5, none⟩ = some (.int .i64 k') := f0
  have f1' : W.drew.cell? ⟨b, o + 5 + 1, none⟩ = some (.int .i64 n') := f1
  have f2' : W.drew.cell? ⟨b, o + 5 + 2, none⟩ = some (.int .i64 d') := f2
  have f3' : W.drew.cell? ⟨b, o + 5 + 3, none⟩ = some (.string s') := f3
  have f4' : W.drew.cell? ⟨b, o + 5 + 4, none⟩ = some (.slice q' l'.length c') := f4
  have C := HQ.out _ _ _ 1000 W.drew (w.heap.size + 1) (HA.out.1.on fun b o x h => below_off (w := w) (W := W.drew) hbw.drew (Nat.le_succ _) b o x h) (HA.out.2.on fun b o x h => below_off (w := w) (W := W.drew) hbw.drew (Nat.le_succ _) b o x h) (by omega) (by omega) HB.out.2.1
  rw [HR.out] at C
  have HEQ := Lib.hid C; clear C hbw
  have hblt := cell_lt HE.out.1
  go_region_held3 (fun w' => w'.cell? ⟨b, o, none⟩ = some (.int .i64 k) ∧ w'.cell? ⟨b, o + 1, none⟩ = some (.int .i64 n) ∧ w'.cell? ⟨b, o + 2, none⟩ = some (.int .i64 d) ∧ w'.cell? ⟨b, o + 3, none⟩ = some (.string s) ∧ w'.cell? ⟨b, o + 4, none⟩ = some (.slice q l.length c) ∧ w'.cell? ⟨b, o + 5, none⟩ = some (.int .i64 k') ∧ w'.cell? ⟨b, o + 5 + 1, none⟩ = some (.int .i64 n') ∧ w'.cell? ⟨b, o + 5 + 2, none⟩ = some (.int .i64 d') ∧ w'.cell? ⟨b, o + 5 + 3, none⟩ = some (.string s') ∧ w'.cell? ⟨b, o + 5 + 4, none⟩ = some (.slice q' l'.length c'))
    (with_reducible (first | (refine ⟨?_, ?_, ?_, ?_, ?_, ?_, ?_, ?_, ?_, ?_⟩ <;> assumption) | exact ⟨five_other HNE.out e0, five_other HNE.out e1, five_other HNE.out e2, five_other HNE.out e3, five_other HNE.out e4, five_other HNE.out f0, five_other HNE.out f1, five_other HNE.out f2, five_other HNE.out f3, five_other HNE.out f4⟩))
    (first
      | (go_at_call 66
         with_reducible refine Calls.mono (HEQ.out) ?_
         rintro _ w1 ⟨rfl, hl1, hk1⟩
         have hkb : Keeps (w.heap.size + 1) W w1 := ((Keeps.refl _ W).drew).trans hk1
         have hbk := hkb.block b (by omega) (by omega)
         replace e0 := (World.cell?_of_block hbk).trans e0
         replace e1 := (World.cell?_of_block hbk).trans e1
         replace e2 := (World.cell?_of_block hbk).trans e2
         replace e3 := (World.cell?_of_block hbk).trans e3
         replace e4 := (World.cell?_of_block hbk).trans e4
         replace f0 := (World.cell?_of_block hbk).trans f0
         replace f1 := (World.cell?_of_block hbk).trans f1
         replace f2 := (World.cell?_of_block hbk).trans f2
         replace f3 := (World.cell?_of_block hbk).trans f3
         replace f4 := (World.cell?_of_block hbk).trans f4
         have hbx := (hkb.block w.heap.size (by omega) (by omega)).trans HB.out.1
         have mm := cell_of_one hl1
         have HB1 := Lib.hid (And.intro hbx (hkb.below HB.out.2.2 (by omega)))
         clear hl1 hk1 hkb hbk))
  obtain ⟨y0, y1, y2, y3, y4⟩ := box_cells hbx
  have z0 := box_frozen hbx 0
  have z1 := box_frozen hbx 1
  have z2 := box_frozen hbx 2
  have z3 := box_frozen hbx 3
  have z4 := box_frozen hbx 4
  clear hbx
  go_wp2_with fail
  refine bodyPost_ret (results_row1 rfl _ _ w.heap.size 37 _ (0, 0) _ _ rfl rfl (set_five HB1.out.1) Try.underlying37 rfl Try.sizD) rfl ?_
  exact ⟨gives_zero rfl, set_five_below HB1.out.2 (Nat.le_refl _)⟩
set_option maxHeartbeats 4000000 in
set_option maxRecDepth 100000 in
theorem rdoes7_good (t u : Dt) (p : Option Addr) (cap : Nat) (w : World) (hc : 0 ≤ (eqD t u 1000).2) (hl : [t, u] = [] ∨ ∃ b o, p = some ⟨b, o, none⟩ ∧ Dt.AllAt w [t, u] b o) :
    Calls Try.prog 33 #[.int .i64 7, .slice p 2 cap] w fun e w' => Gives (boolD (eqD t u 1000).1, 0) e w' ∧ Below w.heap.size w w' := by
  have HQ := Lib.hid (rEqual_any t.size t (Nat.le_refl _))
  obtain ⟨⟨r, m⟩, hrr⟩ : ∃ r, eqD t u 1000 = r := ⟨_, rfl⟩
  rw [hrr] at hc
  try rw [hrr]
  simp only at hc ⊢
  have HR := Lib.hid hrr
  obtain ⟨y, hy⟩ : ∃ y, (if r = true then (1 : Int) else 0) = y := ⟨_, rfl⟩
  have HY := Lib.hid hy
  clear hrr hy
  obtain ⟨b, o, k, n, d, s, l, q, c, k', n', d', s', l', q', c', rfl, rfl, rfl, ⟨hk, hn, hd, hlm⟩, ⟨hk', hn', hd', hlm'⟩, hat, hat', ⟨e0, e1, e2, e3, e4⟩, ⟨f0, f1, f2, f3, f4⟩⟩ := two_args hl
  have HE := Lib.hid (And.intro e0 (And.intro e1 (And.intro e2 (And.intro e3 e4))))
  have HF := Lib.hid (And.intro f0 (And.intro f1 (And.intro f2 (And.intro f3 f4))))
  have HA := Lib.hid (And.intro hat hat')
  have HI := Lib.hid (And.intro hk (And.intro hn (And.intro hd (And.intro hk' (And.intro hn' hd')))))
  have HLM := Lib.hid (And.intro hlm hlm')
  have HNE := Lib.hid (show b ≠ w.heap.size from by have := cell_lt e0; omega)
  clear e0 e1 e2 e3 e4 f0 f1 f2 f3 f4 hat hat' hk hn hd hk' hn' hd' hl hlm hlm'
  go_enter Try.func33, Try.ntmps33
  go_upto_region 18 with fail
  obtain ⟨W, hW⟩ : ∃ W, (w.alloc (Obj.cells #[.int .i64 0, .int .i64 0, .int .i64 0, .string ⟨#[]⟩, .slice none 0 0] 37)).alloc (Obj.cells #[.int .i64 1000] 3) = W := ⟨_, rfl⟩
  have hx := two_blocks w _ _ hW
  rw [hW]
  have HB := Lib.hid hx
  have hbw := hx.2.2
  have hsw := lt_of_block hx.2.1
  clear hW hx
  have e0 := cell_on hbw _ _ _ HE.out.1
  have e1 := cell_on hbw _ _ _ HE.out.2.1
  have e2 := cell_on hbw _ _ _ HE.out.2.2.1
  have e3 := cell_on hbw _ _ _ HE.out.2.2.2.1
  have e4 := cell_on hbw _ _ _ HE.out.2.2.2.2
  have f0 := cell_on hbw _ _ _ HF.out.1
  have f1 := cell_on hbw _ _ _ HF.out.2.1
  have f2 := cell_on hbw _ _ _ HF.out.2.2.1
  have f3 := cell_on hbw _ _ _ HF.out.2.2.2.1
  have f4 := cell_on hbw _ _ _ HF.out.2.2.2.2
  have e0' : W.drew.cell? ⟨b, o, none⟩ = some (.int .i64 k) := e0
  have e1' : W.drew.cell? ⟨b, o + 1, none⟩ = some (.int .i64 n) := e1
  have e2' : W.drew.cell? ⟨b, o + 2, none⟩ = some (.int .i64 d) := e2
  have e3' : W.drew.cell? ⟨b, o + 3, none⟩ = some (.string s) := e3
  have e4' : W.drew.cell? ⟨b, o + 4, none⟩ = some (.slice q l.length c) := e4
  have f0' : W.drew.cell? ⟨b, o + 5, none⟩ = some (.int .i64 k') := f0
  have f1' : W.drew.cell? ⟨b, o + 5 + 1, none⟩ = some (.int .i64 n') := f1
  have f2' : W.drew.cell? ⟨b, o + 5 + 2, none⟩ = some (.int .i64 d') := f2
  have f3' : W.drew.cell? ⟨b, o + 5 + 3, none⟩ = some (.string s') := f3
  have f4' : W.drew.cell? ⟨b, o + 5 + 4, none⟩ = some (.slice q' l'.length c') := f4
  have C := HQ.out _ _ _ 1000 W.drew (w.heap.size + 1) (HA.out.1.on fun b o x h => below_off (w := w) (W := W.drew) hbw.drew (Nat.le_succ _) b o x h) (HA.out.2.on fun b o x h => below_off (w := w) (W := W.drew) hbw.drew (Nat.le_succ _) b o x h) (by omega) (by omega) HB.out.2.1
  rw [HR.out] at C
  have HEQ := Lib.hid C; clear C hbw
  have hblt := cell_lt HE.out.1
  go_region_held3 (fun w' => w'.cell? ⟨b, o, none⟩ = some (.int .i64 k) ∧ w'.cell? ⟨b, o + 1, none⟩ = some (.int .i64 n) ∧ w'.cell? ⟨b, o + 2, none⟩ = some (.int .i64 d) ∧ w'.cell? ⟨b, o + 3, none⟩ = some (.string s) ∧ w'.cell? ⟨b, o + 4, none⟩ = some (.slice q l.length c) ∧ w'.cell? ⟨b, o + 5, none⟩ = some (.int .i64 k') ∧ w'.cell? ⟨b, o + 5 + 1, none⟩ = some (.int .i64 n') ∧ w'.cell? ⟨b, o + 5 + 2, none⟩ = some (.int .i64 d') ∧ w'.cell? ⟨b, o + 5 + 3, none⟩ = some (.string s') ∧ w'.cell? ⟨b, o + 5 + 4, none⟩ = some (.slice q' l'.length c'))
    (with_reducible (first | (refine ⟨?_, ?_, ?_, ?_, ?_, ?_, ?_, ?_, ?_, ?_⟩ <;> assumption) | exact ⟨five_other HNE.out e0, five_other HNE.out e1, five_other HNE.out e2, five_other HNE.out e3, five_other HNE.out e4, five_other HNE.out f0, five_other HNE.out f1, five_other HNE.out f2, five_other HNE.out f3, five_other HNE.out f4⟩))
    (first
      | (go_at_call 66
         with_reducible refine Calls.mono (HEQ.out) ?_
         rintro _ w1 ⟨rfl, hl1, hk1⟩
         have hkb : Keeps (w.heap.size + 1) W w1 := ((Keeps.refl _ W).drew).trans hk1
         have hbk := hkb.block b (by omega) (by omega)
         replace e0 := (World.cell?_of_block hbk).trans e0
         replace e1 := (World.cell?_of_block hbk).trans e1
         replace e2 := (World.cell?_of_block hbk).trans e2
         replace e3 := (World.cell?_of_block hbk).trans e3
         replace e4 := (World.cell?_of_block hbk).trans e4
         replace f0 := (World.cell?_of_block hbk).trans f0
         replace f1 := (World.cell?_of_block hbk).trans f1
         replace f2 := (World.cell?_of_block hbk).trans f2
         replace f3 := (World.cell?_of_block hbk).trans f3
         replace f4 := (World.cell?_of_block hbk).trans f4
         have hbx := (hkb.block w.heap.size (by omega) (by omega)).trans HB.out.1
         have mm := cell_of_one hl1
         have HB1 := Lib.hid (And.intro hbx (hkb.below HB.out.2.2 (by omega)))
         clear hl1 hk1 hkb hbk))
  clear hbx
  go_wp2_with fail
  refine (rtruth_bit _ y HY.out _).mono ?_
  rintro _ w4 ⟨rfl, hb⟩
  have hbx := block_on hb HB1.out.1
  have HB4 := Lib.hid (And.intro hbx (below_seq HB1.out.2 hb))
  obtain ⟨y0, y1, y2, y3, y4⟩ := box_cells hbx
  have z0 := box_frozen hbx 0
  have z1 := box_frozen hbx 1
  have z2 := box_frozen hbx 2
  have z3 := box_frozen hbx 3
  have z4 := box_frozen hbx 4
  clear hbx hb
  go_wp2_with fail
  refine bodyPost_ret (results_row1 rfl _ _ w.heap.size 37 _ (0, 0) _ _ rfl rfl (set_five HB4.out.1) Try.underlying37 rfl Try.sizD) rfl ?_
  exact ⟨gives_bool HY.out rfl, set_five_below HB4.out.2 (Nat.le_refl _)⟩
end Go.Proofs.Ytdeelpagoffdjaa.Dat

/- The reference's does: not, and of which kind a datum is. -/
namespace Go.Proofs.Ytdeelpagoffdjaa.Dat
open Go.RowKit
open Go.Proofs.Ytdeelpagoffdjaa (addF subF mulF divF lessF lessRef_any)
open NumPlain
set_option linter.unusedVariables false

set_option maxHeartbeats 4000000 in
set_option maxRecDepth 100000 in
theorem rdoes8a (t : Dt) (p : Option Addr) (cap : Nat) (w : World) (h1 : t.kd ≠ 1) (hl : [t] = [] ∨ ∃ b o, p = some ⟨b, o, none⟩ ∧ Dt.AllAt w [t] b o) :
    Calls Try.prog 33 #[.int .i64 8, .slice p 1 cap] w fun e w' => Gives (boolD false, 0) e w' ∧ Below w.heap.size w w' := by
  obtain ⟨b, o, k, n, d, s, l, q, c, rfl, rfl, hk, hn, hd, hlm, hat, e0, e1, e2, e3, e4⟩ := one_arg hl
  have HE := Lib.hid (And.intro e0 (And.intro e1 (And.intro e2 (And.intro e3 e4))))
  have HA := Lib.hid hat
  have HI := Lib.hid (And.intro hk (And.intro hn hd))
  have HLM := Lib.hid hlm
  have HNE := Lib.hid (show b ≠ w.heap.size from by have := cell_lt e0; omega)
  clear e0 e1 e2 e3 e4 hat hk hn hd hl hlm
  have h1 : k ≠ 1 := h1
  have hq : (k == 1) = false := by rw [beq_eq_false_iff_ne]; exact h1
  go_enter Try.func33, Try.ntmps33
  go_upto_region 23 with fail
  obtain ⟨W, hW⟩ : ∃ W, w.alloc (Obj.cells #[.int .i64 0, .int .i64 0, .int .i64 0, .string ⟨#[]⟩, .slice none 0 0] 37) = W := ⟨_, rfl⟩
  have hbw : Below w.heap.size w W := hW ▸ box_below w _
  have hbx := hW ▸ at_new w (Obj.cells #[.int .i64 0, .int .i64 0, .int .i64 0, .string ⟨#[]⟩, .slice none 0 0] 37)
  rw [hW]
  have HB := Lib.hid (And.intro hbx hbw)
  have e0 := cell_on hbw _ _ _ HE.out.1
  have e1 := cell_on hbw _ _ _ HE.out.2.1
  have e2 := cell_on hbw _ _ _ HE.out.2.2.1
  have e3 := cell_on hbw _ _ _ HE.out.2.2.2.1
  have e4 := cell_on hbw _ _ _ HE.out.2.2.2.2
  clear hW hbw hbx
  go_wp2_with fail
  refine (rtruth_bit false _ rfl _).mono ?_
  rintro _ w4 ⟨rfl, hb⟩
  have hbx := block_on hb HB.out.1
  have HB4 := Lib.hid (And.intro hbx (below_seq HB.out.2 hb))
  obtain ⟨y0, y1, y2, y3, y4⟩ := box_cells hbx
  have z0 := box_frozen hbx 0
  have z1 := box_frozen hbx 1
  have z2 := box_frozen hbx 2
  have z3 := box_frozen hbx 3
  have z4 := box_frozen hbx 4
  clear hbx hb
  go_wp2_with fail
  refine bodyPost_ret (results_row1 rfl _ _ w.heap.size 37 _ (0, 0) _ _ rfl rfl (set_five HB4.out.1) Try.underlying37 rfl Try.sizD) rfl ?_
  exact ⟨gives_bool (r := false) rfl rfl, set_five_below HB4.out.2 (Nat.le_refl _)⟩
set_option maxHeartbeats 4000000 in
set_option maxRecDepth 100000 in
theorem rdoes8b (t : Dt) (p : Option Addr) (cap : Nat) (w : World) (h1 : t.kd = 1) (h2 : t.nm ≠ 0) (hl : [t] = [] ∨ ∃ b o, p = some ⟨b, o, none⟩ ∧ Dt.AllAt w [t] b o) :
    Calls Try.prog 33 #[.int .i64 8, .slice p 1 cap] w fun e w' => Gives (boolD false, 0) e w' ∧ Below w.heap.size w w' := by
  obtain ⟨b, o, k, n, d, s, l, q, c, rfl, rfl, hk, hn, hd, hlm, hat, e0, e1, e2, e3, e4⟩ := one_arg hl
  have HE := Lib.hid (And.intro e0 (And.intro e1 (And.intro e2 (And.intro e3 e4))))
  have HA := Lib.hid hat
  have HI := Lib.hid (And.intro hk (And.intro hn hd))
  have HLM := Lib.hid hlm
  have HNE := Lib.hid (show b ≠ w.heap.size from by have := cell_lt e0; omega)
  clear e0 e1 e2 e3 e4 hat hk hn hd hl hlm
  have h1 : k = 1 := h1
  subst h1
  have h2 : n ≠ 0 := h2
  have hq : (n == 0) = false := by rw [beq_eq_false_iff_ne]; exact h2
  go_enter Try.func33, Try.ntmps33
  go_upto_region 23 with fail
  obtain ⟨W, hW⟩ : ∃ W, w.alloc (Obj.cells #[.int .i64 0, .int .i64 0, .int .i64 0, .string ⟨#[]⟩, .slice none 0 0] 37) = W := ⟨_, rfl⟩
  have hbw : Below w.heap.size w W := hW ▸ box_below w _
  have hbx := hW ▸ at_new w (Obj.cells #[.int .i64 0, .int .i64 0, .int .i64 0, .string ⟨#[]⟩, .slice none 0 0] 37)
  rw [hW]
  have HB := Lib.hid (And.intro hbx hbw)
  have e0 := cell_on hbw _ _ _ HE.out.1
  have e1 := cell_on hbw _ _ _ HE.out.2.1
  have e2 := cell_on hbw _ _ _ HE.out.2.2.1
  have e3 := cell_on hbw _ _ _ HE.out.2.2.2.1
  have e4 := cell_on hbw _ _ _ HE.out.2.2.2.2
  clear hW hbw hbx
  go_wp2_with fail
  refine (rtruth_bit false _ rfl _).mono ?_
  rintro _ w4 ⟨rfl, hb⟩
  have hbx := block_on hb HB.out.1
  have HB4 := Lib.hid (And.intro hbx (below_seq HB.out.2 hb))
  obtain ⟨y0, y1, y2, y3, y4⟩ := box_cells hbx
  have z0 := box_frozen hbx 0
  have z1 := box_frozen hbx 1
  have z2 := box_frozen hbx 2
  have z3 := box_frozen hbx 3
  have z4 := box_frozen hbx 4
  clear hbx hb
  go_wp2_with fail
  refine bodyPost_ret (results_row1 rfl _ _ w.heap.size 37 _ (0, 0) _ _ rfl rfl (set_five HB4.out.1) Try.underlying37 rfl Try.sizD) rfl ?_
  exact ⟨gives_bool (r := false) rfl rfl, set_five_below HB4.out.2 (Nat.le_refl _)⟩
set_option maxHeartbeats 4000000 in
set_option maxRecDepth 100000 in
theorem rdoes8c (t : Dt) (p : Option Addr) (cap : Nat) (w : World) (h1 : t.kd = 1) (h2 : t.nm = 0) (hl : [t] = [] ∨ ∃ b o, p = some ⟨b, o, none⟩ ∧ Dt.AllAt w [t] b o) :
    Calls Try.prog 33 #[.int .i64 8, .slice p 1 cap] w fun e w' => Gives (boolD true, 0) e w' ∧ Below w.heap.size w w' := by
  obtain ⟨b, o, k, n, d, s, l, q, c, rfl, rfl, hk, hn, hd, hlm, hat, e0, e1, e2, e3, e4⟩ := one_arg hl
  have HE := Lib.hid (And.intro e0 (And.intro e1 (And.intro e2 (And.intro e3 e4))))
  have HA := Lib.hid hat
  have HI := Lib.hid (And.intro hk (And.intro hn hd))
  have HLM := Lib.hid hlm
  have HNE := Lib.hid (show b ≠ w.heap.size from by have := cell_lt e0; omega)
  clear e0 e1 e2 e3 e4 hat hk hn hd hl hlm
  have h1 : k = 1 := h1
  subst h1
  have h2 : n = 0 := h2
  subst h2
  go_enter Try.func33, Try.ntmps33
  go_upto_region 23 with fail
  obtain ⟨W, hW⟩ : ∃ W, w.alloc (Obj.cells #[.int .i64 0, .int .i64 0, .int .i64 0, .string ⟨#[]⟩, .slice none 0 0] 37) = W := ⟨_, rfl⟩
  have hbw : Below w.heap.size w W := hW ▸ box_below w _
  have hbx := hW ▸ at_new w (Obj.cells #[.int .i64 0, .int .i64 0, .int .i64 0, .string ⟨#[]⟩, .slice none 0 0] 37)
  rw [hW]
  have HB := Lib.hid (And.intro hbx hbw)
  have e0 := cell_on hbw _ _ _ HE.out.1
  have e1 := cell_on hbw _ _ _ HE.out.2.1
  have e2 := cell_on hbw _ _ _ HE.out.2.2.1
  have e3 := cell_on hbw _ _ _ HE.out.2.2.2.1
  have e4 := cell_on hbw _ _ _ HE.out.2.2.2.2
  clear hW hbw hbx
  go_wp2_with fail
  refine (rtruth_bit true _ rfl _).mono ?_
  rintro _ w4 ⟨rfl, hb⟩
  have hbx := block_on hb HB.out.1
  have HB4 := Lib.hid (And.intro hbx (below_seq HB.out.2 hb))
  obtain ⟨y0, y1, y2, y3, y4⟩ := box_cells hbx
  have z0 := box_frozen hbx 0
  have z1 := box_frozen hbx 1
  have z2 := box_frozen hbx 2
  have z3 := box_frozen hbx 3
  have z4 := box_frozen hbx 4
  clear hbx hb
  go_wp2_with fail
  refine bodyPost_ret (results_row1 rfl _ _ w.heap.size 37 _ (0, 0) _ _ rfl rfl (set_five HB4.out.1) Try.underlying37 rfl Try.sizD) rfl ?_
  exact ⟨gives_bool (r := true) rfl rfl, set_five_below HB4.out.2 (Nat.le_refl _)⟩
set_option maxHeartbeats 4000000 in
set_option maxRecDepth 100000 in
theorem rdoes9 (t : Dt) (p : Option Addr) (cap : Nat) (w : World) (hl : [t] = [] ∨ ∃ b o, p = some ⟨b, o, none⟩ ∧ Dt.AllAt w [t] b o) :
    Calls Try.prog 33 #[.int .i64 9, .slice p 1 cap] w fun e w' => Gives (boolD (decide (t.kd = 4)), 0) e w' ∧ Below w.heap.size w w' := by
  obtain ⟨b, o, k, n, d, s, l, q, c, rfl, rfl, hk, hn, hd, hlm, hat, e0, e1, e2, e3, e4⟩ := one_arg hl
  have HE := Lib.hid (And.intro e0 (And.intro e1 (And.intro e2 (And.intro e3 e4))))
  have HA := Lib.hid hat
  have HI := Lib.hid (And.intro hk (And.intro hn hd))
  have HLM := Lib.hid hlm
  have HNE := Lib.hid (show b ≠ w.heap.size from by have := cell_lt e0; omega)
  clear e0 e1 e2 e3 e4 hat hk hn hd hl hlm
  obtain ⟨y, hy⟩ : ∃ y, (if (k == 4) = true then (1 : Int) else 0) = y := ⟨_, rfl⟩
  have HY := Lib.hid hy
  clear hy
  go_enter Try.func33, Try.ntmps33
  go_upto_region 33 with fail
  obtain ⟨W, hW⟩ : ∃ W, (w.alloc (Obj.cells #[.int .i64 0, .int .i64 0, .int .i64 0, .string ⟨#[]⟩, .slice none 0 0] 37)).alloc (Obj.cells #[.int .i64 4, .int .i64 6, .int .i64 0, .int .i64 2, .int .i64 1, .int .i64 3, .int .i64 7, .int .i64 (-1)] 3) = W := ⟨_, rfl⟩
  have hx := two_blocks w _ _ hW
  rw [hW]
  have HB := Lib.hid (And.intro hx.1 hx.2.2)
  have e0 := cell_on hx.2.2 _ _ _ HE.out.1
  have m0 : W.cell? ⟨w.heap.size + 1, 0, none⟩ = some (.int .i64 4) := by simp [World.cell?, hx.2.1]
  have HNX := Lib.hid (show w.heap.size + 1 ≠ w.heap.size by omega)
  clear hW hx
  have hw1 : IntKind.i64.wrap ((9 : Int) - 9) = 0 := by decide
  have hw2 : IntKind.i64.wrap (0 : Int) = 0 := by decide
  have e0' : W.drew.cell? ⟨b, o, none⟩ = some (.int .i64 k) := e0
  have m0' : W.drew.cell? ⟨w.heap.size + 1, 0, none⟩ = some (.int .i64 4) := m0
  go_wp2_with fail
  go_region_held3 (fun w' => w'.cell? ⟨b, o, none⟩ = some (.int .i64 k) ∧ w'.cell? ⟨w.heap.size + 1, 0, none⟩ = some (.int .i64 4))
    (with_reducible (first | (refine ⟨?_, ?_⟩ <;> assumption) | exact ⟨five_other HNE.out e0, five_other HNX.out m0⟩))
    (first
      | (go_at_call 63
         with_reducible refine Calls.mono (rtruth_bit _ y HY.out _) ?_
         rintro _ w4 ⟨rfl, hb⟩
         have hb' := below_drew hb
         have hbx := block_on hb' HB.out.1
         have HB4 := Lib.hid (And.intro hbx (below_seq HB.out.2 hb'))
         replace e0 := cell_on hb' _ _ _ e0
         replace m0 := cell_on hb' _ _ _ m0
         obtain ⟨y0, y1, y2, y3, y4⟩ := box_cells hbx
         have z0 := box_frozen hbx 0
         have z1 := box_frozen hbx 1
         have z2 := box_frozen hbx 2
         have z3 := box_frozen hbx 3
         have z4 := box_frozen hbx 4
         clear hbx hb hb'))
  go_wp2_with fail
  refine bodyPost_ret (results_row1 rfl _ _ w.heap.size 37 _ (0, 0) _ _ rfl rfl (set_five HB4.out.1) Try.underlying37 rfl Try.sizD) rfl ?_
  refine ⟨gives_bool (r := decide (k = 4)) ?_ rfl, set_five_below HB4.out.2 (Nat.le_refl _)⟩
  rw [← HY.out]; simp
set_option maxHeartbeats 4000000 in
set_option maxRecDepth 100000 in
theorem rdoes10 (t : Dt) (p : Option Addr) (cap : Nat) (w : World) (hl : [t] = [] ∨ ∃ b o, p = some ⟨b, o, none⟩ ∧ Dt.AllAt w [t] b o) :
    Calls Try.prog 33 #[.int .i64 10, .slice p 1 cap] w fun e w' => Gives (boolD (decide (t.kd = 6)), 0) e w' ∧ Below w.heap.size w w' := by
  obtain ⟨b, o, k, n, d, s, l, q, c, rfl, rfl, hk, hn, hd, hlm, hat, e0, e1, e2, e3, e4⟩ := one_arg hl
  have HE := Lib.hid (And.intro e0 (And.intro e1 (And.intro e2 (And.intro e3 e4))))
  have HA := Lib.hid hat
  have HI := Lib.hid (And.intro hk (And.intro hn hd))
  have HLM := Lib.hid hlm
  have HNE := Lib.hid (show b ≠ w.heap.size from by have := cell_lt e0; omega)
  clear e0 e1 e2 e3 e4 hat hk hn hd hl hlm
  obtain ⟨y, hy⟩ : ∃ y, (if (k == 6) = true then (1 : Int) else 0) = y := ⟨_, rfl⟩
  have HY := Lib.hid hy
  clear hy
  go_enter Try.func33, Try.ntmps33
  go_upto_region 33 with fail
  obtain ⟨W, hW⟩ : ∃ W, (w.alloc (Obj.cells #[.int .i64 0, .int .i64 0, .int .i64 0, .string ⟨#[]⟩, .slice none 0 0] 37)).alloc (Obj.cells #[.int .i64 4, .int .i64 6, .int .i64 0, .int .i64 2, .int .i64 1, .int .i64 3, .int .i64 7, .int .i64 (-1)] 3) = W := ⟨_, rfl⟩
  have hx := two_blocks w _ _ hW
  rw [hW]
  have HB := Lib.hid (And.intro hx.1 hx.2.2)
  have e0 := cell_on hx.2.2 _ _ _ HE.out.1
  have m0 : W.cell? ⟨w.heap.size + 1, 1, none⟩ = some (.int .i64 6) := by simp [World.cell?, hx.2.1]
  have HNX := Lib.hid (show w.heap.size + 1 ≠ w.heap.size by omega)
  clear hW hx
  have hw1 : IntKind.i64.wrap ((10 : Int) - 9) = 1 := by decide
  have hw2 : IntKind.i64.wrap (1 : Int) = 1 := by decide
  have e0' : W.drew.cell? ⟨b, o, none⟩ = some (.int .i64 k) := e0
  have m0' : W.drew.cell? ⟨w.heap.size + 1, 1, none⟩ = some (.int .i64 6) := m0
  go_wp2_with fail
  go_region_held3 (fun w' => w'.cell? ⟨b, o, none⟩ = some (.int .i64 k) ∧ w'.cell? ⟨w.heap.size + 1, 1, none⟩ = some (.int .i64 6))
    (with_reducible (first | (refine ⟨?_, ?_⟩ <;> assumption) | exact ⟨five_other HNE.out e0, five_other HNX.out m0⟩))
    (first
      | (go_at_call 63
         with_reducible refine Calls.mono (rtruth_bit _ y HY.out _) ?_
         rintro _ w4 ⟨rfl, hb⟩
         have hb' := below_drew hb
         have hbx := block_on hb' HB.out.1
         have HB4 := Lib.hid (And.intro hbx (below_seq HB.out.2 hb'))
         replace e0 := cell_on hb' _ _ _ e0
         replace m0 := cell_on hb' _ _ _ m0
         obtain ⟨y0, y1, y2, y3, y4⟩ := box_cells hbx
         have z0 := box_frozen hbx 0
         have z1 := box_frozen hbx 1
         have z2 := box_frozen hbx 2
         have z3 := box_frozen hbx 3
         have z4 := box_frozen hbx 4
         clear hbx hb hb'))
  go_wp2_with fail
  refine bodyPost_ret (results_row1 rfl _ _ w.heap.size 37 _ (0, 0) _ _ rfl rfl (set_five HB4.out.1) Try.underlying37 rfl Try.sizD) rfl ?_
  refine ⟨gives_bool (r := decide (k = 6)) ?_ rfl, set_five_below HB4.out.2 (Nat.le_refl _)⟩
  rw [← HY.out]; simp
set_option maxHeartbeats 4000000 in
set_option maxRecDepth 100000 in
theorem rdoes11 (t : Dt) (p : Option Addr) (cap : Nat) (w : World) (hl : [t] = [] ∨ ∃ b o, p = some ⟨b, o, none⟩ ∧ Dt.AllAt w [t] b o) :
    Calls Try.prog 33 #[.int .i64 11, .slice p 1 cap] w fun e w' => Gives (boolD (decide (t.kd = 0)), 0) e w' ∧ Below w.heap.size w w' := by
  obtain ⟨b, o, k, n, d, s, l, q, c, rfl, rfl, hk, hn, hd, hlm, hat, e0, e1, e2, e3, e4⟩ := one_arg hl
  have HE := Lib.hid (And.intro e0 (And.intro e1 (And.intro e2 (And.intro e3 e4))))
  have HA := Lib.hid hat
  have HI := Lib.hid (And.intro hk (And.intro hn hd))
  have HLM := Lib.hid hlm
  have HNE := Lib.hid (show b ≠ w.heap.size from by have := cell_lt e0; omega)
  clear e0 e1 e2 e3 e4 hat hk hn hd hl hlm
  obtain ⟨y, hy⟩ : ∃ y, (if (k == 0) = true then (1 : Int) else 0) = y := ⟨_, rfl⟩
  have HY := Lib.hid hy
  clear hy
  go_enter Try.func33, Try.ntmps33
  go_upto_region 33 with fail
  obtain ⟨W, hW⟩ : ∃ W, (w.alloc (Obj.cells #[.int .i64 0, .int .i64 0, .int .i64 0, .string ⟨#[]⟩, .slice none 0 0] 37)).alloc (Obj.cells #[.int .i64 4, .int .i64 6, .int .i64 0, .int .i64 2, .int .i64 1, .int .i64 3, .int .i64 7, .int .i64 (-1)] 3) = W := ⟨_, rfl⟩
  have hx := two_blocks w _ _ hW
  rw [hW]
  have HB := Lib.hid (And.intro hx.1 hx.2.2)
  have e0 := cell_on hx.2.2 _ _ _ HE.out.1
  have m0 : W.cell? ⟨w.heap.size + 1, 2, none⟩ = some (.int .i64 0) := by simp [World.cell?, hx.2.1]
  have HNX := Lib.hid (show w.heap.size + 1 ≠ w.heap.size by omega)
  clear hW hx
  have hw1 : IntKind.i64.wrap ((11 : Int) - 9) = 2 := by decide
  have hw2 : IntKind.i64.wrap (2 : Int) = 2 := by decide
  have e0' : W.drew.cell? ⟨b, o, none⟩ = some (.int .i64 k) := e0
  have m0' : W.drew.cell? ⟨w.heap.size + 1, 2, none⟩ = some (.int .i64 0) := m0
  go_wp2_with fail
  go_region_held3 (fun w' => w'.cell? ⟨b, o, none⟩ = some (.int .i64 k) ∧ w'.cell? ⟨w.heap.size + 1, 2, none⟩ = some (.int .i64 0))
    (with_reducible (first | (refine ⟨?_, ?_⟩ <;> assumption) | exact ⟨five_other HNE.out e0, five_other HNX.out m0⟩))
    (first
      | (go_at_call 63
         with_reducible refine Calls.mono (rtruth_bit _ y HY.out _) ?_
         rintro _ w4 ⟨rfl, hb⟩
         have hb' := below_drew hb
         have hbx := block_on hb' HB.out.1
         have HB4 := Lib.hid (And.intro hbx (below_seq HB.out.2 hb'))
         replace e0 := cell_on hb' _ _ _ e0
         replace m0 := cell_on hb' _ _ _ m0
         obtain ⟨y0, y1, y2, y3, y4⟩ := box_cells hbx
         have z0 := box_frozen hbx 0
         have z1 := box_frozen hbx 1
         have z2 := box_frozen hbx 2
         have z3 := box_frozen hbx 3
         have z4 := box_frozen hbx 4
         clear hbx hb hb'))
  go_wp2_with fail
  refine bodyPost_ret (results_row1 rfl _ _ w.heap.size 37 _ (0, 0) _ _ rfl rfl (set_five HB4.out.1) Try.underlying37 rfl Try.sizD) rfl ?_
  refine ⟨gives_bool (r := decide (k = 0)) ?_ rfl, set_five_below HB4.out.2 (Nat.le_refl _)⟩
  rw [← HY.out]; simp
set_option maxHeartbeats 4000000 in
set_option maxRecDepth 100000 in
theorem rdoes12 (t : Dt) (p : Option Addr) (cap : Nat) (w : World) (hl : [t] = [] ∨ ∃ b o, p = some ⟨b, o, none⟩ ∧ Dt.AllAt w [t] b o) :
    Calls Try.prog 33 #[.int .i64 12, .slice p 1 cap] w fun e w' => Gives (boolD (decide (t.kd = 2)), 0) e w' ∧ Below w.heap.size w w' := by
  obtain ⟨b, o, k, n, d, s, l, q, c, rfl, rfl, hk, hn, hd, hlm, hat, e0, e1, e2, e3, e4⟩ := one_arg hl
  have HE := Lib.hid (And.intro e0 (And.intro e1 (And.intro e2 (And.intro e3 e4))))
  have HA := Lib.hid hat
  have HI := Lib.hid (And.intro hk (And.intro hn hd))
  have HLM := Lib.hid hlm
  have HNE := Lib.hid (show b ≠ w.heap.size from by have := cell_lt e0; omega)
  clear e0 e1 e2 e3 e4 hat hk hn hd hl hlm
  obtain ⟨y, hy⟩ : ∃ y, (if (k == 2) = true then (1 : Int) else 0) = y := ⟨_, rfl⟩
  have HY := Lib.hid hy
  clear hy
  go_enter Try.func33, Try.ntmps33
  go_upto_region 33 with fail
  obtain ⟨W, hW⟩ : ∃ W, (w.alloc (Obj.cells #[.int .i64 0, .int .i64 0, .int .i64 0, .string ⟨#[]⟩, .slice none 0 0] 37)).alloc (Obj.cells #[.int .i64 4, .int .i64 6, .int .i64 0, .int .i64 2, .int .i64 1, .int .i64 3, .int .i64 7, .int .i64 (-1)] 3) = W := ⟨_, rfl⟩
  have hx := two_blocks w _ _ hW
  rw [hW]
  have HB := Lib.hid (And.intro hx.1 hx.2.2)
  have e0 := cell_on hx.2.2 _ _ _ HE.out.1
  have m0 : W.cell? ⟨w.heap.size + 1, 3, none⟩ = some (.int .i64 2) := by simp [World.cell?, hx.2.1]
  have HNX := Lib.hid (show w.heap.size + 1 ≠ w.heap.size by omega)
  clear hW hx
  have hw1 : IntKind.i64.wrap ((12 : Int) - 9) = 3 := by decide
  have hw2 : IntKind.i64.wrap (3 : Int) = 3 := by decide
  have e0' : W.drew.cell? ⟨b, o, none⟩ = some (.int .i64 k) := e0
  have m0' : W.drew.cell? ⟨w.heap.size + 1, 3, none⟩ = some (.int .i64 2) := m0
  go_wp2_with fail
  go_region_held3 (fun w' => w'.cell? ⟨b, o, none⟩ = some (.int .i64 k) ∧ w'.cell? ⟨w.heap.size + 1, 3, none⟩ = some (.int .i64 2))
    (with_reducible (first | (refine ⟨?_, ?_⟩ <;> assumption) | exact ⟨five_other HNE.out e0, five_other HNX.out m0⟩))
    (first
      | (go_at_call 63
         with_reducible refine Calls.mono (rtruth_bit _ y HY.out _) ?_
         rintro _ w4 ⟨rfl, hb⟩
         have hb' := below_drew hb
         have hbx := block_on hb' HB.out.1
         have HB4 := Lib.hid (And.intro hbx (below_seq HB.out.2 hb'))
         replace e0 := cell_on hb' _ _ _ e0
         replace m0 := cell_on hb' _ _ _ m0
         obtain ⟨y0, y1, y2, y3, y4⟩ := box_cells hbx
         have z0 := box_frozen hbx 0
         have z1 := box_frozen hbx 1
         have z2 := box_frozen hbx 2
         have z3 := box_frozen hbx 3
         have z4 := box_frozen hbx 4
         clear hbx hb hb'))
  go_wp2_with fail
  refine bodyPost_ret (results_row1 rfl _ _ w.heap.size 37 _ (0, 0) _ _ rfl rfl (set_five HB4.out.1) Try.underlying37 rfl Try.sizD) rfl ?_
  refine ⟨gives_bool (r := decide (k = 2)) ?_ rfl, set_five_below HB4.out.2 (Nat.le_refl _)⟩
  rw [← HY.out]; simp
set_option maxHeartbeats 4000000 in
set_option maxRecDepth 100000 in
theorem rdoes13 (t : Dt) (p : Option Addr) (cap : Nat) (w : World) (hl : [t] = [] ∨ ∃ b o, p = some ⟨b, o, none⟩ ∧ Dt.AllAt w [t] b o) :
    Calls Try.prog 33 #[.int .i64 13, .slice p 1 cap] w fun e w' => Gives (boolD (decide (t.kd = 1)), 0) e w' ∧ Below w.heap.size w w' := by
  obtain ⟨b, o, k, n, d, s, l, q, c, rfl, rfl, hk, hn, hd, hlm, hat, e0, e1, e2, e3, e4⟩ := one_arg hl
  have HE := Lib.hid (And.intro e0 (And.intro e1 (And.intro e2 (And.intro e3 e4))))
  have HA := Lib.hid hat
  have HI := Lib.hid (And.intro hk (And.intro hn hd))
  have HLM := Lib.hid hlm
  have HNE := Lib.hid (show b ≠ w.heap.size from by have := cell_lt e0; omega)
  clear e0 e1 e2 e3 e4 hat hk hn hd hl hlm
  obtain ⟨y, hy⟩ : ∃ y, (if (k == 1) = true then (1 : Int) else 0) = y := ⟨_, rfl⟩
  have HY := Lib.hid hy
  clear hy
  go_enter Try.func33, Try.ntmps33
  go_upto_region 33 with fail
  obtain ⟨W, hW⟩ : ∃ W, (w.alloc (Obj.cells #[.int .i64 0, .int .i64 0, .int .i64 0, .string ⟨#[]⟩, .slice none 0 0] 37)).alloc (Obj.cells #[.int .i64 4, .int .i64 6, .int .i64 0, .int .i64 2, .int .i64 1, .int .i64 3, .int .i64 7, .int .i64 (-1)] 3) = W := ⟨_, rfl⟩
  have hx := two_blocks w _ _ hW
  rw [hW]
  have HB := Lib.hid (And.intro hx.1 hx.2.2)
  have e0 := cell_on hx.2.2 _ _ _ HE.out.1
  have m0 : W.cell? ⟨w.heap.size + 1, 4, none⟩ = some (.int .i64 1) := by simp [World.cell?, hx.2.1]
  have HNX := Lib.hid (show w.heap.size + 1 ≠ w.heap.size by omega)
  clear hW hx
  have hw1 : IntKind.i64.wrap ((13 : Int) - 9) = 4 := by decide
  have hw2 : IntKind.i64.wrap (4 : Int) = 4 := by decide
  have e0' : W.drew.cell? ⟨b, o, none⟩ = some (.int .i64 k) := e0
  have m0' : W.drew.cell? ⟨w.heap.size + 1, 4, none⟩ = some (.int .i64 1) := m0
  go_wp2_with fail
  go_region_held3 (fun w' => w'.cell? ⟨b, o, none⟩ = some (.int .i64 k) ∧ w'.cell? ⟨w.heap.size + 1, 4, none⟩ = some (.int .i64 1))
    (with_reducible (first | (refine ⟨?_, ?_⟩ <;> assumption) | exact ⟨five_other HNE.out e0, five_other HNX.out m0⟩))
    (first
      | (go_at_call 63
         with_reducible refine Calls.mono (rtruth_bit _ y HY.out _) ?_
         rintro _ w4 ⟨rfl, hb⟩
         have hb' := below_drew hb
         have hbx := block_on hb' HB.out.1
         have HB4 := Lib.hid (And.intro hbx (below_seq HB.out.2 hb'))
         replace e0 := cell_on hb' _ _ _ e0
         replace m0 := cell_on hb' _ _ _ m0
         obtain ⟨y0, y1, y2, y3, y4⟩ := box_cells hbx
         have z0 := box_frozen hbx 0
         have z1 := box_frozen hbx 1
         have z2 := box_frozen hbx 2
         have z3 := box_frozen hbx 3
         have z4 := box_frozen hbx 4
         clear hbx hb hb'))
  go_wp2_with fail
  refine bodyPost_ret (results_row1 rfl _ _ w.heap.size 37 _ (0, 0) _ _ rfl rfl (set_five HB4.out.1) Try.underlying37 rfl Try.sizD) rfl ?_
  refine ⟨gives_bool (r := decide (k = 1)) ?_ rfl, set_five_below HB4.out.2 (Nat.le_refl _)⟩
  rw [← HY.out]; simp
set_option maxHeartbeats 4000000 in
set_option maxRecDepth 100000 in
theorem rdoes14 (t : Dt) (p : Option Addr) (cap : Nat) (w : World) (hl : [t] = [] ∨ ∃ b o, p = some ⟨b, o, none⟩ ∧ Dt.AllAt w [t] b o) :
    Calls Try.prog 33 #[.int .i64 14, .slice p 1 cap] w fun e w' => Gives (boolD (decide (t.kd = 3)), 0) e w' ∧ Below w.heap.size w w' := by
  obtain ⟨b, o, k, n, d, s, l, q, c, rfl, rfl, hk, hn, hd, hlm, hat, e0, e1, e2, e3, e4⟩ := one_arg hl
  have HE := Lib.hid (And.intro e0 (And.intro e1 (And.intro e2 (And.intro e3 e4))))
  have HA := Lib.hid hat
  have HI := Lib.hid (And.intro hk (And.intro hn hd))
  have HLM := Lib.hid hlm
  have HNE := Lib.hid (show b ≠ w.heap.size from by have := cell_lt e0; omega)
  clear e0 e1 e2 e3 e4 hat hk hn hd hl hlm
  obtain ⟨y, hy⟩ : ∃ y, (if (k == 3) = true then (1 : Int) else 0) = y := ⟨_, rfl⟩
  have HY := Lib.hid hy
  clear hy
  go_enter Try.func33, Try.ntmps33
  go_upto_region 33 with fail
  obtain ⟨W, hW⟩ : ∃ W, (w.alloc (Obj.cells #[.int .i64 0, .int .i64 0, .int .i64 0, .string ⟨#[]⟩, .slice none 0 0] 37)).alloc (Obj.cells #[.int .i64 4, .int .i64 6, .int .i64 0, .int .i64 2, .int .i64 1, .int .i64 3, .int .i64 7, .int .i64 (-1)] 3) = W := ⟨_, rfl⟩
  have hx := two_blocks w _ _ hW
  rw [hW]
  have HB := Lib.hid (And.intro hx.1 hx.2.2)
  have e0 := cell_on hx.2.2 _ _ _ HE.out.1
  have m0 : W.cell? ⟨w.heap.size + 1, 5, none⟩ = some (.int .i64 3) := by simp [World.cell?, hx.2.1]
  have HNX := Lib.hid (show w.heap.size + 1 ≠ w.heap.size by omega)
  clear hW hx
  have hw1 : IntKind.i64.wrap ((14 : Int) - 9) = 5 := by decide
  have hw2 : IntKind.i64.wrap (5 : Int) = 5 := by decide
  have e0' : W.drew.cell? ⟨b, o, none⟩ = some (.int .i64 k) := e0
  have m0' : W.drew.cell? ⟨w.heap.size + 1, 5, none⟩ = some (.int .i64 3) := m0
  go_wp2_with fail
  go_region_held3 (fun w' => w'.cell? ⟨b, o, none⟩ = some (.int .i64 k) ∧ w'.cell? ⟨w.heap.size + 1, 5, none⟩ = some (.int .i64 3))
    (with_reducible (first | (refine ⟨?_, ?_⟩ <;> assumption) | exact ⟨five_other HNE.out e0, five_other HNX.out m0⟩))
    (first
      | (go_at_call 63
         with_reducible refine Calls.mono (rtruth_bit _ y HY.out _) ?_
         rintro _ w4 ⟨rfl, hb⟩
         have hb' := below_drew hb
         have hbx := block_on hb' HB.out.1
         have HB4 := Lib.hid (And.intro hbx (below_seq HB.out.2 hb'))
         replace e0 := cell_on hb' _ _ _ e0
         replace m0 := cell_on hb' _ _ _ m0
         obtain ⟨y0, y1, y2, y3, y4⟩ := box_cells hbx
         have z0 := box_frozen hbx 0
         have z1 := box_frozen hbx 1
         have z2 := box_frozen hbx 2
         have z3 := box_frozen hbx 3
         have z4 := box_frozen hbx 4
         clear hbx hb hb'))
  go_wp2_with fail
  refine bodyPost_ret (results_row1 rfl _ _ w.heap.size 37 _ (0, 0) _ _ rfl rfl (set_five HB4.out.1) Try.underlying37 rfl Try.sizD) rfl ?_
  refine ⟨gives_bool (r := decide (k = 3)) ?_ rfl, set_five_below HB4.out.2 (Nat.le_refl _)⟩
  rw [← HY.out]; simp
set_option maxHeartbeats 4000000 in
set_option maxRecDepth 100000 in
theorem rdoes15 (t : Dt) (p : Option Addr) (cap : Nat) (w : World) (hl : [t] = [] ∨ ∃ b o, p = some ⟨b, o, none⟩ ∧ Dt.AllAt w [t] b o) :
    Calls Try.prog 33 #[.int .i64 15, .slice p 1 cap] w fun e w' => Gives (boolD (decide (t.kd = 7)), 0) e w' ∧ Below w.heap.size w w' := by
  obtain ⟨b, o, k, n, d, s, l, q, c, rfl, rfl, hk, hn, hd, hlm, hat, e0, e1, e2, e3, e4⟩ := one_arg hl
  have HE := Lib.hid (And.intro e0 (And.intro e1 (And.intro e2 (And.intro e3 e4))))
  have HA := Lib.hid hat
  have HI := Lib.hid (And.intro hk (And.intro hn hd))
  have HLM := Lib.hid hlm
  have HNE := Lib.hid (show b ≠ w.heap.size from by have := cell_lt e0; omega)
  clear e0 e1 e2 e3 e4 hat hk hn hd hl hlm
  obtain ⟨y, hy⟩ : ∃ y, (if (k == 7) = true then (1 : Int) else 0) = y := ⟨_, rfl⟩
  have HY := Lib.hid hy
  clear hy
  go_enter Try.func33, Try.ntmps33
  go_upto_region 33 with fail
  obtain ⟨W, hW⟩ : ∃ W, (w.alloc (Obj.cells #[.int .i64 0, .int .i64 0, .int .i64 0, .string ⟨#[]⟩, .slice none 0 0] 37)).alloc (Obj.cells #[.int .i64 4, .int .i64 6, .int .i64 0, .int .i64 2, .int .i64 1, .int .i64 3, .int .i64 7, .int .i64 (-1)] 3) = W := ⟨_, rfl⟩
  have hx := two_blocks w _ _ hW
  rw [hW]
  have HB := Lib.hid (And.intro hx.1 hx.2.2)
  have e0 := cell_on hx.2.2 _ _ _ HE.out.1
  have m0 : W.cell? ⟨w.heap.size + 1, 6, none⟩ = some (.int .i64 7) := by simp [World.cell?, hx.2.1]
  have HNX := Lib.hid (show w.heap.size + 1 ≠ w.heap.size by omega)
  clear hW hx
  have hw1 : IntKind.i64.wrap ((15 : Int) - 9) = 6 := by decide
  have hw2 : IntKind.i64.wrap (6 : Int) = 6 := by decide
  have e0' : W.drew.cell? ⟨b, o, none⟩ = some (.int .i64 k) := e0
  have m0' : W.drew.cell? ⟨w.heap.size + 1, 6, none⟩ = some (.int .i64 7) := m0
  go_wp2_with fail
  go_region_held3 (fun w' => w'.cell? ⟨b, o, none⟩ = some (.int .i64 k) ∧ w'.cell? ⟨w.heap.size + 1, 6, none⟩ = some (.int .i64 7))
    (with_reducible (first | (refine ⟨?_, ?_⟩ <;> assumption) | exact ⟨five_other HNE.out e0, five_other HNX.out m0⟩))
    (first
      | (go_at_call 63
         with_reducible refine Calls.mono (rtruth_bit _ y HY.out _) ?_
         rintro _ w4 ⟨rfl, hb⟩
         have hb' := below_drew hb
         have hbx := block_on hb' HB.out.1
         have HB4 := Lib.hid (And.intro hbx (below_seq HB.out.2 hb'))
         replace e0 := cell_on hb' _ _ _ e0
         replace m0 := cell_on hb' _ _ _ m0
         obtain ⟨y0, y1, y2, y3, y4⟩ := box_cells hbx
         have z0 := box_frozen hbx 0
         have z1 := box_frozen hbx 1
         have z2 := box_frozen hbx 2
         have z3 := box_frozen hbx 3
         have z4 := box_frozen hbx 4
         clear hbx hb hb'))
  go_wp2_with fail
  refine bodyPost_ret (results_row1 rfl _ _ w.heap.size 37 _ (0, 0) _ _ rfl rfl (set_five HB4.out.1) Try.underlying37 rfl Try.sizD) rfl ?_
  refine ⟨gives_bool (r := decide (k = 7)) ?_ rfl, set_five_below HB4.out.2 (Nat.le_refl _)⟩
  rw [← HY.out]; simp
set_option maxHeartbeats 4000000 in
set_option maxRecDepth 100000 in
theorem rdoes16 (t : Dt) (p : Option Addr) (cap : Nat) (w : World) (hl : [t] = [] ∨ ∃ b o, p = some ⟨b, o, none⟩ ∧ Dt.AllAt w [t] b o) :
    Calls Try.prog 33 #[.int .i64 16, .slice p 1 cap] w fun e w' => Gives (boolD (decide (t.kd = (-1))), 0) e w' ∧ Below w.heap.size w w' := by
  obtain ⟨b, o, k, n, d, s, l, q, c, rfl, rfl, hk, hn, hd, hlm, hat, e0, e1, e2, e3, e4⟩ := one_arg hl
  have HE := Lib.hid (And.intro e0 (And.intro e1 (And.intro e2 (And.intro e3 e4))))
  have HA := Lib.hid hat
  have HI := Lib.hid (And.intro hk (And.intro hn hd))
  have HLM := Lib.hid hlm
  have HNE := Lib.hid (show b ≠ w.heap.size from by have := cell_lt e0; omega)
  clear e0 e1 e2 e3 e4 hat hk hn hd hl hlm
  obtain ⟨y, hy⟩ : ∃ y, (if (k == (-1)) = true then (1 : Int) else 0) = y := ⟨_, rfl⟩
  have HY := Lib.hid hy
  clear hy
  go_enter Try.func33, Try.ntmps33
  go_upto_region 33 with fail
  obtain ⟨W, hW⟩ : ∃ W, (w.alloc (Obj.cells #[.int .i64 0, .int .i64 0, .int .i64 0, .string ⟨#[]⟩, .slice none 0 0] 37)).alloc (Obj.cells #[.int .i64 4, .int .i64 6, .int .i64 0, .int .i64 2, .int .i64 1, .int .i64 3, .int .i64 7, .int .i64 (-1)] 3) = W := ⟨_, rfl⟩
  have hx := two_blocks w _ _ hW
  rw [hW]
  have HB := Lib.hid (And.intro hx.1 hx.2.2)
  have e0 := cell_on hx.2.2 _ _ _ HE.out.1
  have m0 : W.cell? ⟨w.heap.size + 1, 7, none⟩ = some (.int .i64 (-1)) := by simp [World.cell?, hx.2.1]
  have HNX := Lib.hid (show w.heap.size + 1 ≠ w.heap.size by omega)
  clear hW hx
  have hw1 : IntKind.i64.wrap ((16 : Int) - 9) = 7 := by decide
  have hw2 : IntKind.i64.wrap (7 : Int) = 7 := by decide
  have e0' : W.drew.cell? ⟨b, o, none⟩ = some (.int .i64 k) := e0
  have m0' : W.drew.cell? ⟨w.heap.size + 1, 7, none⟩ = some (.int .i64 (-1)) := m0
  go_wp2_with fail
  go_region_held3 (fun w' => w'.cell? ⟨b, o, none⟩ = some (.int .i64 k) ∧ w'.cell? ⟨w.heap.size + 1, 7, none⟩ = some (.int .i64 (-1)))
    (with_reducible (first | (refine ⟨?_, ?_⟩ <;> assumption) | exact ⟨five_other HNE.out e0, five_other HNX.out m0⟩))
    (first
      | (go_at_call 63
         with_reducible refine Calls.mono (rtruth_bit _ y HY.out _) ?_
         rintro _ w4 ⟨rfl, hb⟩
         have hb' := below_drew hb
         have hbx := block_on hb' HB.out.1
         have HB4 := Lib.hid (And.intro hbx (below_seq HB.out.2 hb'))
         replace e0 := cell_on hb' _ _ _ e0
         replace m0 := cell_on hb' _ _ _ m0
         obtain ⟨y0, y1, y2, y3, y4⟩ := box_cells hbx
         have z0 := box_frozen hbx 0
         have z1 := box_frozen hbx 1
         have z2 := box_frozen hbx 2
         have z3 := box_frozen hbx 3
         have z4 := box_frozen hbx 4
         clear hbx hb hb'))
  go_wp2_with fail
  refine bodyPost_ret (results_row1 rfl _ _ w.heap.size 37 _ (0, 0) _ _ rfl rfl (set_five HB4.out.1) Try.underlying37 rfl Try.sizD) rfl ?_
  refine ⟨gives_bool (r := decide (k = (-1))) ?_ rfl, set_five_below HB4.out.2 (Nat.le_refl _)⟩
  rw [← HY.out]; simp
end Go.Proofs.Ytdeelpagoffdjaa.Dat

/- The reference's does: car, cdr, vector-ref. -/
namespace Go.Proofs.Ytdeelpagoffdjaa.Dat
open Go.RowKit
open Go.Proofs.Ytdeelpagoffdjaa (addF subF mulF divF lessF lessRef_any)
open NumPlain
set_option linter.unusedVariables false

theorem at_fiveX {X : Nat → Bool} {t : Dt} {v : Value} {w W : World} {b0 b1 b2 b3 b4 : Value} (hb : Below w.heap.size w W) (h : t.At (off w X) v) :
    t.At (off (((((W.setCell ⟨w.heap.size, 0, none⟩ b0).setCell ⟨w.heap.size, 1, none⟩ b1).setCell ⟨w.heap.size, 2, none⟩ b2).setCell ⟨w.heap.size, 3, none⟩ b3).setCell ⟨w.heap.size, 4, none⟩ b4) X) v :=
  h.on fun b o x h => off_cell.2 ⟨(off_cell.1 h).1, (World.cell?_of_block (set_five_other (show b ≠ w.heap.size by have := cell_lt (off_cell.1 h).2; omega))).trans (cell_on hb _ _ _ (off_cell.1 h).2)⟩
set_option maxHeartbeats 4000000 in
set_option maxRecDepth 100000 in
theorem rdoes18_bad (t : Dt) (p : Option Addr) (cap : Nat) (w : World) (h1 : t.kd ≠ 6) (hl : [t] = [] ∨ ∃ b o, p = some ⟨b, o, none⟩ ∧ Dt.AllAt w [t] b o) :
    Calls Try.prog 33 #[.int .i64 18, .slice p 1 cap] w fun e w' => Gives (zeroD, 1) e w' ∧ Below w.heap.size w w' := by
  obtain ⟨b, o, k, n, d, s, l, q, c, rfl, rfl, hk, hn, hd, hlm, hat, e0, e1, e2, e3, e4⟩ := one_arg hl
  have HE := Lib.hid (And.intro e0 (And.intro e1 (And.intro e2 (And.intro e3 e4))))
  have HA := Lib.hid hat
  have HI := Lib.hid (And.intro hk (And.intro hn hd))
  have HLM := Lib.hid hlm
  have HNE := Lib.hid (show b ≠ w.heap.size from by have := cell_lt e0; omega)
  clear e0 e1 e2 e3 e4 hat hk hn hd hl hlm
  have h1 : k ≠ 6 := h1
  have hq : (k != 6) = true := by rw [bne_iff_ne]; exact h1
  go_enter Try.func33, Try.ntmps33
  go_upto_region 36 with fail
  obtain ⟨W, hW⟩ : ∃ W, w.alloc (Obj.cells #[.int .i64 0, .int .i64 0, .int .i64 0, .string ⟨#[]⟩, .slice none 0 0] 37) = W := ⟨_, rfl⟩
  have hbw : Below w.heap.size w W := hW ▸ box_below w _
  have hbx := hW ▸ at_new w (Obj.cells #[.int .i64 0, .int .i64 0, .int .i64 0, .string ⟨#[]⟩, .slice none 0 0] 37)
  rw [hW]
  have HB := Lib.hid (And.intro hbx hbw)
  obtain ⟨y0, y1, y2, y3, y4⟩ := box_cells hbx
  have z0 := box_frozen hbx 0
  have z1 := box_frozen hbx 1
  have z2 := box_frozen hbx 2
  have z3 := box_frozen hbx 3
  have z4 := box_frozen hbx 4
  have e0 := cell_on hbw _ _ _ HE.out.1
  have e1 := cell_on hbw _ _ _ HE.out.2.1
  have e2 := cell_on hbw _ _ _ HE.out.2.2.1
  have e3 := cell_on hbw _ _ _ HE.out.2.2.2.1
  have e4 := cell_on hbw _ _ _ HE.out.2.2.2.2
  clear hW hbw hbx
  go_wp2_with fail
  refine bodyPost_ret (results_row1 rfl _ _ w.heap.size 37 _ (0, 0) _ _ rfl rfl (set_five HB.out.1) Try.underlying37 rfl Try.sizD) rfl ?_
  exact ⟨gives_zero rfl, set_five_below HB.out.2 (Nat.le_refl _)⟩
set_option maxHeartbeats 4000000 in
set_option maxRecDepth 100000 in
theorem rdoes18 (X : Nat → Bool) (t x y : Dt) (p : Option Addr) (cap : Nat) (w : World) (h1 : t.kd = 6) (h2 : t.ls = [x, y]) (hlx : [t] = [] ∨ ∃ b o, p = some ⟨b, o, none⟩ ∧ Dt.AllAt (off w X) [t] b o) :
    Calls Try.prog 33 #[.int .i64 18, .slice p 1 cap] w fun e w' => GivesX X (x, 0) e w' ∧ Below w.heap.size w w' := by
  obtain ⟨b, o, k, n, d, s, l, q, c, rfl, rfl, hk, hn, hd, hlm, hat, e0, e1, e2, e3, e4⟩ := one_arg (w := off w X) hlx
  replace e0 := (off_cell.1 e0).2
  replace e1 := (off_cell.1 e1).2
  replace e2 := (off_cell.1 e2).2
  replace e3 := (off_cell.1 e3).2
  replace e4 := (off_cell.1 e4).2
  have HE := Lib.hid (And.intro e0 (And.intro e1 (And.intro e2 (And.intro e3 e4))))
  have HA := Lib.hid hat
  have HI := Lib.hid (And.intro hk (And.intro hn hd))
  have HLM := Lib.hid hlm
  have HNE := Lib.hid (show b ≠ w.heap.size from by have := cell_lt e0; omega)
  clear e0 e1 e2 e3 e4 hat hk hn hd hlx hlm
  have h1 : k = 6 := h1
  have h2 : l = [x, y] := h2
  have hlq : ∃ b2 o2, q = some ⟨b2, o2, none⟩ ∧ Dt.AllAt (off w X) l b2 o2 := by
    have ha := HA.out
    unfold Dt.At at ha
    obtain ⟨-, -, -, -, -, q3, c3, hv, hpl⟩ := ha
    simp only [Value.agg.injEq, Array.mk.injEq, List.cons.injEq, and_true, Value.slice.injEq, true_and] at hv
    obtain ⟨rfl, rfl⟩ := hv
    rcases hpl with h | h
    · rw [h2] at h; cases h
    · exact h
  obtain ⟨b2, o2, rfl, hall⟩ := hlq
  subst h1 h2
  obtain ⟨x0, x1, x2, x3, x4, i0, i1, i2, i3, i4, hxa⟩ := hall.kid (i := 0) (t := x) rfl
  obtain ⟨kx, nx, dx, sx, lx, px, capx, hxe, rfl, rfl, rfl, rfl, rfl, _, _⟩ := hxa.open5
  clear hxe
  simp only [Nat.zero_mul, Nat.add_zero] at i0 i1 i2 i3 i4
  replace i0 := (off_cell.1 i0).2
  replace i1 := (off_cell.1 i1).2
  replace i2 := (off_cell.1 i2).2
  replace i3 := (off_cell.1 i3).2
  replace i4 := (off_cell.1 i4).2
  have HI5 := Lib.hid (And.intro i0 (And.intro i1 (And.intro i2 (And.intro i3 i4))))
  have HX := Lib.hid hxa
  clear i0 i1 i2 i3 i4 hxa hall
  go_enter Try.func33, Try.ntmps33
  go_upto_region 36 with fail
  obtain ⟨W, hW⟩ : ∃ W, w.alloc (Obj.cells #[.int .i64 0, .int .i64 0, .int .i64 0, .string ⟨#[]⟩, .slice none 0 0] 37) = W := ⟨_, rfl⟩
  have hbw : Below w.heap.size w W := hW ▸ box_below w _
  have hbx := hW ▸ at_new w (Obj.cells #[.int .i64 0, .int .i64 0, .int .i64 0, .string ⟨#[]⟩, .slice none 0 0] 37)
  rw [hW]
  have HB := Lib.hid (And.intro hbx hbw)
  obtain ⟨y0, y1, y2, y3, y4⟩ := box_cells hbx
  have z0 := box_frozen hbx 0
  have z1 := box_frozen hbx 1
  have z2 := box_frozen hbx 2
  have z3 := box_frozen hbx 3
  have z4 := box_frozen hbx 4
  have e0 := cell_on hbw _ _ _ HE.out.1
  have e1 := cell_on hbw _ _ _ HE.out.2.1
  have e2 := cell_on hbw _ _ _ HE.out.2.2.1
  have e3 := cell_on hbw _ _ _ HE.out.2.2.2.1
  have e4 := cell_on hbw _ _ _ HE.out.2.2.2.2
  clear hW hbw hbx
  have e4 : W.cell? ⟨b, o + 4, none⟩ = some (.slice (some ⟨b2, o2, none⟩) 2 c) := e4
  have i0 := cell_on HB.out.2 _ _ _ HI5.out.1
  have i1 := cell_on HB.out.2 _ _ _ HI5.out.2.1
  have i2 := cell_on HB.out.2 _ _ _ HI5.out.2.2.1
  have i3 := cell_on HB.out.2 _ _ _ HI5.out.2.2.2.1
  have i4 := cell_on HB.out.2 _ _ _ HI5.out.2.2.2.2
  go_wp2_with fail
  refine bodyPost_ret (results_row1 rfl _ _ w.heap.size 37 _ (0, 0) _ _ rfl rfl (set_five HB.out.1) Try.underlying37 rfl Try.sizD) rfl ?_
  exact ⟨⟨_, _, _, _, _, _, _, rfl, at_fiveX HB.out.2 HX.out⟩, set_five_below HB.out.2 (Nat.le_refl _)⟩
set_option maxHeartbeats 4000000 in
set_option maxRecDepth 100000 in
theorem rdoes19_bad (t : Dt) (p : Option Addr) (cap : Nat) (w : World) (h1 : t.kd ≠ 6) (hl : [t] = [] ∨ ∃ b o, p = some ⟨b, o, none⟩ ∧ Dt.AllAt w [t] b o) :
    Calls Try.prog 33 #[.int .i64 19, .slice p 1 cap] w fun e w' => Gives (zeroD, 1) e w' ∧ Below w.heap.size w w' := by
  obtain ⟨b, o, k, n, d, s, l, q, c, rfl, rfl, hk, hn, hd, hlm, hat, e0, e1, e2, e3, e4⟩ := one_arg hl
  have HE := Lib.hid (And.intro e0 (And.intro e1 (And.intro e2 (And.intro e3 e4))))
  have HA := Lib.hid hat
  have HI := Lib.hid (And.intro hk (And.intro hn hd))
  have HLM := Lib.hid hlm
  have HNE := Lib.hid (show b ≠ w.heap.size from by have := cell_lt e0; omega)
  clear e0 e1 e2 e3 e4 hat hk hn hd hl hlm
  have h1 : k ≠ 6 := h1
  have hq : (k != 6) = true := by rw [bne_iff_ne]; exact h1
  go_enter Try.func33, Try.ntmps33
  go_upto_region 36 with fail
  obtain ⟨W, hW⟩ : ∃ W, w.alloc (Obj.cells #[.int .i64 0, .int .i64 0, .int .i64 0, .string ⟨#[]⟩, .slice none 0 0] 37) = W := ⟨_, rfl⟩
  have hbw : Below w.heap.size w W := hW ▸ box_below w _
  have hbx := hW ▸ at_new w (Obj.cells #[.int .i64 0, .int .i64 0, .int .i64 0, .string ⟨#[]⟩, .slice none 0 0] 37)
  rw [hW]
  have HB := Lib.hid (And.intro hbx hbw)
  obtain ⟨y0, y1, y2, y3, y4⟩ := box_cells hbx
  have z0 := box_frozen hbx 0
  have z1 := box_frozen hbx 1
  have z2 := box_frozen hbx 2
  have z3 := box_frozen hbx 3
  have z4 := box_frozen hbx 4
  have e0 := cell_on hbw _ _ _ HE.out.1
  have e1 := cell_on hbw _ _ _ HE.out.2.1
  have e2 := cell_on hbw _ _ _ HE.out.2.2.1
  have e3 := cell_on hbw _ _ _ HE.out.2.2.2.1
  have e4 := cell_on hbw _ _ _ HE.out.2.2.2.2
  clear hW hbw hbx
  go_wp2_with fail
  refine bodyPost_ret (results_row1 rfl _ _ w.heap.size 37 _ (0, 0) _ _ rfl rfl (set_five HB.out.1) Try.underlying37 rfl Try.sizD) rfl ?_
  exact ⟨gives_zero rfl, set_five_below HB.out.2 (Nat.le_refl _)⟩
set_option maxHeartbeats 4000000 in
set_option maxRecDepth 100000 in
theorem rdoes19 (X : Nat → Bool) (t x y : Dt) (p : Option Addr) (cap : Nat) (w : World) (h1 : t.kd = 6) (h2 : t.ls = [x, y]) (hlx : [t] = [] ∨ ∃ b o, p = some ⟨b, o, none⟩ ∧ Dt.AllAt (off w X) [t] b o) :
    Calls Try.prog 33 #[.int .i64 19, .slice p 1 cap] w fun e w' => GivesX X (y, 0) e w' ∧ Below w.heap.size w w' := by
  obtain ⟨b, o, k, n, d, s, l, q, c, rfl, rfl, hk, hn, hd, hlm, hat, e0, e1, e2, e3, e4⟩ := one_arg (w := off w X) hlx
  replace e0 := (off_cell.1 e0).2
  replace e1 := (off_cell.1 e1).2
  replace e2 := (off_cell.1 e2).2
  replace e3 := (off_cell.1 e3).2
  replace e4 := (off_cell.1 e4).2
  have HE := Lib.hid (And.intro e0 (And.intro e1 (And.intro e2 (And.intro e3 e4))))
  have HA := Lib.hid hat
  have HI := Lib.hid (And.intro hk (And.intro hn hd))
  have HLM := Lib.hid hlm
  have HNE := Lib.hid (show b ≠ w.heap.size from by have := cell_lt e0; omega)
  clear e0 e1 e2 e3 e4 hat hk hn hd hlx hlm
  have h1 : k = 6 := h1
  have h2 : l = [x, y] := h2
  have hlq : ∃ b2 o2, q = some ⟨b2, o2, none⟩ ∧ Dt.AllAt (off w X) l b2 o2 := by
    have ha := HA.out
    unfold Dt.At at ha
    obtain ⟨-, -, -, -, -, q3, c3, hv, hpl⟩ := ha
    simp only [Value.agg.injEq, Array.mk.injEq, List.cons.injEq, and_true, Value.slice.injEq, true_and] at hv
    obtain ⟨rfl, rfl⟩ := hv
    rcases hpl with h | h
    · rw [h2] at h; cases h
    · exact h
  obtain ⟨b2, o2, rfl, hall⟩ := hlq
  subst h1 h2
  obtain ⟨x0, x1, x2, x3, x4, i0, i1, i2, i3, i4, hxa⟩ := hall.kid (i := 1) (t := y) rfl
  obtain ⟨kx, nx, dx, sx, lx, px, capx, hxe, rfl, rfl, rfl, rfl, rfl, _, _⟩ := hxa.open5
  clear hxe
  simp only [Nat.one_mul] at i0 i1 i2 i3 i4
  replace i0 := (off_cell.1 i0).2
  replace i1 := (off_cell.1 i1).2
  replace i2 := (off_cell.1 i2).2
  replace i3 := (off_cell.1 i3).2
  replace i4 := (off_cell.1 i4).2
  have HI5 := Lib.hid (And.intro i0 (And.intro i1 (And.intro i2 (And.intro i3 i4))))
  have HX := Lib.hid hxa
  clear i0 i1 i2 i3 i4 hxa hall
  go_enter Try.func33, Try.ntmps33
  go_upto_region 36 with fail
  obtain ⟨W, hW⟩ : ∃ W, w.alloc (Obj.cells #[.int .i64 0, .int .i64 0, .int .i64 0, .string ⟨#[]⟩, .slice none 0 0] 37) = W := ⟨_, rfl⟩
  have hbw : Below w.heap.size w W := hW ▸ box_below w _
  have hbx := hW ▸ at_new w (Obj.cells #[.int .i64 0, .int .i64 0, .int .i64 0, .string ⟨#[]⟩, .slice none 0 0] 37)
  rw [hW]
  have HB := Lib.hid (And.intro hbx hbw)
  obtain ⟨y0, y1, y2, y3, y4⟩ := box_cells hbx
  have z0 := box_frozen hbx 0
  have z1 := box_frozen hbx 1
  have z2 := box_frozen hbx 2
  have z3 := box_frozen hbx 3
  have z4 := box_frozen hbx 4
  have e0 := cell_on hbw _ _ _ HE.out.1
  have e1 := cell_on hbw _ _ _ HE.out.2.1
  have e2 := cell_on hbw _ _ _ HE.out.2.2.1
  have e3 := cell_on hbw _ _ _ HE.out.2.2.2.1
  have e4 := cell_on hbw _ _ _ HE.out.2.2.2.2
  clear hW hbw hbx
  have e4 : W.cell? ⟨b, o + 4, none⟩ = some (.slice (some ⟨b2, o2, none⟩) 2 c) := e4
  have i0 := cell_on HB.out.2 _ _ _ HI5.out.1
  have i1 := cell_on HB.out.2 _ _ _ HI5.out.2.1
  have i2 := cell_on HB.out.2 _ _ _ HI5.out.2.2.1
  have i3 := cell_on HB.out.2 _ _ _ HI5.out.2.2.2.1
  have i4 := cell_on HB.out.2 _ _ _ HI5.out.2.2.2.2
  go_wp2_with fail
  refine bodyPost_ret (results_row1 rfl _ _ w.heap.size 37 _ (0, 0) _ _ rfl rfl (set_five HB.out.1) Try.underlying37 rfl Try.sizD) rfl ?_
  exact ⟨⟨_, _, _, _, _, _, _, rfl, at_fiveX HB.out.2 HX.out⟩, set_five_below HB.out.2 (Nat.le_refl _)⟩
set_option maxHeartbeats 4000000 in
set_option maxRecDepth 100000 in
theorem rdoes22_bada (t u : Dt) (p : Option Addr) (cap : Nat) (w : World) (h1 : t.kd ≠ 7) (hl : [t, u] = [] ∨ ∃ b o, p = some ⟨b, o, none⟩ ∧ Dt.AllAt w [t, u] b o) :
    Calls Try.prog 33 #[.int .i64 22, .slice p 2 cap] w fun e w' => Gives (zeroD, 1) e w' ∧ Below w.heap.size w w' := by
  obtain ⟨b, o, k, n, d, s, l, q, c, k', n', d', s', l', q', c', rfl, rfl, rfl, ⟨hk, hn, hd, hlm⟩, ⟨hk', hn', hd', hlm'⟩, hat, hat', ⟨e0, e1, e2, e3, e4⟩, ⟨f0, f1, f2, f3, f4⟩⟩ := two_args hl
  have HE := Lib.hid (And.intro e0 (And.intro e1 (And.intro e2 (And.intro e3 e4))))
  have HF := Lib.hid (And.intro f0 (And.intro f1 (And.intro f2 (And.intro f3 f4))))
  have HA := Lib.hid (And.intro hat hat')
  have HI := Lib.hid (And.intro hk (And.intro hn (And.intro hd (And.intro hk' (And.intro hn' hd')))))
  have HLM := Lib.hid (And.intro hlm hlm')
  have HNE := Lib.hid (show b ≠ w.heap.size from by have := cell_lt e0; omega)
  clear e0 e1 e2 e3 e4 f0 f1 f2 f3 f4 hat hat' hk hn hd hk' hn' hd' hl hlm hlm'
  have h1 : k ≠ 7 := h1
  have hq : (k != 7) = true := by rw [bne_iff_ne]; exact h1
  go_enter Try.func33, Try.ntmps33
  go_upto_region 40 with fail
  obtain ⟨W, hW⟩ : ∃ W, w.alloc (Obj.cells #[.int .i64 0, .int .i64 0, .int .i64 0, .string ⟨#[]⟩, .slice none 0 0] 37) = W := ⟨_, rfl⟩
  have hbw : Below w.heap.size w W := hW ▸ box_below w _
  have hbx := hW ▸ at_new w (Obj.cells #[.int .i64 0, .int .i64 0, .int .i64 0, .string ⟨#[]⟩, .slice none 0 0] 37)
  rw [hW]
  have HB := Lib.hid (And.intro hbx hbw)
  obtain ⟨y0, y1, y2, y3, y4⟩ := box_cells hbx
  have z0 := box_frozen hbx 0
  have z1 := box_frozen hbx 1
  have z2 := box_frozen hbx 2
  have z3 := box_frozen hbx 3
  have z4 := box_frozen hbx 4
  have e0 := cell_on hbw _ _ _ HE.out.1
  have e1 := cell_on hbw _ _ _ HE.out.2.1
  have e2 := cell_on hbw _ _ _ HE.out.2.2.1
  have e3 := cell_on hbw _ _ _ HE.out.2.2.2.1
  have e4 := cell_on hbw _ _ _ HE.out.2.2.2.2
  have f0 := cell_on hbw _ _ _ HF.out.1
  have f1 := cell_on hbw _ _ _ HF.out.2.1
  have f2 := cell_on hbw _ _ _ HF.out.2.2.1
  have f3 := cell_on hbw _ _ _ HF.out.2.2.2.1
  have f4 := cell_on hbw _ _ _ HF.out.2.2.2.2
  clear hW hbw hbx
  go_wp2_with fail
  refine bodyPost_ret (results_row1 rfl _ _ w.heap.size 37 _ (0, 0) _ _ rfl rfl (set_five HB.out.1) Try.underlying37 rfl Try.sizD) rfl ?_
  exact ⟨gives_zero rfl, set_five_below HB.out.2 (Nat.le_refl _)⟩
set_option maxHeartbeats 4000000 in
set_option maxRecDepth 100000 in
theorem rdoes22_badb (t u : Dt) (p : Option Addr) (cap : Nat) (w : World) (h1 : t.kd = 7) (h2 : u.kd ≠ 0) (hl : [t, u] = [] ∨ ∃ b o, p = some ⟨b, o, none⟩ ∧ Dt.AllAt w [t, u] b o) :
    Calls Try.prog 33 #[.int .i64 22, .slice p 2 cap] w fun e w' => Gives (zeroD, 1) e w' ∧ Below w.heap.size w w' := by
  obtain ⟨b, o, k, n, d, s, l, q, c, k', n', d', s', l', q', c', rfl, rfl, rfl, ⟨hk, hn, hd, hlm⟩, ⟨hk', hn', hd', hlm'⟩, hat, hat', ⟨e0, e1, e2, e3, e4⟩, ⟨f0, f1, f2, f3, f4⟩⟩ := two_args hl
  have HE := Lib.hid (And.intro e0 (And.intro e1 (And.intro e2 (And.intro e3 e4))))
  have HF := Lib.hid (And.intro f0 (And.intro f1 (And.intro f2 (And.intro f3 f4))))
  have HA := Lib.hid (And.intro hat hat')
  have HI := Lib.hid (And.intro hk (And.intro hn (And.intro hd (And.intro hk' (And.intro hn' hd')))))
  have HLM := Lib.hid (And.intro hlm hlm')
  have HNE := Lib.hid (show b ≠ w.heap.size from by have := cell_lt e0; omega)
  clear e0 e1 e2 e3 e4 f0 f1 f2 f3 f4 hat hat' hk hn hd hk' hn' hd' hl hlm hlm'
  have h1 : k = 7 := h1
  subst h1
  have h2 : k' ≠ 0 := h2
  have hq : (k' != 0) = true := by rw [bne_iff_ne]; exact h2
  go_enter Try.func33, Try.ntmps33
  go_upto_region 40 with fail
  obtain ⟨W, hW⟩ : ∃ W, w.alloc (Obj.cells #[.int .i64 0, .int .i64 0, .int .i64 0, .string ⟨#[]⟩, .slice none 0 0] 37) = W := ⟨_, rfl⟩
  have hbw : Below w.heap.size w W := hW ▸ box_below w _
  have hbx := hW ▸ at_new w (Obj.cells #[.int .i64 0, .int .i64 0, .int .i64 0, .string ⟨#[]⟩, .slice none 0 0] 37)
  rw [hW]
  have HB := Lib.hid (And.intro hbx hbw)
  obtain ⟨y0, y1, y2, y3, y4⟩ := box_cells hbx
  have z0 := box_frozen hbx 0
  have z1 := box_frozen hbx 1
  have z2 := box_frozen hbx 2
  have z3 := box_frozen hbx 3
  have z4 := box_frozen hbx 4
  have e0 := cell_on hbw _ _ _ HE.out.1
  have e1 := cell_on hbw _ _ _ HE.out.2.1
  have e2 := cell_on hbw _ _ _ HE.out.2.2.1
  have e3 := cell_on hbw _ _ _ HE.out.2.2.2.1
  have e4 := cell_on hbw _ _ _ HE.out.2.2.2.2
  have f0 := cell_on hbw _ _ _ HF.out.1
  have f1 := cell_on hbw _ _ _ HF.out.2.1
  have f2 := cell_on hbw _ _ _ HF.out.2.2.1
  have f3 := cell_on hbw _ _ _ HF.out.2.2.2.1
  have f4 := cell_on hbw _ _ _ HF.out.2.2.2.2
  clear hW hbw hbx
  go_wp2_with fail
  refine bodyPost_ret (results_row1 rfl _ _ w.heap.size 37 _ (0, 0) _ _ rfl rfl (set_five HB.out.1) Try.underlying37 rfl Try.sizD) rfl ?_
  exact ⟨gives_zero rfl, set_five_below HB.out.2 (Nat.le_refl _)⟩
set_option maxHeartbeats 4000000 in
set_option maxRecDepth 100000 in
theorem rdoes22_rangea (t u : Dt) (p : Option Addr) (cap : Nat) (w : World) (h1 : t.kd = 7) (h2 : u.kd = 0) (h3 : u.dn ≠ 1) (hl : [t, u] = [] ∨ ∃ b o, p = some ⟨b, o, none⟩ ∧ Dt.AllAt w [t, u] b o) :
    Calls Try.prog 33 #[.int .i64 22, .slice p 2 cap] w fun e w' => Gives (zeroD, 3) e w' ∧ Below w.heap.size w w' := by
  obtain ⟨b, o, k, n, d, s, l, q, c, k', n', d', s', l', q', c', rfl, rfl, rfl, ⟨hk, hn, hd, hlm⟩, ⟨hk', hn', hd', hlm'⟩, hat, hat', ⟨e0, e1, e2, e3, e4⟩, ⟨f0, f1, f2, f3, f4⟩⟩ := two_args hl
  have HE := Lib.hid (And.intro e0 (And.intro e1 (And.intro e2 (And.intro e3 e4))))
  have HF := Lib.hid (And.intro f0 (And.intro f1 (And.intro f2 (And.intro f3 f4))))
  have HA := Lib.hid (And.intro hat hat')
  have HI := Lib.hid (And.intro hk (And.intro hn (And.intro hd (And.intro hk' (And.intro hn' hd')))))
  have HLM := Lib.hid (And.intro hlm hlm')
  have HNE := Lib.hid (show b ≠ w.heap.size from by have := cell_lt e0; omega)
  clear e0 e1 e2 e3 e4 f0 f1 f2 f3 f4 hat hat' hk hn hd hk' hn' hd' hl hlm hlm'
  have h1 : k = 7 := h1
  have h2 : k' = 0 := h2
  subst h1 h2
  have h3 : d' ≠ 1 := h3
  have hq : (d' != 1) = true := by rw [bne_iff_ne]; exact h3
  go_enter Try.func33, Try.ntmps33
  go_upto_region 40 with fail
  obtain ⟨W, hW⟩ : ∃ W, w.alloc (Obj.cells #[.int .i64 0, .int .i64 0, .int .i64 0, .string ⟨#[]⟩, .slice none 0 0] 37) = W := ⟨_, rfl⟩
  have hbw : Below w.heap.size w W := hW ▸ box_below w _
  have hbx := hW ▸ at_new w (Obj.cells #[.int .i64 0, .int .i64 0, .int .i64 0, .string ⟨#[]⟩, .slice none 0 0] 37)
  rw [hW]
  have HB := Lib.hid (And.intro hbx hbw)
  obtain ⟨y0, y1, y2, y3, y4⟩ := box_cells hbx
  have z0 := box_frozen hbx 0
  have z1 := box_frozen hbx 1
  have z2 := box_frozen hbx 2
  have z3 := box_frozen hbx 3
  have z4 := box_frozen hbx 4
  have e0 := cell_on hbw _ _ _ HE.out.1
  have e1 := cell_on hbw _ _ _ HE.out.2.1
  have e2 := cell_on hbw _ _ _ HE.out.2.2.1
  have e3 := cell_on hbw _ _ _ HE.out.2.2.2.1
  have e4 := cell_on hbw _ _ _ HE.out.2.2.2.2
  have f0 := cell_on hbw _ _ _ HF.out.1
  have f1 := cell_on hbw _ _ _ HF.out.2.1
  have f2 := cell_on hbw _ _ _ HF.out.2.2.1
  have f3 := cell_on hbw _ _ _ HF.out.2.2.2.1
  have f4 := cell_on hbw _ _ _ HF.out.2.2.2.2
  clear hW hbw hbx
  go_wp2_with fail
  go_quiet (fail)
  go_wp2_with fail
  refine bodyPost_ret (results_row1 rfl _ _ w.heap.size 37 _ (0, 0) _ _ rfl rfl (set_five (w := W.drewN _) HB.out.1) Try.underlying37 rfl Try.sizD) rfl ?_
  exact ⟨gives_zero rfl, set_five_below (below_seq HB.out.2 (below_drewN _ _)) (Nat.le_refl _)⟩
set_option maxHeartbeats 4000000 in
set_option maxRecDepth 100000 in
theorem rdoes22_rangeb (t u : Dt) (p : Option Addr) (cap : Nat) (w : World) (h1 : t.kd = 7) (h2 : u.kd = 0) (h3 : u.dn = 1) (h4 : u.nm < 0) (hl : [t, u] = [] ∨ ∃ b o, p = some ⟨b, o, none⟩ ∧ Dt.AllAt w [t, u] b o) :
    Calls Try.prog 33 #[.int .i64 22, .slice p 2 cap] w fun e w' => Gives (zeroD, 3) e w' ∧ Below w.heap.size w w' := by
  obtain ⟨b, o, k, n, d, s, l, q, c, k', n', d', s', l', q', c', rfl, rfl, rfl, ⟨hk, hn, hd, hlm⟩, ⟨hk', hn', hd', hlm'⟩, hat, hat', ⟨e0, e1, e2, e3, e4⟩, ⟨f0, f1, f2, f3, f4⟩⟩ := two_args hl
  have HE := Lib.hid (And.intro e0 (And.intro e1 (And.intro e2 (And.intro e3 e4))))
  have HF := Lib.hid (And.intro f0 (And.intro f1 (And.intro f2 (And.intro f3 f4))))
  have HA := Lib.hid (And.intro hat hat')
  have HI := Lib.hid (And.intro hk (And.intro hn (And.intro hd (And.intro hk' (And.intro hn' hd')))))
  have HLM := Lib.hid (And.intro hlm hlm')
  have HNE := Lib.hid (show b ≠ w.heap.size from by have := cell_lt e0; omega)
  clear e0 e1 e2 e3 e4 f0 f1 f2 f3 f4 hat hat' hk hn hd hk' hn' hd' hl hlm hlm'
  have h1 : k = 7 := h1
  have h2 : k' = 0 := h2
  subst h1 h2
  have h3 : d' = 1 := h3
  subst h3
  have h4 : n' < 0 := h4
  go_enter Try.func33, Try.ntmps33
  go_upto_region 40 with fail
  obtain ⟨W, hW⟩ : ∃ W, w.alloc (Obj.cells #[.int .i64 0, .int .i64 0, .int .i64 0, .string ⟨#[]⟩, .slice none 0 0] 37) = W := ⟨_, rfl⟩
  have hbw : Below w.heap.size w W := hW ▸ box_below w _
  have hbx := hW ▸ at_new w (Obj.cells #[.int .i64 0, .int .i64 0, .int .i64 0, .string ⟨#[]⟩, .slice none 0 0] 37)
  rw [hW]
  have HB := Lib.hid (And.intro hbx hbw)
  obtain ⟨y0, y1, y2, y3, y4⟩ := box_cells hbx
  have z0 := box_frozen hbx 0
  have z1 := box_frozen hbx 1
  have z2 := box_frozen hbx 2
  have z3 := box_frozen hbx 3
  have z4 := box_frozen hbx 4
  have e0 := cell_on hbw _ _ _ HE.out.1
  have e1 := cell_on hbw _ _ _ HE.out.2.1
  have e2 := cell_on hbw _ _ _ HE.out.2.2.1
  have e3 := cell_on hbw _ _ _ HE.out.2.2.2.1
  have e4 := cell_on hbw _ _ _ HE.out.2.2.2.2
  have f0 := cell_on hbw _ _ _ HF.out.1
  have f1 := cell_on hbw _ _ _ HF.out.2.1
  have f2 := cell_on hbw _ _ _ HF.out.2.2.1
  have f3 := cell_on hbw _ _ _ HF.out.2.2.2.1
  have f4 := cell_on hbw _ _ _ HF.out.2.2.2.2
  clear hW hbw hbx
  go_wp2_with fail
  go_quiet (fail)
  go_wp2_with fail
  refine bodyPost_ret (results_row1 rfl _ _ w.heap.size 37 _ (0, 0) _ _ rfl rfl (set_five (w := W.drewN _) HB.out.1) Try.underlying37 rfl Try.sizD) rfl ?_
  exact ⟨gives_zero rfl, set_five_below (below_seq HB.out.2 (below_drewN _ _)) (Nat.le_refl _)⟩
set_option maxHeartbeats 4000000 in
set_option maxRecDepth 100000 in
theorem rdoes22_rangec (t u : Dt) (p : Option Addr) (cap : Nat) (w : World) (h1 : t.kd = 7) (h2 : u.kd = 0) (h3 : u.dn = 1) (h4 : 0 ≤ u.nm) (h5 : (t.ls.length : Int) ≤ u.nm) (hl : [t, u] = [] ∨ ∃ b o, p = some ⟨b, o, none⟩ ∧ Dt.AllAt w [t, u] b o) :
    Calls Try.prog 33 #[.int .i64 22, .slice p 2 cap] w fun e w' => Gives (zeroD, 3) e w' ∧ Below w.heap.size w w' := by
  obtain ⟨b, o, k, n, d, s, l, q, c, k', n', d', s', l', q', c', rfl, rfl, rfl, ⟨hk, hn, hd, hlm⟩, ⟨hk', hn', hd', hlm'⟩, hat, hat', ⟨e0, e1, e2, e3, e4⟩, ⟨f0, f1, f2, f3, f4⟩⟩ := two_args hl
  have HE := Lib.hid (And.intro e0 (And.intro e1 (And.intro e2 (And.intro e3 e4))))
  have HF := Lib.hid (And.intro f0 (And.intro f1 (And.intro f2 (And.intro f3 f4))))
  have HA := Lib.hid (And.intro hat hat')
  have HI := Lib.hid (And.intro hk (And.intro hn (And.intro hd (And.intro hk' (And.intro hn' hd')))))
  have HLM := Lib.hid (And.intro hlm hlm')
  have HNE := Lib.hid (show b ≠ w.heap.size from by have := cell_lt e0; omega)
  clear e0 e1 e2 e3 e4 f0 f1 f2 f3 f4 hat hat' hk hn hd hk' hn' hd' hl hlm hlm'
  have h1 : k = 7 := h1
  have h2 : k' = 0 := h2
  subst h1 h2
  have h3 : d' = 1 := h3
  subst h3
  have h4 : 0 ≤ n' := h4
  have h4' : ¬ n' < 0 := by omega
  have h5 : (l.length : Int) ≤ n' := h5
  go_enter Try.func33, Try.ntmps33
  go_upto_region 40 with fail
  obtain ⟨W, hW⟩ : ∃ W, w.alloc (Obj.cells #[.int .i64 0, .int .i64 0, .int .i64 0, .string ⟨#[]⟩, .slice none 0 0] 37) = W := ⟨_, rfl⟩
  have hbw : Below w.heap.size w W := hW ▸ box_below w _
  have hbx := hW ▸ at_new w (Obj.cells #[.int .i64 0, .int .i64 0, .int .i64 0, .string ⟨#[]⟩, .slice none 0 0] 37)
  rw [hW]
  have HB := Lib.hid (And.intro hbx hbw)
  obtain ⟨y0, y1, y2, y3, y4⟩ := box_cells hbx
  have z0 := box_frozen hbx 0
  have z1 := box_frozen hbx 1
  have z2 := box_frozen hbx 2
  have z3 := box_frozen hbx 3
  have z4 := box_frozen hbx 4
  have e0 := cell_on hbw _ _ _ HE.out.1
  have e1 := cell_on hbw _ _ _ HE.out.2.1
  have e2 := cell_on hbw _ _ _ HE.out.2.2.1
  have e3 := cell_on hbw _ _ _ HE.out.2.2.2.1
  have e4 := cell_on hbw _ _ _ HE.out.2.2.2.2
  have f0 := cell_on hbw _ _ _ HF.out.1
  have f1 := cell_on hbw _ _ _ HF.out.2.1
  have f2 := cell_on hbw _ _ _ HF.out.2.2.1
  have f3 := cell_on hbw _ _ _ HF.out.2.2.2.1
  have f4 := cell_on hbw _ _ _ HF.out.2.2.2.2
  clear hW hbw hbx
  go_wp2_with fail
  go_quiet (fail)
  go_wp2_with fail
  refine bodyPost_ret (results_row1 rfl _ _ w.heap.size 37 _ (0, 0) _ _ rfl rfl (set_five (w := W.drewN _) HB.out.1) Try.underlying37 rfl Try.sizD) rfl ?_
  exact ⟨gives_zero rfl, set_five_below (below_seq HB.out.2 (below_drewN _ _)) (Nat.le_refl _)⟩
end Go.Proofs.Ytdeelpagoffdjaa.Dat

/- The reference's does: vector-ref. -/
namespace Go.Proofs.Ytdeelpagoffdjaa.Dat
open Go.RowKit
open Go.Proofs.Ytdeelpagoffdjaa (addF subF mulF divF lessF lessRef_any)
open NumPlain
set_option linter.unusedVariables false

theorem cell_drew (w : World) (p : Addr) : w.drew.cell? p = w.cell? p := rfl
theorem offdrew {X : Nat → Bool} {t : Dt} {v : Value} {w : World} (h : t.At (off w X) v) : t.At (off w.drew X) v := Dt.At.on (w := off w X) (w' := off w.drew X) (fun b o x h => off_cell.2 ⟨(off_cell.1 h).1, (cell_drew w _).trans (off_cell.1 h).2⟩) h
theorem five_other_drew {w : World} {B b j : Nat} {b0 b1 b2 b3 b4 x : Value} (h : b ≠ B) (hs : w.cell? ⟨b, j, none⟩ = some x) :
    (((((w.setCell ⟨B, 0, none⟩ b0).setCell ⟨B, 1, none⟩ b1).setCell ⟨B, 2, none⟩ b2).setCell ⟨B, 3, none⟩ b3).setCell ⟨B, 4, none⟩ b4).drew.cell? ⟨b, j, none⟩ = some x := (cell_drew _ _).trans (five_other h hs)
set_option maxHeartbeats 4000000 in
set_option maxRecDepth 100000 in
theorem rdoes22 (X : Nat → Bool) (t u x : Dt) (i : Nat) (p : Option Addr) (cap : Nat) (w : World) (h1 : t.kd = 7) (h2 : u.kd = 0) (h3 : u.dn = 1) (h4 : u.nm = (i : Int)) (hx : t.ls[i]? = some x) (hlx : [t, u] = [] ∨ ∃ b o, p = some ⟨b, o, none⟩ ∧ Dt.AllAt (off w X) [t, u] b o) :
    Calls Try.prog 33 #[.int .i64 22, .slice p 2 cap] w fun e w' => GivesX X (x, 0) e w' ∧ Below w.heap.size w w' := by
  obtain ⟨b, o, k, n, d, s, l, q, c, k', n', d', s', l', q', c', rfl, rfl, rfl, ⟨hk, hn, hd, hlm⟩, ⟨hk', hn', hd', hlm'⟩, hat, hat', ⟨e0, e1, e2, e3, e4⟩, ⟨f0, f1, f2, f3, f4⟩⟩ := two_args (w := off w X) hlx
  replace e0 := (off_cell.1 e0).2
  replace e1 := (off_cell.1 e1).2
  replace e2 := (off_cell.1 e2).2
  replace e3 := (off_cell.1 e3).2
  replace e4 := (off_cell.1 e4).2
  replace f0 := (off_cell.1 f0).2
  replace f1 := (off_cell.1 f1).2
  replace f2 := (off_cell.1 f2).2
  replace f3 := (off_cell.1 f3).2
  replace f4 := (off_cell.1 f4).2
  have HE := Lib.hid (And.intro e0 (And.intro e1 (And.intro e2 (And.intro e3 e4))))
  have HF := Lib.hid (And.intro f0 (And.intro f1 (And.intro f2 (And.intro f3 f4))))
  have HA := Lib.hid (And.intro hat hat')
  have HI := Lib.hid (And.intro hk (And.intro hn (And.intro hd (And.intro hk' (And.intro hn' hd')))))
  have HLM := Lib.hid (And.intro hlm hlm')
  have HNE := Lib.hid (show b ≠ w.heap.size from by have := cell_lt e0; omega)
  clear e0 e1 e2 e3 e4 f0 f1 f2 f3 f4 hat hat' hk hn hd hk' hn' hd' hlx hlm hlm'
  have h1 : k = 7 := h1
  have h2 : k' = 0 := h2
  have h3 : d' = 1 := h3
  have h4 : n' = (i : Int) := h4
  have hxl : l[i]? = some x := hx
  clear hx
  subst h1 h2 h3 h4
  have hlq : ∃ b2 o2, q = some ⟨b2, o2, none⟩ ∧ Dt.AllAt (off w X) l b2 o2 := by
    have ha := HA.out.1
    unfold Dt.At at ha
    obtain ⟨-, -, -, -, -, q3, c3, hv, hpl⟩ := ha
    simp only [Value.agg.injEq, Array.mk.injEq, List.cons.injEq, and_true, Value.slice.injEq, true_and] at hv
    obtain ⟨rfl, rfl⟩ := hv
    rcases hpl with h | h
    · exact absurd hxl (by rw [h]; simp)
    · exact h
  obtain ⟨b2, o2, rfl, hall⟩ := hlq
  obtain ⟨x0, x1, x2, x3, x4, i0, i1, i2, i3, i4, hxa⟩ := hall.kid hxl
  obtain ⟨kx, nx, dx, sx, lx, px, capx, hxe, rfl, rfl, rfl, rfl, rfl, _, _⟩ := hxa.open5
  clear hxe
  have hil : (i : Int) < l.length := by have := (List.getElem?_eq_some_iff.1 hxl).1; omega
  have hil' : ¬ (l.length : Int) ≤ (i : Int) := by omega
  have hi0 : ¬ (i : Int) < 0 := by omega
  replace i0 := (off_cell.1 i0).2
  replace i1 := (off_cell.1 i1).2
  replace i2 := (off_cell.1 i2).2
  replace i3 := (off_cell.1 i3).2
  replace i4 := (off_cell.1 i4).2
  have HI5 := Lib.hid (And.intro i0 (And.intro i1 (And.intro i2 (And.intro i3 i4))))
  have HX := Lib.hid hxa
  have HN2 := Lib.hid (show b2 ≠ w.heap.size from by have := cell_lt i0; omega)
  clear i0 i1 i2 i3 i4 hxa hall hxl
  go_enter Try.func33, Try.ntmps33
  go_upto_region 40 with fail
  obtain ⟨W, hW⟩ : ∃ W, w.alloc (Obj.cells #[.int .i64 0, .int .i64 0, .int .i64 0, .string ⟨#[]⟩, .slice none 0 0] 37) = W := ⟨_, rfl⟩
  have hbw : Below w.heap.size w W := hW ▸ box_below w _
  have hbx := hW ▸ at_new w (Obj.cells #[.int .i64 0, .int .i64 0, .int .i64 0, .string ⟨#[]⟩, .slice none 0 0] 37)
  rw [hW]
  have HB := Lib.hid (And.intro hbx hbw)
  obtain ⟨y0, y1, y2, y3, y4⟩ := box_cells hbx
  have z0 := box_frozen hbx 0
  have z1 := box_frozen hbx 1
  have z2 := box_frozen hbx 2
  have z3 := box_frozen hbx 3
  have z4 := box_frozen hbx 4
  have e0 := cell_on hbw _ _ _ HE.out.1
  have e1 := cell_on hbw _ _ _ HE.out.2.1
  have e2 := cell_on hbw _ _ _ HE.out.2.2.1
  have e3 := cell_on hbw _ _ _ HE.out.2.2.2.1
  have e4 := cell_on hbw _ _ _ HE.out.2.2.2.2
  have f0 := cell_on hbw _ _ _ HF.out.1
  have f1 := cell_on hbw _ _ _ HF.out.2.1
  have f2 := cell_on hbw _ _ _ HF.out.2.2.1
  have f3 := cell_on hbw _ _ _ HF.out.2.2.2.1
  have f4 := cell_on hbw _ _ _ HF.out.2.2.2.2
  clear hW hbw hbx
  have i0 := cell_on HB.out.2 _ _ _ HI5.out.1
  have i1 := cell_on HB.out.2 _ _ _ HI5.out.2.1
  have i2 := cell_on HB.out.2 _ _ _ HI5.out.2.2.1
  have i3 := cell_on HB.out.2 _ _ _ HI5.out.2.2.2.1
  have i4 := cell_on HB.out.2 _ _ _ HI5.out.2.2.2.2
  go_wp2_with fail
  go_quiet (fail)
  go_wp2_with fail
  generalize hW2 : W.drewN nq = W2
  have hk : ∀ b : Nat, W2.heap[b]? = W.heap[b]? := fun b => by rw [← hW2]; rfl
  have hbw : Below w.heap.size w W2 := hW2 ▸ below_seq HB.out.2 (below_drewN W _)
  have HB2 := Lib.hid (And.intro ((hk _).trans HB.out.1) hbw)
  replace e4 := (World.cell?_of_block (hk b)).trans e4
  replace f1 := (World.cell?_of_block (hk b)).trans f1
  replace i0 := (World.cell?_of_block (hk b2)).trans i0
  replace i1 := (World.cell?_of_block (hk b2)).trans i1
  replace i2 := (World.cell?_of_block (hk b2)).trans i2
  replace i3 := (World.cell?_of_block (hk b2)).trans i3
  replace i4 := (World.cell?_of_block (hk b2)).trans i4
  clear y0 y1 y2 y3 y4 z0 z1 z2 z3 z4 hk hW2 e0 e1 e2 e3 f0 f2 f3 f4 hbw
  have hq2 : W2.drew.heap[w.heap.size]? = some (Obj.cells #[.int .i64 0, .int .i64 0, .int .i64 0, .string ⟨#[]⟩, .slice none 0 0] 37) := HB2.out.1
  have hq3 := HB2.out.1
  obtain ⟨y0, y1, y2, y3, y4⟩ := box_cells hq2
  obtain ⟨v0, v1, v2, v3, v4⟩ := box_cells hq3
  have z0 := box_frozen hq2 0
  have z1 := box_frozen hq2 1
  have z2 := box_frozen hq2 2
  have z3 := box_frozen hq2 3
  have z4 := box_frozen hq2 4
  have zz0 := box_frozen hq3 0
  have zz1 := box_frozen hq3 1
  have zz2 := box_frozen hq3 2
  have zz3 := box_frozen hq3 3
  have zz4 := box_frozen hq3 4
  have e4' : W2.drew.cell? ⟨b, o + 4, none⟩ = some (.slice (some ⟨b2, o2, none⟩) l.length c) := e4
  have f1' : W2.drew.cell? ⟨b, o + 5 + 1, none⟩ = some (.int .i64 (i : Int)) := f1
  have i0' : W2.drew.cell? ⟨b2, o2 + i * 5, none⟩ = some (.int .i64 kx) := i0
  have i1' : W2.drew.cell? ⟨b2, o2 + i * 5 + 1, none⟩ = some (.int .i64 nx) := i1
  have i2' : W2.drew.cell? ⟨b2, o2 + i * 5 + 2, none⟩ = some (.int .i64 dx) := i2
  have i3' : W2.drew.cell? ⟨b2, o2 + i * 5 + 3, none⟩ = some (.string sx) := i3
  have i4' : W2.drew.cell? ⟨b2, o2 + i * 5 + 4, none⟩ = some (.slice px lx.length capx) := i4
  go_region_held3 (fun w' => w'.cell? ⟨b, o + 4, none⟩ = some (.slice (some ⟨b2, o2, none⟩) l.length c) ∧ w'.cell? ⟨b, o + 5 + 1, none⟩ = some (.int .i64 (i : Int)) ∧ w'.cell? ⟨b2, o2 + i * 5, none⟩ = some (.int .i64 kx) ∧ w'.cell? ⟨b2, o2 + i * 5 + 1, none⟩ = some (.int .i64 nx) ∧ w'.cell? ⟨b2, o2 + i * 5 + 2, none⟩ = some (.int .i64 dx) ∧ w'.cell? ⟨b2, o2 + i * 5 + 3, none⟩ = some (.string sx) ∧ w'.cell? ⟨b2, o2 + i * 5 + 4, none⟩ = some (.slice px lx.length capx))
    (with_reducible (first | (refine ⟨?_, ?_, ?_, ?_, ?_, ?_, ?_⟩ <;> assumption) | exact ⟨five_other_drew HNE.out e4, five_other_drew HNE.out f1, five_other_drew HN2.out i0, five_other_drew HN2.out i1, five_other_drew HN2.out i2, five_other_drew HN2.out i3, five_other_drew HN2.out i4⟩))
    (fail)
  have hfin := set_five (b0 := .int .i64 kx) (b1 := .int .i64 nx) (b2 := .int .i64 dx) (b3 := .string sx) (b4 := .slice px lx.length capx) HB2.out.1
  have hfb := set_five_below (b0 := .int .i64 kx) (b1 := .int .i64 nx) (b2 := .int .i64 dx) (b3 := .string sx) (b4 := .slice px lx.length capx) HB2.out.2 (Nat.le_refl _)
  have hfx := at_fiveX (b0 := .int .i64 kx) (b1 := .int .i64 nx) (b2 := .int .i64 dx) (b3 := .string sx) (b4 := .slice px lx.length capx) HB2.out.2 HX.out
  generalize (((((W2.setCell ⟨w.heap.size, 0, none⟩ (.int .i64 kx)).setCell ⟨w.heap.size, 1, none⟩ (.int .i64 nx)).setCell ⟨w.heap.size, 2, none⟩ (.int .i64 dx)).setCell ⟨w.heap.size, 3, none⟩ (.string sx)).setCell ⟨w.heap.size, 4, none⟩ (.slice px lx.length capx)) = W9 at hfin hfb hfx ⊢
  have HFN := Lib.hid (And.intro hfin (And.intro hfb hfx))
  clear hfin hfb hfx
  go_wp2_with fail
  refine bodyPost_ret (results_row1 rfl _ _ w.heap.size 37 _ (0, 0) _ _ rfl rfl (show W9.drew.heap[w.heap.size]? = _ from HFN.out.1) Try.underlying37 rfl Try.sizD) rfl ?_
  exact ⟨⟨_, _, _, _, _, _, _, rfl, offdrew HFN.out.2.2⟩, HFN.out.2.1.drew⟩
end Go.Proofs.Ytdeelpagoffdjaa.Dat


namespace Go.Proofs.Ytdeelpagoffdjaa.Dat
open Go.RowKit
open Go.Proofs.Ytdeelpagoffdjaa (addF subF mulF divF lessF lessRef_any)
open NumPlain
set_option linter.unusedVariables false

set_option maxHeartbeats 4000000 in
set_option maxRecDepth 100000 in
theorem rdoes23_bad (t : Dt) (p : Option Addr) (cap : Nat) (w : World) (h1 : t.kd ≠ 7) (hl : [t] = [] ∨ ∃ b o, p = some ⟨b, o, none⟩ ∧ Dt.AllAt w [t] b o) :
    Calls Try.prog 33 #[.int .i64 23, .slice p 1 cap] w fun e w' => Gives (zeroD, 1) e w' ∧ Below w.heap.size w w' := by
  obtain ⟨b, o, k, n, d, s, l, q, c, rfl, rfl, hk, hn, hd, hlm, hat, e0, e1, e2, e3, e4⟩ := one_arg hl
  have HE := Lib.hid (And.intro e0 (And.intro e1 (And.intro e2 (And.intro e3 e4))))
  have HA := Lib.hid hat
  have HI := Lib.hid (And.intro hk (And.intro hn hd))
  have HLM := Lib.hid hlm
  have HNE := Lib.hid (show b ≠ w.heap.size from by have := cell_lt e0; omega)
  clear e0 e1 e2 e3 e4 hat hk hn hd hl hlm
  have h1 : k ≠ 7 := h1
  have hq : (k != 7) = true := by rw [bne_iff_ne]; exact h1
  go_enter Try.func33, Try.ntmps33
  go_upto_region 46 with fail
  obtain ⟨W, hW⟩ : ∃ W, w.alloc (Obj.cells #[.int .i64 0, .int .i64 0, .int .i64 0, .string ⟨#[]⟩, .slice none 0 0] 37) = W := ⟨_, rfl⟩
  have hbw : Below w.heap.size w W := hW ▸ box_below w _
  have hbx := hW ▸ at_new w (Obj.cells #[.int .i64 0, .int .i64 0, .int .i64 0, .string ⟨#[]⟩, .slice none 0 0] 37)
  rw [hW]
  have HB := Lib.hid (And.intro hbx hbw)
  obtain ⟨y0, y1, y2, y3, y4⟩ := box_cells hbx
  have z0 := box_frozen hbx 0
  have z1 := box_frozen hbx 1
  have z2 := box_frozen hbx 2
  have z3 := box_frozen hbx 3
  have z4 := box_frozen hbx 4
  have e0 := cell_on hbw _ _ _ HE.out.1
  have e1 := cell_on hbw _ _ _ HE.out.2.1
  have e2 := cell_on hbw _ _ _ HE.out.2.2.1
  have e3 := cell_on hbw _ _ _ HE.out.2.2.2.1
  have e4 := cell_on hbw _ _ _ HE.out.2.2.2.2
  clear hW hbw hbx
  go_wp2_with fail
  refine bodyPost_ret (results_row1 rfl _ _ w.heap.size 37 _ (0, 0) _ _ rfl rfl (set_five HB.out.1) Try.underlying37 rfl Try.sizD) rfl ?_
  exact ⟨gives_zero rfl, set_five_below HB.out.2 (Nat.le_refl _)⟩
set_option maxHeartbeats 4000000 in
set_option maxRecDepth 100000 in
theorem rdoes23 (t : Dt) (p : Option Addr) (cap : Nat) (w : World) (h1 : t.kd = 7) (hl : [t] = [] ∨ ∃ b o, p = some ⟨b, o, none⟩ ∧ Dt.AllAt w [t] b o) :
    Calls Try.prog 33 #[.int .i64 23, .slice p 1 cap] w fun e w' => Gives (numD t.ls.length 1, 0) e w' ∧ Below w.heap.size w w' := by
  obtain ⟨b, o, k, n, d, s, l, q, c, rfl, rfl, hk, hn, hd, hlm, hat, e0, e1, e2, e3, e4⟩ := one_arg hl
  have HE := Lib.hid (And.intro e0 (And.intro e1 (And.intro e2 (And.intro e3 e4))))
  have HA := Lib.hid hat
  have HI := Lib.hid (And.intro hk (And.intro hn hd))
  have HLM := Lib.hid hlm
  have HNE := Lib.hid (show b ≠ w.heap.size from by have := cell_lt e0; omega)
  clear e0 e1 e2 e3 e4 hat hk hn hd hl hlm
  have h1 : k = 7 := h1
  subst h1
  have N := fun W => rNumber_any (l.length : Int) W
  unfold leafV at N
  have HN := Lib.hid N; clear N
  go_enter Try.func33, Try.ntmps33
  go_upto_region 46 with fail
  obtain ⟨W, hW⟩ : ∃ W, w.alloc (Obj.cells #[.int .i64 0, .int .i64 0, .int .i64 0, .string ⟨#[]⟩, .slice none 0 0] 37) = W := ⟨_, rfl⟩
  have hbw : Below w.heap.size w W := hW ▸ box_below w _
  have hbx := hW ▸ at_new w (Obj.cells #[.int .i64 0, .int .i64 0, .int .i64 0, .string ⟨#[]⟩, .slice none 0 0] 37)
  rw [hW]
  have HB := Lib.hid (And.intro hbx hbw)
  have e0 := cell_on hbw _ _ _ HE.out.1
  have e1 := cell_on hbw _ _ _ HE.out.2.1
  have e2 := cell_on hbw _ _ _ HE.out.2.2.1
  have e3 := cell_on hbw _ _ _ HE.out.2.2.2.1
  have e4 := cell_on hbw _ _ _ HE.out.2.2.2.2
  clear hW hbw hbx
  go_wp2_with fail
  refine (HN.out _).mono ?_
  rintro _ w4 ⟨rfl, hb⟩
  have hbx := block_on hb HB.out.1
  have HB4 := Lib.hid (And.intro hbx (below_seq HB.out.2 hb))
  obtain ⟨y0, y1, y2, y3, y4⟩ := box_cells hbx
  have z0 := box_frozen hbx 0
  have z1 := box_frozen hbx 1
  have z2 := box_frozen hbx 2
  have z3 := box_frozen hbx 3
  have z4 := box_frozen hbx 4
  clear hbx hb
  go_wp2_with fail
  refine bodyPost_ret (results_row1 rfl _ _ w.heap.size 37 _ (0, 0) _ _ rfl rfl (set_five HB4.out.1) Try.underlying37 rfl Try.sizD) rfl ?_
  exact ⟨gives_leaf i64_lit0 (show I64 ((l.length : Nat) : Int) by have := HLM.out; unfold maxLen at this; unfold I64; omega) (by unfold I64; omega) none 0 rfl, set_five_below HB4.out.2 (Nat.le_refl _)⟩
set_option maxHeartbeats 4000000 in
set_option maxRecDepth 100000 in
theorem rdoes24_bad (t : Dt) (p : Option Addr) (cap : Nat) (w : World) (hsz : t.size ≤ 100000) (h1 : t.items = none) (hl : [t] = [] ∨ ∃ b o, p = some ⟨b, o, none⟩ ∧ Dt.AllAt w [t] b o) :
    Calls Try.prog 33 #[.int .i64 24, .slice p 1 cap] w fun e w' => Gives (zeroD, 1) e w' ∧ Below w.heap.size w w' := by
  have HQ := Lib.hid (fun v W (h : t.At W v) => Items_any refRight refName t v W hsz h)
  have H1 := Lib.hid h1
  clear h1 hsz
  obtain ⟨b, o, k, n, d, s, l, q, c, rfl, rfl, hk, hn, hd, hlm, hat, e0, e1, e2, e3, e4⟩ := one_arg hl
  have HE := Lib.hid (And.intro e0 (And.intro e1 (And.intro e2 (And.intro e3 e4))))
  have HA := Lib.hid hat
  have HI := Lib.hid (And.intro hk (And.intro hn hd))
  have HLM := Lib.hid hlm
  have HNE := Lib.hid (show b ≠ w.heap.size from by have := cell_lt e0; omega)
  clear e0 e1 e2 e3 e4 hat hk hn hd hl hlm
  go_enter Try.func33, Try.ntmps33
  go_upto_region 50 with fail
  obtain ⟨W, hW⟩ : ∃ W, w.alloc (Obj.cells #[.int .i64 0, .int .i64 0, .int .i64 0, .string ⟨#[]⟩, .slice none 0 0] 37) = W := ⟨_, rfl⟩
  have hbw : Below w.heap.size w W := hW ▸ box_below w _
  have hbx := hW ▸ at_new w (Obj.cells #[.int .i64 0, .int .i64 0, .int .i64 0, .string ⟨#[]⟩, .slice none 0 0] 37)
  rw [hW]
  have HB := Lib.hid (And.intro hbx hbw)
  have e0 := cell_on hbw _ _ _ HE.out.1
  have e1 := cell_on hbw _ _ _ HE.out.2.1
  have e2 := cell_on hbw _ _ _ HE.out.2.2.1
  have e3 := cell_on hbw _ _ _ HE.out.2.2.2.1
  have e4 := cell_on hbw _ _ _ HE.out.2.2.2.2
  clear hW hbw hbx
  have C := HQ.out _ W (HA.out.below HB.out.2)
  have HC := Lib.hid C; clear C
  go_wp2_with fail
  refine HC.out.mono ?_
  rintro _ w4 ⟨hp, hb⟩
  rcases hp with ⟨_, rfl⟩ | ⟨_, L, v, h2, _⟩
  case inr => rw [H1.out] at h2; cases h2
  have hbx := block_on hb HB.out.1
  have HB4 := Lib.hid (And.intro hbx (below_seq HB.out.2 hb))
  obtain ⟨y0, y1, y2, y3, y4⟩ := box_cells hbx
  have z0 := box_frozen hbx 0
  have z1 := box_frozen hbx 1
  have z2 := box_frozen hbx 2
  have z3 := box_frozen hbx 3
  have z4 := box_frozen hbx 4
  clear hbx hb
  go_wp2_with fail
  refine bodyPost_ret (results_row1 rfl _ _ w.heap.size 37 _ (0, 0) _ _ rfl rfl (set_five HB4.out.1) Try.underlying37 rfl Try.sizD) rfl ?_
  exact ⟨gives_zero rfl, set_five_below HB4.out.2 (Nat.le_refl _)⟩
set_option maxHeartbeats 4000000 in
set_option maxRecDepth 100000 in
theorem rdoes24 (t : Dt) (L : List Dt) (p : Option Addr) (cap : Nat) (w : World) (hsz : t.size ≤ 100000) (hrt : t.right rightB nameB 0 = true) (h1 : t.items = some L) (hl : [t] = [] ∨ ∃ b o, p = some ⟨b, o, none⟩ ∧ Dt.AllAt w [t] b o) :
    Calls Try.prog 33 #[.int .i64 24, .slice p 1 cap] w fun e w' => Gives (numD L.length 1, 0) e w' ∧ Below w.heap.size w w' := by
  have HQ := Lib.hid (fun v W (h : t.At W v) => Items_any refRight refName t v W hsz h)
  have H1 := Lib.hid (And.intro hrt h1)
  have N := fun W => rNumber_any (L.length : Int) W
  unfold leafV at N
  have HN := Lib.hid N
  have hLs := items_len t h1
  have HLL := Lib.hid (show L.length ≤ 100000 by omega)
  clear h1 hsz hrt N hLs
  obtain ⟨b, o, k, n, d, s, l, q, c, rfl, rfl, hk, hn, hd, hlm, hat, e0, e1, e2, e3, e4⟩ := one_arg hl
  have HE := Lib.hid (And.intro e0 (And.intro e1 (And.intro e2 (And.intro e3 e4))))
  have HA := Lib.hid hat
  have HI := Lib.hid (And.intro hk (And.intro hn hd))
  have HLM := Lib.hid hlm
  have HNE := Lib.hid (show b ≠ w.heap.size from by have := cell_lt e0; omega)
  clear e0 e1 e2 e3 e4 hat hk hn hd hl hlm
  go_enter Try.func33, Try.ntmps33
  go_upto_region 50 with fail
  obtain ⟨W, hW⟩ : ∃ W, w.alloc (Obj.cells #[.int .i64 0, .int .i64 0, .int .i64 0, .string ⟨#[]⟩, .slice none 0 0] 37) = W := ⟨_, rfl⟩
  have hbw : Below w.heap.size w W := hW ▸ box_below w _
  have hbx := hW ▸ at_new w (Obj.cells #[.int .i64 0, .int .i64 0, .int .i64 0, .string ⟨#[]⟩, .slice none 0 0] 37)
  rw [hW]
  have HB := Lib.hid (And.intro hbx hbw)
  have e0 := cell_on hbw _ _ _ HE.out.1
  have e1 := cell_on hbw _ _ _ HE.out.2.1
  have e2 := cell_on hbw _ _ _ HE.out.2.2.1
  have e3 := cell_on hbw _ _ _ HE.out.2.2.2.1
  have e4 := cell_on hbw _ _ _ HE.out.2.2.2.2
  clear hW hbw hbx
  have C := HQ.out _ W (HA.out.below HB.out.2)
  have HC := Lib.hid C; clear C
  go_wp2_with fail
  refine HC.out.mono ?_
  rintro _ w4 ⟨hp, hb⟩
  rcases hp with ⟨hh, rfl⟩ | ⟨_, L', v, h2, rfl, hsl⟩
  case inl =>
    rcases hh with hh | hh
    · rw [H1.out.1] at hh; cases hh
    · rw [H1.out.2] at hh; cases hh
  rw [H1.out.2] at h2
  obtain rfl := Option.some.inj h2
  obtain ⟨q2, c2, rfl, _⟩ := hsl
  have HB4 := Lib.hid (And.intro (block_on hb HB.out.1) (below_seq HB.out.2 hb))
  clear hb h2
  go_wp2_with fail
  refine (HN.out _).mono ?_
  rintro _ w5 ⟨rfl, hb⟩
  have hbx := block_on hb HB4.out.1
  have HB5 := Lib.hid (And.intro hbx (below_seq HB4.out.2 hb))
  obtain ⟨y0, y1, y2, y3, y4⟩ := box_cells hbx
  have z0 := box_frozen hbx 0
  have z1 := box_frozen hbx 1
  have z2 := box_frozen hbx 2
  have z3 := box_frozen hbx 3
  have z4 := box_frozen hbx 4
  clear hbx hb
  go_wp2_with fail
  refine bodyPost_ret (results_row1 rfl _ _ w.heap.size 37 _ (0, 0) _ _ rfl rfl (set_five HB5.out.1) Try.underlying37 rfl Try.sizD) rfl ?_
  exact ⟨gives_leaf i64_lit0 (by have := HLL.out; unfold I64; omega) (by unfold I64; omega) none 0 rfl, set_five_below HB5.out.2 (Nat.le_refl _)⟩
set_option maxHeartbeats 4000000 in
set_option maxRecDepth 100000 in
theorem rdoes25 (p : Option Addr) (cap : Nat) (w : World) :
    Calls Try.prog 33 #[.int .i64 25, .slice p 0 cap] w fun e w' => Gives (voidD, 0) e w' ∧ Below w.heap.size w w' := by
  go_enter Try.func33, Try.ntmps33
  go_upto_region 54 with fail
  obtain ⟨W, hW⟩ : ∃ W, w.alloc (Obj.cells #[.int .i64 0, .int .i64 0, .int .i64 0, .string ⟨#[]⟩, .slice none 0 0] 37) = W := ⟨_, rfl⟩
  have hbw : Below w.heap.size w W := hW ▸ box_below w _
  have hbx := hW ▸ at_new w (Obj.cells #[.int .i64 0, .int .i64 0, .int .i64 0, .string ⟨#[]⟩, .slice none 0 0] 37)
  rw [hW]
  have HB := Lib.hid (And.intro hbx hbw)
  obtain ⟨y0, y1, y2, y3, y4⟩ := box_cells hbx
  have z0 := box_frozen hbx 0
  have z1 := box_frozen hbx 1
  have z2 := box_frozen hbx 2
  have z3 := box_frozen hbx 3
  have z4 := box_frozen hbx 4
  clear hW hbw hbx
  go_wp2_with fail
  refine bodyPost_ret (results_row1 rfl _ _ w.heap.size 37 _ (0, 0) _ _ rfl rfl (set_five HB.out.1) Try.underlying37 rfl Try.sizD) rfl ?_
  exact ⟨gives_leaf (by unfold I64; omega) i64_lit0 i64_lit0 none 0 rfl, set_five_below HB.out.2 (Nat.le_refl _)⟩
end Go.Proofs.Ytdeelpagoffdjaa.Dat
