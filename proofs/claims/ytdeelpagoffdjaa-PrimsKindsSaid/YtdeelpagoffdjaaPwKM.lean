/- The law PrimsKinds. -/
import Derived.Test.YtdeelpagoffdjaaPwBM

namespace Go.Proofs.Ytdeelpagoffdjaa.Dat
open Go.RowKit
open NumPlain
set_option linter.unusedVariables false

mutual
theorem eqD_self : ∀ (t : Dt) (c : Int), (t.size : Int) ≤ c → eqD t t c = (true, c - t.size)
  | .node k n d s l, c, h => by
    unfold Dt.size at h ⊢
    unfold eqD
    rw [if_neg (by
      rintro (h1 | h1 | h1)
      · omega
      · simp [headB] at h1
      · exact h1 rfl)]
    show eqL l l (c - 1) = _
    rw [eqL_self l (c - 1) (by omega)]
    congr 1; omega
theorem eqL_self : ∀ (l : List Dt) (c : Int), (Dt.sizes l : Int) ≤ c → eqL l l c = (true, c - Dt.sizes l)
  | [], c, h => by unfold eqL Dt.sizes; simp
  | t :: r, c, h => by
    unfold Dt.sizes at h ⊢
    unfold eqL
    have h1 := eqD_self t c (by omega)
    simp only
    rw [h1]
    simp only [if_true]
    rw [eqL_self r (c - t.size) (by omega)]
    congr 1; omega
end
def bitI (b : Bool) : Int := if b = true then 1 else 0
theorem fold_kind {k : Int} {t : Dt} (h1 : 9 ≤ k) (h2 : k ≤ 16) (hr : rightD t = true) : foldB nameB k [t] = (boolD (decide (t.kd = kindOf k)), 0, true) := by
  have hf : foldsB k = true ∧ takesB k 1 = true ∧ fitB k [t] = true ∧ madeB k [t] = (boolD (decide (t.kd = kindOf k)), 0) := by
    have hk : k = 9 ∨ k = 10 ∨ k = 11 ∨ k = 12 ∨ k = 13 ∨ k = 14 ∨ k = 15 ∨ k = 16 := by omega
    rcases hk with rfl | rfl | rfl | rfl | rfl | rfl | rfl | rfl
    all_goals exact ⟨by decide +kernel, by decide +kernel, rfl, rfl⟩
  have hra : Dt.rightAll rightB nameB [t] 0 = true := by unfold Dt.rightAll; rw [show t.right rightB nameB 0 = true from hr]; rfl
  unfold foldB
  rw [if_pos ⟨hf.1, hra⟩, does_made hf.2.1 hf.2.2.1, hf.2.2.2]
theorem fold_self {t : Dt} (hs : t.size ≤ 900) (hr : rightD t = true) : foldB nameB 7 [t, t] = (boolD true, 0, true) := by
  have hra : Dt.rightAll rightB nameB [t, t] 0 = true := by unfold Dt.rightAll Dt.rightAll; rw [show t.right rightB nameB 0 = true from hr]; rfl
  have h1 : foldsB 7 = true := by decide +kernel
  have h2 : takesB 7 2 = true := by decide +kernel
  have h3 : madeB 7 [t, t] = equalR t t := rfl
  unfold foldB
  rw [if_pos ⟨h1, hra⟩, does_made h2 rfl, h3]
  unfold equalR
  rw [eqD_self t 1000 (by omega), if_neg (by show ¬ (1000 - (t.size : Int)) < 0; omega)]
/-- How many of the first ones say that it is of their kind. -/
def cntK (kd : Int) : Nat → Int
  | 0 => 0
  | j + 1 => cntK kd j + bitI (decide (kd = kindOf (9 + (j : Int))))
theorem cntK_bounds (kd : Int) : ∀ j : Nat, 0 ≤ cntK kd j ∧ cntK kd j ≤ j
  | 0 => by unfold cntK; omega
  | j + 1 => by
    have := cntK_bounds kd j
    unfold cntK bitI
    split <;> omega
theorem cntK_all {kd : Int} (h : 0 ≤ kd ∧ kd ≤ 7) : (cntK kd 7 = 1 ∧ kd ≠ 5) ∨ (cntK kd 7 = 0 ∧ kd = 5) := by
  have hk : kd = 0 ∨ kd = 1 ∨ kd = 2 ∨ kd = 3 ∨ kd = 4 ∨ kd = 5 ∨ kd = 6 ∨ kd = 7 := by omega
  rcases hk with rfl | rfl | rfl | rfl | rfl | rfl | rfl | rfl <;> decide
/-- What a call of Fold tells that has a Bool for its answer. -/
theorem bool_is {b : Bool} {x : Ending} {w : World} (h : FoldR (boolD b, 0, true) x w) : ∃ p cap, x = .returned (.tuple #[.agg #[.int .i64 1, .int .i64 (bitI b), .int .i64 0, .string ⟨#[]⟩, .slice p 0 cap], .int .i64 0, .bool true]) := leaf_is h

set_option maxHeartbeats 8000000 in
set_option maxRecDepth 100000 in
theorem primsKinds_any (t : Dt) (v : Value) (w : World) (hat : t.At w v) :
    Calls Try.prog 9 #[v] w fun e w' => e = .returned (.bool true) ∧ Below w.heap.size w w' := by
  have HAT := Lib.hid (fun W (hb : Below w.heap.size w W) => hat.below hb)
  obtain ⟨rt, hrt⟩ : ∃ r, rightD t = r := ⟨_, rfl⟩
  obtain ⟨fe, hfe⟩ : ∃ r, decide ((Dt.sizes [t] : Int) ≤ 900) = r := ⟨_, rfl⟩
  have HRT := Lib.hid hrt
  have HFE := Lib.hid hfe
  have HP := Lib.hid (fun W (hb : Below w.heap.size w W) => (pRight t v W (hat.below hb)))
  rw [show t.right rightB nameB 0 = rt from hrt] at HP
  obtain ⟨kd, hkd⟩ : ∃ k, t.kd = k := ⟨_, rfl⟩
  have HKD := Lib.hid hkd
  have hat0 := hat
  obtain ⟨k, n, d, s, l⟩ := t
  unfold Dt.At at hat
  obtain ⟨hk, hn, hd, hs, hlm, p, cap, rfl, -⟩ := hat
  obtain rfl : k = kd := hkd
  have HFEW := Lib.hid (fun W (hb : Below w.heap.size w W) => by
    have := few5_any [Dt.node k n d s l] (some ⟨W.heap.size, 0, none⟩) 1 900 (W.alloc (Obj.cells #[.int .i64 k, .int .i64 n, .int .i64 d, .string s, .slice p l.length cap] 37)) (by unfold maxLen; simp) (by omega) (by omega) (lies_one (at_new W _) ((hat0.below hb).below (box_below W _)))
    rw [hfe] at this
    exact this)
  clear hat0 hfe hrt hn hd hs hlm
  unfold I64 at hk
  go_enter Try.func9, Try.ntmps9
  go_wp2_with fail
  refine (awake5_any _).mono ?_
  rintro _ w1 ⟨rfl, hb1⟩
  have hbx := one_box hb1
  have HB1 := Lib.hid (And.intro hbx (below_after hb1))
  obtain ⟨c0, c1, c2, c3, c4⟩ := box_cells hbx
  clear hb1 hbx
  go_wp2_with fail
  refine (HFEW.out w1 HB1.out.2).mono ?_
  rintro _ w2 ⟨rfl, hb2⟩
  have hb2' := below_after hb2
  have HB2 := Lib.hid (And.intro (block_on hb2' HB1.out.1) (below_seq HB1.out.2 hb2'))
  replace c0 := cell_on hb2' _ _ _ c0
  replace c1 := cell_on hb2' _ _ _ c1
  replace c2 := cell_on hb2' _ _ _ c2
  replace c3 := cell_on hb2' _ _ _ c3
  replace c4 := cell_on hb2' _ _ _ c4
  clear hb2 hb2'
  cases fe
  · go_wp2_with fail
    go_ret
    exact ⟨rfl, HB2.out.2⟩
  go_wp2_with fail
  refine (HP.out w2 HB2.out.2).mono ?_
  rintro _ w3 ⟨rfl, hb3⟩
  have HB3 := Lib.hid (And.intro (block_on hb3 HB2.out.1) (below_seq HB2.out.2 hb3)); clear hb3 c0 c1 c2 c3 c4
  cases rt
  · go_wp2_with fail
    go_ret
    exact ⟨rfl, HB3.out.2⟩
  have HSZ := Lib.hid (show (Dt.node k n d s l).size ≤ 900 from by have := of_decide_eq_true HFE.out; unfold Dt.sizes Dt.sizes at this; omega)
  have HALL := Lib.hid (show (cntK k 7 = 1 ∧ k ≠ 5) ∨ (cntK k 7 = 0 ∧ k = 5) from cntK_all (kd_right HRT.out))
  go_wp2_with fail
  go_loopw [4, 5] (fun y x wr => ∃ (j : Nat), j ≤ 7 ∧ x = .int .i64 (9 + (j : Int)) ∧ y = .int .i64 (cntK k j) ∧ wr.heap[w.heap.size]? = some (Obj.cells #[.int .i64 k, .int .i64 n, .int .i64 d, .string s, .slice p l.length cap] 37) ∧ Below w.heap.size w wr) (fun _ x _ => 16 - (intOf x).toNat)
  case atStart => exact ⟨0, by omega, rfl, rfl, HB3.out.1, HB3.out.2⟩
  case round =>
    obtain ⟨j, hj, rfl, rfl, hbx, hb⟩ := hrel
    have HR := Lib.hid (And.intro hbx hb)
    obtain ⟨c0, c1, c2, c3, c4⟩ := box_cells hbx
    have hcb := cntK_bounds k j
    clear hbx hb
    by_cases hlt : j < 7
    · have C := Fold_any (9 + (j : Int)) [Dt.node k n d s l] (some ⟨wr.heap.size, 0, none⟩) 1 (wr.alloc (Obj.cells #[.int .i64 k, .int .i64 n, .int .i64 d, .string s, .slice p l.length cap] 37)) (by unfold I64; omega) (by unfold maxLen; simp) (by have := HSZ.out; unfold Dt.sizes Dt.sizes; omega) (by simp)
        (lies_one (at_new wr _) ((HAT.out wr HR.out.2).below (box_below wr _)))
      rw [fold_kind (by omega) (by omega) HRT.out] at C
      obtain ⟨bb, hbb⟩ : ∃ b, decide ((Dt.node k n d s l).kd = kindOf (9 + (j : Int))) = b := ⟨_, rfl⟩
      rw [hbb] at C
      have HC := Lib.hid C
      have hst : cntK k (j + 1) = cntK k j + bitI bb := by rw [← hbb]; rfl
      have hcb2 := cntK_bounds k (j + 1)
      obtain ⟨yb, hyb⟩ : ∃ y, bitI bb = y := ⟨_, rfl⟩
      have HST := Lib.hid (And.intro hst hyb)
      have hyr : 0 ≤ yb ∧ yb ≤ 1 := by rw [← hyb]; unfold bitI; split <;> omega
      rw [hst, hyb] at hcb2
      clear C hbb hst hyb
      go_wp2_with fail
      refine HC.out.mono ?_
      rintro _ w4 ⟨hg, hb4⟩
      obtain ⟨q, c, rfl⟩ := bool_is hg
      rw [HST.out.2]
      have hb4' := below_after hb4
      have HW4 := Lib.hid (And.intro (block_on (below_seq hb4' (box_below w4 (Obj.cells #[.int .i64 1, .int .i64 yb, .int .i64 0, .string ⟨#[]⟩, .slice q 0 c] 37))) HR.out.1) (below_seq HR.out.2 (below_seq hb4' (box_below w4 (Obj.cells #[.int .i64 1, .int .i64 yb, .int .i64 0, .string ⟨#[]⟩, .slice q 0 c] 37)))))
      clear hg hb4 hb4' c0 c1 c2 c3 c4
      go_wp2_with fail
      go_roundw
      case rel => exact ⟨j + 1, by omega, by go_num, by rw [HST.out.1, HST.out.2], HW4.out.1, HW4.out.2⟩
      case measure => simp [intOf]; omega
    · obtain rfl : j = 7 := by omega
      have C16 := Fold_any 16 [Dt.node k n d s l] (some ⟨wr.heap.size, 0, none⟩) 1 (wr.alloc (Obj.cells #[.int .i64 k, .int .i64 n, .int .i64 d, .string s, .slice p l.length cap] 37)) (by unfold I64; omega) (by unfold maxLen; simp) (by have := HSZ.out; unfold Dt.sizes Dt.sizes; omega) (by simp)
        (lies_one (at_new wr _) ((HAT.out wr HR.out.2).below (box_below wr _)))
      rw [fold_kind (by omega) (by omega) HRT.out, show decide ((Dt.node k n d s l).kd = kindOf 16) = false from decide_eq_false (by have := kd_right HRT.out; show k ≠ -1; have h : (0 : Int) ≤ k := this.1; omega)] at C16
      have HC := Lib.hid C16; clear C16
      obtain ⟨cn, hcn⟩ : ∃ c, cntK k 7 = c := ⟨_, rfl⟩
      rw [hcn] at HALL hcb ⊢
      clear hcn
      go_wp2_with fail
      refine HC.out.mono ?_
      rintro _ w4 ⟨hg, hb4⟩
      obtain ⟨q, c, rfl⟩ := bool_is hg
      have hb4' := below_after hb4
      have HW4 := Lib.hid (And.intro (block_on hb4' HR.out.1) (below_seq HR.out.2 hb4'))
      clear hg hb4 hb4' c0 c1 c2 c3 c4
      go_upto_region 13 with fail
      obtain ⟨W, hW⟩ : ∃ W, w4.alloc (Obj.cells #[.int .i64 1, .int .i64 (bitI false), .int .i64 0, .string ⟨#[]⟩, .slice q 0 c] 37) = W := ⟨_, rfl⟩
      have hbw : Below w4.heap.size w4 W := hW ▸ box_below w4 _
      have hnx := hW ▸ at_new w4 (Obj.cells #[.int .i64 1, .int .i64 (bitI false), .int .i64 0, .string ⟨#[]⟩, .slice q 0 c] 37)
      rw [hW]
      have HW := Lib.hid (And.intro hnx (And.intro (block_on hbw HW4.out.1) (below_seq HW4.out.2 hbw)))
      obtain ⟨c0, c1, c2, c3, c4⟩ := box_cells HW.out.2.1
      have C7 := Fold_any 7 [Dt.node k n d s l, Dt.node k n d s l] (some ⟨W.heap.size, 0, none⟩) 2 (W.alloc (Obj.cells #[.int .i64 k, .int .i64 n, .int .i64 d, .string s, .slice p l.length cap, .int .i64 k, .int .i64 n, .int .i64 d, .string s, .slice p l.length cap] 37)) (by unfold I64; omega) (by unfold maxLen; simp) (by have := HSZ.out; unfold Dt.sizes Dt.sizes Dt.sizes; omega) (by simp)
        (lies_two (at_new W _) ((HAT.out W HW.out.2.2).below (box_below W _)) ((HAT.out W HW.out.2.2).below (box_below W _)))
      rw [fold_self HSZ.out HRT.out] at C7
      have HC7 := Lib.hid C7
      clear C7 hbw hnx hW
      go_wp2_with fail
      refine HC7.out.mono ?_
      rintro _ w5 ⟨hg, hb5⟩
      obtain ⟨q2, c2', rfl⟩ := bool_is hg
      have hb5' := below_after hb5
      have hbb := below_seq hb5' (box_below w5 (Obj.cells #[.int .i64 1, .int .i64 1, .int .i64 0, .string ⟨#[]⟩, .slice q2 0 c2'] 37))
      obtain ⟨d0, d1, d2, d3, d4⟩ := box_cells (block_on hbb HW.out.1)
      obtain ⟨e0, e1, e2, e3, e4⟩ := box_cells (block_on hbb HW.out.2.1)
      have HL := Lib.hid (below_seq HW.out.2.2 hbb)
      clear hg hb5 hb5' hbb c0 c1 c2 c3 c4
      rw [show bitI true = 1 from rfl]
      replace d1 := d1.trans (show _ = some (Value.int .i64 0) from rfl)
      rcases HALL.out with ⟨rfl, hk5⟩ | ⟨rfl, rfl⟩
      · have q5 : (k != 5) = true := by rw [bne_iff_ne]; exact hk5
        have q6 : (k == 5) = false := by rw [beq_eq_false_iff_ne]; exact hk5
        go_wp2_with fail
        go_ret
        exact ⟨rfl, HL.out⟩
      · go_wp2_with fail
        go_ret
        exact ⟨rfl, HL.out⟩
end Go.Proofs.Ytdeelpagoffdjaa.Dat
