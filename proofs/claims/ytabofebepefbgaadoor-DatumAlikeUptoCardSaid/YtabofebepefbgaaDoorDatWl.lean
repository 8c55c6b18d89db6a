/- The law DatumAlike. -/
import Derived.Test.YtabofebepefbgaaDoorDatWc
import Derived.Test.YtabofebepefbgaaDoorDatVv
import Derived.Test.YtabofebepefbgaaDoorDatQ
namespace Go.Proofs.YtabofebepefbgaaDoor.Dat
open Go.RowKit
open Go.Proofs.YtabofebepefbgaaDoor (textL parse res str_of)
open NumPlain (rightB)
set_option linter.unusedVariables false
set_option linter.unusedSimpArgs false

theorem pSame (t t' : Dt) (v v' : Value) (w : World) (hat : t.At w v) (hat' : t'.At w v') (r : Bool) (hr : (t.right rightB nameB 0 && t'.right rightB nameB 0 && t.alike t') = r) :
    Calls Tryd.prog 18 #[v, v'] w fun e w' => e = .returned (.bool r) ∧ Below w.heap.size w w' := hr ▸ ownSame_any (fun t => t.right rightB nameB 0) pRight t t' v v' w hat hat'
theorem alike_comm (t t' : Dt) : t.alike t' = t'.alike t := by
  rw [Bool.eq_iff_iff, Dt.alike_iff, Dt.alike_iff]; exact ⟨Eq.symm, Eq.symm⟩
set_option maxHeartbeats 8000000 in
set_option maxRecDepth 100000 in
theorem datumAlike_any (t t' : Dt) (v v' : Value) (w : World) (htab : Tab w) (hat : t.At w v) (hat' : t'.At w v') (hroom : t.right rightB nameB 0 = true → (t.text textL).length ≤ 140737488355328) (hroom' : t'.right rightB nameB 0 = true → (t'.text textL).length ≤ 140737488355328) :
    Answers 4 #[v, v'] w (.bool true) := by
  have hA := fun w' (h : Below w.heap.size w w') => awake_any w' (tab_on htab h)
  have F1 := fun w' (hb : Below w.heap.size w w') => fewLaw_any t v 1000 w' (by omega) (by omega) (hat.below hb)
  have F2 := fun w' (hb : Below w.heap.size w w') => fewLaw_any t' v' 1000 w' (by omega) (by omega) (hat'.below hb)
  have R1 := fun w' (hb : Below w.heap.size w w') => pRight t v w' (hat.below hb)
  have R2 := fun w' (hb : Below w.heap.size w w') => pRight t' v' w' (hat'.below hb)
  obtain ⟨x, hx, -⟩ := str_of (l := t.full rightB nameB textL)
  obtain ⟨y, hy, -⟩ := str_of (l := t'.full rightB nameB textL)
  have T1 := fun w' (hb : Below w.heap.size w w') => pText t v x w' (hat.below hb) (tab_on htab hb) hroom hx
  have T2 := fun w' (hb : Below w.heap.size w w') => pText t' v' y w' (hat'.below hb) (tab_on htab hb) hroom' hy
  obtain ⟨r, hr⟩ : ∃ b, t.right rightB nameB 0 = b := ⟨_, rfl⟩
  obtain ⟨r', hr'⟩ : ∃ b, t'.right rightB nameB 0 = b := ⟨_, rfl⟩
  obtain ⟨sm, hsm⟩ : ∃ b, (r && r' && t.alike t') = b := ⟨_, rfl⟩
  have hself : (t.right rightB nameB 0 && t.right rightB nameB 0 && t.alike t) = r := by rw [(Dt.alike_iff t t).2 rfl, hr]; cases r <;> rfl
  have hone : (t.right rightB nameB 0 && t'.right rightB nameB 0 && t.alike t') = sm := by rw [hr, hr']; exact hsm
  have htwo : (t'.right rightB nameB 0 && t.right rightB nameB 0 && t'.alike t) = sm := by rw [hr, hr', ← hsm, alike_comm t' t]; cases r <;> cases r' <;> rfl
  have S1 := fun w' (hb : Below w.heap.size w w') => pSame t t v v w' (hat.below hb) (hat.below hb) r hself
  have S2 := fun w' (hb : Below w.heap.size w w') => pSame t t' v v' w' (hat.below hb) (hat'.below hb) sm hone
  have S3 := fun w' (hb : Below w.heap.size w w') => pSame t' t v' v w' (hat'.below hb) (hat.below hb) sm htwo
  rw [hr] at R1
  rw [hr'] at R2
  have hxy : r = true → r' = true → sm = decide (x.toList = y.toList) := by
    intro h1 h2
    subst h1 h2
    unfold Dt.full at hx hy
    rw [hr, if_pos rfl] at hx
    rw [hr', if_pos rfl] at hy
    rw [← hsm, alike_text sound hr hr', Bool.true_and, Bool.true_and, decide_eq_decide, ← hx, ← hy]
    exact ⟨fun h => by rw [show x = y from ByteArray.ext (Array.toList_inj.1 h)], fun h => by rw [bytes_inj h]⟩
  have hx0 : r = false → x = ⟨#[]⟩ := by
    intro h1
    subst h1
    unfold Dt.full at hx
    rw [hr, if_neg (by decide)] at hx
    cases x with
    | mk z => congr; exact Array.toList_inj.1 hx
  obtain ⟨f1, hf1⟩ : ∃ b, decide ((t.size : Int) ≤ 1000) = b := ⟨_, rfl⟩
  obtain ⟨f2, hf2⟩ : ∃ b, decide ((t'.size : Int) ≤ 1000) = b := ⟨_, rfl⟩
  rw [hf1] at F1
  rw [hf2] at F2
  have HA := Lib.hid hA
  have HF1 := Lib.hid F1
  have HF2 := Lib.hid F2
  have HR1 := Lib.hid R1
  have HR2 := Lib.hid R2
  have HS1 := Lib.hid S1
  have HS2 := Lib.hid S2
  have HS3 := Lib.hid S3
  have HT1 := Lib.hid T1
  have HT2 := Lib.hid T2
  have HXY := Lib.hid hxy
  have HX0 := Lib.hid hx0
  have HSM := Lib.hid (show (r && r' && decide (t.alike t' = true)) = sm from by rw [← hsm]; cases t.alike t' <;> rfl)
  generalize decide (t.alike t' = true) = al at HSM
  clear hA F1 F2 R1 R2 S1 S2 S3 T1 T2 hxy hx0 hx hy hsm hr hr' hself hone htwo hroom hroom' htab hf1 hf2
  obtain ⟨k, n, d, s, l⟩ := t
  obtain ⟨k2, n2, d2, s2, l2⟩ := t'
  unfold Dt.At at hat hat'
  obtain ⟨-, -, -, -, -, p, cap, rfl, -⟩ := hat
  obtain ⟨-, -, -, -, -, p2, cap2, rfl, -⟩ := hat'
  unfold Answers
  go_enter Tryd.func4, Tryd.ntmps4
  go_wp2_with fail
  refine (HA.out _ (below2 w _ _)).mono ?_
  rintro _ w1 ⟨rfl, hb1⟩
  obtain ⟨x1, x2⟩ := two_box hb1
  obtain ⟨a0, a1, a2, a3, a4⟩ := box_cells x1
  obtain ⟨b0, b1, b2, b3, b4⟩ := box_cells x2
  have B1 := Lib.hid ((below2 w _ _).trans (hb1.mono (by rw [sz2]; omega)))
  clear hb1 x1 x2
  go_wp2_with fail
  refine (HF1.out _ B1.out).mono ?_
  rintro _ w2 ⟨rfl, hb⟩
  replace a0 := cell_on hb _ _ _ a0
  replace a1 := cell_on hb _ _ _ a1
  replace a2 := cell_on hb _ _ _ a2
  replace a3 := cell_on hb _ _ _ a3
  replace a4 := cell_on hb _ _ _ a4
  replace b0 := cell_on hb _ _ _ b0
  replace b1 := cell_on hb _ _ _ b1
  replace b2 := cell_on hb _ _ _ b2
  replace b3 := cell_on hb _ _ _ b3
  replace b4 := cell_on hb _ _ _ b4
  have B2 := Lib.hid (below_then B1.out hb)
  clear hb
  cases f1
  · go_wp2_with fail
    go_ret
    exact ⟨rfl, B2.out⟩
  go_wp2_with fail
  refine (HF2.out _ B2.out).mono ?_
  rintro _ w3 ⟨rfl, hb⟩
  replace a0 := cell_on hb _ _ _ a0
  replace a1 := cell_on hb _ _ _ a1
  replace a2 := cell_on hb _ _ _ a2
  replace a3 := cell_on hb _ _ _ a3
  replace a4 := cell_on hb _ _ _ a4
  replace b0 := cell_on hb _ _ _ b0
  replace b1 := cell_on hb _ _ _ b1
  replace b2 := cell_on hb _ _ _ b2
  replace b3 := cell_on hb _ _ _ b3
  replace b4 := cell_on hb _ _ _ b4
  have B3 := Lib.hid (below_then B2.out hb)
  clear hb
  cases f2
  · go_wp2_with fail
    go_ret
    exact ⟨rfl, B3.out⟩
  go_wp2_with fail
  refine (HR1.out _ B3.out).mono ?_
  rintro _ w4 ⟨rfl, hb⟩
  replace a0 := cell_on hb _ _ _ a0
  replace a1 := cell_on hb _ _ _ a1
  replace a2 := cell_on hb _ _ _ a2
  replace a3 := cell_on hb _ _ _ a3
  replace a4 := cell_on hb _ _ _ a4
  replace b0 := cell_on hb _ _ _ b0
  replace b1 := cell_on hb _ _ _ b1
  replace b2 := cell_on hb _ _ _ b2
  replace b3 := cell_on hb _ _ _ b3
  replace b4 := cell_on hb _ _ _ b4
  have B4 := Lib.hid (below_then B3.out hb)
  clear hb
  go_wp2_with fail
  refine (HR2.out _ B4.out).mono ?_
  rintro _ w5 ⟨rfl, hb⟩
  replace a0 := cell_on hb _ _ _ a0
  replace a1 := cell_on hb _ _ _ a1
  replace a2 := cell_on hb _ _ _ a2
  replace a3 := cell_on hb _ _ _ a3
  replace a4 := cell_on hb _ _ _ a4
  replace b0 := cell_on hb _ _ _ b0
  replace b1 := cell_on hb _ _ _ b1
  replace b2 := cell_on hb _ _ _ b2
  replace b3 := cell_on hb _ _ _ b3
  replace b4 := cell_on hb _ _ _ b4
  have B5 := Lib.hid (below_then B4.out hb)
  clear hb
  cases r
  · have hx0 := HX0.out rfl
    subst hx0
    obtain rfl : sm = false := HSM.out.symm
    all_goals
     go_wp2_with fail
     have B4 := (B5.out).drew
     replace a0 : w5.drew.cell? ⟨w.heap.size, 0, none⟩ = some (.int .i64 k) := a0
     replace a1 : w5.drew.cell? ⟨w.heap.size, 1, none⟩ = some (.int .i64 n) := a1
     replace a2 : w5.drew.cell? ⟨w.heap.size, 2, none⟩ = some (.int .i64 d) := a2
     replace a3 : w5.drew.cell? ⟨w.heap.size, 3, none⟩ = some (.string s) := a3
     replace a4 : w5.drew.cell? ⟨w.heap.size, 4, none⟩ = some (.slice p l.length cap) := a4
     replace b0 : w5.drew.cell? ⟨w.heap.size + 1, 0, none⟩ = some (.int .i64 k2) := b0
     replace b1 : w5.drew.cell? ⟨w.heap.size + 1, 1, none⟩ = some (.int .i64 n2) := b1
     replace b2 : w5.drew.cell? ⟨w.heap.size + 1, 2, none⟩ = some (.int .i64 d2) := b2
     replace b3 : w5.drew.cell? ⟨w.heap.size + 1, 3, none⟩ = some (.string s2) := b3
     replace b4 : w5.drew.cell? ⟨w.heap.size + 1, 4, none⟩ = some (.slice p2 l2.length cap2) := b4
     refine wp_region_held_drew (S := fun w' => w'.cell? ⟨w.heap.size, 0, none⟩ = some (.int .i64 k) ∧ w'.cell? ⟨w.heap.size, 1, none⟩ = some (.int .i64 n) ∧ w'.cell? ⟨w.heap.size, 2, none⟩ = some (.int .i64 d) ∧ w'.cell? ⟨w.heap.size, 3, none⟩ = some (.string s) ∧ w'.cell? ⟨w.heap.size, 4, none⟩ = some (.slice p l.length cap) ∧ w'.cell? ⟨w.heap.size + 1, 0, none⟩ = some (.int .i64 k2) ∧ w'.cell? ⟨w.heap.size + 1, 1, none⟩ = some (.int .i64 n2) ∧ w'.cell? ⟨w.heap.size + 1, 2, none⟩ = some (.int .i64 d2) ∧ w'.cell? ⟨w.heap.size + 1, 3, none⟩ = some (.string s2) ∧ w'.cell? ⟨w.heap.size + 1, 4, none⟩ = some (.slice p2 l2.length cap2) ∧ Below w.heap.size w w') (by kernel_rfl) ⟨a0, a1, a2, a3, a4, b0, b1, b2, b3, b4, B4⟩ (fun hHeld => ?_)
     refine wpAnyH_take (i := 0) (oi := { dst := some 22, op := _, type := _, pos := _, after := _, guard := _ }) (v := ?_) rfl (by kernel_rfl) (by kernel_rfl) (by kernel_rfl) (fun _ _ _ h => h) (Or.inl ⟨by kernel_rfl, ?_⟩) (by with_reducible assumption) ?_
     rotate_left 1
     · (intro w' hSw; (try dsimp only at hSw); go_simp; try with_reducible rfl)
     (try simp only [Act.put, List.setIfInBounds_toArray, List.set_cons_zero, List.set_cons_succ])
     refine wpAnyH_take (i := 1) (oi := { dst := some 23, op := _, type := _, pos := _, after := _, guard := _ }) (v := ?_) rfl (by kernel_rfl) (by kernel_rfl) (by kernel_rfl) (fun _ _ _ h => h) (Or.inl ⟨by kernel_rfl, ?_⟩) (by with_reducible assumption) ?_
     rotate_left 1
     · (intro w' hSw; (try dsimp only at hSw); go_simp; try with_reducible rfl)
     (try simp only [Act.put, List.setIfInBounds_toArray, List.set_cons_zero, List.set_cons_succ])
     refine wpAnyH_take (i := 2) (oi := { dst := some 24, op := _, type := _, pos := _, after := _, guard := _ }) (v := ?_) rfl (by kernel_rfl) (by kernel_rfl) (by kernel_rfl) (fun _ _ _ h => h) (Or.inl ⟨by kernel_rfl, ?_⟩) (by with_reducible assumption) ?_
     rotate_left 1
     · (intro w' hSw; (try dsimp only at hSw); go_simp; try with_reducible rfl)
     (try simp only [Act.put, List.setIfInBounds_toArray, List.set_cons_zero, List.set_cons_succ])
     refine wpAnyH_take (i := 3) (oi := { dst := some 25, op := _, type := _, pos := _, after := _, guard := _ }) (v := ?_) rfl (by kernel_rfl) (by kernel_rfl) (by kernel_rfl) (fun _ _ _ h => h) (Or.inl ⟨by kernel_rfl, ?_⟩) (by with_reducible assumption) ?_
     rotate_left 1
     · (intro w' hSw; (try dsimp only at hSw); go_simp; try with_reducible rfl)
     (try simp only [Act.put, List.setIfInBounds_toArray, List.set_cons_zero, List.set_cons_succ])
     refine wpAnyH_take (i := 5) (oi := { dst := some 27, op := _, type := _, pos := _, after := _, guard := _ }) (v := ?_) rfl (by kernel_rfl) (by kernel_rfl) (by kernel_rfl) (fun _ _ _ h => h) (Or.inl ⟨by kernel_rfl, ?_⟩) (by with_reducible assumption) ?_
     rotate_left 1
     · (intro w' hSw; (try dsimp only at hSw); go_simp; try with_reducible rfl)
     (try simp only [Act.put, List.setIfInBounds_toArray, List.set_cons_zero, List.set_cons_succ])
     refine wpAnyH_ready (rs := [4]) (by kernel_rfl) (by simp) ?_
     refine AllReadyH.cons (o := { dst := some 26, op := _, type := _, pos := _, after := _, guard := _ }) rfl (fun K hK => ?_) AllReadyH.nil
     go_simp
     go_at_call 18
     with_reducible refine (HS1.out _ (by with_reducible first | assumption | exact hHeld.2.2.2.2.2.2.2.2.2.2)).mono ?_
     rintro _ w104 ⟨rfl, hb⟩
     have hH2 : w104.cell? ⟨w.heap.size, 0, none⟩ = some (.int .i64 k) ∧ w104.cell? ⟨w.heap.size, 1, none⟩ = some (.int .i64 n) ∧ w104.cell? ⟨w.heap.size, 2, none⟩ = some (.int .i64 d) ∧ w104.cell? ⟨w.heap.size, 3, none⟩ = some (.string s) ∧ w104.cell? ⟨w.heap.size, 4, none⟩ = some (.slice p l.length cap) ∧ w104.cell? ⟨w.heap.size + 1, 0, none⟩ = some (.int .i64 k2) ∧ w104.cell? ⟨w.heap.size + 1, 1, none⟩ = some (.int .i64 n2) ∧ w104.cell? ⟨w.heap.size + 1, 2, none⟩ = some (.int .i64 d2) ∧ w104.cell? ⟨w.heap.size + 1, 3, none⟩ = some (.string s2) ∧ w104.cell? ⟨w.heap.size + 1, 4, none⟩ = some (.slice p2 l2.length cap2) ∧ Below w.heap.size w w104 := ⟨cell_on hb _ _ _ hHeld.1, cell_on hb _ _ _ hHeld.2.1, cell_on hb _ _ _ hHeld.2.2.1, cell_on hb _ _ _ hHeld.2.2.2.1, cell_on hb _ _ _ hHeld.2.2.2.2.1, cell_on hb _ _ _ hHeld.2.2.2.2.2.1, cell_on hb _ _ _ hHeld.2.2.2.2.2.2.1, cell_on hb _ _ _ hHeld.2.2.2.2.2.2.2.1, cell_on hb _ _ _ hHeld.2.2.2.2.2.2.2.2.1, cell_on hb _ _ _ hHeld.2.2.2.2.2.2.2.2.2.1, below_then hHeld.2.2.2.2.2.2.2.2.2.2 hb⟩
     clear hb hHeld
     have hHeld := hH2; clear hH2
     refine hK.out _ _ hHeld (fun _ => ?_)
     clear hK K
     (try simp only [Act.put, List.setIfInBounds_toArray, List.set_cons_zero, List.set_cons_succ])
     refine wpAnyH_take (i := 6) (oi := { dst := some 28, op := _, type := _, pos := _, after := _, guard := _ }) (v := ?_) rfl (by kernel_rfl) (by kernel_rfl) (by kernel_rfl) (fun _ _ _ h => h) (Or.inl ⟨by kernel_rfl, ?_⟩) (by with_reducible assumption) ?_
     rotate_left 1
     · (intro w' hSw; (try dsimp only at hSw); go_simp; try with_reducible rfl)
     (try simp only [Act.put, List.setIfInBounds_toArray, List.set_cons_zero, List.set_cons_succ])
     refine wpAnyH_take (i := 7) (oi := { dst := some 29, op := _, type := _, pos := _, after := _, guard := _ }) (v := ?_) rfl (by kernel_rfl) (by kernel_rfl) (by kernel_rfl) (fun _ _ _ h => h) (Or.inl ⟨by kernel_rfl, ?_⟩) (by with_reducible assumption) ?_
     rotate_left 1
     · (intro w' hSw; (try dsimp only at hSw); go_simp; try with_reducible rfl)
     (try simp only [Act.put, List.setIfInBounds_toArray, List.set_cons_zero, List.set_cons_succ])
     refine wpAnyH_take (i := 8) (oi := { dst := some 30, op := _, type := _, pos := _, after := _, guard := _ }) (v := ?_) rfl (by kernel_rfl) (by kernel_rfl) (by kernel_rfl) (fun _ _ _ h => h) (Or.inl ⟨by kernel_rfl, ?_⟩) (by with_reducible assumption) ?_
     rotate_left 1
     · (intro w' hSw; (try dsimp only at hSw); go_simp; try with_reducible rfl)
     (try simp only [Act.put, List.setIfInBounds_toArray, List.set_cons_zero, List.set_cons_succ])
     refine wpAnyH_take (i := 9) (oi := { dst := some 31, op := _, type := _, pos := _, after := _, guard := _ }) (v := ?_) rfl (by kernel_rfl) (by kernel_rfl) (by kernel_rfl) (fun _ _ _ h => h) (Or.inl ⟨by kernel_rfl, ?_⟩) (by with_reducible assumption) ?_
     rotate_left 1
     · (intro w' hSw; (try dsimp only at hSw); go_simp; try with_reducible rfl)
     (try simp only [Act.put, List.setIfInBounds_toArray, List.set_cons_zero, List.set_cons_succ])
     refine wpAnyH_take (i := 10) (oi := { dst := some 32, op := _, type := _, pos := _, after := _, guard := _ }) (v := ?_) rfl (by kernel_rfl) (by kernel_rfl) (by kernel_rfl) (fun _ _ _ h => h) (Or.inl ⟨by kernel_rfl, ?_⟩) (by with_reducible assumption) ?_
     rotate_left 1
     · (intro w' hSw; (try dsimp only at hSw); go_simp; try with_reducible rfl)
     (try simp only [Act.put, List.setIfInBounds_toArray, List.set_cons_zero, List.set_cons_succ])
     refine wpAnyH_take (i := 12) (oi := { dst := some 34, op := _, type := _, pos := _, after := _, guard := _ }) (v := ?_) rfl (by kernel_rfl) (by kernel_rfl) (by kernel_rfl) (fun _ _ _ h => h) (Or.inl ⟨by kernel_rfl, ?_⟩) (by with_reducible assumption) ?_
     rotate_left 1
     · (intro w' hSw; (try dsimp only at hSw); go_simp; try with_reducible rfl)
     (try simp only [Act.put, List.setIfInBounds_toArray, List.set_cons_zero, List.set_cons_succ])
     refine wpAnyH_take (i := 13) (oi := { dst := some 35, op := _, type := _, pos := _, after := _, guard := _ }) (v := ?_) rfl (by kernel_rfl) (by kernel_rfl) (by kernel_rfl) (fun _ _ _ h => h) (Or.inl ⟨by kernel_rfl, ?_⟩) (by with_reducible assumption) ?_
     rotate_left 1
     · (intro w' hSw; (try dsimp only at hSw); go_simp; try with_reducible rfl)
     (try simp only [Act.put, List.setIfInBounds_toArray, List.set_cons_zero, List.set_cons_succ])
     refine wpAnyH_ready (rs := [11]) (by kernel_rfl) (by simp) ?_
     refine AllReadyH.cons (o := { dst := some 33, op := _, type := _, pos := _, after := _, guard := _ }) rfl (fun K hK => ?_) AllReadyH.nil
     go_simp
     go_at_call 18
     with_reducible refine (HS2.out _ (by with_reducible first | assumption | exact hHeld.2.2.2.2.2.2.2.2.2.2)).mono ?_
     rintro _ w111 ⟨rfl, hb⟩
     have hH2 : w111.cell? ⟨w.heap.size, 0, none⟩ = some (.int .i64 k) ∧ w111.cell? ⟨w.heap.size, 1, none⟩ = some (.int .i64 n) ∧ w111.cell? ⟨w.heap.size, 2, none⟩ = some (.int .i64 d) ∧ w111.cell? ⟨w.heap.size, 3, none⟩ = some (.string s) ∧ w111.cell? ⟨w.heap.size, 4, none⟩ = some (.slice p l.length cap) ∧ w111.cell? ⟨w.heap.size + 1, 0, none⟩ = some (.int .i64 k2) ∧ w111.cell? ⟨w.heap.size + 1, 1, none⟩ = some (.int .i64 n2) ∧ w111.cell? ⟨w.heap.size + 1, 2, none⟩ = some (.int .i64 d2) ∧ w111.cell? ⟨w.heap.size + 1, 3, none⟩ = some (.string s2) ∧ w111.cell? ⟨w.heap.size + 1, 4, none⟩ = some (.slice p2 l2.length cap2) ∧ Below w.heap.size w w111 := ⟨cell_on hb _ _ _ hHeld.1, cell_on hb _ _ _ hHeld.2.1, cell_on hb _ _ _ hHeld.2.2.1, cell_on hb _ _ _ hHeld.2.2.2.1, cell_on hb _ _ _ hHeld.2.2.2.2.1, cell_on hb _ _ _ hHeld.2.2.2.2.2.1, cell_on hb _ _ _ hHeld.2.2.2.2.2.2.1, cell_on hb _ _ _ hHeld.2.2.2.2.2.2.2.1, cell_on hb _ _ _ hHeld.2.2.2.2.2.2.2.2.1, cell_on hb _ _ _ hHeld.2.2.2.2.2.2.2.2.2.1, below_then hHeld.2.2.2.2.2.2.2.2.2.2 hb⟩
     clear hb hHeld
     have hHeld := hH2; clear hH2
     refine hK.out _ _ hHeld (fun _ => ?_)
     clear hK K
     (try simp only [Act.put, List.setIfInBounds_toArray, List.set_cons_zero, List.set_cons_succ])
     refine wpAnyH_ready (rs := [14]) (by kernel_rfl) (by simp) ?_
     refine AllReadyH.cons (o := { dst := some 36, op := _, type := _, pos := _, after := _, guard := _ }) rfl (fun K hK => ?_) AllReadyH.nil
     go_simp
     go_at_call 18
     with_reducible refine (HS3.out _ (by with_reducible first | assumption | exact hHeld.2.2.2.2.2.2.2.2.2.2)).mono ?_
     rintro _ w114 ⟨rfl, hb⟩
     have hH2 : w114.cell? ⟨w.heap.size, 0, none⟩ = some (.int .i64 k) ∧ w114.cell? ⟨w.heap.size, 1, none⟩ = some (.int .i64 n) ∧ w114.cell? ⟨w.heap.size, 2, none⟩ = some (.int .i64 d) ∧ w114.cell? ⟨w.heap.size, 3, none⟩ = some (.string s) ∧ w114.cell? ⟨w.heap.size, 4, none⟩ = some (.slice p l.length cap) ∧ w114.cell? ⟨w.heap.size + 1, 0, none⟩ = some (.int .i64 k2) ∧ w114.cell? ⟨w.heap.size + 1, 1, none⟩ = some (.int .i64 n2) ∧ w114.cell? ⟨w.heap.size + 1, 2, none⟩ = some (.int .i64 d2) ∧ w114.cell? ⟨w.heap.size + 1, 3, none⟩ = some (.string s2) ∧ w114.cell? ⟨w.heap.size + 1, 4, none⟩ = some (.slice p2 l2.length cap2) ∧ Below w.heap.size w w114 := ⟨cell_on hb _ _ _ hHeld.1, cell_on hb _ _ _ hHeld.2.1, cell_on hb _ _ _ hHeld.2.2.1, cell_on hb _ _ _ hHeld.2.2.2.1, cell_on hb _ _ _ hHeld.2.2.2.2.1, cell_on hb _ _ _ hHeld.2.2.2.2.2.1, cell_on hb _ _ _ hHeld.2.2.2.2.2.2.1, cell_on hb _ _ _ hHeld.2.2.2.2.2.2.2.1, cell_on hb _ _ _ hHeld.2.2.2.2.2.2.2.2.1, cell_on hb _ _ _ hHeld.2.2.2.2.2.2.2.2.2.1, below_then hHeld.2.2.2.2.2.2.2.2.2.2 hb⟩
     clear hb hHeld
     have hHeld := hH2; clear hH2
     refine hK.out _ _ hHeld (fun _ => ?_)
     clear hK K
     (try simp only [Act.put, List.setIfInBounds_toArray, List.set_cons_zero, List.set_cons_succ])
     refine wpAnyH_take (i := 15) (oi := { dst := some 37, op := _, type := _, pos := _, after := _, guard := _ }) (v := ?_) rfl (by kernel_rfl) (by kernel_rfl) (by kernel_rfl) (fun _ _ _ h => h) (Or.inl ⟨by kernel_rfl, ?_⟩) (by with_reducible assumption) ?_
     rotate_left 1
     · (intro w' hSw; (try dsimp only at hSw); go_simp; try with_reducible rfl)
     (try simp only [Act.put, List.setIfInBounds_toArray, List.set_cons_zero, List.set_cons_succ])
     refine wpAnyH_take (i := 16) (oi := { dst := some 38, op := _, type := _, pos := _, after := _, guard := _ }) (v := ?_) rfl (by kernel_rfl) (by kernel_rfl) (by kernel_rfl) (fun _ _ _ h => h) (Or.inl ⟨by kernel_rfl, ?_⟩) (by with_reducible assumption) ?_
     rotate_left 1
     · (intro w' hSw; (try dsimp only at hSw); go_simp; try with_reducible rfl)
     (try simp only [Act.put, List.setIfInBounds_toArray, List.set_cons_zero, List.set_cons_succ])
     refine wpAnyH_take (i := 17) (oi := { dst := some 39, op := _, type := _, pos := _, after := _, guard := _ }) (v := ?_) rfl (by kernel_rfl) (by kernel_rfl) (by kernel_rfl) (fun _ _ _ h => h) (Or.inl ⟨by kernel_rfl, ?_⟩) (by with_reducible assumption) ?_
     rotate_left 1
     · (intro w' hSw; (try dsimp only at hSw); go_simp; try with_reducible rfl)
     (try simp only [Act.put, List.setIfInBounds_toArray, List.set_cons_zero, List.set_cons_succ])
     refine wpAnyH_take (i := 18) (oi := { dst := some 40, op := _, type := _, pos := _, after := _, guard := _ }) (v := ?_) rfl (by kernel_rfl) (by kernel_rfl) (by kernel_rfl) (fun _ _ _ h => h) (Or.inl ⟨by kernel_rfl, ?_⟩) (by with_reducible assumption) ?_
     rotate_left 1
     · (intro w' hSw; (try dsimp only at hSw); go_simp; try with_reducible rfl)
     (try simp only [Act.put, List.setIfInBounds_toArray, List.set_cons_zero, List.set_cons_succ])
     refine wpAnyH_take (i := 19) (oi := { dst := some 41, op := _, type := _, pos := _, after := _, guard := _ }) (v := ?_) rfl (by kernel_rfl) (by kernel_rfl) (by kernel_rfl) (fun _ _ _ h => h) (Or.inl ⟨by kernel_rfl, ?_⟩) (by with_reducible assumption) ?_
     rotate_left 1
     · (intro w' hSw; (try dsimp only at hSw); go_simp; try with_reducible rfl)
     (try simp only [Act.put, List.setIfInBounds_toArray, List.set_cons_zero, List.set_cons_succ])
     refine wpAnyH_take (i := 20) (oi := { dst := some 42, op := _, type := _, pos := _, after := _, guard := _ }) (v := ?_) rfl (by kernel_rfl) (by kernel_rfl) (by kernel_rfl) (fun _ _ _ h => h) (Or.inl ⟨by kernel_rfl, ?_⟩) (by with_reducible assumption) ?_
     rotate_left 1
     · (intro w' hSw; (try dsimp only at hSw); go_simp; try with_reducible rfl)
     (try simp only [Act.put, List.setIfInBounds_toArray, List.set_cons_zero, List.set_cons_succ])
     refine wpAnyH_take (i := 21) (oi := { dst := some 43, op := _, type := _, pos := _, after := _, guard := _ }) (v := undef) rfl (by kernel_rfl) (by kernel_rfl) (by kernel_rfl) (fun _ _ _ h => h) (Or.inr ⟨by kernel_rfl, rfl⟩) (by with_reducible assumption) ?_
     (try simp only [Act.put, List.setIfInBounds_toArray, List.set_cons_zero, List.set_cons_succ])
     refine wpAnyH_take (i := 22) (oi := { dst := some 44, op := _, type := _, pos := _, after := _, guard := _ }) (v := undef) rfl (by kernel_rfl) (by kernel_rfl) (by kernel_rfl) (fun _ _ _ h => h) (Or.inr ⟨by kernel_rfl, rfl⟩) (by with_reducible assumption) ?_
     (try simp only [Act.put, List.setIfInBounds_toArray, List.set_cons_zero, List.set_cons_succ])
     refine wpAnyH_take (i := 23) (oi := { dst := some 45, op := _, type := _, pos := _, after := _, guard := _ }) (v := ?_) rfl (by kernel_rfl) (by kernel_rfl) (by kernel_rfl) (fun _ _ _ h => h) (Or.inl ⟨by kernel_rfl, ?_⟩) (by with_reducible assumption) ?_
     rotate_left 1
     · (intro w' hSw; (try dsimp only at hSw); go_simp; try with_reducible rfl)
     (try simp only [Act.put, List.setIfInBounds_toArray, List.set_cons_zero, List.set_cons_succ])
     refine wpAnyH_take (i := 24) (oi := { dst := some 46, op := _, type := _, pos := _, after := _, guard := _ }) (v := ?_) rfl (by kernel_rfl) (by kernel_rfl) (by kernel_rfl) (fun _ _ _ h => h) (Or.inl ⟨by kernel_rfl, ?_⟩) (by with_reducible assumption) ?_
     rotate_left 1
     · (intro w' hSw; (try dsimp only at hSw); go_simp; try with_reducible rfl)
     (try simp only [Act.put, List.setIfInBounds_toArray, List.set_cons_zero, List.set_cons_succ])
     refine wpAnyH_take (i := 25) (oi := { dst := some 47, op := _, type := _, pos := _, after := _, guard := _ }) (v := undef) rfl (by kernel_rfl) (by kernel_rfl) (by kernel_rfl) (fun _ _ _ h => h) (Or.inr ⟨by kernel_rfl, rfl⟩) (by with_reducible assumption) ?_
     (try simp only [Act.put, List.setIfInBounds_toArray, List.set_cons_zero, List.set_cons_succ])
     refine wpAnyH_take (i := 26) (oi := { dst := some 48, op := _, type := _, pos := _, after := _, guard := _ }) (v := undef) rfl (by kernel_rfl) (by kernel_rfl) (by kernel_rfl) (fun _ _ _ h => h) (Or.inr ⟨by kernel_rfl, rfl⟩) (by with_reducible assumption) ?_
     (try simp only [Act.put, List.setIfInBounds_toArray, List.set_cons_zero, List.set_cons_succ])
     refine wpAnyH_take (i := 27) (oi := { dst := some 49, op := _, type := _, pos := _, after := _, guard := _ }) (v := undef) rfl (by kernel_rfl) (by kernel_rfl) (by kernel_rfl) (fun _ _ _ h => h) (Or.inr ⟨by kernel_rfl, rfl⟩) (by with_reducible assumption) ?_
     (try simp only [Act.put, List.setIfInBounds_toArray, List.set_cons_zero, List.set_cons_succ])
     refine wpAnyH_take (i := 28) (oi := { dst := some 50, op := _, type := _, pos := _, after := _, guard := _ }) (v := undef) rfl (by kernel_rfl) (by kernel_rfl) (by kernel_rfl) (fun _ _ _ h => h) (Or.inr ⟨by kernel_rfl, rfl⟩) (by with_reducible assumption) ?_
     (try simp only [Act.put, List.setIfInBounds_toArray, List.set_cons_zero, List.set_cons_succ])
     refine wpAnyH_take (i := 29) (oi := { dst := some 51, op := _, type := _, pos := _, after := _, guard := _ }) (v := undef) rfl (by kernel_rfl) (by kernel_rfl) (by kernel_rfl) (fun _ _ _ h => h) (Or.inr ⟨by kernel_rfl, rfl⟩) (by with_reducible assumption) ?_
     (try simp only [Act.put, List.setIfInBounds_toArray, List.set_cons_zero, List.set_cons_succ])
     refine wpAnyH_take (i := 30) (oi := { dst := some 52, op := _, type := _, pos := _, after := _, guard := _ }) (v := undef) rfl (by kernel_rfl) (by kernel_rfl) (by kernel_rfl) (fun _ _ _ h => h) (Or.inr ⟨by kernel_rfl, rfl⟩) (by with_reducible assumption) ?_
     (try simp only [Act.put, List.setIfInBounds_toArray, List.set_cons_zero, List.set_cons_succ])
     refine wpAnyH_take (i := 31) (oi := { dst := some 53, op := _, type := _, pos := _, after := _, guard := _ }) (v := undef) rfl (by kernel_rfl) (by kernel_rfl) (by kernel_rfl) (fun _ _ _ h => h) (Or.inr ⟨by kernel_rfl, rfl⟩) (by with_reducible assumption) ?_
     (try simp only [Act.put, List.setIfInBounds_toArray, List.set_cons_zero, List.set_cons_succ])
     refine wpAnyH_take (i := 32) (oi := { dst := some 54, op := _, type := _, pos := _, after := _, guard := _ }) (v := undef) rfl (by kernel_rfl) (by kernel_rfl) (by kernel_rfl) (fun _ _ _ h => h) (Or.inr ⟨by kernel_rfl, rfl⟩) (by with_reducible assumption) ?_
     (try simp only [Act.put, List.setIfInBounds_toArray, List.set_cons_zero, List.set_cons_succ])
     refine wpAnyH_take (i := 33) (oi := { dst := some 55, op := _, type := _, pos := _, after := _, guard := _ }) (v := undef) rfl (by kernel_rfl) (by kernel_rfl) (by kernel_rfl) (fun _ _ _ h => h) (Or.inr ⟨by kernel_rfl, rfl⟩) (by with_reducible assumption) ?_
     (try simp only [Act.put, List.setIfInBounds_toArray, List.set_cons_zero, List.set_cons_succ])
     refine wpAnyH_take (i := 34) (oi := { dst := some 56, op := _, type := _, pos := _, after := _, guard := _ }) (v := ?_) rfl (by kernel_rfl) (by kernel_rfl) (by kernel_rfl) (fun _ _ _ h => h) (Or.inl ⟨by kernel_rfl, ?_⟩) (by with_reducible assumption) ?_
     rotate_left 1
     · (intro w' hSw; (try dsimp only at hSw); go_simp; try with_reducible rfl)
     (try simp only [Act.put, List.setIfInBounds_toArray, List.set_cons_zero, List.set_cons_succ])
     refine wpAnyH_take (i := 35) (oi := { dst := some 57, op := _, type := _, pos := _, after := _, guard := _ }) (v := ?_) rfl (by kernel_rfl) (by kernel_rfl) (by kernel_rfl) (fun _ _ _ h => h) (Or.inl ⟨by kernel_rfl, ?_⟩) (by with_reducible assumption) ?_
     rotate_left 1
     · (intro w' hSw; (try dsimp only at hSw); go_simp; try with_reducible rfl)
     (try simp only [Act.put, List.setIfInBounds_toArray, List.set_cons_zero, List.set_cons_succ])
     refine wpAnyH_take (i := 36) (oi := { dst := some 58, op := _, type := _, pos := _, after := _, guard := _ }) (v := ?_) rfl (by kernel_rfl) (by kernel_rfl) (by kernel_rfl) (fun _ _ _ h => h) (Or.inl ⟨by kernel_rfl, ?_⟩) (by with_reducible assumption) ?_
     rotate_left 1
     · (intro w' hSw; (try dsimp only at hSw); go_simp; try with_reducible rfl)
     (try simp only [Act.put, List.setIfInBounds_toArray, List.set_cons_zero, List.set_cons_succ])
     refine wpAnyH_take (i := 37) (oi := { dst := some 59, op := _, type := _, pos := _, after := _, guard := _ }) (v := ?_) rfl (by kernel_rfl) (by kernel_rfl) (by kernel_rfl) (fun _ _ _ h => h) (Or.inl ⟨by kernel_rfl, ?_⟩) (by with_reducible assumption) ?_
     rotate_left 1
     · (intro w' hSw; (try dsimp only at hSw); go_simp; try with_reducible rfl)
     (try simp only [Act.put, List.setIfInBounds_toArray, List.set_cons_zero, List.set_cons_succ])
     refine wpAnyH_take (i := 38) (oi := { dst := some 60, op := _, type := _, pos := _, after := _, guard := _ }) (v := ?_) rfl (by kernel_rfl) (by kernel_rfl) (by kernel_rfl) (fun _ _ _ h => h) (Or.inl ⟨by kernel_rfl, ?_⟩) (by with_reducible assumption) ?_
     rotate_left 1
     · (intro w' hSw; (try dsimp only at hSw); go_simp; try with_reducible rfl)
     (try simp only [Act.put, List.setIfInBounds_toArray, List.set_cons_zero, List.set_cons_succ])
     refine wpAnyH_take (i := 39) (oi := { dst := some 61, op := _, type := _, pos := _, after := _, guard := _ }) (v := ?_) rfl (by kernel_rfl) (by kernel_rfl) (by kernel_rfl) (fun _ _ _ h => h) (Or.inl ⟨by kernel_rfl, ?_⟩) (by with_reducible assumption) ?_
     rotate_left 1
     · (intro w' hSw; (try dsimp only at hSw); go_simp; try with_reducible rfl)
     (try simp only [Act.put, List.setIfInBounds_toArray, List.set_cons_zero, List.set_cons_succ])
     refine wpAnyH_ready (rs := [40]) (by kernel_rfl) (by simp) ?_
     refine AllReadyH.cons (o := { dst := some 62, op := _, type := _, pos := _, after := _, guard := _ }) rfl (fun K hK => ?_) AllReadyH.nil
     go_simp
     go_at_call 15
     with_reducible refine (HT1.out _ (by with_reducible first | assumption | exact hHeld.2.2.2.2.2.2.2.2.2.2)).mono ?_
     rintro _ w140 ⟨rfl, hb⟩
     have hH2 : w140.cell? ⟨w.heap.size, 0, none⟩ = some (.int .i64 k) ∧ w140.cell? ⟨w.heap.size, 1, none⟩ = some (.int .i64 n) ∧ w140.cell? ⟨w.heap.size, 2, none⟩ = some (.int .i64 d) ∧ w140.cell? ⟨w.heap.size, 3, none⟩ = some (.string s) ∧ w140.cell? ⟨w.heap.size, 4, none⟩ = some (.slice p l.length cap) ∧ w140.cell? ⟨w.heap.size + 1, 0, none⟩ = some (.int .i64 k2) ∧ w140.cell? ⟨w.heap.size + 1, 1, none⟩ = some (.int .i64 n2) ∧ w140.cell? ⟨w.heap.size + 1, 2, none⟩ = some (.int .i64 d2) ∧ w140.cell? ⟨w.heap.size + 1, 3, none⟩ = some (.string s2) ∧ w140.cell? ⟨w.heap.size + 1, 4, none⟩ = some (.slice p2 l2.length cap2) ∧ Below w.heap.size w w140 := ⟨cell_on hb _ _ _ hHeld.1, cell_on hb _ _ _ hHeld.2.1, cell_on hb _ _ _ hHeld.2.2.1, cell_on hb _ _ _ hHeld.2.2.2.1, cell_on hb _ _ _ hHeld.2.2.2.2.1, cell_on hb _ _ _ hHeld.2.2.2.2.2.1, cell_on hb _ _ _ hHeld.2.2.2.2.2.2.1, cell_on hb _ _ _ hHeld.2.2.2.2.2.2.2.1, cell_on hb _ _ _ hHeld.2.2.2.2.2.2.2.2.1, cell_on hb _ _ _ hHeld.2.2.2.2.2.2.2.2.2.1, below_then hHeld.2.2.2.2.2.2.2.2.2.2 hb⟩
     clear hb hHeld
     have hHeld := hH2; clear hH2
     refine hK.out _ _ hHeld (fun _ => ?_)
     clear hK K
     (try simp only [Act.put, List.setIfInBounds_toArray, List.set_cons_zero, List.set_cons_succ])
     refine wpAnyH_take (i := 41) (oi := { dst := some 63, op := _, type := _, pos := _, after := _, guard := _ }) (v := ?_) rfl (by kernel_rfl) (by kernel_rfl) (by kernel_rfl) (fun _ _ _ h => h) (Or.inl ⟨by kernel_rfl, ?_⟩) (by with_reducible assumption) ?_
     rotate_left 1
     · (intro w' hSw; (try dsimp only at hSw); go_simp; try with_reducible rfl)
     (try simp only [Act.put, List.setIfInBounds_toArray, List.set_cons_zero, List.set_cons_succ])
     refine wpAnyH_take (i := 42) (oi := { dst := some 64, op := _, type := _, pos := _, after := _, guard := _ }) (v := ?_) rfl (by kernel_rfl) (by kernel_rfl) (by kernel_rfl) (fun _ _ _ h => h) (Or.inl ⟨by kernel_rfl, ?_⟩) (by with_reducible assumption) ?_
     rotate_left 1
     · (intro w' hSw; (try dsimp only at hSw); go_simp; try with_reducible rfl)
     (try simp only [Act.put, List.setIfInBounds_toArray, List.set_cons_zero, List.set_cons_succ])
     refine wpAnyH_take (i := 43) (oi := { dst := some 65, op := _, type := _, pos := _, after := _, guard := _ }) (v := ?_) rfl (by kernel_rfl) (by kernel_rfl) (by kernel_rfl) (fun _ _ _ h => h) (Or.inl ⟨by kernel_rfl, ?_⟩) (by with_reducible assumption) ?_
     rotate_left 1
     · (intro w' hSw; (try dsimp only at hSw); go_simp; try with_reducible rfl)
     (try simp only [Act.put, List.setIfInBounds_toArray, List.set_cons_zero, List.set_cons_succ])
     refine wpAnyH_take (i := 44) (oi := { dst := some 4, op := _, type := _, pos := _, after := _, guard := _ }) (v := ?_) rfl (by kernel_rfl) (by kernel_rfl) (by kernel_rfl) (fun _ _ _ h => h) (Or.inl ⟨by kernel_rfl, ?_⟩) (by with_reducible assumption) ?_
     rotate_left 1
     · (intro w' hSw; (try dsimp only at hSw); go_simp; try with_reducible rfl)
     (try simp only [Act.put, List.setIfInBounds_toArray, List.set_cons_zero, List.set_cons_succ])
     refine wpAnyH_done (by kernel_rfl) ?_ _
     go_wp2_with fail
     go_ret
     exact ⟨rfl, hHeld.2.2.2.2.2.2.2.2.2.2⟩
  cases r'
  · obtain rfl : sm = false := HSM.out.symm
    all_goals
     go_wp2_with fail
     have B4 := (B5.out).drew
     replace a0 : w5.drew.cell? ⟨w.heap.size, 0, none⟩ = some (.int .i64 k) := a0
     replace a1 : w5.drew.cell? ⟨w.heap.size, 1, none⟩ = some (.int .i64 n) := a1
     replace a2 : w5.drew.cell? ⟨w.heap.size, 2, none⟩ = some (.int .i64 d) := a2
     replace a3 : w5.drew.cell? ⟨w.heap.size, 3, none⟩ = some (.string s) := a3
     replace a4 : w5.drew.cell? ⟨w.heap.size, 4, none⟩ = some (.slice p l.length cap) := a4
     replace b0 : w5.drew.cell? ⟨w.heap.size + 1, 0, none⟩ = some (.int .i64 k2) := b0
     replace b1 : w5.drew.cell? ⟨w.heap.size + 1, 1, none⟩ = some (.int .i64 n2) := b1
     replace b2 : w5.drew.cell? ⟨w.heap.size + 1, 2, none⟩ = some (.int .i64 d2) := b2
     replace b3 : w5.drew.cell? ⟨w.heap.size + 1, 3, none⟩ = some (.string s2) := b3
     replace b4 : w5.drew.cell? ⟨w.heap.size + 1, 4, none⟩ = some (.slice p2 l2.length cap2) := b4
     refine wp_region_held_drew (S := fun w' => w'.cell? ⟨w.heap.size, 0, none⟩ = some (.int .i64 k) ∧ w'.cell? ⟨w.heap.size, 1, none⟩ = some (.int .i64 n) ∧ w'.cell? ⟨w.heap.size, 2, none⟩ = some (.int .i64 d) ∧ w'.cell? ⟨w.heap.size, 3, none⟩ = some (.string s) ∧ w'.cell? ⟨w.heap.size, 4, none⟩ = some (.slice p l.length cap) ∧ w'.cell? ⟨w.heap.size + 1, 0, none⟩ = some (.int .i64 k2) ∧ w'.cell? ⟨w.heap.size + 1, 1, none⟩ = some (.int .i64 n2) ∧ w'.cell? ⟨w.heap.size + 1, 2, none⟩ = some (.int .i64 d2) ∧ w'.cell? ⟨w.heap.size + 1, 3, none⟩ = some (.string s2) ∧ w'.cell? ⟨w.heap.size + 1, 4, none⟩ = some (.slice p2 l2.length cap2) ∧ Below w.heap.size w w') (by kernel_rfl) ⟨a0, a1, a2, a3, a4, b0, b1, b2, b3, b4, B4⟩ (fun hHeld => ?_)
     refine wpAnyH_take (i := 0) (oi := { dst := some 22, op := _, type := _, pos := _, after := _, guard := _ }) (v := ?_) rfl (by kernel_rfl) (by kernel_rfl) (by kernel_rfl) (fun _ _ _ h => h) (Or.inl ⟨by kernel_rfl, ?_⟩) (by with_reducible assumption) ?_
     rotate_left 1
     · (intro w' hSw; (try dsimp only at hSw); go_simp; try with_reducible rfl)
     (try simp only [Act.put, List.setIfInBounds_toArray, List.set_cons_zero, List.set_cons_succ])
     refine wpAnyH_take (i := 1) (oi := { dst := some 23, op := _, type := _, pos := _, after := _, guard := _ }) (v := ?_) rfl (by kernel_rfl) (by kernel_rfl) (by kernel_rfl) (fun _ _ _ h => h) (Or.inl ⟨by kernel_rfl, ?_⟩) (by with_reducible assumption) ?_
     rotate_left 1
     · (intro w' hSw; (try dsimp only at hSw); go_simp; try with_reducible rfl)
     (try simp only [Act.put, List.setIfInBounds_toArray, List.set_cons_zero, List.set_cons_succ])
     refine wpAnyH_take (i := 2) (oi := { dst := some 24, op := _, type := _, pos := _, after := _, guard := _ }) (v := ?_) rfl (by kernel_rfl) (by kernel_rfl) (by kernel_rfl) (fun _ _ _ h => h) (Or.inl ⟨by kernel_rfl, ?_⟩) (by with_reducible assumption) ?_
     rotate_left 1
     · (intro w' hSw; (try dsimp only at hSw); go_simp; try with_reducible rfl)
     (try simp only [Act.put, List.setIfInBounds_toArray, List.set_cons_zero, List.set_cons_succ])
     refine wpAnyH_take (i := 3) (oi := { dst := some 25, op := _, type := _, pos := _, after := _, guard := _ }) (v := ?_) rfl (by kernel_rfl) (by kernel_rfl) (by kernel_rfl) (fun _ _ _ h => h) (Or.inl ⟨by kernel_rfl, ?_⟩) (by with_reducible assumption) ?_
     rotate_left 1
     · (intro w' hSw; (try dsimp only at hSw); go_simp; try with_reducible rfl)
     (try simp only [Act.put, List.setIfInBounds_toArray, List.set_cons_zero, List.set_cons_succ])
     refine wpAnyH_take (i := 5) (oi := { dst := some 27, op := _, type := _, pos := _, after := _, guard := _ }) (v := ?_) rfl (by kernel_rfl) (by kernel_rfl) (by kernel_rfl) (fun _ _ _ h => h) (Or.inl ⟨by kernel_rfl, ?_⟩) (by with_reducible assumption) ?_
     rotate_left 1
     · (intro w' hSw; (try dsimp only at hSw); go_simp; try with_reducible rfl)
     (try simp only [Act.put, List.setIfInBounds_toArray, List.set_cons_zero, List.set_cons_succ])
     refine wpAnyH_ready (rs := [4]) (by kernel_rfl) (by simp) ?_
     refine AllReadyH.cons (o := { dst := some 26, op := _, type := _, pos := _, after := _, guard := _ }) rfl (fun K hK => ?_) AllReadyH.nil
     go_simp
     go_at_call 18
     with_reducible refine (HS1.out _ (by with_reducible first | assumption | exact hHeld.2.2.2.2.2.2.2.2.2.2)).mono ?_
     rintro _ w104 ⟨rfl, hb⟩
     have hH2 : w104.cell? ⟨w.heap.size, 0, none⟩ = some (.int .i64 k) ∧ w104.cell? ⟨w.heap.size, 1, none⟩ = some (.int .i64 n) ∧ w104.cell? ⟨w.heap.size, 2, none⟩ = some (.int .i64 d) ∧ w104.cell? ⟨w.heap.size, 3, none⟩ = some (.string s) ∧ w104.cell? ⟨w.heap.size, 4, none⟩ = some (.slice p l.length cap) ∧ w104.cell? ⟨w.heap.size + 1, 0, none⟩ = some (.int .i64 k2) ∧ w104.cell? ⟨w.heap.size + 1, 1, none⟩ = some (.int .i64 n2) ∧ w104.cell? ⟨w.heap.size + 1, 2, none⟩ = some (.int .i64 d2) ∧ w104.cell? ⟨w.heap.size + 1, 3, none⟩ = some (.string s2) ∧ w104.cell? ⟨w.heap.size + 1, 4, none⟩ = some (.slice p2 l2.length cap2) ∧ Below w.heap.size w w104 := ⟨cell_on hb _ _ _ hHeld.1, cell_on hb _ _ _ hHeld.2.1, cell_on hb _ _ _ hHeld.2.2.1, cell_on hb _ _ _ hHeld.2.2.2.1, cell_on hb _ _ _ hHeld.2.2.2.2.1, cell_on hb _ _ _ hHeld.2.2.2.2.2.1, cell_on hb _ _ _ hHeld.2.2.2.2.2.2.1, cell_on hb _ _ _ hHeld.2.2.2.2.2.2.2.1, cell_on hb _ _ _ hHeld.2.2.2.2.2.2.2.2.1, cell_on hb _ _ _ hHeld.2.2.2.2.2.2.2.2.2.1, below_then hHeld.2.2.2.2.2.2.2.2.2.2 hb⟩
     clear hb hHeld
     have hHeld := hH2; clear hH2
     refine hK.out _ _ hHeld (fun _ => ?_)
     clear hK K
     (try simp only [Act.put, List.setIfInBounds_toArray, List.set_cons_zero, List.set_cons_succ])
     refine wpAnyH_take (i := 6) (oi := { dst := some 28, op := _, type := _, pos := _, after := _, guard := _ }) (v := ?_) rfl (by kernel_rfl) (by kernel_rfl) (by kernel_rfl) (fun _ _ _ h => h) (Or.inl ⟨by kernel_rfl, ?_⟩) (by with_reducible assumption) ?_
     rotate_left 1
     · (intro w' hSw; (try dsimp only at hSw); go_simp; try with_reducible rfl)
     (try simp only [Act.put, List.setIfInBounds_toArray, List.set_cons_zero, List.set_cons_succ])
     refine wpAnyH_take (i := 7) (oi := { dst := some 29, op := _, type := _, pos := _, after := _, guard := _ }) (v := ?_) rfl (by kernel_rfl) (by kernel_rfl) (by kernel_rfl) (fun _ _ _ h => h) (Or.inl ⟨by kernel_rfl, ?_⟩) (by with_reducible assumption) ?_
     rotate_left 1
     · (intro w' hSw; (try dsimp only at hSw); go_simp; try with_reducible rfl)
     (try simp only [Act.put, List.setIfInBounds_toArray, List.set_cons_zero, List.set_cons_succ])
     refine wpAnyH_take (i := 8) (oi := { dst := some 30, op := _, type := _, pos := _, after := _, guard := _ }) (v := ?_) rfl (by kernel_rfl) (by kernel_rfl) (by kernel_rfl) (fun _ _ _ h => h) (Or.inl ⟨by kernel_rfl, ?_⟩) (by with_reducible assumption) ?_
     rotate_left 1
     · (intro w' hSw; (try dsimp only at hSw); go_simp; try with_reducible rfl)
     (try simp only [Act.put, List.setIfInBounds_toArray, List.set_cons_zero, List.set_cons_succ])
     refine wpAnyH_take (i := 9) (oi := { dst := some 31, op := _, type := _, pos := _, after := _, guard := _ }) (v := ?_) rfl (by kernel_rfl) (by kernel_rfl) (by kernel_rfl) (fun _ _ _ h => h) (Or.inl ⟨by kernel_rfl, ?_⟩) (by with_reducible assumption) ?_
     rotate_left 1
     · (intro w' hSw; (try dsimp only at hSw); go_simp; try with_reducible rfl)
     (try simp only [Act.put, List.setIfInBounds_toArray, List.set_cons_zero, List.set_cons_succ])
     refine wpAnyH_take (i := 10) (oi := { dst := some 32, op := _, type := _, pos := _, after := _, guard := _ }) (v := ?_) rfl (by kernel_rfl) (by kernel_rfl) (by kernel_rfl) (fun _ _ _ h => h) (Or.inl ⟨by kernel_rfl, ?_⟩) (by with_reducible assumption) ?_
     rotate_left 1
     · (intro w' hSw; (try dsimp only at hSw); go_simp; try with_reducible rfl)
     (try simp only [Act.put, List.setIfInBounds_toArray, List.set_cons_zero, List.set_cons_succ])
     refine wpAnyH_take (i := 12) (oi := { dst := some 34, op := _, type := _, pos := _, after := _, guard := _ }) (v := ?_) rfl (by kernel_rfl) (by kernel_rfl) (by kernel_rfl) (fun _ _ _ h => h) (Or.inl ⟨by kernel_rfl, ?_⟩) (by with_reducible assumption) ?_
     rotate_left 1
     · (intro w' hSw; (try dsimp only at hSw); go_simp; try with_reducible rfl)
     (try simp only [Act.put, List.setIfInBounds_toArray, List.set_cons_zero, List.set_cons_succ])
     refine wpAnyH_take (i := 13) (oi := { dst := some 35, op := _, type := _, pos := _, after := _, guard := _ }) (v := ?_) rfl (by kernel_rfl) (by kernel_rfl) (by kernel_rfl) (fun _ _ _ h => h) (Or.inl ⟨by kernel_rfl, ?_⟩) (by with_reducible assumption) ?_
     rotate_left 1
     · (intro w' hSw; (try dsimp only at hSw); go_simp; try with_reducible rfl)
     (try simp only [Act.put, List.setIfInBounds_toArray, List.set_cons_zero, List.set_cons_succ])
     refine wpAnyH_ready (rs := [11]) (by kernel_rfl) (by simp) ?_
     refine AllReadyH.cons (o := { dst := some 33, op := _, type := _, pos := _, after := _, guard := _ }) rfl (fun K hK => ?_) AllReadyH.nil
     go_simp
     go_at_call 18
     with_reducible refine (HS2.out _ (by with_reducible first | assumption | exact hHeld.2.2.2.2.2.2.2.2.2.2)).mono ?_
     rintro _ w111 ⟨rfl, hb⟩
     have hH2 : w111.cell? ⟨w.heap.size, 0, none⟩ = some (.int .i64 k) ∧ w111.cell? ⟨w.heap.size, 1, none⟩ = some (.int .i64 n) ∧ w111.cell? ⟨w.heap.size, 2, none⟩ = some (.int .i64 d) ∧ w111.cell? ⟨w.heap.size, 3, none⟩ = some (.string s) ∧ w111.cell? ⟨w.heap.size, 4, none⟩ = some (.slice p l.length cap) ∧ w111.cell? ⟨w.heap.size + 1, 0, none⟩ = some (.int .i64 k2) ∧ w111.cell? ⟨w.heap.size + 1, 1, none⟩ = some (.int .i64 n2) ∧ w111.cell? ⟨w.heap.size + 1, 2, none⟩ = some (.int .i64 d2) ∧ w111.cell? ⟨w.heap.size + 1, 3, none⟩ = some (.string s2) ∧ w111.cell? ⟨w.heap.size + 1, 4, none⟩ = some (.slice p2 l2.length cap2) ∧ Below w.heap.size w w111 := ⟨cell_on hb _ _ _ hHeld.1, cell_on hb _ _ _ hHeld.2.1, cell_on hb _ _ _ hHeld.2.2.1, cell_on hb _ _ _ hHeld.2.2.2.1, cell_on hb _ _ _ hHeld.2.2.2.2.1, cell_on hb _ _ _ hHeld.2.2.2.2.2.1, cell_on hb _ _ _ hHeld.2.2.2.2.2.2.1, cell_on hb _ _ _ hHeld.2.2.2.2.2.2.2.1, cell_on hb _ _ _ hHeld.2.2.2.2.2.2.2.2.1, cell_on hb _ _ _ hHeld.2.2.2.2.2.2.2.2.2.1, below_then hHeld.2.2.2.2.2.2.2.2.2.2 hb⟩
     clear hb hHeld
     have hHeld := hH2; clear hH2
     refine hK.out _ _ hHeld (fun _ => ?_)
     clear hK K
     (try simp only [Act.put, List.setIfInBounds_toArray, List.set_cons_zero, List.set_cons_succ])
     refine wpAnyH_ready (rs := [14]) (by kernel_rfl) (by simp) ?_
     refine AllReadyH.cons (o := { dst := some 36, op := _, type := _, pos := _, after := _, guard := _ }) rfl (fun K hK => ?_) AllReadyH.nil
     go_simp
     go_at_call 18
     with_reducible refine (HS3.out _ (by with_reducible first | assumption | exact hHeld.2.2.2.2.2.2.2.2.2.2)).mono ?_
     rintro _ w114 ⟨rfl, hb⟩
     have hH2 : w114.cell? ⟨w.heap.size, 0, none⟩ = some (.int .i64 k) ∧ w114.cell? ⟨w.heap.size, 1, none⟩ = some (.int .i64 n) ∧ w114.cell? ⟨w.heap.size, 2, none⟩ = some (.int .i64 d) ∧ w114.cell? ⟨w.heap.size, 3, none⟩ = some (.string s) ∧ w114.cell? ⟨w.heap.size, 4, none⟩ = some (.slice p l.length cap) ∧ w114.cell? ⟨w.heap.size + 1, 0, none⟩ = some (.int .i64 k2) ∧ w114.cell? ⟨w.heap.size + 1, 1, none⟩ = some (.int .i64 n2) ∧ w114.cell? ⟨w.heap.size + 1, 2, none⟩ = some (.int .i64 d2) ∧ w114.cell? ⟨w.heap.size + 1, 3, none⟩ = some (.string s2) ∧ w114.cell? ⟨w.heap.size + 1, 4, none⟩ = some (.slice p2 l2.length cap2) ∧ Below w.heap.size w w114 := ⟨cell_on hb _ _ _ hHeld.1, cell_on hb _ _ _ hHeld.2.1, cell_on hb _ _ _ hHeld.2.2.1, cell_on hb _ _ _ hHeld.2.2.2.1, cell_on hb _ _ _ hHeld.2.2.2.2.1, cell_on hb _ _ _ hHeld.2.2.2.2.2.1, cell_on hb _ _ _ hHeld.2.2.2.2.2.2.1, cell_on hb _ _ _ hHeld.2.2.2.2.2.2.2.1, cell_on hb _ _ _ hHeld.2.2.2.2.2.2.2.2.1, cell_on hb _ _ _ hHeld.2.2.2.2.2.2.2.2.2.1, below_then hHeld.2.2.2.2.2.2.2.2.2.2 hb⟩
     clear hb hHeld
     have hHeld := hH2; clear hH2
     refine hK.out _ _ hHeld (fun _ => ?_)
     clear hK K
     (try simp only [Act.put, List.setIfInBounds_toArray, List.set_cons_zero, List.set_cons_succ])
     refine wpAnyH_take (i := 15) (oi := { dst := some 37, op := _, type := _, pos := _, after := _, guard := _ }) (v := ?_) rfl (by kernel_rfl) (by kernel_rfl) (by kernel_rfl) (fun _ _ _ h => h) (Or.inl ⟨by kernel_rfl, ?_⟩) (by with_reducible assumption) ?_
     rotate_left 1
     · (intro w' hSw; (try dsimp only at hSw); go_simp; try with_reducible rfl)
     (try simp only [Act.put, List.setIfInBounds_toArray, List.set_cons_zero, List.set_cons_succ])
     refine wpAnyH_take (i := 16) (oi := { dst := some 38, op := _, type := _, pos := _, after := _, guard := _ }) (v := ?_) rfl (by kernel_rfl) (by kernel_rfl) (by kernel_rfl) (fun _ _ _ h => h) (Or.inl ⟨by kernel_rfl, ?_⟩) (by with_reducible assumption) ?_
     rotate_left 1
     · (intro w' hSw; (try dsimp only at hSw); go_simp; try with_reducible rfl)
     (try simp only [Act.put, List.setIfInBounds_toArray, List.set_cons_zero, List.set_cons_succ])
     refine wpAnyH_take (i := 17) (oi := { dst := some 39, op := _, type := _, pos := _, after := _, guard := _ }) (v := ?_) rfl (by kernel_rfl) (by kernel_rfl) (by kernel_rfl) (fun _ _ _ h => h) (Or.inl ⟨by kernel_rfl, ?_⟩) (by with_reducible assumption) ?_
     rotate_left 1
     · (intro w' hSw; (try dsimp only at hSw); go_simp; try with_reducible rfl)
     (try simp only [Act.put, List.setIfInBounds_toArray, List.set_cons_zero, List.set_cons_succ])
     refine wpAnyH_take (i := 18) (oi := { dst := some 40, op := _, type := _, pos := _, after := _, guard := _ }) (v := ?_) rfl (by kernel_rfl) (by kernel_rfl) (by kernel_rfl) (fun _ _ _ h => h) (Or.inl ⟨by kernel_rfl, ?_⟩) (by with_reducible assumption) ?_
     rotate_left 1
     · (intro w' hSw; (try dsimp only at hSw); go_simp; try with_reducible rfl)
     (try simp only [Act.put, List.setIfInBounds_toArray, List.set_cons_zero, List.set_cons_succ])
     refine wpAnyH_take (i := 19) (oi := { dst := some 41, op := _, type := _, pos := _, after := _, guard := _ }) (v := ?_) rfl (by kernel_rfl) (by kernel_rfl) (by kernel_rfl) (fun _ _ _ h => h) (Or.inl ⟨by kernel_rfl, ?_⟩) (by with_reducible assumption) ?_
     rotate_left 1
     · (intro w' hSw; (try dsimp only at hSw); go_simp; try with_reducible rfl)
     (try simp only [Act.put, List.setIfInBounds_toArray, List.set_cons_zero, List.set_cons_succ])
     refine wpAnyH_take (i := 20) (oi := { dst := some 42, op := _, type := _, pos := _, after := _, guard := _ }) (v := ?_) rfl (by kernel_rfl) (by kernel_rfl) (by kernel_rfl) (fun _ _ _ h => h) (Or.inl ⟨by kernel_rfl, ?_⟩) (by with_reducible assumption) ?_
     rotate_left 1
     · (intro w' hSw; (try dsimp only at hSw); go_simp; try with_reducible rfl)
     (try simp only [Act.put, List.setIfInBounds_toArray, List.set_cons_zero, List.set_cons_succ])
     refine wpAnyH_take (i := 21) (oi := { dst := some 43, op := _, type := _, pos := _, after := _, guard := _ }) (v := ?_) rfl (by kernel_rfl) (by kernel_rfl) (by kernel_rfl) (fun _ _ _ h => h) (Or.inl ⟨by kernel_rfl, ?_⟩) (by with_reducible assumption) ?_
     rotate_left 1
     · (intro w' hSw; (try dsimp only at hSw); go_simp; try with_reducible rfl)
     (try simp only [Act.put, List.setIfInBounds_toArray, List.set_cons_zero, List.set_cons_succ])
     refine wpAnyH_take (i := 22) (oi := { dst := some 44, op := _, type := _, pos := _, after := _, guard := _ }) (v := ?_) rfl (by kernel_rfl) (by kernel_rfl) (by kernel_rfl) (fun _ _ _ h => h) (Or.inl ⟨by kernel_rfl, ?_⟩) (by with_reducible assumption) ?_
     rotate_left 1
     · (intro w' hSw; (try dsimp only at hSw); go_simp; try with_reducible rfl)
     (try simp only [Act.put, List.setIfInBounds_toArray, List.set_cons_zero, List.set_cons_succ])
     refine wpAnyH_take (i := 23) (oi := { dst := some 45, op := _, type := _, pos := _, after := _, guard := _ }) (v := ?_) rfl (by kernel_rfl) (by kernel_rfl) (by kernel_rfl) (fun _ _ _ h => h) (Or.inl ⟨by kernel_rfl, ?_⟩) (by with_reducible assumption) ?_
     rotate_left 1
     · (intro w' hSw; (try dsimp only at hSw); go_simp; try with_reducible rfl)
     (try simp only [Act.put, List.setIfInBounds_toArray, List.set_cons_zero, List.set_cons_succ])
     refine wpAnyH_take (i := 24) (oi := { dst := some 46, op := _, type := _, pos := _, after := _, guard := _ }) (v := ?_) rfl (by kernel_rfl) (by kernel_rfl) (by kernel_rfl) (fun _ _ _ h => h) (Or.inl ⟨by kernel_rfl, ?_⟩) (by with_reducible assumption) ?_
     rotate_left 1
     · (intro w' hSw; (try dsimp only at hSw); go_simp; try with_reducible rfl)
     (try simp only [Act.put, List.setIfInBounds_toArray, List.set_cons_zero, List.set_cons_succ])
     refine wpAnyH_take (i := 25) (oi := { dst := some 47, op := _, type := _, pos := _, after := _, guard := _ }) (v := undef) rfl (by kernel_rfl) (by kernel_rfl) (by kernel_rfl) (fun _ _ _ h => h) (Or.inr ⟨by kernel_rfl, rfl⟩) (by with_reducible assumption) ?_
     (try simp only [Act.put, List.setIfInBounds_toArray, List.set_cons_zero, List.set_cons_succ])
     refine wpAnyH_take (i := 26) (oi := { dst := some 48, op := _, type := _, pos := _, after := _, guard := _ }) (v := undef) rfl (by kernel_rfl) (by kernel_rfl) (by kernel_rfl) (fun _ _ _ h => h) (Or.inr ⟨by kernel_rfl, rfl⟩) (by with_reducible assumption) ?_
     (try simp only [Act.put, List.setIfInBounds_toArray, List.set_cons_zero, List.set_cons_succ])
     refine wpAnyH_take (i := 27) (oi := { dst := some 49, op := _, type := _, pos := _, after := _, guard := _ }) (v := undef) rfl (by kernel_rfl) (by kernel_rfl) (by kernel_rfl) (fun _ _ _ h => h) (Or.inr ⟨by kernel_rfl, rfl⟩) (by with_reducible assumption) ?_
     (try simp only [Act.put, List.setIfInBounds_toArray, List.set_cons_zero, List.set_cons_succ])
     refine wpAnyH_take (i := 28) (oi := { dst := some 50, op := _, type := _, pos := _, after := _, guard := _ }) (v := undef) rfl (by kernel_rfl) (by kernel_rfl) (by kernel_rfl) (fun _ _ _ h => h) (Or.inr ⟨by kernel_rfl, rfl⟩) (by with_reducible assumption) ?_
     (try simp only [Act.put, List.setIfInBounds_toArray, List.set_cons_zero, List.set_cons_succ])
     refine wpAnyH_take (i := 29) (oi := { dst := some 51, op := _, type := _, pos := _, after := _, guard := _ }) (v := undef) rfl (by kernel_rfl) (by kernel_rfl) (by kernel_rfl) (fun _ _ _ h => h) (Or.inr ⟨by kernel_rfl, rfl⟩) (by with_reducible assumption) ?_
     (try simp only [Act.put, List.setIfInBounds_toArray, List.set_cons_zero, List.set_cons_succ])
     refine wpAnyH_take (i := 30) (oi := { dst := some 52, op := _, type := _, pos := _, after := _, guard := _ }) (v := undef) rfl (by kernel_rfl) (by kernel_rfl) (by kernel_rfl) (fun _ _ _ h => h) (Or.inr ⟨by kernel_rfl, rfl⟩) (by with_reducible assumption) ?_
     (try simp only [Act.put, List.setIfInBounds_toArray, List.set_cons_zero, List.set_cons_succ])
     refine wpAnyH_take (i := 31) (oi := { dst := some 53, op := _, type := _, pos := _, after := _, guard := _ }) (v := undef) rfl (by kernel_rfl) (by kernel_rfl) (by kernel_rfl) (fun _ _ _ h => h) (Or.inr ⟨by kernel_rfl, rfl⟩) (by with_reducible assumption) ?_
     (try simp only [Act.put, List.setIfInBounds_toArray, List.set_cons_zero, List.set_cons_succ])
     refine wpAnyH_take (i := 32) (oi := { dst := some 54, op := _, type := _, pos := _, after := _, guard := _ }) (v := undef) rfl (by kernel_rfl) (by kernel_rfl) (by kernel_rfl) (fun _ _ _ h => h) (Or.inr ⟨by kernel_rfl, rfl⟩) (by with_reducible assumption) ?_
     (try simp only [Act.put, List.setIfInBounds_toArray, List.set_cons_zero, List.set_cons_succ])
     refine wpAnyH_take (i := 33) (oi := { dst := some 55, op := _, type := _, pos := _, after := _, guard := _ }) (v := undef) rfl (by kernel_rfl) (by kernel_rfl) (by kernel_rfl) (fun _ _ _ h => h) (Or.inr ⟨by kernel_rfl, rfl⟩) (by with_reducible assumption) ?_
     (try simp only [Act.put, List.setIfInBounds_toArray, List.set_cons_zero, List.set_cons_succ])
     refine wpAnyH_take (i := 34) (oi := { dst := some 56, op := _, type := _, pos := _, after := _, guard := _ }) (v := ?_) rfl (by kernel_rfl) (by kernel_rfl) (by kernel_rfl) (fun _ _ _ h => h) (Or.inl ⟨by kernel_rfl, ?_⟩) (by with_reducible assumption) ?_
     rotate_left 1
     · (intro w' hSw; (try dsimp only at hSw); go_simp; try with_reducible rfl)
     (try simp only [Act.put, List.setIfInBounds_toArray, List.set_cons_zero, List.set_cons_succ])
     refine wpAnyH_take (i := 35) (oi := { dst := some 57, op := _, type := _, pos := _, after := _, guard := _ }) (v := ?_) rfl (by kernel_rfl) (by kernel_rfl) (by kernel_rfl) (fun _ _ _ h => h) (Or.inl ⟨by kernel_rfl, ?_⟩) (by with_reducible assumption) ?_
     rotate_left 1
     · (intro w' hSw; (try dsimp only at hSw); go_simp; try with_reducible rfl)
     (try simp only [Act.put, List.setIfInBounds_toArray, List.set_cons_zero, List.set_cons_succ])
     refine wpAnyH_take (i := 36) (oi := { dst := some 58, op := _, type := _, pos := _, after := _, guard := _ }) (v := ?_) rfl (by kernel_rfl) (by kernel_rfl) (by kernel_rfl) (fun _ _ _ h => h) (Or.inl ⟨by kernel_rfl, ?_⟩) (by with_reducible assumption) ?_
     rotate_left 1
     · (intro w' hSw; (try dsimp only at hSw); go_simp; try with_reducible rfl)
     (try simp only [Act.put, List.setIfInBounds_toArray, List.set_cons_zero, List.set_cons_succ])
     refine wpAnyH_take (i := 37) (oi := { dst := some 59, op := _, type := _, pos := _, after := _, guard := _ }) (v := ?_) rfl (by kernel_rfl) (by kernel_rfl) (by kernel_rfl) (fun _ _ _ h => h) (Or.inl ⟨by kernel_rfl, ?_⟩) (by with_reducible assumption) ?_
     rotate_left 1
     · (intro w' hSw; (try dsimp only at hSw); go_simp; try with_reducible rfl)
     (try simp only [Act.put, List.setIfInBounds_toArray, List.set_cons_zero, List.set_cons_succ])
     refine wpAnyH_take (i := 38) (oi := { dst := some 60, op := _, type := _, pos := _, after := _, guard := _ }) (v := ?_) rfl (by kernel_rfl) (by kernel_rfl) (by kernel_rfl) (fun _ _ _ h => h) (Or.inl ⟨by kernel_rfl, ?_⟩) (by with_reducible assumption) ?_
     rotate_left 1
     · (intro w' hSw; (try dsimp only at hSw); go_simp; try with_reducible rfl)
     (try simp only [Act.put, List.setIfInBounds_toArray, List.set_cons_zero, List.set_cons_succ])
     refine wpAnyH_take (i := 39) (oi := { dst := some 61, op := _, type := _, pos := _, after := _, guard := _ }) (v := undef) rfl (by kernel_rfl) (by kernel_rfl) (by kernel_rfl) (fun _ _ _ h => h) (Or.inr ⟨by kernel_rfl, rfl⟩) (by with_reducible assumption) ?_
     (try simp only [Act.put, List.setIfInBounds_toArray, List.set_cons_zero, List.set_cons_succ])
     refine wpAnyH_take (i := 40) (oi := { dst := some 62, op := _, type := _, pos := _, after := _, guard := _ }) (v := undef) rfl (by kernel_rfl) (by kernel_rfl) (by kernel_rfl) (fun _ _ _ h => h) (Or.inr ⟨by kernel_rfl, rfl⟩) (by with_reducible assumption) ?_
     (try simp only [Act.put, List.setIfInBounds_toArray, List.set_cons_zero, List.set_cons_succ])
     refine wpAnyH_take (i := 41) (oi := { dst := some 63, op := _, type := _, pos := _, after := _, guard := _ }) (v := undef) rfl (by kernel_rfl) (by kernel_rfl) (by kernel_rfl) (fun _ _ _ h => h) (Or.inr ⟨by kernel_rfl, rfl⟩) (by with_reducible assumption) ?_
     (try simp only [Act.put, List.setIfInBounds_toArray, List.set_cons_zero, List.set_cons_succ])
     refine wpAnyH_take (i := 42) (oi := { dst := some 64, op := _, type := _, pos := _, after := _, guard := _ }) (v := ?_) rfl (by kernel_rfl) (by kernel_rfl) (by kernel_rfl) (fun _ _ _ h => h) (Or.inl ⟨by kernel_rfl, ?_⟩) (by with_reducible assumption) ?_
     rotate_left 1
     · (intro w' hSw; (try dsimp only at hSw); go_simp; try with_reducible rfl)
     (try simp only [Act.put, List.setIfInBounds_toArray, List.set_cons_zero, List.set_cons_succ])
     refine wpAnyH_take (i := 43) (oi := { dst := some 65, op := _, type := _, pos := _, after := _, guard := _ }) (v := ?_) rfl (by kernel_rfl) (by kernel_rfl) (by kernel_rfl) (fun _ _ _ h => h) (Or.inl ⟨by kernel_rfl, ?_⟩) (by with_reducible assumption) ?_
     rotate_left 1
     · (intro w' hSw; (try dsimp only at hSw); go_simp; try with_reducible rfl)
     (try simp only [Act.put, List.setIfInBounds_toArray, List.set_cons_zero, List.set_cons_succ])
     refine wpAnyH_take (i := 44) (oi := { dst := some 4, op := _, type := _, pos := _, after := _, guard := _ }) (v := ?_) rfl (by kernel_rfl) (by kernel_rfl) (by kernel_rfl) (fun _ _ _ h => h) (Or.inl ⟨by kernel_rfl, ?_⟩) (by with_reducible assumption) ?_
     rotate_left 1
     · (intro w' hSw; (try dsimp only at hSw); go_simp; try with_reducible rfl)
     (try simp only [Act.put, List.setIfInBounds_toArray, List.set_cons_zero, List.set_cons_succ])
     refine wpAnyH_done (by kernel_rfl) ?_ _
     go_wp2_with fail
     go_ret
     exact ⟨rfl, hHeld.2.2.2.2.2.2.2.2.2.2⟩
  · have hxy := HXY.out rfl rfl
    cases sm
    case' true =>
     have hq := bytes_inj (of_decide_eq_true hxy.symm)
     subst hq
    case' false =>
     have q : (x.toList == y.toList) = false := beq_eq_false_iff_ne.2 (of_decide_eq_false hxy.symm)
    all_goals
     clear hxy
     go_wp2_with fail
     have B4 := (B5.out).drew
     replace a0 : w5.drew.cell? ⟨w.heap.size, 0, none⟩ = some (.int .i64 k) := a0
     replace a1 : w5.drew.cell? ⟨w.heap.size, 1, none⟩ = some (.int .i64 n) := a1
     replace a2 : w5.drew.cell? ⟨w.heap.size, 2, none⟩ = some (.int .i64 d) := a2
     replace a3 : w5.drew.cell? ⟨w.heap.size, 3, none⟩ = some (.string s) := a3
     replace a4 : w5.drew.cell? ⟨w.heap.size, 4, none⟩ = some (.slice p l.length cap) := a4
     replace b0 : w5.drew.cell? ⟨w.heap.size + 1, 0, none⟩ = some (.int .i64 k2) := b0
     replace b1 : w5.drew.cell? ⟨w.heap.size + 1, 1, none⟩ = some (.int .i64 n2) := b1
     replace b2 : w5.drew.cell? ⟨w.heap.size + 1, 2, none⟩ = some (.int .i64 d2) := b2
     replace b3 : w5.drew.cell? ⟨w.heap.size + 1, 3, none⟩ = some (.string s2) := b3
     replace b4 : w5.drew.cell? ⟨w.heap.size + 1, 4, none⟩ = some (.slice p2 l2.length cap2) := b4
     refine wp_region_held_drew (S := fun w' => w'.cell? ⟨w.heap.size, 0, none⟩ = some (.int .i64 k) ∧ w'.cell? ⟨w.heap.size, 1, none⟩ = some (.int .i64 n) ∧ w'.cell? ⟨w.heap.size, 2, none⟩ = some (.int .i64 d) ∧ w'.cell? ⟨w.heap.size, 3, none⟩ = some (.string s) ∧ w'.cell? ⟨w.heap.size, 4, none⟩ = some (.slice p l.length cap) ∧ w'.cell? ⟨w.heap.size + 1, 0, none⟩ = some (.int .i64 k2) ∧ w'.cell? ⟨w.heap.size + 1, 1, none⟩ = some (.int .i64 n2) ∧ w'.cell? ⟨w.heap.size + 1, 2, none⟩ = some (.int .i64 d2) ∧ w'.cell? ⟨w.heap.size + 1, 3, none⟩ = some (.string s2) ∧ w'.cell? ⟨w.heap.size + 1, 4, none⟩ = some (.slice p2 l2.length cap2) ∧ Below w.heap.size w w') (by kernel_rfl) ⟨a0, a1, a2, a3, a4, b0, b1, b2, b3, b4, B4⟩ (fun hHeld => ?_)
     refine wpAnyH_take (i := 0) (oi := { dst := some 22, op := _, type := _, pos := _, after := _, guard := _ }) (v := ?_) rfl (by kernel_rfl) (by kernel_rfl) (by kernel_rfl) (fun _ _ _ h => h) (Or.inl ⟨by kernel_rfl, ?_⟩) (by with_reducible assumption) ?_
     rotate_left 1
     · (intro w' hSw; (try dsimp only at hSw); go_simp; try with_reducible rfl)
     (try simp only [Act.put, List.setIfInBounds_toArray, List.set_cons_zero, List.set_cons_succ])
     refine wpAnyH_take (i := 1) (oi := { dst := some 23, op := _, type := _, pos := _, after := _, guard := _ }) (v := ?_) rfl (by kernel_rfl) (by kernel_rfl) (by kernel_rfl) (fun _ _ _ h => h) (Or.inl ⟨by kernel_rfl, ?_⟩) (by with_reducible assumption) ?_
     rotate_left 1
     · (intro w' hSw; (try dsimp only at hSw); go_simp; try with_reducible rfl)
     (try simp only [Act.put, List.setIfInBounds_toArray, List.set_cons_zero, List.set_cons_succ])
     refine wpAnyH_take (i := 2) (oi := { dst := some 24, op := _, type := _, pos := _, after := _, guard := _ }) (v := ?_) rfl (by kernel_rfl) (by kernel_rfl) (by kernel_rfl) (fun _ _ _ h => h) (Or.inl ⟨by kernel_rfl, ?_⟩) (by with_reducible assumption) ?_
     rotate_left 1
     · (intro w' hSw; (try dsimp only at hSw); go_simp; try with_reducible rfl)
     (try simp only [Act.put, List.setIfInBounds_toArray, List.set_cons_zero, List.set_cons_succ])
     refine wpAnyH_take (i := 3) (oi := { dst := some 25, op := _, type := _, pos := _, after := _, guard := _ }) (v := ?_) rfl (by kernel_rfl) (by kernel_rfl) (by kernel_rfl) (fun _ _ _ h => h) (Or.inl ⟨by kernel_rfl, ?_⟩) (by with_reducible assumption) ?_
     rotate_left 1
     · (intro w' hSw; (try dsimp only at hSw); go_simp; try with_reducible rfl)
     (try simp only [Act.put, List.setIfInBounds_toArray, List.set_cons_zero, List.set_cons_succ])
     refine wpAnyH_take (i := 5) (oi := { dst := some 27, op := _, type := _, pos := _, after := _, guard := _ }) (v := ?_) rfl (by kernel_rfl) (by kernel_rfl) (by kernel_rfl) (fun _ _ _ h => h) (Or.inl ⟨by kernel_rfl, ?_⟩) (by with_reducible assumption) ?_
     rotate_left 1
     · (intro w' hSw; (try dsimp only at hSw); go_simp; try with_reducible rfl)
     (try simp only [Act.put, List.setIfInBounds_toArray, List.set_cons_zero, List.set_cons_succ])
     refine wpAnyH_ready (rs := [4]) (by kernel_rfl) (by simp) ?_
     refine AllReadyH.cons (o := { dst := some 26, op := _, type := _, pos := _, after := _, guard := _ }) rfl (fun K hK => ?_) AllReadyH.nil
     go_simp
     go_at_call 18
     with_reducible refine (HS1.out _ (by with_reducible first | assumption | exact hHeld.2.2.2.2.2.2.2.2.2.2)).mono ?_
     rintro _ w104 ⟨rfl, hb⟩
     have hH2 : w104.cell? ⟨w.heap.size, 0, none⟩ = some (.int .i64 k) ∧ w104.cell? ⟨w.heap.size, 1, none⟩ = some (.int .i64 n) ∧ w104.cell? ⟨w.heap.size, 2, none⟩ = some (.int .i64 d) ∧ w104.cell? ⟨w.heap.size, 3, none⟩ = some (.string s) ∧ w104.cell? ⟨w.heap.size, 4, none⟩ = some (.slice p l.length cap) ∧ w104.cell? ⟨w.heap.size + 1, 0, none⟩ = some (.int .i64 k2) ∧ w104.cell? ⟨w.heap.size + 1, 1, none⟩ = some (.int .i64 n2) ∧ w104.cell? ⟨w.heap.size + 1, 2, none⟩ = some (.int .i64 d2) ∧ w104.cell? ⟨w.heap.size + 1, 3, none⟩ = some (.string s2) ∧ w104.cell? ⟨w.heap.size + 1, 4, none⟩ = some (.slice p2 l2.length cap2) ∧ Below w.heap.size w w104 := ⟨cell_on hb _ _ _ hHeld.1, cell_on hb _ _ _ hHeld.2.1, cell_on hb _ _ _ hHeld.2.2.1, cell_on hb _ _ _ hHeld.2.2.2.1, cell_on hb _ _ _ hHeld.2.2.2.2.1, cell_on hb _ _ _ hHeld.2.2.2.2.2.1, cell_on hb _ _ _ hHeld.2.2.2.2.2.2.1, cell_on hb _ _ _ hHeld.2.2.2.2.2.2.2.1, cell_on hb _ _ _ hHeld.2.2.2.2.2.2.2.2.1, cell_on hb _ _ _ hHeld.2.2.2.2.2.2.2.2.2.1, below_then hHeld.2.2.2.2.2.2.2.2.2.2 hb⟩
     clear hb hHeld
     have hHeld := hH2; clear hH2
     refine hK.out _ _ hHeld (fun _ => ?_)
     clear hK K
     (try simp only [Act.put, List.setIfInBounds_toArray, List.set_cons_zero, List.set_cons_succ])
     refine wpAnyH_take (i := 6) (oi := { dst := some 28, op := _, type := _, pos := _, after := _, guard := _ }) (v := ?_) rfl (by kernel_rfl) (by kernel_rfl) (by kernel_rfl) (fun _ _ _ h => h) (Or.inl ⟨by kernel_rfl, ?_⟩) (by with_reducible assumption) ?_
     rotate_left 1
     · (intro w' hSw; (try dsimp only at hSw); go_simp; try with_reducible rfl)
     (try simp only [Act.put, List.setIfInBounds_toArray, List.set_cons_zero, List.set_cons_succ])
     refine wpAnyH_take (i := 7) (oi := { dst := some 29, op := _, type := _, pos := _, after := _, guard := _ }) (v := ?_) rfl (by kernel_rfl) (by kernel_rfl) (by kernel_rfl) (fun _ _ _ h => h) (Or.inl ⟨by kernel_rfl, ?_⟩) (by with_reducible assumption) ?_
     rotate_left 1
     · (intro w' hSw; (try dsimp only at hSw); go_simp; try with_reducible rfl)
     (try simp only [Act.put, List.setIfInBounds_toArray, List.set_cons_zero, List.set_cons_succ])
     refine wpAnyH_take (i := 8) (oi := { dst := some 30, op := _, type := _, pos := _, after := _, guard := _ }) (v := ?_) rfl (by kernel_rfl) (by kernel_rfl) (by kernel_rfl) (fun _ _ _ h => h) (Or.inl ⟨by kernel_rfl, ?_⟩) (by with_reducible assumption) ?_
     rotate_left 1
     · (intro w' hSw; (try dsimp only at hSw); go_simp; try with_reducible rfl)
     (try simp only [Act.put, List.setIfInBounds_toArray, List.set_cons_zero, List.set_cons_succ])
     refine wpAnyH_take (i := 9) (oi := { dst := some 31, op := _, type := _, pos := _, after := _, guard := _ }) (v := ?_) rfl (by kernel_rfl) (by kernel_rfl) (by kernel_rfl) (fun _ _ _ h => h) (Or.inl ⟨by kernel_rfl, ?_⟩) (by with_reducible assumption) ?_
     rotate_left 1
     · (intro w' hSw; (try dsimp only at hSw); go_simp; try with_reducible rfl)
     (try simp only [Act.put, List.setIfInBounds_toArray, List.set_cons_zero, List.set_cons_succ])
     refine wpAnyH_take (i := 10) (oi := { dst := some 32, op := _, type := _, pos := _, after := _, guard := _ }) (v := ?_) rfl (by kernel_rfl) (by kernel_rfl) (by kernel_rfl) (fun _ _ _ h => h) (Or.inl ⟨by kernel_rfl, ?_⟩) (by with_reducible assumption) ?_
     rotate_left 1
     · (intro w' hSw; (try dsimp only at hSw); go_simp; try with_reducible rfl)
     (try simp only [Act.put, List.setIfInBounds_toArray, List.set_cons_zero, List.set_cons_succ])
     refine wpAnyH_take (i := 12) (oi := { dst := some 34, op := _, type := _, pos := _, after := _, guard := _ }) (v := ?_) rfl (by kernel_rfl) (by kernel_rfl) (by kernel_rfl) (fun _ _ _ h => h) (Or.inl ⟨by kernel_rfl, ?_⟩) (by with_reducible assumption) ?_
     rotate_left 1
     · (intro w' hSw; (try dsimp only at hSw); go_simp; try with_reducible rfl)
     (try simp only [Act.put, List.setIfInBounds_toArray, List.set_cons_zero, List.set_cons_succ])
     refine wpAnyH_take (i := 13) (oi := { dst := some 35, op := _, type := _, pos := _, after := _, guard := _ }) (v := ?_) rfl (by kernel_rfl) (by kernel_rfl) (by kernel_rfl) (fun _ _ _ h => h) (Or.inl ⟨by kernel_rfl, ?_⟩) (by with_reducible assumption) ?_
     rotate_left 1
     · (intro w' hSw; (try dsimp only at hSw); go_simp; try with_reducible rfl)
     (try simp only [Act.put, List.setIfInBounds_toArray, List.set_cons_zero, List.set_cons_succ])
     refine wpAnyH_ready (rs := [11]) (by kernel_rfl) (by simp) ?_
     refine AllReadyH.cons (o := { dst := some 33, op := _, type := _, pos := _, after := _, guard := _ }) rfl (fun K hK => ?_) AllReadyH.nil
     go_simp
     go_at_call 18
     with_reducible refine (HS2.out _ (by with_reducible first | assumption | exact hHeld.2.2.2.2.2.2.2.2.2.2)).mono ?_
     rintro _ w111 ⟨rfl, hb⟩
     have hH2 : w111.cell? ⟨w.heap.size, 0, none⟩ = some (.int .i64 k) ∧ w111.cell? ⟨w.heap.size, 1, none⟩ = some (.int .i64 n) ∧ w111.cell? ⟨w.heap.size, 2, none⟩ = some (.int .i64 d) ∧ w111.cell? ⟨w.heap.size, 3, none⟩ = some (.string s) ∧ w111.cell? ⟨w.heap.size, 4, none⟩ = some (.slice p l.length cap) ∧ w111.cell? ⟨w.heap.size + 1, 0, none⟩ = some (.int .i64 k2) ∧ w111.cell? ⟨w.heap.size + 1, 1, none⟩ = some (.int .i64 n2) ∧ w111.cell? ⟨w.heap.size + 1, 2, none⟩ = some (.int .i64 d2) ∧ w111.cell? ⟨w.heap.size + 1, 3, none⟩ = some (.string s2) ∧ w111.cell? ⟨w.heap.size + 1, 4, none⟩ = some (.slice p2 l2.length cap2) ∧ Below w.heap.size w w111 := ⟨cell_on hb _ _ _ hHeld.1, cell_on hb _ _ _ hHeld.2.1, cell_on hb _ _ _ hHeld.2.2.1, cell_on hb _ _ _ hHeld.2.2.2.1, cell_on hb _ _ _ hHeld.2.2.2.2.1, cell_on hb _ _ _ hHeld.2.2.2.2.2.1, cell_on hb _ _ _ hHeld.2.2.2.2.2.2.1, cell_on hb _ _ _ hHeld.2.2.2.2.2.2.2.1, cell_on hb _ _ _ hHeld.2.2.2.2.2.2.2.2.1, cell_on hb _ _ _ hHeld.2.2.2.2.2.2.2.2.2.1, below_then hHeld.2.2.2.2.2.2.2.2.2.2 hb⟩
     clear hb hHeld
     have hHeld := hH2; clear hH2
     refine hK.out _ _ hHeld (fun _ => ?_)
     clear hK K
     (try simp only [Act.put, List.setIfInBounds_toArray, List.set_cons_zero, List.set_cons_succ])
     refine wpAnyH_ready (rs := [14]) (by kernel_rfl) (by simp) ?_
     refine AllReadyH.cons (o := { dst := some 36, op := _, type := _, pos := _, after := _, guard := _ }) rfl (fun K hK => ?_) AllReadyH.nil
     go_simp
     go_at_call 18
     with_reducible refine (HS3.out _ (by with_reducible first | assumption | exact hHeld.2.2.2.2.2.2.2.2.2.2)).mono ?_
     rintro _ w114 ⟨rfl, hb⟩
     have hH2 : w114.cell? ⟨w.heap.size, 0, none⟩ = some (.int .i64 k) ∧ w114.cell? ⟨w.heap.size, 1, none⟩ = some (.int .i64 n) ∧ w114.cell? ⟨w.heap.size, 2, none⟩ = some (.int .i64 d) ∧ w114.cell? ⟨w.heap.size, 3, none⟩ = some (.string s) ∧ w114.cell? ⟨w.heap.size, 4, none⟩ = some (.slice p l.length cap) ∧ w114.cell? ⟨w.heap.size + 1, 0, none⟩ = some (.int .i64 k2) ∧ w114.cell? ⟨w.heap.size + 1, 1, none⟩ = some (.int .i64 n2) ∧ w114.cell? ⟨w.heap.size + 1, 2, none⟩ = some (.int .i64 d2) ∧ w114.cell? ⟨w.heap.size + 1, 3, none⟩ = some (.string s2) ∧ w114.cell? ⟨w.heap.size + 1, 4, none⟩ = some (.slice p2 l2.length cap2) ∧ Below w.heap.size w w114 := ⟨cell_on hb _ _ _ hHeld.1, cell_on hb _ _ _ hHeld.2.1, cell_on hb _ _ _ hHeld.2.2.1, cell_on hb _ _ _ hHeld.2.2.2.1, cell_on hb _ _ _ hHeld.2.2.2.2.1, cell_on hb _ _ _ hHeld.2.2.2.2.2.1, cell_on hb _ _ _ hHeld.2.2.2.2.2.2.1, cell_on hb _ _ _ hHeld.2.2.2.2.2.2.2.1, cell_on hb _ _ _ hHeld.2.2.2.2.2.2.2.2.1, cell_on hb _ _ _ hHeld.2.2.2.2.2.2.2.2.2.1, below_then hHeld.2.2.2.2.2.2.2.2.2.2 hb⟩
     clear hb hHeld
     have hHeld := hH2; clear hH2
     refine hK.out _ _ hHeld (fun _ => ?_)
     clear hK K
     (try simp only [Act.put, List.setIfInBounds_toArray, List.set_cons_zero, List.set_cons_succ])
     refine wpAnyH_take (i := 15) (oi := { dst := some 37, op := _, type := _, pos := _, after := _, guard := _ }) (v := ?_) rfl (by kernel_rfl) (by kernel_rfl) (by kernel_rfl) (fun _ _ _ h => h) (Or.inl ⟨by kernel_rfl, ?_⟩) (by with_reducible assumption) ?_
     rotate_left 1
     · (intro w' hSw; (try dsimp only at hSw); go_simp; try with_reducible rfl)
     (try simp only [Act.put, List.setIfInBounds_toArray, List.set_cons_zero, List.set_cons_succ])
     refine wpAnyH_take (i := 16) (oi := { dst := some 38, op := _, type := _, pos := _, after := _, guard := _ }) (v := ?_) rfl (by kernel_rfl) (by kernel_rfl) (by kernel_rfl) (fun _ _ _ h => h) (Or.inl ⟨by kernel_rfl, ?_⟩) (by with_reducible assumption) ?_
     rotate_left 1
     · (intro w' hSw; (try dsimp only at hSw); go_simp; try with_reducible rfl)
     (try simp only [Act.put, List.setIfInBounds_toArray, List.set_cons_zero, List.set_cons_succ])
     refine wpAnyH_take (i := 17) (oi := { dst := some 39, op := _, type := _, pos := _, after := _, guard := _ }) (v := ?_) rfl (by kernel_rfl) (by kernel_rfl) (by kernel_rfl) (fun _ _ _ h => h) (Or.inl ⟨by kernel_rfl, ?_⟩) (by with_reducible assumption) ?_
     rotate_left 1
     · (intro w' hSw; (try dsimp only at hSw); go_simp; try with_reducible rfl)
     (try simp only [Act.put, List.setIfInBounds_toArray, List.set_cons_zero, List.set_cons_succ])
     refine wpAnyH_take (i := 18) (oi := { dst := some 40, op := _, type := _, pos := _, after := _, guard := _ }) (v := ?_) rfl (by kernel_rfl) (by kernel_rfl) (by kernel_rfl) (fun _ _ _ h => h) (Or.inl ⟨by kernel_rfl, ?_⟩) (by with_reducible assumption) ?_
     rotate_left 1
     · (intro w' hSw; (try dsimp only at hSw); go_simp; try with_reducible rfl)
     (try simp only [Act.put, List.setIfInBounds_toArray, List.set_cons_zero, List.set_cons_succ])
     refine wpAnyH_take (i := 19) (oi := { dst := some 41, op := _, type := _, pos := _, after := _, guard := _ }) (v := ?_) rfl (by kernel_rfl) (by kernel_rfl) (by kernel_rfl) (fun _ _ _ h => h) (Or.inl ⟨by kernel_rfl, ?_⟩) (by with_reducible assumption) ?_
     rotate_left 1
     · (intro w' hSw; (try dsimp only at hSw); go_simp; try with_reducible rfl)
     (try simp only [Act.put, List.setIfInBounds_toArray, List.set_cons_zero, List.set_cons_succ])
     refine wpAnyH_take (i := 20) (oi := { dst := some 42, op := _, type := _, pos := _, after := _, guard := _ }) (v := ?_) rfl (by kernel_rfl) (by kernel_rfl) (by kernel_rfl) (fun _ _ _ h => h) (Or.inl ⟨by kernel_rfl, ?_⟩) (by with_reducible assumption) ?_
     rotate_left 1
     · (intro w' hSw; (try dsimp only at hSw); go_simp; try with_reducible rfl)
     (try simp only [Act.put, List.setIfInBounds_toArray, List.set_cons_zero, List.set_cons_succ])
     refine wpAnyH_take (i := 21) (oi := { dst := some 43, op := _, type := _, pos := _, after := _, guard := _ }) (v := ?_) rfl (by kernel_rfl) (by kernel_rfl) (by kernel_rfl) (fun _ _ _ h => h) (Or.inl ⟨by kernel_rfl, ?_⟩) (by with_reducible assumption) ?_
     rotate_left 1
     · (intro w' hSw; (try dsimp only at hSw); go_simp; try with_reducible rfl)
     (try simp only [Act.put, List.setIfInBounds_toArray, List.set_cons_zero, List.set_cons_succ])
     refine wpAnyH_take (i := 22) (oi := { dst := some 44, op := _, type := _, pos := _, after := _, guard := _ }) (v := ?_) rfl (by kernel_rfl) (by kernel_rfl) (by kernel_rfl) (fun _ _ _ h => h) (Or.inl ⟨by kernel_rfl, ?_⟩) (by with_reducible assumption) ?_
     rotate_left 1
     · (intro w' hSw; (try dsimp only at hSw); go_simp; try with_reducible rfl)
     (try simp only [Act.put, List.setIfInBounds_toArray, List.set_cons_zero, List.set_cons_succ])
     refine wpAnyH_take (i := 23) (oi := { dst := some 45, op := _, type := _, pos := _, after := _, guard := _ }) (v := ?_) rfl (by kernel_rfl) (by kernel_rfl) (by kernel_rfl) (fun _ _ _ h => h) (Or.inl ⟨by kernel_rfl, ?_⟩) (by with_reducible assumption) ?_
     rotate_left 1
     · (intro w' hSw; (try dsimp only at hSw); go_simp; try with_reducible rfl)
     (try simp only [Act.put, List.setIfInBounds_toArray, List.set_cons_zero, List.set_cons_succ])
     refine wpAnyH_take (i := 24) (oi := { dst := some 46, op := _, type := _, pos := _, after := _, guard := _ }) (v := ?_) rfl (by kernel_rfl) (by kernel_rfl) (by kernel_rfl) (fun _ _ _ h => h) (Or.inl ⟨by kernel_rfl, ?_⟩) (by with_reducible assumption) ?_
     rotate_left 1
     · (intro w' hSw; (try dsimp only at hSw); go_simp; try with_reducible rfl)
     (try simp only [Act.put, List.setIfInBounds_toArray, List.set_cons_zero, List.set_cons_succ])
     refine wpAnyH_take (i := 25) (oi := { dst := some 47, op := _, type := _, pos := _, after := _, guard := _ }) (v := ?_) rfl (by kernel_rfl) (by kernel_rfl) (by kernel_rfl) (fun _ _ _ h => h) (Or.inl ⟨by kernel_rfl, ?_⟩) (by with_reducible assumption) ?_
     rotate_left 1
     · (intro w' hSw; (try dsimp only at hSw); go_simp; try with_reducible rfl)
     (try simp only [Act.put, List.setIfInBounds_toArray, List.set_cons_zero, List.set_cons_succ])
     refine wpAnyH_take (i := 26) (oi := { dst := some 48, op := _, type := _, pos := _, after := _, guard := _ }) (v := ?_) rfl (by kernel_rfl) (by kernel_rfl) (by kernel_rfl) (fun _ _ _ h => h) (Or.inl ⟨by kernel_rfl, ?_⟩) (by with_reducible assumption) ?_
     rotate_left 1
     · (intro w' hSw; (try dsimp only at hSw); go_simp; try with_reducible rfl)
     (try simp only [Act.put, List.setIfInBounds_toArray, List.set_cons_zero, List.set_cons_succ])
     refine wpAnyH_take (i := 28) (oi := { dst := some 50, op := _, type := _, pos := _, after := _, guard := _ }) (v := ?_) rfl (by kernel_rfl) (by kernel_rfl) (by kernel_rfl) (fun _ _ _ h => h) (Or.inl ⟨by kernel_rfl, ?_⟩) (by with_reducible assumption) ?_
     rotate_left 1
     · (intro w' hSw; (try dsimp only at hSw); go_simp; try with_reducible rfl)
     (try simp only [Act.put, List.setIfInBounds_toArray, List.set_cons_zero, List.set_cons_succ])
     refine wpAnyH_take (i := 30) (oi := { dst := some 52, op := _, type := _, pos := _, after := _, guard := _ }) (v := ?_) rfl (by kernel_rfl) (by kernel_rfl) (by kernel_rfl) (fun _ _ _ h => h) (Or.inl ⟨by kernel_rfl, ?_⟩) (by with_reducible assumption) ?_
     rotate_left 1
     · (intro w' hSw; (try dsimp only at hSw); go_simp; try with_reducible rfl)
     (try simp only [Act.put, List.setIfInBounds_toArray, List.set_cons_zero, List.set_cons_succ])
     refine wpAnyH_ready (rs := [27]) (by kernel_rfl) (by simp) ?_
     refine AllReadyH.cons (o := { dst := some 49, op := _, type := _, pos := _, after := _, guard := _ }) rfl (fun K hK => ?_) AllReadyH.nil
     go_simp
     go_at_call 18
     with_reducible refine (HS2.out _ (by with_reducible first | assumption | exact hHeld.2.2.2.2.2.2.2.2.2.2)).mono ?_
     rintro _ w127 ⟨rfl, hb⟩
     have hH2 : w127.cell? ⟨w.heap.size, 0, none⟩ = some (.int .i64 k) ∧ w127.cell? ⟨w.heap.size, 1, none⟩ = some (.int .i64 n) ∧ w127.cell? ⟨w.heap.size, 2, none⟩ = some (.int .i64 d) ∧ w127.cell? ⟨w.heap.size, 3, none⟩ = some (.string s) ∧ w127.cell? ⟨w.heap.size, 4, none⟩ = some (.slice p l.length cap) ∧ w127.cell? ⟨w.heap.size + 1, 0, none⟩ = some (.int .i64 k2) ∧ w127.cell? ⟨w.heap.size + 1, 1, none⟩ = some (.int .i64 n2) ∧ w127.cell? ⟨w.heap.size + 1, 2, none⟩ = some (.int .i64 d2) ∧ w127.cell? ⟨w.heap.size + 1, 3, none⟩ = some (.string s2) ∧ w127.cell? ⟨w.heap.size + 1, 4, none⟩ = some (.slice p2 l2.length cap2) ∧ Below w.heap.size w w127 := ⟨cell_on hb _ _ _ hHeld.1, cell_on hb _ _ _ hHeld.2.1, cell_on hb _ _ _ hHeld.2.2.1, cell_on hb _ _ _ hHeld.2.2.2.1, cell_on hb _ _ _ hHeld.2.2.2.2.1, cell_on hb _ _ _ hHeld.2.2.2.2.2.1, cell_on hb _ _ _ hHeld.2.2.2.2.2.2.1, cell_on hb _ _ _ hHeld.2.2.2.2.2.2.2.1, cell_on hb _ _ _ hHeld.2.2.2.2.2.2.2.2.1, cell_on hb _ _ _ hHeld.2.2.2.2.2.2.2.2.2.1, below_then hHeld.2.2.2.2.2.2.2.2.2.2 hb⟩
     clear hb hHeld
     have hHeld := hH2; clear hH2
     refine hK.out _ _ hHeld (fun _ => ?_)
     clear hK K
     (try simp only [Act.put, List.setIfInBounds_toArray, List.set_cons_zero, List.set_cons_succ])
     refine wpAnyH_ready (rs := [29]) (by kernel_rfl) (by simp) ?_
     refine AllReadyH.cons (o := { dst := some 51, op := _, type := _, pos := _, after := _, guard := _ }) rfl (fun K hK => ?_) AllReadyH.nil
     go_simp
     go_at_call 15
     with_reducible refine (HT1.out _ (by with_reducible first | assumption | exact hHeld.2.2.2.2.2.2.2.2.2.2)).mono ?_
     rintro _ w129 ⟨rfl, hb⟩
     have hH2 : w129.cell? ⟨w.heap.size, 0, none⟩ = some (.int .i64 k) ∧ w129.cell? ⟨w.heap.size, 1, none⟩ = some (.int .i64 n) ∧ w129.cell? ⟨w.heap.size, 2, none⟩ = some (.int .i64 d) ∧ w129.cell? ⟨w.heap.size, 3, none⟩ = some (.string s) ∧ w129.cell? ⟨w.heap.size, 4, none⟩ = some (.slice p l.length cap) ∧ w129.cell? ⟨w.heap.size + 1, 0, none⟩ = some (.int .i64 k2) ∧ w129.cell? ⟨w.heap.size + 1, 1, none⟩ = some (.int .i64 n2) ∧ w129.cell? ⟨w.heap.size + 1, 2, none⟩ = some (.int .i64 d2) ∧ w129.cell? ⟨w.heap.size + 1, 3, none⟩ = some (.string s2) ∧ w129.cell? ⟨w.heap.size + 1, 4, none⟩ = some (.slice p2 l2.length cap2) ∧ Below w.heap.size w w129 := ⟨cell_on hb _ _ _ hHeld.1, cell_on hb _ _ _ hHeld.2.1, cell_on hb _ _ _ hHeld.2.2.1, cell_on hb _ _ _ hHeld.2.2.2.1, cell_on hb _ _ _ hHeld.2.2.2.2.1, cell_on hb _ _ _ hHeld.2.2.2.2.2.1, cell_on hb _ _ _ hHeld.2.2.2.2.2.2.1, cell_on hb _ _ _ hHeld.2.2.2.2.2.2.2.1, cell_on hb _ _ _ hHeld.2.2.2.2.2.2.2.2.1, cell_on hb _ _ _ hHeld.2.2.2.2.2.2.2.2.2.1, below_then hHeld.2.2.2.2.2.2.2.2.2.2 hb⟩
     clear hb hHeld
     have hHeld := hH2; clear hH2
     refine hK.out _ _ hHeld (fun _ => ?_)
     clear hK K
     (try simp only [Act.put, List.setIfInBounds_toArray, List.set_cons_zero, List.set_cons_succ])
     refine wpAnyH_ready (rs := [31]) (by kernel_rfl) (by simp) ?_
     refine AllReadyH.cons (o := { dst := some 53, op := _, type := _, pos := _, after := _, guard := _ }) rfl (fun K hK => ?_) AllReadyH.nil
     go_simp
     go_at_call 15
     with_reducible refine (HT2.out _ (by with_reducible first | assumption | exact hHeld.2.2.2.2.2.2.2.2.2.2)).mono ?_
     rintro _ w131 ⟨rfl, hb⟩
     have hH2 : w131.cell? ⟨w.heap.size, 0, none⟩ = some (.int .i64 k) ∧ w131.cell? ⟨w.heap.size, 1, none⟩ = some (.int .i64 n) ∧ w131.cell? ⟨w.heap.size, 2, none⟩ = some (.int .i64 d) ∧ w131.cell? ⟨w.heap.size, 3, none⟩ = some (.string s) ∧ w131.cell? ⟨w.heap.size, 4, none⟩ = some (.slice p l.length cap) ∧ w131.cell? ⟨w.heap.size + 1, 0, none⟩ = some (.int .i64 k2) ∧ w131.cell? ⟨w.heap.size + 1, 1, none⟩ = some (.int .i64 n2) ∧ w131.cell? ⟨w.heap.size + 1, 2, none⟩ = some (.int .i64 d2) ∧ w131.cell? ⟨w.heap.size + 1, 3, none⟩ = some (.string s2) ∧ w131.cell? ⟨w.heap.size + 1, 4, none⟩ = some (.slice p2 l2.length cap2) ∧ Below w.heap.size w w131 := ⟨cell_on hb _ _ _ hHeld.1, cell_on hb _ _ _ hHeld.2.1, cell_on hb _ _ _ hHeld.2.2.1, cell_on hb _ _ _ hHeld.2.2.2.1, cell_on hb _ _ _ hHeld.2.2.2.2.1, cell_on hb _ _ _ hHeld.2.2.2.2.2.1, cell_on hb _ _ _ hHeld.2.2.2.2.2.2.1, cell_on hb _ _ _ hHeld.2.2.2.2.2.2.2.1, cell_on hb _ _ _ hHeld.2.2.2.2.2.2.2.2.1, cell_on hb _ _ _ hHeld.2.2.2.2.2.2.2.2.2.1, below_then hHeld.2.2.2.2.2.2.2.2.2.2 hb⟩
     clear hb hHeld
     have hHeld := hH2; clear hH2
     refine hK.out _ _ hHeld (fun _ => ?_)
     clear hK K
     (try simp only [Act.put, List.setIfInBounds_toArray, List.set_cons_zero, List.set_cons_succ])
     refine wpAnyH_take (i := 32) (oi := { dst := some 54, op := _, type := _, pos := _, after := _, guard := _ }) (v := ?_) rfl (by kernel_rfl) (by kernel_rfl) (by kernel_rfl) (fun _ _ _ h => h) (Or.inl ⟨by kernel_rfl, ?_⟩) (by with_reducible assumption) ?_
     rotate_left 1
     · (intro w' hSw; (try dsimp only at hSw); go_simp; try with_reducible rfl)
     (try simp only [Act.put, List.setIfInBounds_toArray, List.set_cons_zero, List.set_cons_succ])
     refine wpAnyH_take (i := 33) (oi := { dst := some 55, op := _, type := _, pos := _, after := _, guard := _ }) (v := ?_) rfl (by kernel_rfl) (by kernel_rfl) (by kernel_rfl) (fun _ _ _ h => h) (Or.inl ⟨by kernel_rfl, ?_⟩) (by with_reducible assumption) ?_
     rotate_left 1
     · (intro w' hSw; (try dsimp only at hSw); go_simp; try with_reducible rfl)
     (try simp only [Act.put, List.setIfInBounds_toArray, List.set_cons_zero, List.set_cons_succ])
     refine wpAnyH_take (i := 34) (oi := { dst := some 56, op := _, type := _, pos := _, after := _, guard := _ }) (v := ?_) rfl (by kernel_rfl) (by kernel_rfl) (by kernel_rfl) (fun _ _ _ h => h) (Or.inl ⟨by kernel_rfl, ?_⟩) (by with_reducible assumption) ?_
     rotate_left 1
     · (intro w' hSw; (try dsimp only at hSw); go_simp; try with_reducible rfl)
     (try simp only [Act.put, List.setIfInBounds_toArray, List.set_cons_zero, List.set_cons_succ])
     refine wpAnyH_take (i := 35) (oi := { dst := some 57, op := _, type := _, pos := _, after := _, guard := _ }) (v := ?_) rfl (by kernel_rfl) (by kernel_rfl) (by kernel_rfl) (fun _ _ _ h => h) (Or.inl ⟨by kernel_rfl, ?_⟩) (by with_reducible assumption) ?_
     rotate_left 1
     · (intro w' hSw; (try dsimp only at hSw); go_simp; try with_reducible rfl)
     (try simp only [Act.put, List.setIfInBounds_toArray, List.set_cons_zero, List.set_cons_succ])
     refine wpAnyH_take (i := 36) (oi := { dst := some 58, op := _, type := _, pos := _, after := _, guard := _ }) (v := ?_) rfl (by kernel_rfl) (by kernel_rfl) (by kernel_rfl) (fun _ _ _ h => h) (Or.inl ⟨by kernel_rfl, ?_⟩) (by with_reducible assumption) ?_
     rotate_left 1
     · (intro w' hSw; (try dsimp only at hSw); go_simp; try with_reducible rfl)
     (try simp only [Act.put, List.setIfInBounds_toArray, List.set_cons_zero, List.set_cons_succ])
     refine wpAnyH_take (i := 37) (oi := { dst := some 59, op := _, type := _, pos := _, after := _, guard := _ }) (v := ?_) rfl (by kernel_rfl) (by kernel_rfl) (by kernel_rfl) (fun _ _ _ h => h) (Or.inl ⟨by kernel_rfl, ?_⟩) (by with_reducible assumption) ?_
     rotate_left 1
     · (intro w' hSw; (try dsimp only at hSw); go_simp; try with_reducible rfl)
     (try simp only [Act.put, List.setIfInBounds_toArray, List.set_cons_zero, List.set_cons_succ])
     refine wpAnyH_take (i := 38) (oi := { dst := some 60, op := _, type := _, pos := _, after := _, guard := _ }) (v := ?_) rfl (by kernel_rfl) (by kernel_rfl) (by kernel_rfl) (fun _ _ _ h => h) (Or.inl ⟨by kernel_rfl, ?_⟩) (by with_reducible assumption) ?_
     rotate_left 1
     · (intro w' hSw; (try dsimp only at hSw); go_simp; try with_reducible rfl)
     (try simp only [Act.put, List.setIfInBounds_toArray, List.set_cons_zero, List.set_cons_succ])
     refine wpAnyH_take (i := 39) (oi := { dst := some 61, op := _, type := _, pos := _, after := _, guard := _ }) (v := undef) rfl (by kernel_rfl) (by kernel_rfl) (by kernel_rfl) (fun _ _ _ h => h) (Or.inr ⟨by kernel_rfl, rfl⟩) (by with_reducible assumption) ?_
     (try simp only [Act.put, List.setIfInBounds_toArray, List.set_cons_zero, List.set_cons_succ])
     refine wpAnyH_take (i := 40) (oi := { dst := some 62, op := _, type := _, pos := _, after := _, guard := _ }) (v := undef) rfl (by kernel_rfl) (by kernel_rfl) (by kernel_rfl) (fun _ _ _ h => h) (Or.inr ⟨by kernel_rfl, rfl⟩) (by with_reducible assumption) ?_
     (try simp only [Act.put, List.setIfInBounds_toArray, List.set_cons_zero, List.set_cons_succ])
     refine wpAnyH_take (i := 41) (oi := { dst := some 63, op := _, type := _, pos := _, after := _, guard := _ }) (v := undef) rfl (by kernel_rfl) (by kernel_rfl) (by kernel_rfl) (fun _ _ _ h => h) (Or.inr ⟨by kernel_rfl, rfl⟩) (by with_reducible assumption) ?_
     (try simp only [Act.put, List.setIfInBounds_toArray, List.set_cons_zero, List.set_cons_succ])
     refine wpAnyH_take (i := 42) (oi := { dst := some 64, op := _, type := _, pos := _, after := _, guard := _ }) (v := ?_) rfl (by kernel_rfl) (by kernel_rfl) (by kernel_rfl) (fun _ _ _ h => h) (Or.inl ⟨by kernel_rfl, ?_⟩) (by with_reducible assumption) ?_
     rotate_left 1
     · (intro w' hSw; (try dsimp only at hSw); go_simp; try with_reducible rfl)
     (try simp only [Act.put, List.setIfInBounds_toArray, List.set_cons_zero, List.set_cons_succ])
     refine wpAnyH_take (i := 43) (oi := { dst := some 65, op := _, type := _, pos := _, after := _, guard := _ }) (v := ?_) rfl (by kernel_rfl) (by kernel_rfl) (by kernel_rfl) (fun _ _ _ h => h) (Or.inl ⟨by kernel_rfl, ?_⟩) (by with_reducible assumption) ?_
     rotate_left 1
     · (intro w' hSw; (try dsimp only at hSw); go_simp; try with_reducible rfl)
     (try simp only [Act.put, List.setIfInBounds_toArray, List.set_cons_zero, List.set_cons_succ])
     refine wpAnyH_take (i := 44) (oi := { dst := some 4, op := _, type := _, pos := _, after := _, guard := _ }) (v := ?_) rfl (by kernel_rfl) (by kernel_rfl) (by kernel_rfl) (fun _ _ _ h => h) (Or.inl ⟨by kernel_rfl, ?_⟩) (by with_reducible assumption) ?_
     rotate_left 1
     · (intro w' hSw; (try dsimp only at hSw); go_simp; try with_reducible rfl)
     (try simp only [Act.put, List.setIfInBounds_toArray, List.set_cons_zero, List.set_cons_succ])
     refine wpAnyH_done (by kernel_rfl) ?_ _
     go_wp2_with fail
     go_ret
     exact ⟨rfl, hHeld.2.2.2.2.2.2.2.2.2.2⟩
end Go.Proofs.YtabofebepefbgaaDoor.Dat
