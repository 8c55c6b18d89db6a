/- The law PrimsLists. -/
import Derived.Test.YtdeelpagoffdjaaPwBM
import Derived.Test.YtdeelpagoffdjaaPwCM
import Derived.Test.YtdeelpagoffdjaaDatVpM
import Derived.StillTailTactics
import Derived.Deep.RegionHeld3
import Derived.Deep.Cut

namespace Go.Proofs.Ytdeelpagoffdjaa.Dat
open Go.RowKit
open NumPlain
set_option linter.unusedVariables false

theorem items_list : ∀ l : List Dt, (Dt.list l).items = some l
  | [] => by unfold Dt.list; exact items_null ..
  | t :: r => by unfold Dt.list; rw [items_pair, items_list r]; rfl
theorem list_size : ∀ l : List Dt, (Dt.list l).size = Dt.sizes l + l.length + 1
  | [] => rfl
  | t :: r => by
    have := list_size r
    simp only [Dt.list, Dt.size, Dt.sizes, List.length_cons]
    omega
mutual
theorem alike_self : ∀ t : Dt, t.alike t = true
  | .node k n d s l => by unfold Dt.alike; simp [alikeAll_self l]
theorem alikeAll_self : ∀ l : List Dt, Dt.alikeAll l l = true
  | [] => rfl
  | t :: r => by unfold Dt.alikeAll; rw [alike_self t, alikeAll_self r]; rfl
end
theorem same_self (t : Dt) (v v' : Value) (w : World) (hr : rightD t = true) (h : t.At w v) (h' : t.At w v') : Calls Try.prog 23 #[v, v'] w fun e w' => e = .returned (.bool true) ∧ Below w.heap.size w w' := by
  have := ownSame_any rightD pRight t t v v' w h h'
  rw [hr, alike_self t] at this
  exact this
theorem oneAllR {t : Dt} (h : rightD t = true) : Dt.rightAll rightB nameB [t] 0 = true := by unfold Dt.rightAll; rw [show t.right rightB nameB 0 = true from h]; rfl
theorem twoAllR {t u : Dt} (h : rightD t = true) (h2 : rightD u = true) : Dt.rightAll rightB nameB [t, u] 0 = true := by unfold Dt.rightAll; rw [show t.right rightB nameB 0 = true from h, oneAllR h2]; rfl
theorem fold_length {l : List Dt} (hr : rightD (Dt.list l) = true) : foldB nameB 24 [Dt.list l] = (numD (l.length : Nat) 1, 0, true) := by
  have h1 : foldsB 24 = true := by decide +kernel
  have h2 : takesB 24 1 = true := by decide +kernel
  have h3 : fitB 24 [Dt.list l] = true := by show (Dt.list l).items.isSome = true; rw [items_list]; rfl
  have h4 : madeB 24 [Dt.list l] = (numD (l.length : Nat) 1, 0) := by show (numD (((Dt.list l).items.getD []).length : Nat) 1, 0) = _; rw [items_list]; rfl
  unfold foldB
  rw [if_pos ⟨h1, oneAllR hr⟩, does_made h2 h3, h4]
theorem fold_vlength {l : List Dt} (hr : rightD (.node 7 0 0 ⟨#[]⟩ l) = true) : foldB nameB 23 [.node 7 0 0 ⟨#[]⟩ l] = (numD (l.length : Nat) 1, 0, true) := by
  have h1 : foldsB 23 = true := by decide +kernel
  have h2 : takesB 23 1 = true := by decide +kernel
  unfold foldB
  rw [if_pos ⟨h1, oneAllR hr⟩, does_made h2 rfl]; rfl
theorem fold_car {t : Dt} {r : List Dt} (hr : rightD (Dt.list (t :: r)) = true) : foldB nameB 18 [Dt.list (t :: r)] = (t, 0, true) := by
  have h1 : foldsB 18 = true := by decide +kernel
  have h2 : takesB 18 1 = true := by decide +kernel
  unfold foldB
  rw [if_pos ⟨h1, oneAllR hr⟩, does_made h2 rfl]; rfl
theorem fold_cdr {t : Dt} {r : List Dt} (hr : rightD (Dt.list (t :: r)) = true) : foldB nameB 19 [Dt.list (t :: r)] = (Dt.list r, 0, true) := by
  have h1 : foldsB 19 = true := by decide +kernel
  have h2 : takesB 19 1 = true := by decide +kernel
  unfold foldB
  rw [if_pos ⟨h1, oneAllR hr⟩, does_made h2 rfl]; rfl
theorem fold_at {l : List Dt} {i : Nat} {t : Dt} (hr : rightD (.node 7 0 0 ⟨#[]⟩ l) = true) (hi : l[i]? = some t) (hl : i ≤ 1000) : foldB nameB 22 [.node 7 0 0 ⟨#[]⟩ l, numD (i : Int) 1] = (t, 0, true) := by
  have h1 : foldsB 22 = true := by decide +kernel
  have h2 : takesB 22 2 = true := by decide +kernel
  have hlt := (List.getElem?_eq_some_iff.1 hi).1
  have h4 : madeB 22 [.node 7 0 0 ⟨#[]⟩ l, numD (i : Int) 1] = (t, 0) := by
    show atB l (numD (i : Int) 1) = _
    unfold atB
    rw [if_neg (by
      rintro (h | h | h)
      · exact h rfl
      · have h : (i : Int) < 0 := h; omega
      · have h : (l.length : Int) ≤ (i : Int) := h; omega)]
    show ((l[(i : Int).toNat]?).getD zeroD, 0) = _
    rw [show (i : Int).toNat = i from rfl, hi]; rfl
  unfold foldB
  rw [if_pos ⟨h1, twoAllR hr (num_right (len_right (by omega)))⟩, does_made h2 rfl, h4]
theorem off_block {w : World} {X : Nat → Bool} {B : Nat} {o : Obj} (h : X B = false) (hb : w.heap[B]? = some o) : (off w X).heap[B]? = some o := by
  show (w.heap.mapIdx _)[B]? = _
  rw [Array.getElem?_mapIdx, hb]
  simp [h]
theorem nums_of {w : World} {n : Nat} {e : Int} {x : Ending} (h : FoldR (numD (n : Int) 1, 0, true) x w) : ∃ p cap, x = .returned (.tuple #[.agg #[.int .i64 0, .int .i64 (n : Int), .int .i64 1, .string ⟨#[]⟩, .slice p 0 cap], .int .i64 0, .bool true]) := leaf_is h

set_option maxHeartbeats 16000000 in
set_option maxRecDepth 100000 in
theorem primsLists_any (l : List Dt) (p : Option Addr) (cap : Nat) (w : World) (hlm : l.length ≤ maxLen) (hcap : l.length ≤ cap) (hl : Lies w l p) :
    Calls Try.prog 7 #[.slice p l.length cap] w fun e w' => e = .returned (.bool true) ∧ Below w.heap.size w w' := by
  have HL := Lib.hid (And.intro hlm (And.intro hcap hl))
  have HFW := Lib.hid (fun W (hb : Below w.heap.size w W) => few5_any l p cap 100 W hlm (by omega) (by omega) (hl.below hb))
  obtain ⟨fe, hfe⟩ : ∃ r, decide ((Dt.sizes l : Int) ≤ 100) = r := ⟨_, rfl⟩
  rw [hfe] at HFW
  have HFE := Lib.hid hfe
  have HVA := Lib.hid (fun W (hb : Below w.heap.size w W) => (show (Dt.node 7 0 0 ⟨#[]⟩ l).At W (.agg #[.int .i64 7, .int .i64 0, .int .i64 0, .string ⟨#[]⟩, .slice p l.length cap]) from by
    unfold Dt.At
    exact ⟨by unfold I64; omega, i64_lit0, i64_lit0, by unfold maxLen; decide, hlm, p, cap, rfl, hl.below hb⟩))
  unfold maxLen at hlm
  clear hl hfe hcap
  go_enter Try.func7, Try.ntmps7
  go_wp2_with fail
  refine (awake5_any _).mono ?_
  rintro _ w1 ⟨rfl, hb1⟩
  have HB1 := Lib.hid hb1; clear hb1
  go_wp2_with fail
  refine (HFW.out w1 HB1.out).mono ?_
  rintro _ w2 ⟨rfl, hb2⟩
  have HB2 := Lib.hid (below_seq HB1.out hb2); clear hb2
  cases fe
  · go_wp2_with fail
    go_ret
    exact ⟨rfl, HB2.out⟩
  have HSZ := Lib.hid (show Dt.sizes l ≤ 100 from by have := of_decide_eq_true HFE.out; omega)
  have HLEN := Lib.hid (show l.length ≤ 100 from by have := HSZ.out; have := Dt.sizes_len l; omega)
  go_wp2_with fail
  go_loopw [4] (fun x wr => ∃ (i : Nat), i ≤ l.length ∧ x = .int .i64 i ∧ Below w.heap.size w wr) (fun x _ => l.length - (intOf x).toNat)
  case atStart => exact ⟨0, by omega, rfl, HB2.out⟩
  case round =>
    obtain ⟨i, hi, rfl, hb⟩ := hrel
    have HR := Lib.hid hb; clear hb
    by_cases hlt : i < l.length
    · obtain ⟨t, ht⟩ : ∃ t, l[i]? = some t := ⟨l[i], by simp [hlt]⟩
      rcases HL.out.2.2 with he | ⟨b, o, rfl, hall⟩
      · rw [he] at hlt; simp at hlt
      obtain ⟨v0, v1, v2, v3, v4, d0, d1, d2, d3, d4, hta⟩ := (hall.on (cell_on HR.out)).kid ht
      have C := pRight t _ wr hta
      obtain ⟨rt, hrt⟩ : ∃ r, t.right rightB nameB 0 = r := ⟨_, rfl⟩
      rw [hrt] at C
      obtain ⟨kt, nt, dt, st, lt, pt, capt, hte, rfl, rfl, rfl, rfl, rfl, _, _⟩ := hta.open5
      have HC := Lib.hid C
      clear C hta hall hte ht hrt
      go_wp2_with fail
      refine (HC.out).mono ?_
      rintro _ wq ⟨rfl, hbq⟩
      have HQ := Lib.hid (below_seq HR.out hbq); clear hbq
      cases rt
      · go_wp2_with fail
        go_ret
        exact ⟨rfl, HQ.out⟩
      · go_wp2_with fail
        go_roundw
        case rel => exact ⟨i + 1, by omega, by go_num, HQ.out⟩
        case measure => simp [intOf]; omega
    · go_wp2_with fail
      have CL := ownList_any (fun _ => false) l p cap (wr.alloc (Obj.cells #[.int .i64 7, .int .i64 0, .int .i64 0, .string ⟨#[]⟩, .slice p l.length cap] 37)) (fun _ _ => rfl) HL.out.1 (Dt.slimAll_size _ (by have := HSZ.out; omega)) (by
        rcases (HL.out.2.2.below HR.out).below (box_below wr (Obj.cells #[.int .i64 7, .int .i64 0, .int .i64 0, .string ⟨#[]⟩, .slice p l.length cap] 37)) with h | ⟨b, o, h1, h2⟩
        · exact Or.inl h
        · exact Or.inr ⟨b, o, h1, h2.on fun b o x h => off_cell.2 ⟨rfl, h⟩⟩)
      refine CL.mono ?_
      clear CL
      rintro _ w5 ⟨⟨dk, dn, dd, ds, dp, dl, dc, rfl, hda⟩, hb5⟩
      have hbb := below_seq (below_after hb5) (box_below w5 (Obj.cells #[.int .i64 dk, .int .i64 dn, .int .i64 dd, .string ds, .slice dp dl dc] 37))
      have HW5 := Lib.hid (And.intro (block_on (box_below w5 (Obj.cells #[.int .i64 dk, .int .i64 dn, .int .i64 dd, .string ds, .slice dp dl dc] 37)) (one_box hb5)) (And.intro (at_new w5 (Obj.cells #[.int .i64 dk, .int .i64 dn, .int .i64 dd, .string ds, .slice dp dl dc] 37)) (And.intro ((hda.on fun b o x h => (off_cell.1 h).2).below (box_below w5 (Obj.cells #[.int .i64 dk, .int .i64 dn, .int .i64 dd, .string ds, .slice dp dl dc] 37))) (And.intro (below_seq HR.out hbb) (And.intro (hda.on fun b o x h => (off_cell.1 h).2) (lt_of_block (one_box hb5)))))))
      obtain ⟨v0, v1, v2, v3, v4⟩ := box_cells HW5.out.1
      obtain ⟨d0, d1, d2, d3, d4⟩ := box_cells HW5.out.2.1
      have HCH5 := Lib.hid (box_below w5 (Obj.cells #[.int .i64 dk, .int .i64 dn, .int .i64 dd, .string ds, .slice dp dl dc] 37))
      clear hb5 hda hbb
      obtain ⟨rv, hrv⟩ : ∃ r, rightD (.node 7 0 0 ⟨#[]⟩ l) = r := ⟨_, rfl⟩
      obtain ⟨rl, hrl⟩ : ∃ r, rightD (Dt.list l) = r := ⟨_, rfl⟩
      have HRV := Lib.hid hrv
      have HRL := Lib.hid hrl
      have CV := Lib.hid (pRight (.node 7 0 0 ⟨#[]⟩ l) _ _ (HVA.out (w5.alloc (Obj.cells #[.int .i64 dk, .int .i64 dn, .int .i64 dd, .string ds, .slice dp dl dc] 37)) HW5.out.2.2.2.1))
      rw [show (Dt.node 7 0 0 ⟨#[]⟩ l).right rightB nameB 0 = rv from hrv] at CV
      go_wp2_with fail
      refine CV.out.mono ?_
      rintro _ w6 ⟨rfl, hb6⟩
      have HW6 := Lib.hid (And.intro (block_on hb6 HW5.out.1) (And.intro (block_on hb6 HW5.out.2.1) (And.intro (HW5.out.2.2.1.below hb6) (below_seq HW5.out.2.2.2.1 hb6))))
      replace v0 := cell_on hb6 _ _ _ v0
      replace v1 := cell_on hb6 _ _ _ v1
      replace v2 := cell_on hb6 _ _ _ v2
      replace v3 := cell_on hb6 _ _ _ v3
      replace v4 := cell_on hb6 _ _ _ v4
      replace d0 := cell_on hb6 _ _ _ d0
      replace d1 := cell_on hb6 _ _ _ d1
      replace d2 := cell_on hb6 _ _ _ d2
      replace d3 := cell_on hb6 _ _ _ d3
      replace d4 := cell_on hb6 _ _ _ d4
      have CD := Lib.hid (pRight (Dt.list l) _ w6 HW6.out.2.2.1)
      rw [show (Dt.list l).right rightB nameB 0 = rl from hrl] at CD
      have HCH6 := Lib.hid (below_seq HCH5.out hb6)
      clear hb6 hrv hrl
      cases rv
      · go_wp2_with fail
        go_ret
        exact ⟨rfl, HW6.out.2.2.2⟩
      go_wp2_with fail
      refine CD.out.mono ?_
      rintro _ w7 ⟨rfl, hb7⟩
      have HW7 := Lib.hid (And.intro (block_on hb7 HW6.out.1) (And.intro (block_on hb7 HW6.out.2.1) (And.intro (HW6.out.2.2.1.below hb7) (below_seq HW6.out.2.2.2 hb7))))
      replace v0 := cell_on hb7 _ _ _ v0
      replace v1 := cell_on hb7 _ _ _ v1
      replace v2 := cell_on hb7 _ _ _ v2
      replace v3 := cell_on hb7 _ _ _ v3
      replace v4 := cell_on hb7 _ _ _ v4
      replace d0 := cell_on hb7 _ _ _ d0
      replace d1 := cell_on hb7 _ _ _ d1
      replace d2 := cell_on hb7 _ _ _ d2
      replace d3 := cell_on hb7 _ _ _ d3
      replace d4 := cell_on hb7 _ _ _ d4
      have HCH7 := Lib.hid (below_seq HCH6.out hb7)
      clear hb7
      cases rl
      · go_wp2_with fail
        go_ret
        exact ⟨rfl, HW7.out.2.2.2⟩
      have C24 := Fold_any 24 [Dt.list l] (some ⟨w7.heap.size, 0, none⟩) 1 (w7.alloc (Obj.cells #[.int .i64 dk, .int .i64 dn, .int .i64 dd, .string ds, .slice dp dl dc] 37)) (by unfold I64; omega) (by unfold maxLen; simp) (by have h1 := HSZ.out; have h2 := HLEN.out; unfold Dt.sizes Dt.sizes; rw [list_size]; omega) (by simp) (lies_one (at_new w7 _) (HW7.out.2.2.1.below (box_below w7 _)))
      rw [fold_length HRL.out] at C24
      have H24 := Lib.hid C24; clear C24
      go_wp2_with fail
      refine H24.out.mono ?_
      rintro _ w8 ⟨hg, hb8⟩
      obtain ⟨q8, c8, rfl⟩ := leaf_is hg
      have hb8' := below_after hb8
      have hbb := below_seq hb8' (box_below w8 (Obj.cells #[.int .i64 0, .int .i64 (l.length : Int), .int .i64 1, .string ⟨#[]⟩, .slice q8 0 c8] 37))
      have HW8 := Lib.hid (And.intro (block_on hbb HW7.out.1) (And.intro (block_on hbb HW7.out.2.1) (And.intro (HW7.out.2.2.1.below hbb) (And.intro (below_seq HW7.out.2.2.2 hbb) (at_new w8 (Obj.cells #[.int .i64 0, .int .i64 (l.length : Int), .int .i64 1, .string ⟨#[]⟩, .slice q8 0 c8] 37))))))
      replace v0 := cell_on hbb _ _ _ v0
      replace v1 := cell_on hbb _ _ _ v1
      replace v2 := cell_on hbb _ _ _ v2
      replace v3 := cell_on hbb _ _ _ v3
      replace v4 := cell_on hbb _ _ _ v4
      replace d0 := cell_on hbb _ _ _ d0
      replace d1 := cell_on hbb _ _ _ d1
      replace d2 := cell_on hbb _ _ _ d2
      replace d3 := cell_on hbb _ _ _ d3
      replace d4 := cell_on hbb _ _ _ d4
      have C23 := Fold_any 23 [.node 7 0 0 ⟨#[]⟩ l] (some ⟨(w8.alloc (Obj.cells #[.int .i64 0, .int .i64 (l.length : Int), .int .i64 1, .string ⟨#[]⟩, .slice q8 0 c8] 37)).heap.size, 0, none⟩) 1 ((w8.alloc (Obj.cells #[.int .i64 0, .int .i64 (l.length : Int), .int .i64 1, .string ⟨#[]⟩, .slice q8 0 c8] 37)).alloc (Obj.cells #[.int .i64 7, .int .i64 0, .int .i64 0, .string ⟨#[]⟩, .slice p l.length cap] 37)) (by unfold I64; omega) (by unfold maxLen; simp) (by have h1 := HSZ.out; unfold Dt.sizes Dt.sizes Dt.size; omega) (by simp) (lies_one (at_new _ _) ((HVA.out _ HW8.out.2.2.2.1).below (box_below _ _)))
      rw [fold_vlength HRV.out, show (w8.alloc (Obj.cells #[.int .i64 0, .int .i64 (l.length : Int), .int .i64 1, .string ⟨#[]⟩, .slice q8 0 c8] 37)).heap.size = w8.heap.size + 1 from by show (w8.heap.push _).size = _; simp] at C23
      have H23 := Lib.hid C23
      have HCH8 := Lib.hid (below_seq HCH7.out hbb)
      clear C23 hg hb8 hb8' hbb
      go_wp2_with fail
      refine H23.out.mono ?_
      rintro _ w9 ⟨hg, hb9⟩
      obtain ⟨q9, c9, rfl⟩ := leaf_is hg
      have hb9' := below_after hb9
      have hbb := below_seq hb9' (box_below w9 (Obj.cells #[.int .i64 0, .int .i64 (l.length : Int), .int .i64 1, .string ⟨#[]⟩, .slice q9 0 c9] 37))
      have HW9 := Lib.hid (And.intro (block_on hbb HW8.out.1) (And.intro (block_on hbb HW8.out.2.1) (And.intro (below_seq HW8.out.2.2.2.1 hbb) (And.intro (block_on hbb HW8.out.2.2.2.2) (at_new w9 (Obj.cells #[.int .i64 0, .int .i64 (l.length : Int), .int .i64 1, .string ⟨#[]⟩, .slice q9 0 c9] 37))))))
      have HCH := Lib.hid (show Below w5.heap.size w5 (w9.alloc (Obj.cells #[.int .i64 0, .int .i64 (l.length : Int), .int .i64 1, .string ⟨#[]⟩, .slice q9 0 c9] 37)) from below_seq HCH8.out hbb)
      obtain ⟨f0, f1, f2, f3, f4⟩ := box_cells HW9.out.2.2.2.1
      obtain ⟨g0, g1, g2, g3, g4⟩ := box_cells HW9.out.2.2.2.2
      clear hg hb9 hb9' hbb v0 v1 v2 v3 v4 d0 d1 d2 d3 d4
      obtain ⟨B5, hB5⟩ : ∃ B, wr.heap.size = B := ⟨_, rfl⟩
      obtain ⟨B6, hB6⟩ : ∃ B, w5.heap.size = B := ⟨_, rfl⟩
      have hB56 : B5 < B6 := by rw [← hB5, ← hB6]; exact HW5.out.2.2.2.2.2
      have hwB : w.heap.size ≤ B5 := by rw [← hB5]; exact HR.out.size
      have HAT5 := Lib.hid (show (Dt.list l).At w5 (.agg #[.int .i64 dk, .int .i64 dn, .int .i64 dd, .string ds, .slice dp dl dc]) from HW5.out.2.2.2.2.1)
      rw [hB5, hB6] at HW9 ⊢
      have HB56 := Lib.hid (And.intro hB5 hB6)
      rw [hB6] at HCH
      have HW5S := Lib.hid (show w5.heap.size = B6 from hB6)
      clear hB5 hB6
      go_wp2_with fail
      go_loopw [13] (fun x wz => ∃ (j : Nat) (dk dn dd : Int) (ds : ByteArray) (dp : Option Addr) (dl dc : Nat), j ≤ l.length ∧ x = .int .i64 j ∧ wz.heap[B6]? = some (Obj.cells #[.int .i64 dk, .int .i64 dn, .int .i64 dd, .string ds, .slice dp dl dc] 37) ∧ (Dt.list (l.drop j)).At (off wz (just B6)) (.agg #[.int .i64 dk, .int .i64 dn, .int .i64 dd, .string ds, .slice dp dl dc]) ∧ wz.heap[B5]? = some (Obj.cells #[.int .i64 7, .int .i64 0, .int .i64 0, .string ⟨#[]⟩, .slice p l.length cap] 37) ∧ Below w.heap.size w wz ∧ rightD (Dt.list (l.drop j)) = true) (fun x _ => l.length - (intOf x).toNat)
      case atStart => exact ⟨0, dk, dn, dd, ds, dp, dl, dc, by omega, rfl, HW9.out.2.1, by rw [List.drop_zero]; exact HAT5.out.on (below_off (HW5S.out ▸ HCH.out) (by have := HW5S.out; omega)), HW9.out.1, HW9.out.2.2.1, by rw [List.drop_zero]; exact HRL.out⟩
      case round =>
        obtain ⟨j, dk, dn, dd, ds, dp, dl, dc, hj, rfl, h6, hda, h5, hb, hrd⟩ := hrel
        have HZ := Lib.hid (And.intro h6 (And.intro hda (And.intro h5 (And.intro hb hrd))))
        obtain ⟨d0, d1, d2, d3, d4⟩ := box_cells h6
        obtain ⟨v0, v1, v2, v3, v4⟩ := box_cells h5
        clear h6 hda h5 hb hrd f0 f1 f2 f3 f4 g0 g1 g2 g3 g4
        by_cases hjl : j < l.length
        · obtain ⟨t, ht⟩ : ∃ t, l[j]? = some t := ⟨l[j], by simp [hjl]⟩
          rcases HL.out.2.2 with he | ⟨b, o, rfl, hall⟩
          · rw [he] at hjl; simp at hjl
          have hdr := Dt.drop_at ht
          rw [hdr] at HZ
          obtain ⟨r, hr⟩ : ∃ r, l.drop (j + 1) = r := ⟨_, rfl⟩
          rw [hr] at HZ
          have hrs : Dt.sizes r ≤ 100 ∧ r.length ≤ 100 ∧ t.size ≤ 100 := by
            have h1 := HSZ.out
            have h2 := Dt.size_kid ht
            have h3 : Dt.sizes (l.drop j) ≤ Dt.sizes l := by
              have : ∀ (m : List Dt) (k : Nat), Dt.sizes (m.drop k) ≤ Dt.sizes m := by
                intro m
                induction m with
                | nil => intro k; simp
                | cons x q ih =>
                  intro k
                  cases k with
                  | zero => simp
                  | succ k => have := ih k; simp only [List.drop_succ_cons, Dt.sizes]; omega
              exact this l j
            have e3 : Dt.sizes (t :: r) = t.size + Dt.sizes r := rfl
            rw [hdr, hr, e3] at h3
            have h4 := Dt.sizes_len r
            omega
          have HRS := Lib.hid (And.intro hrs (And.intro ht hr))
          have hrt : rightD t = true := part_right HZ.out.2.2.2.2 (i := 0) (x := t) rfl
          have hrr : rightD (Dt.list r) = true := part_right HZ.out.2.2.2.2 (i := 1) (x := Dt.list r) rfl
          have HRT := Lib.hid (And.intro hrt hrr)
          have HALL := Lib.hid hall
          have C18 := Fold_any 18 [Dt.list (t :: r)] (some ⟨wr.heap.size, 0, none⟩) 1 (wr.alloc (Obj.cells #[.int .i64 dk, .int .i64 dn, .int .i64 dd, .string ds, .slice dp dl dc] 37)) (by unfold I64; omega) (by unfold maxLen; simp) (by unfold Dt.sizes Dt.sizes; rw [list_size]; simp only [Dt.sizes, List.length_cons]; omega) (by simp) (lies_one (at_new wr _) ((HZ.out.2.1.on fun b o x h => (off_cell.1 h).2).below (box_below wr _)))
          rw [fold_car HZ.out.2.2.2.2] at C18
          have H18 := Lib.hid C18
          clear C18 hrs ht hr hdr hrt hrr hall
          go_wp2_with fail
          refine H18.out.mono ?_
          rintro _ w10 ⟨⟨xk, xn, xd, xs, xp, xl, xc, rfl, hxa⟩, hb10⟩
          have hb10' := below_after hb10
          have hbb := below_seq hb10' (box_below w10 (Obj.cells #[.int .i64 xk, .int .i64 xn, .int .i64 xd, .string xs, .slice xp xl xc] 37))
          have HA10 := Lib.hid (And.intro hbb (And.intro (hxa.below (box_below w10 (Obj.cells #[.int .i64 xk, .int .i64 xn, .int .i64 xd, .string xs, .slice xp xl xc] 37))) (at_new w10 (Obj.cells #[.int .i64 xk, .int .i64 xn, .int .i64 xd, .string xs, .slice xp xl xc] 37))))
          replace v0 := cell_on hbb _ _ _ v0
          replace v1 := cell_on hbb _ _ _ v1
          replace v2 := cell_on hbb _ _ _ v2
          replace v3 := cell_on hbb _ _ _ v3
          replace v4 := cell_on hbb _ _ _ v4
          replace d0 := cell_on hbb _ _ _ d0
          replace d1 := cell_on hbb _ _ _ d1
          replace d2 := cell_on hbb _ _ _ d2
          replace d3 := cell_on hbb _ _ _ d3
          replace d4 := cell_on hbb _ _ _ d4
          have C22 := Fold_any 22 [.node 7 0 0 ⟨#[]⟩ l, numD (j : Int) 1] (some ⟨(w10.alloc (Obj.cells #[.int .i64 xk, .int .i64 xn, .int .i64 xd, .string xs, .slice xp xl xc] 37)).heap.size, 0, none⟩) 2 ((w10.alloc (Obj.cells #[.int .i64 xk, .int .i64 xn, .int .i64 xd, .string xs, .slice xp xl xc] 37)).alloc (Obj.cells #[.int .i64 7, .int .i64 0, .int .i64 0, .string ⟨#[]⟩, .slice (some ⟨b, o, none⟩) l.length cap, .int .i64 0, .int .i64 (j : Int), .int .i64 1, .string ⟨#[]⟩, .slice none 0 0] 37)) (by unfold I64; omega) (by unfold maxLen; simp) (by have h1 := HSZ.out; simp only [Dt.sizes, Dt.size, numD]; omega) (by simp) (lies_two (at_new _ _) ((HVA.out _ (below_seq HZ.out.2.2.2.1 hbb)).below (box_below _ _)) (leaf_at _ 0 (j : Int) 1 i64_lit0 (by have := HLEN.out; unfold I64; omega) (by unfold I64; omega) none 0))
          rw [fold_at HRV.out HRS.out.2.1 (by have := HLEN.out; omega), show (w10.alloc (Obj.cells #[.int .i64 xk, .int .i64 xn, .int .i64 xd, .string xs, .slice xp xl xc] 37)).heap.size = w10.heap.size + 1 from by show (w10.heap.push _).size = _; simp] at C22
          have H22 := Lib.hid C22
          clear C22 hb10 hb10' hbb hxa
          go_wp2_with fail
          refine H22.out.mono ?_
          rintro _ w11 ⟨⟨yk, yn, yd, ys, yp, yl, yc, rfl, hya⟩, hb11⟩
          have hb11' := below_after hb11
          have hbb := below_seq hb11' (box_below w11 (Obj.cells #[.int .i64 yk, .int .i64 yn, .int .i64 yd, .string ys, .slice yp yl yc] 37))
          have HA11 := Lib.hid (And.intro (below_seq HA10.out.1 hbb) (And.intro (HA10.out.2.1.below hbb) (And.intro (block_on hbb HA10.out.2.2) (And.intro (hya.below (box_below w11 (Obj.cells #[.int .i64 yk, .int .i64 yn, .int .i64 yd, .string ys, .slice yp yl yc] 37))) (at_new w11 (Obj.cells #[.int .i64 yk, .int .i64 yn, .int .i64 yd, .string ys, .slice yp yl yc] 37))))))
          replace v0 := cell_on hbb _ _ _ v0
          replace v1 := cell_on hbb _ _ _ v1
          replace v2 := cell_on hbb _ _ _ v2
          replace v3 := cell_on hbb _ _ _ v3
          replace v4 := cell_on hbb _ _ _ v4
          replace d0 := cell_on hbb _ _ _ d0
          replace d1 := cell_on hbb _ _ _ d1
          replace d2 := cell_on hbb _ _ _ d2
          replace d3 := cell_on hbb _ _ _ d3
          replace d4 := cell_on hbb _ _ _ d4
          have hB6 : B6 < wr.heap.size := lt_of_block HZ.out.1
          have hsz := HA11.out.1.size
          have C19 := FoldP_any 19 [Dt.list (t :: r)] (some ⟨(w11.alloc (Obj.cells #[.int .i64 yk, .int .i64 yn, .int .i64 yd, .string ys, .slice yp yl yc] 37)).heap.size, 0, none⟩) 1 ((w11.alloc (Obj.cells #[.int .i64 yk, .int .i64 yn, .int .i64 yd, .string ys, .slice yp yl yc] 37)).alloc (Obj.cells #[.int .i64 dk, .int .i64 dn, .int .i64 dd, .string ds, .slice dp dl dc] 37)) (just B6) (by unfold I64; omega) (by unfold maxLen; simp) (by have h1 := HRS.out.1; simp only [Dt.sizes]; rw [list_size]; simp only [Dt.sizes, List.length_cons]; omega) (by simp)
            (fun q hq => by
              have h1 : ((w11.alloc (Obj.cells #[.int .i64 yk, .int .i64 yn, .int .i64 yd, .string ys, .slice yp yl yc] 37)).alloc (Obj.cells #[.int .i64 dk, .int .i64 dn, .int .i64 dd, .string ds, .slice dp dl dc] 37)).heap.size = (w11.alloc (Obj.cells #[.int .i64 yk, .int .i64 yn, .int .i64 yd, .string ys, .slice yp yl yc] 37)).heap.size + 1 := by show ((w11.alloc (Obj.cells #[.int .i64 yk, .int .i64 yn, .int .i64 yd, .string ys, .slice yp yl yc] 37)).heap.push _).size = _; simp
              simp only [just]; rw [beq_eq_false_iff_ne]; omega)
            (lies_one (off_block (by simp only [just]; rw [beq_eq_false_iff_ne]; omega) (at_new _ _)) (HZ.out.2.1.on (off_later (below_seq HA11.out.1 (box_below _ _)))))
          rw [fold_cdr HZ.out.2.2.2.2, show (w11.alloc (Obj.cells #[.int .i64 yk, .int .i64 yn, .int .i64 yd, .string ys, .slice yp yl yc] 37)).heap.size = w11.heap.size + 1 from by show (w11.heap.push _).size = _; simp] at C19
          have H19 := Lib.hid C19
          clear C19 hb11 hb11' hbb hya hB6 hsz
          go_wp2_with fail
          refine H19.out.mono ?_
          rintro _ w12 ⟨⟨zk, zn, zd, zs, zp, zl, zc, rfl, hza⟩, hb12⟩
          have hb12' := below_after hb12
          have hbb := below_seq hb12' (box_below w12 (Obj.cells #[.int .i64 zk, .int .i64 zn, .int .i64 zd, .string zs, .slice zp zl zc] 37))
          have HA12 := Lib.hid (And.intro (below_seq HA11.out.1 hbb) (And.intro (HA11.out.2.1.below hbb) (And.intro (block_on hbb HA11.out.2.2.1) (And.intro (HA11.out.2.2.2.1.below hbb) (And.intro (block_on hbb HA11.out.2.2.2.2) (And.intro (hza.on (off_later (box_below w12 (Obj.cells #[.int .i64 zk, .int .i64 zn, .int .i64 zd, .string zs, .slice zp zl zc] 37)))) (at_new w12 (Obj.cells #[.int .i64 zk, .int .i64 zn, .int .i64 zd, .string zs, .slice zp zl zc] 37))))))))
          clear hb12 hb12' hbb hza v0 v1 v2 v3 v4 d0 d1 d2 d3 d4
          go_upto_region 23 with fail
          obtain ⟨W, hW⟩ : ∃ W, w12.alloc (Obj.cells #[.int .i64 zk, .int .i64 zn, .int .i64 zd, .string zs, .slice zp zl zc] 37) = W := ⟨_, rfl⟩
          rw [hW] at HA12 ⊢
          clear hW
          obtain ⟨x0, x1, x2, x3, x4⟩ := box_cells HA12.out.2.2.1
          obtain ⟨y0, y1, y2, y3, y4⟩ := box_cells HA12.out.2.2.2.2.1
          have hbW := below_seq HZ.out.2.2.2.1 HA12.out.1
          obtain ⟨u0, u1, u2, u3, u4, t0, t1, t2, t3, t4, hta⟩ := (HALL.out.on (cell_on hbW)).kid HRS.out.2.1
          have HTA := Lib.hid hta
          obtain ⟨kt, nt, dt, st, lt, pt, capt, hte, rfl, rfl, rfl, rfl, rfl, _, _⟩ := hta.open5
          have HBW := Lib.hid hbW
          have x0' : W.drew.cell? ⟨w10.heap.size, 0, none⟩ = some (.int .i64 xk) := x0
          have x1' : W.drew.cell? ⟨w10.heap.size, 1, none⟩ = some (.int .i64 xn) := x1
          have x2' : W.drew.cell? ⟨w10.heap.size, 2, none⟩ = some (.int .i64 xd) := x2
          have x3' : W.drew.cell? ⟨w10.heap.size, 3, none⟩ = some (.string xs) := x3
          have x4' : W.drew.cell? ⟨w10.heap.size, 4, none⟩ = some (.slice xp xl xc) := x4
          have t0' : W.drew.cell? ⟨b, o + j * 5, none⟩ = some (.int .i64 kt) := t0
          have t1' : W.drew.cell? ⟨b, o + j * 5 + 1, none⟩ = some (.int .i64 nt) := t1
          have t2' : W.drew.cell? ⟨b, o + j * 5 + 2, none⟩ = some (.int .i64 dt) := t2
          have t3' : W.drew.cell? ⟨b, o + j * 5 + 3, none⟩ = some (.string st) := t3
          have t4' : W.drew.cell? ⟨b, o + j * 5 + 4, none⟩ = some (.slice pt lt.length capt) := t4
          have y0' : W.drew.cell? ⟨w11.heap.size, 0, none⟩ = some (.int .i64 yk) := y0
          have y1' : W.drew.cell? ⟨w11.heap.size, 1, none⟩ = some (.int .i64 yn) := y1
          have y2' : W.drew.cell? ⟨w11.heap.size, 2, none⟩ = some (.int .i64 yd) := y2
          have y3' : W.drew.cell? ⟨w11.heap.size, 3, none⟩ = some (.string ys) := y3
          have y4' : W.drew.cell? ⟨w11.heap.size, 4, none⟩ = some (.slice yp yl yc) := y4
          have S1 := same_self t _ _ W.drew HRT.out.1 (at_drew' HA12.out.2.1) (at_drew' HTA.out)
          have HS1 := Lib.hid S1
          clear S1 hta hte hbW
          go_wp2_with fail
          go_region_held3 (fun w' => w'.cell? ⟨w10.heap.size, 0, none⟩ = some (.int .i64 xk) ∧ w'.cell? ⟨w10.heap.size, 1, none⟩ = some (.int .i64 xn) ∧ w'.cell? ⟨w10.heap.size, 2, none⟩ = some (.int .i64 xd) ∧ w'.cell? ⟨w10.heap.size, 3, none⟩ = some (.string xs) ∧ w'.cell? ⟨w10.heap.size, 4, none⟩ = some (.slice xp xl xc) ∧ w'.cell? ⟨b, o + j * 5, none⟩ = some (.int .i64 kt) ∧ w'.cell? ⟨b, o + j * 5 + 1, none⟩ = some (.int .i64 nt) ∧ w'.cell? ⟨b, o + j * 5 + 2, none⟩ = some (.int .i64 dt) ∧ w'.cell? ⟨b, o + j * 5 + 3, none⟩ = some (.string st) ∧ w'.cell? ⟨b, o + j * 5 + 4, none⟩ = some (.slice pt lt.length capt) ∧ w'.cell? ⟨w11.heap.size, 0, none⟩ = some (.int .i64 yk) ∧ w'.cell? ⟨w11.heap.size, 1, none⟩ = some (.int .i64 yn) ∧ w'.cell? ⟨w11.heap.size, 2, none⟩ = some (.int .i64 yd) ∧ w'.cell? ⟨w11.heap.size, 3, none⟩ = some (.string ys) ∧ w'.cell? ⟨w11.heap.size, 4, none⟩ = some (.slice yp yl yc))
            (with_reducible (first | (refine ⟨?_, ?_, ?_, ?_, ?_, ?_, ?_, ?_, ?_, ?_, ?_, ?_, ?_, ?_, ?_⟩ <;> assumption)))
            (first
              | (go_at_call 23
                 with_reducible refine Calls.mono HS1.out ?_
                 rintro _ w13 ⟨rfl, hb⟩
                 have hb' := below_drew hb
                 replace x0 := cell_on hb' _ _ _ x0
                 replace x1 := cell_on hb' _ _ _ x1
                 replace x2 := cell_on hb' _ _ _ x2
                 replace x3 := cell_on hb' _ _ _ x3
                 replace x4 := cell_on hb' _ _ _ x4
                 replace t0 := cell_on hb' _ _ _ t0
                 replace t1 := cell_on hb' _ _ _ t1
                 replace t2 := cell_on hb' _ _ _ t2
                 replace t3 := cell_on hb' _ _ _ t3
                 replace t4 := cell_on hb' _ _ _ t4
                 replace y0 := cell_on hb' _ _ _ y0
                 replace y1 := cell_on hb' _ _ _ y1
                 replace y2 := cell_on hb' _ _ _ y2
                 replace y3 := cell_on hb' _ _ _ y3
                 replace y4 := cell_on hb' _ _ _ y4
                 have H13 := Lib.hid hb'
                 have HS2 := Lib.hid (same_self t _ _ w13 HRT.out.1 (HA12.out.2.2.2.1.below hb') (HTA.out.below hb'))
                 clear hb hb')
              | (go_at_call 23
                 with_reducible refine Calls.mono HS2.out ?_
                 rintro _ w14 ⟨rfl, hb⟩
                 replace x0 := cell_on hb _ _ _ x0
                 replace x1 := cell_on hb _ _ _ x1
                 replace x2 := cell_on hb _ _ _ x2
                 replace x3 := cell_on hb _ _ _ x3
                 replace x4 := cell_on hb _ _ _ x4
                 replace t0 := cell_on hb _ _ _ t0
                 replace t1 := cell_on hb _ _ _ t1
                 replace t2 := cell_on hb _ _ _ t2
                 replace t3 := cell_on hb _ _ _ t3
                 replace t4 := cell_on hb _ _ _ t4
                 replace y0 := cell_on hb _ _ _ y0
                 replace y1 := cell_on hb _ _ _ y1
                 replace y2 := cell_on hb _ _ _ y2
                 replace y3 := cell_on hb _ _ _ y3
                 replace y4 := cell_on hb _ _ _ y4
                 have H14 := Lib.hid (below_seq H13.out hb)
                 clear hb))
          have hA := below_seq HA12.out.1 H14.out
          have hx6 := block_on hA HZ.out.1
          have hz6 := block_on H14.out HA12.out.2.2.2.2.2.2
          have HL6 := Lib.hid (And.intro hx6 (And.intro hA (block_on hA HZ.out.2.2.1)))
          obtain ⟨d0, d1, d2, d3, d4⟩ := box_cells hx6
          obtain ⟨r0, r1, r2, r3, r4⟩ := box_cells hz6
          have q0 := box_frozen hx6 0
          have q1 := box_frozen hx6 1
          have q2 := box_frozen hx6 2
          have q3 := box_frozen hx6 3
          have q4 := box_frozen hx6 4
          clear hA hx6 hz6 x0 x1 x2 x3 x4 t0 t1 t2 t3 t4 y0 y1 y2 y3 y4
          go_wp2_with fail
          go_roundw
          case rel =>
            refine ⟨j + 1, zk, zn, zd, zs, zp, zl, zc, by omega, by go_num, set_five HL6.out.1, ?_, (set_five_other (by omega)).trans HL6.out.2.2, set_five_below (below_seq HZ.out.2.2.2.1 HL6.out.2.1) (by omega), by rw [HRS.out.2.2]; exact HRT.out.2⟩
            rw [HRS.out.2.2]
            refine (HA12.out.2.2.2.2.2.1.on (off_later H14.out)).on fun b o x h => ?_
            have h1 := off_cell.1 h
            have hne : b ≠ B6 := by have := h1.1; simpa using this
            exact off_cell.2 ⟨h1.1, (World.cell?_of_block (set_five_other hne)).trans h1.2⟩
          case measure => simp [intOf]; omega
        · have hk : dk = 4 := by
            have h := HZ.out.2.1
            rw [List.drop_of_length_le (by omega)] at h
            unfold Dt.list Dt.At at h
            obtain ⟨-, -, -, -, -, q, c, hv, -⟩ := h
            simp only [Value.agg.injEq, Array.mk.injEq, List.cons.injEq, and_true, Value.int.injEq, true_and] at hv
            exact hv.1
          subst hk
          go_wp2_with fail
          go_ret
          exact ⟨rfl, HZ.out.2.2.2.1⟩
end Go.Proofs.Ytdeelpagoffdjaa.Dat
