/- The program's equal?: what is held against one another is counted. -/
import Derived.Test.YtdeelpagoffdjaaPrLM
import Derived.Test.YtdeelpagoffdjaaPrBM
import Derived.Test.YtdeelpagoffdjaaDatVeM
import Derived.Deep.Cut


namespace Go.Proofs.Ytdeelpagoffdjaa.Dat
open Go.RowKit
set_option linter.unusedVariables false

abbrev holdF (Bh Bf : Nat) : Value := .func (.func 79) #[] #[.pointer (some ⟨Bh, 0, none⟩), .pointer (some ⟨Bf, 0, none⟩)]
/-- How many have been held, and the closure that holds. -/
def Holds (Bh Bf : Nat) (w : World) (c : Int) : Prop :=
  w.heap[Bh]? = some (.cells #[.int .i64 c] 3 (0, 0)) ∧ w.heap[Bf]? = some (.cells #[holdF Bh Bf] 40 (0, 0)) ∧ Bf ≠ Bh
theorem Holds.on {Bh Bf : Nat} {w w' : World} {c c' : Int} (h : Holds Bh Bf w c) (hk : Keeps Bh w w') (hn : w'.heap[Bh]? = some (.cells #[.int .i64 c'] 3 (0, 0))) : Holds Bh Bf w' c' :=
  ⟨hn, (hk.block Bf (lt_of_block h.2.1) h.2.2).trans h.2.1, h.2.2⟩
mutual
theorem eqD_le : ∀ (t u : Dt) (c : Int), (eqD t u c).2 ≤ c ∧ ((eqD t u c).1 = true → 0 ≤ (eqD t u c).2)
  | .node k n d s l, u, c => by
    unfold eqD
    split
    · exact ⟨by show c - 1 ≤ c; omega, fun h => by cases h⟩
    · rename_i h
      have := eqL_le l u.ls (c - 1) (by omega)
      exact ⟨by omega, this.2⟩
theorem eqL_le : ∀ (l us : List Dt) (c : Int), 0 ≤ c → (eqL l us c).2 ≤ c ∧ ((eqL l us c).1 = true → 0 ≤ (eqL l us c).2)
  | [], us, c, h => by unfold eqL; exact ⟨Int.le_refl _, fun _ => h⟩
  | t :: r, [], c, h => by unfold eqL; exact ⟨Int.le_refl _, fun _ => h⟩
  | t :: r, u :: q, c, h => by
    unfold eqL
    have h1 := eqD_le t u c
    simp only
    split
    · rename_i ht
      have h2 := eqL_le r q (eqD t u c).2 (h1.2 ht)
      exact ⟨by omega, h2.2⟩
    · rename_i ht
      exact ⟨h1.1, fun h => by cases h⟩
end
mutual
theorem eqD_low : ∀ (t u : Dt) (c : Int), 0 ≤ c → -1 ≤ (eqD t u c).2
  | .node k n d s l, u, c, h => by
    unfold eqD
    split
    · show -1 ≤ c - 1; omega
    · rename_i h
      exact eqL_low l u.ls (c - 1) (by omega)
theorem eqL_low : ∀ (l us : List Dt) (c : Int), 0 ≤ c → -1 ≤ (eqL l us c).2
  | [], us, c, h => by unfold eqL; show -1 ≤ c; omega
  | t :: r, [], c, h => by unfold eqL; show -1 ≤ c; omega
  | t :: r, u :: q, c, h => by
    unfold eqL
    have h1 := eqD_low t u c h
    simp only
    split
    · rename_i ht
      exact eqL_low r q (eqD t u c).2 ((eqD_le t u c).2 ht)
    · exact h1
end
theorem eqL_step {l us : List Dt} {i : Nat} {t u : Dt} {c : Int} (h : l[i]? = some t) (h' : us[i]? = some u) :
    eqL (l.drop i) (us.drop i) c = if (eqD t u c).1 = true then eqL (l.drop (i + 1)) (us.drop (i + 1)) (eqD t u c).2 else (false, (eqD t u c).2) := by
  rw [Dt.drop_at h, Dt.drop_at h']; conv => lhs; unfold eqL
theorem eqL_stop {l us : List Dt} {i : Nat} {c : Int} (h : l.length ≤ i) : eqL (l.drop i) (us.drop i) c = (true, c) := by
  rw [List.drop_of_length_le h]; unfold eqL; rfl

def HoldAt (t : Dt) : Prop := ∀ (u : Dt) (v v' : Value) (c : Int) (w : World) (Bh Bf : Nat), t.At (off w (just Bh)) v → u.At (off w (just Bh)) v' → 0 ≤ c → c ≤ 1000 → Holds Bh Bf w c →
    Calls Try.prog 79 #[v, v', .pointer (some ⟨Bh, 0, none⟩), .pointer (some ⟨Bf, 0, none⟩)] w fun e w' => e = .returned (.bool (eqD t u (1000 - c)).1) ∧ w'.heap[Bh]? = some (.cells #[.int .i64 (1000 - (eqD t u (1000 - c)).2)] 3 (0, 0)) ∧ Keeps Bh w w'

set_option maxHeartbeats 2000000 in
set_option maxRecDepth 100000 in
theorem eqfh_any (l l' : List Dt) (ih : ∀ t, t ∈ l → HoldAt t) (p p' : Option Addr) (cap cap' : Nat) (c : Int) (w : World) (Bh Bf : Nat) (hlm : l.length ≤ maxLen) (hlm' : l'.length ≤ maxLen) (hc0 : 0 ≤ c) (hc1 : c ≤ 1000)
    (hl : l = [] ∨ ∃ b o, p = some ⟨b, o, none⟩ ∧ Dt.AllAt (off w (just Bh)) l b o) (hl' : l' = [] ∨ ∃ b o, p' = some ⟨b, o, none⟩ ∧ Dt.AllAt (off w (just Bh)) l' b o) (hs : Holds Bh Bf w c) :
    Calls Try.prog 39 #[.slice p l.length cap, .slice p' l'.length cap', holdF Bh Bf] w fun e w' =>
      e = .returned (.bool (if l.length = l'.length then (eqL l l' (1000 - c)).1 else false)) ∧ w'.heap[Bh]? = some (.cells #[.int .i64 (if l.length = l'.length then 1000 - (eqL l l' (1000 - c)).2 else c)] 3 (0, 0)) ∧ Keeps Bh w w' := by
  unfold maxLen at hlm hlm'
  have IH := Lib.hid ih; clear ih
  have HL := Lib.hid hl; clear hl
  have HL' := Lib.hid hl'; clear hl'
  have HS := Lib.hid hs
  by_cases hne : l.length = l'.length
  case neg =>
    rw [if_neg hne, if_neg hne]
    have q : ((l.length : Int) != (l'.length : Int)) = true := by rw [bne_iff_ne]; omega
    clear hne hs
    go_enter Try.func39, Try.ntmps39
    go_wp2_with fail
    go_ret
    exact ⟨rfl, HS.out.1, Keeps.refl _ _⟩
  rw [if_pos hne, if_pos hne]
  have q : ((l.length : Int) != (l'.length : Int)) = false := by rw [bne_eq_false_iff_eq]; omega
  have EL := Lib.hid hne; clear hne hs
  obtain ⟨r, hr⟩ : ∃ r, eqL l l' (1000 - c) = r := ⟨_, rfl⟩
  rw [hr]
  have HR := Lib.hid hr; clear hr
  go_enter Try.func39, Try.ntmps39
  go_wp2_with fail
  go_loopw [17] (fun x wr => ∃ (i : Nat) (m : Int), i ≤ l.length ∧ x = .int .i64 i ∧ r = eqL (l.drop i) (l'.drop i) (1000 - m) ∧ 0 ≤ m ∧ m ≤ 1000 ∧ Holds Bh Bf wr m ∧ Keeps Bh w wr) (fun x _ => l.length - (intOf x).toNat)
  case atStart => exact ⟨0, c, by omega, rfl, by rw [← HR.out]; simp, hc0, hc1, HS.out, Keeps.refl _ _⟩
  case round =>
    obtain ⟨i, m, hi, rfl, hf, hm0, hm1, hsw, hk⟩ := hrel
    have HF := Lib.hid hf; clear hf
    have HK := Lib.hid hk; clear hk
    have HSW := Lib.hid hsw; clear hsw
    by_cases hlt : i < l.length
    · obtain ⟨t, ht⟩ : ∃ t, l[i]? = some t := ⟨l[i], by simp [hlt]⟩
      have hlt' : i < l'.length := by have := EL.out; omega
      obtain ⟨t', ht'⟩ : ∃ t, l'[i]? = some t := ⟨l'[i], by simp [hlt']⟩
      rcases HL.out with he | ⟨b, o, rfl, hall⟩
      · rw [he] at hlt; simp at hlt
      rcases HL'.out with he | ⟨b', o', rfl, hall'⟩
      · rw [he] at hlt'; simp at hlt'
      obtain ⟨v0, v1, v2, v3, v4, d0, d1, d2, d3, d4, hta⟩ := (hall.on HK.out.off).kid ht
      obtain ⟨u0, u1, u2, u3, u4, f0, f1, f2, f3, f4, hta'⟩ := (hall'.on HK.out.off).kid ht'
      replace d0 := (off_cell.1 d0).2
      replace d1 := (off_cell.1 d1).2
      replace d2 := (off_cell.1 d2).2
      replace d3 := (off_cell.1 d3).2
      replace d4 := (off_cell.1 d4).2
      replace f0 := (off_cell.1 f0).2
      replace f1 := (off_cell.1 f1).2
      replace f2 := (off_cell.1 f2).2
      replace f3 := (off_cell.1 f3).2
      replace f4 := (off_cell.1 f4).2
      obtain ⟨kt, nt, dt, st, lt, pt, capt, hte, rfl, rfl, rfl, rfl, rfl, _, _⟩ := hta.open5
      obtain ⟨ku, nu, du, su, lu, pu, capu, hue, rfl, rfl, rfl, rfl, rfl, _, _⟩ := hta'.open5
      replace f0 := cell_on (box_below wr (.cells #[.int .i64 kt, .int .i64 nt, .int .i64 dt, .string st, .slice pt lt.length capt] 37)) _ _ _ f0
      replace f1 := cell_on (box_below wr (.cells #[.int .i64 kt, .int .i64 nt, .int .i64 dt, .string st, .slice pt lt.length capt] 37)) _ _ _ f1
      replace f2 := cell_on (box_below wr (.cells #[.int .i64 kt, .int .i64 nt, .int .i64 dt, .string st, .slice pt lt.length capt] 37)) _ _ _ f2
      replace f3 := cell_on (box_below wr (.cells #[.int .i64 kt, .int .i64 nt, .int .i64 dt, .string st, .slice pt lt.length capt] 37)) _ _ _ f3
      replace f4 := cell_on (box_below wr (.cells #[.int .i64 kt, .int .i64 nt, .int .i64 dt, .string st, .slice pt lt.length capt] 37)) _ _ _ f4
      have hbt := two_below wr (.cells #[.int .i64 kt, .int .i64 nt, .int .i64 dt, .string st, .slice pt lt.length capt] 37) (.cells #[.int .i64 ku, .int .i64 nu, .int .i64 du, .string su, .slice pu lu.length capu] 37)
      have hkt : Keeps Bh wr _ := Keeps.of hbt
      have C := IH.out t (List.mem_of_getElem? ht) t' _ _ m _ Bh Bf (hta.on hkt.off) (hta'.on hkt.off) hm0 hm1 (HSW.out.on hkt (block_on hbt HSW.out.1))
      have HC := Lib.hid C
      have HBT := Lib.hid hkt
      have HT := Lib.hid ht
      have HT' := Lib.hid ht'
      clear C hta hta' hall hall' hte hue hbt hkt ht ht'
      go_wp2_with fail
      refine (HC.out).mono ?_
      rintro _ w1 ⟨rfl, hb1, hk1⟩
      have HB1 := Lib.hid hb1
      have HK1 := Lib.hid (HK.out.trans (HBT.out.trans hk1))
      have HS1 := Lib.hid (HSW.out.on (HBT.out.trans hk1) hb1)
      clear hb1 hk1
      have hle := eqD_le t t' (1000 - m)
      cases ha : (eqD t t' (1000 - m)).1
      · have HAL := Lib.hid ha; clear ha
        have hr : r = (false, (eqD t t' (1000 - m)).2) := by
          rw [HF.out, eqL_step HT.out HT'.out, if_neg (by rw [HAL.out]; simp)]
        have HRR := Lib.hid hr; clear hr hle
        go_wp2_with fail
        go_ret
        exact ⟨ret_bool (by rw [HRR.out]), by rw [HRR.out]; exact HB1.out, HK1.out⟩
      · have HAL := Lib.hid ha
        have hr : r = eqL (l.drop (i + 1)) (l'.drop (i + 1)) (eqD t t' (1000 - m)).2 := by
          rw [HF.out, eqL_step HT.out HT'.out, if_pos HAL.out]
        have HRR := Lib.hid (And.intro hr (And.intro hle.1 (hle.2 ha))); clear hr hle ha
        go_wp2_with fail
        go_roundw
        case rel => exact ⟨i + 1, 1000 - (eqD t t' (1000 - m)).2, by omega, by go_num, by rw [HRR.out.1]; congr 1; omega, by have := HRR.out; omega, by have := HRR.out; omega, HS1.out, HK1.out⟩
        case measure => simp [intOf]; omega
    · have hr : r = (true, 1000 - m) := by rw [HF.out, eqL_stop (by omega)]
      have HRR := Lib.hid hr; clear hr
      go_wp2_with fail
      go_ret
      exact ⟨ret_bool (by rw [HRR.out]), by
        rw [HRR.out]
        show wr.heap[Bh]? = some (.cells #[.int .i64 (1000 - (1000 - m))] 3 (0, 0))
        rw [show (1000 : Int) - (1000 - m) = m from by omega]; exact HSW.out.1, HK.out⟩

set_option maxHeartbeats 4000000 in
set_option maxRecDepth 100000 in
theorem hold_any (N : Nat) : ∀ t : Dt, t.size ≤ N → HoldAt t := by
  induction N with
  | zero => intro t h; have := t.size_pos; omega
  | succ N ih =>
    intro t hN u v v' c w Bh Bf hat hat' hc0 hc1 hs
    obtain ⟨k, n, d, s, l⟩ := t
    obtain ⟨k', n', d', s', l'⟩ := u
    unfold Dt.At at hat hat'
    obtain ⟨hk, hn, hd, hss, hlm, p, cap, rfl, hl⟩ := hat
    obtain ⟨hk', hn', hd', hss', hlm', p', cap', rfl, hl'⟩ := hat'
    have IH := Lib.hid (show ∀ t, t ∈ l → HoldAt t from fun t ht => ih t (by obtain ⟨i, hi⟩ := List.mem_iff_getElem?.1 ht; have h1 := Dt.size_kid hi; unfold Dt.size at hN; omega))
    have HI := Lib.hid (And.intro (And.intro hk (And.intro hn hd)) (And.intro (And.intro hk' (And.intro hn' hd')) (And.intro hlm hlm')))
    have HL := Lib.hid (And.intro hl hl')
    have HS := Lib.hid hs
    have hBh := lt_of_block hs.1
    clear ih hN hk hn hd hss hk' hn' hd' hss' hl hl' hs
    unfold maxLen at hlm hlm'
    obtain ⟨r, hr⟩ : ∃ r, eqD (.node k n d s l) (.node k' n' d' s' l') (1000 - c) = r := ⟨_, rfl⟩
    have hr2 : r = if 1000 - c - 1 < 0 ∨ headSame k n d k' n' d' s s' = false ∨ l.length ≠ l'.length then (false, 1000 - c - 1) else eqL l l' (1000 - c - 1) := by
      rw [← hr]; unfold eqD; rfl
    rw [hr]
    have HR := Lib.hid hr2; clear hr hr2
    go_enter Try.func79, Try.ntmps79
    go_upto_region 1 with fail
    obtain ⟨W, hW⟩ : ∃ W, (w.alloc (Obj.cells #[.int .i64 k, .int .i64 n, .int .i64 d, .string s, .slice p l.length cap] 37)).alloc (Obj.cells #[.int .i64 k', .int .i64 n', .int .i64 d', .string s', .slice p' l'.length cap'] 37) = W := ⟨_, rfl⟩
    have hb0 : Below w.heap.size w W := hW ▸ two_below w _ _
    have hx0 := hW ▸ two_first w (Obj.cells #[.int .i64 k, .int .i64 n, .int .i64 d, .string s, .slice p l.length cap] 37) (Obj.cells #[.int .i64 k', .int .i64 n', .int .i64 d', .string s', .slice p' l'.length cap'] 37)
    have hx1 := hW ▸ two_second w (Obj.cells #[.int .i64 k, .int .i64 n, .int .i64 d, .string s, .slice p l.length cap] 37) (Obj.cells #[.int .i64 k', .int .i64 n', .int .i64 d', .string s', .slice p' l'.length cap'] 37)
    rw [hW]
    have hs1 := HS.out.on (Keeps.of hb0) (block_on hb0 HS.out.1)
    have h0 := cell_of_one hs1.1
    have z0 := free_of_one hs1.1
    have hst := one_setCell (u := .int .i64 (c + 1)) hs1.1
    have hk2 : Keeps Bh w (W.setCell ⟨Bh, 0, none⟩ (.int .i64 (c + 1))) := (Keeps.of hb0).setCell _ _
    have hy0 := (Below.heap_setCell _ ⟨Bh, 0, none⟩ (.int .i64 (c + 1)) w.heap.size (by show w.heap.size ≠ Bh; omega)).trans hx0
    have hy1 := (Below.heap_setCell _ ⟨Bh, 0, none⟩ (.int .i64 (c + 1)) (w.heap.size + 1) (by show w.heap.size + 1 ≠ Bh; omega)).trans hx1
    have hs2 : Holds Bh Bf (W.setCell ⟨Bh, 0, none⟩ (.int .i64 (c + 1))) (c + 1) := HS.out.on hk2 hst
    have H2 := Lib.hid (And.intro hk2 (And.intro hs2 (And.intro hy0 hy1)))
    clear hb0 hx0 hx1 hs1 hst hk2 hy0 hy1 hs2 hW
    go_upto_region 2 with fail
    obtain ⟨W2, hW2⟩ : ∃ W2, W.setCell ⟨Bh, 0, none⟩ (.int .i64 (c + 1)) = W2 := ⟨_, rfl⟩
    rw [hW2] at H2 ⊢
    have m0 := cell_of_one H2.out.2.1.1
    obtain ⟨c0, c1, c2, c3, c4⟩ := box_cells H2.out.2.2.1
    obtain ⟨e0, e1, e2, e3, e4⟩ := box_cells H2.out.2.2.2
    have mf := cell_of_one H2.out.2.1.2.1
    clear h0 z0 hW2
    by_cases hc : c = 1000
    · have hq : ¬ (c + 1 ≤ 1000) := by omega
      have hrr : r = (false, -1) := by rw [HR.out, if_pos (Or.inl (by omega))]; rw [hc]; rfl
      have HRR := Lib.hid hrr; clear hrr
      go_wp2_with fail
      go_ret
      exact ⟨ret_bool (by rw [HRR.out]), by rw [HRR.out]; exact (H2.out.2.1.1).trans (by rw [hc]; rfl), H2.out.1⟩
    have hq : c + 1 ≤ 1000 := by omega
    obtain ⟨b, hb⟩ : ∃ b, headSame k n d k' n' d' s s' = b := ⟨_, rfl⟩
    have P := palike_any k n d k' n' d' s s' p p' l.length l'.length cap cap' W2 HI.out.1.1 HI.out.1.2.1 HI.out.1.2.2 HI.out.2.1.1 HI.out.2.1.2.1 HI.out.2.1.2.2
    rw [hb] at P
    have HP := Lib.hid P; clear P
    have HB := Lib.hid hb; clear hb
    cases b
    · have hrr : r = (false, 1000 - c - 1) := by rw [HR.out, if_pos (Or.inr (Or.inl HB.out))]
      have HRR := Lib.hid hrr; clear hrr
      go_wp2_with fail
      refine HP.out.mono ?_
      rintro _ w3 ⟨rfl, hb3⟩
      have HB3 := Lib.hid hb3; clear hb3
      go_wp2_with fail
      go_ret
      exact ⟨ret_bool (by rw [HRR.out]), by rw [HRR.out]; exact (block_on HB3.out H2.out.2.1.1).trans (by show some (Obj.cells #[.int .i64 (c + 1)] _ _) = some (Obj.cells #[.int .i64 (1000 - (1000 - c - 1))] _ _); rw [show (1000 : Int) - (1000 - c - 1) = c + 1 from by omega]), H2.out.1.trans (Keeps.of HB3.out)⟩
    · go_wp2_with fail
      refine HP.out.mono ?_
      rintro _ w3 ⟨rfl, hb3⟩
      have hk3 : Keeps Bh w w3 := H2.out.1.trans (Keeps.of hb3)
      have hs3 : Holds Bh Bf w3 (c + 1) := H2.out.2.1.on (Keeps.of hb3) (block_on hb3 H2.out.2.1.1)
      have E := eqfh_any l l' IH.out p p' cap cap' (c + 1) w3 Bh Bf HI.out.2.2.1 HI.out.2.2.2 (by omega) hq
        (by rcases HL.out.1 with h | ⟨b, o, h1, h2⟩
            · exact Or.inl h
            · exact Or.inr ⟨b, o, h1, h2.on hk3.off⟩)
        (by rcases HL.out.2 with h | ⟨b, o, h1, h2⟩
            · exact Or.inl h
            · exact Or.inr ⟨b, o, h1, h2.on hk3.off⟩) hs3
      have HE := Lib.hid E
      have HK3 := Lib.hid hk3
      replace c4 := cell_on hb3 _ _ _ c4
      replace e4 := cell_on hb3 _ _ _ e4
      replace mf := cell_on hb3 _ _ _ mf
      clear E hb3 hk3 hs3 c0 c1 c2 c3 e0 e1 e2 e3 m0
      go_wp2_with fail
      refine HE.out.mono ?_
      rintro _ w4 ⟨rfl, hb4, hk4⟩
      have HB4 := Lib.hid (And.intro hb4 hk4); clear hb4 hk4
      go_wp2_with fail
      go_ret
      by_cases hl : l.length = l'.length
      · have hrr : r = eqL l l' (1000 - (c + 1)) := by
          rw [HR.out, if_neg (by rintro (h | h | h); · omega
                                 · rw [HB.out] at h; cases h
                                 · exact h hl)]
          congr 1; omega
        rw [hrr]
        exact ⟨ret_bool (by simp [hl]), (HB4.out.1).trans (by rw [if_pos hl]), HK3.out.trans HB4.out.2⟩
      · have hrr : r = (false, 1000 - c - 1) := by rw [HR.out, if_pos (Or.inr (Or.inr hl))]
        rw [hrr]
        exact ⟨ret_bool (by simp [hl]), (HB4.out.1).trans (by rw [if_neg hl]; show some (Obj.cells #[.int .i64 (c + 1)] _ _) = some (Obj.cells #[.int .i64 (1000 - (1000 - c - 1))] _ _); rw [show (1000 : Int) - (1000 - c - 1) = c + 1 from by omega]), HK3.out.trans HB4.out.2⟩
end Go.Proofs.Ytdeelpagoffdjaa.Dat

/- The program's equal?, whole. -/
namespace Go.Proofs.Ytdeelpagoffdjaa.Dat
open Go.RowKit
set_option linter.unusedVariables false

theorem five_blocks (w : World) (a b c d e : Obj) {W : World} (hW : ((((w.alloc a).alloc b).alloc c).alloc d).alloc e = W) :
    W.heap[w.heap.size]? = some a ∧ W.heap[w.heap.size + 1]? = some b ∧ W.heap[w.heap.size + 1 + 1]? = some c ∧ W.heap[w.heap.size + 1 + 1 + 1]? = some d ∧ W.heap[w.heap.size + 1 + 1 + 1 + 1]? = some e ∧ Below w.heap.size w W := by
  subst hW
  have s2 : ((w.alloc a).alloc b).heap.size = w.heap.size + 1 + 1 := by show ((w.heap.push a).push b).size = _; simp
  have s4 : ((((w.alloc a).alloc b).alloc c).alloc d).heap.size = w.heap.size + 1 + 1 + 1 + 1 := by show ((((w.heap.push a).push b).push c).push d).size = _; simp
  have e1 := two_below ((w.alloc a).alloc b) c d
  have e2 := box_below ((((w.alloc a).alloc b).alloc c).alloc d) e
  have t0 := two_first ((w.alloc a).alloc b) c d
  have t1 := two_second ((w.alloc a).alloc b) c d
  have t2 := at_new ((((w.alloc a).alloc b).alloc c).alloc d) e
  rw [s2] at t0 t1
  rw [s4] at t2
  exact ⟨block_on e2 (block_on e1 (two_first w a b)), block_on e2 (block_on e1 (two_second w a b)), block_on e2 t0, block_on e2 t1, t2, below_seq (two_below w a b) (below_seq e1 e2)⟩

/-- A datum and an end, as a value. -/
def endV (t : Dt) (e : Int) : Value := .tuple #[leafV t.kd t.nm t.dn, .int .i64 e]
set_option maxHeartbeats 4000000 in
set_option maxRecDepth 100000 in
theorem equal_any (t u : Dt) (v v' : Value) (w : World) (hat : t.At w v) (hat' : u.At w v') :
    Calls Try.prog 55 #[v, v'] w fun e w' => e = .returned (endV (equalR t u).1 (equalR t u).2) ∧ Below w.heap.size w w' := by
  have HAT := Lib.hid (And.intro hat hat')
  obtain ⟨k, n, d, s, l⟩ := t
  obtain ⟨k', n', d', s', l'⟩ := u
  unfold Dt.At at hat hat'
  obtain ⟨-, -, -, -, -, p, cap, rfl, -⟩ := hat
  obtain ⟨-, -, -, -, -, p', cap', rfl, -⟩ := hat'
  obtain ⟨r, hr⟩ : ∃ r, eqD (.node k n d s l) (.node k' n' d' s' l') 1000 = r := ⟨_, rfl⟩
  have hlow := eqD_low (.node k n d s l) (.node k' n' d' s' l') 1000 (by omega)
  have hhi := (eqD_le (.node k n d s l) (.node k' n' d' s' l') 1000).1
  have hrr : equalR (.node k n d s l) (.node k' n' d' s' l') = if r.2 < 0 then (zeroD, 3) else (boolD r.1, 0) := by rw [← hr]; rfl
  rw [hrr]
  have HR := Lib.hid (And.intro hr (And.intro hlow hhi)); clear hr hrr hlow hhi
  obtain ⟨x, hx⟩ : ∃ x, (if r.2 < 0 then (zeroD, (3 : Int)) else (boolD r.1, 0)) = x := ⟨_, rfl⟩
  rw [hx]
  have HX := Lib.hid hx; clear hx
  have hmf : ∀ (fn : Fn) (first cap : Array Value) (w : World), (Instr.makeFunc fn first cap).run Try.prog w = .ok (.func fn first cap) w := fun _ _ _ _ => rfl
  go_enter Try.func55, Try.ntmps55
  go_upto_region 4 with fail
  obtain ⟨W, hW⟩ : ∃ W, ((((w.alloc (Obj.cells #[.int .i64 k, .int .i64 n, .int .i64 d, .string s, .slice p l.length cap] 37)).alloc (Obj.cells #[.int .i64 k', .int .i64 n', .int .i64 d', .string s', .slice p' l'.length cap'] 37)).alloc (Obj.cells #[.int .i64 0, .int .i64 0, .int .i64 0, .string ⟨#[]⟩, .slice none 0 0] 37)).alloc (Obj.cells #[.int .i64 0] 3)).alloc (Obj.cells #[.func (.func 79) #[] #[.pointer (some ⟨w.heap.size + 1 + 1 + 1, 0, none⟩), .pointer (some ⟨w.heap.size + 1 + 1 + 1 + 1, 0, none⟩)]] 40) = W := ⟨_, rfl⟩
  rw [hW]
  obtain ⟨k0, k1, k2, k3, k4, kb⟩ := five_blocks w _ _ _ _ _ hW
  have hkx : Keeps (w.heap.size + 1 + 1 + 1) w W := Keeps.of kb
  have hoff : ∀ b o x, w.cell? ⟨b, o, none⟩ = some x → (off W (just (w.heap.size + 1 + 1 + 1))).cell? ⟨b, o, none⟩ = some x := fun b o x h => off_cell.2 ⟨by have := cell_lt h; simp only [just]; rw [beq_eq_false_iff_ne]; omega, cell_on kb _ _ _ h⟩
  have C := hold_any (Dt.node k n d s l).size (.node k n d s l) (Nat.le_refl _) (.node k' n' d' s' l') _ _ 0 W (w.heap.size + 1 + 1 + 1) (w.heap.size + 1 + 1 + 1 + 1) (HAT.out.1.on hoff) (HAT.out.2.on hoff) (by omega) (by omega) ⟨k3, k4, by omega⟩
  rw [show (1000 : Int) - 0 = 1000 from rfl, HR.out.1] at C
  have HC := Lib.hid C
  have HK := Lib.hid (And.intro k2 kb)
  obtain ⟨a0, a1, a2, a3, a4⟩ := box_cells k0
  obtain ⟨b0, b1, b2, b3, b4⟩ := box_cells k1
  have f0 := cell_of_one k4
  clear C k0 k1 k2 k3 k4 kb hkx hoff hW
  go_wp2_with fail
  refine HC.out.mono ?_
  rintro _ w1 ⟨rfl, hn1, hk1⟩
  have hres := (hk1.block _ (lt_of_block HK.out.1) (by omega)).trans HK.out.1
  have hbel := hk1.below HK.out.2 (by omega)
  have h0 := cell_of_one hn1
  have HW1 := Lib.hid (And.intro hres hbel)
  clear hn1 hk1 a0 a1 a2 a3 a4 b0 b1 b2 b3 b4 f0
  by_cases hneg : r.2 < 0
  · have hx := HX.out
    rw [if_pos hneg] at hx
    have HXX := Lib.hid hx; clear hx
    have hgt : (1000 : Int) < 1000 - r.2 := by omega
    have B := bad_any 3 w1
    unfold leafV at B
    have HB := Lib.hid B; clear B hneg
    clear hres hbel
    go_wp2_with fail
    refine HB.out.mono ?_
    rintro _ w2 ⟨rfl, hb2⟩
    have hres := block_on hb2 HW1.out.1
    have H2 := Lib.hid (And.intro hres (below_seq HW1.out.2 hb2))
    obtain ⟨c0, c1, c2, c3, c4⟩ := box_cells hres
    have z0 := box_frozen hres 0
    have z1 := box_frozen hres 1
    have z2 := box_frozen hres 2
    have z3 := box_frozen hres 3
    have z4 := box_frozen hres 4
    clear hres hb2
    go_wp2_with fail
    refine bodyPost_ret (results_row1 rfl _ _ (w.heap.size + 1 + 1) 37 _ (0, 0) _ _ rfl rfl (set_five H2.out.1) Try.underlying37 rfl Try.sizD) rfl ?_
    exact ⟨by rw [← HXX.out]; rfl, set_five_below H2.out.2 (by omega)⟩
  · have hx := HX.out
    rw [if_neg hneg] at hx
    have HXX := Lib.hid hx; clear hx
    have hgt : ¬ (1000 : Int) < 1000 - r.2 := by omega
    obtain ⟨y, hy⟩ : ∃ y, (if r.1 = true then (1 : Int) else 0) = y := ⟨_, rfl⟩
    have HB := Lib.hid (truth_bit r.1 y hy w1)
    have HY := Lib.hid hy; clear hneg hy
    clear hres hbel
    go_wp2_with fail
    refine HB.out.mono ?_
    rintro _ w2 ⟨rfl, hb2⟩
    have hres := block_on hb2 HW1.out.1
    have H2 := Lib.hid (And.intro hres (below_seq HW1.out.2 hb2))
    obtain ⟨c0, c1, c2, c3, c4⟩ := box_cells hres
    have z0 := box_frozen hres 0
    have z1 := box_frozen hres 1
    have z2 := box_frozen hres 2
    have z3 := box_frozen hres 3
    have z4 := box_frozen hres 4
    clear hres hb2
    go_wp2_with fail
    refine bodyPost_ret (results_row1 rfl _ _ (w.heap.size + 1 + 1) 37 _ (0, 0) _ _ rfl rfl (set_five H2.out.1) Try.underlying37 rfl Try.sizD) rfl ?_
    refine ⟨?_, set_five_below H2.out.2 (by omega)⟩
    rw [← HXX.out]
    show _ = Ending.returned (.tuple #[leafV 1 (if r.1 = true then (1 : Int) else 0) 0, .int .i64 0])
    rw [HY.out]; rfl
end Go.Proofs.Ytdeelpagoffdjaa.Dat
