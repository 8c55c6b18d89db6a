/- The reference's Facts, Find, Takes. -/
import Derived.Test.YtdeelpagoffdjaaPxBM
import Derived.Test.YtdeelpagoffdjaaPxCM
import Derived.Test.YtdeelpagoffdjaaPxDM
import Derived.Test.YtdeelpagoffdjaaPrFs
import Derived.Test.YtdeelpagoffdjaaPrBM
import Derived.Deep.Cut

namespace Go.Proofs.Ytdeelpagoffdjaa.Dat
open Go.RowKit
set_option linter.unusedVariables false

set_option maxHeartbeats 2000000 in
set_option maxRecDepth 100000 in
theorem rfacts_none (n : Int) (hn : I64 n) (h : n < 0 ∨ 30 < n) (w : World) : Calls Try.prog 12 #[.int .i64 n] w fun e w' => e = .returned (factV none) ∧ Below w.heap.size w w' := by
  unfold I64 at hn
  rcases Decidable.em (n < 0) with h0 | h0
  all_goals
    try have h1 : 30 < n := by omega
    clear h
    go_enter Try.func12, Try.ntmps12
    go_upto_region 3 with fail
    obtain ⟨W, hW⟩ : ∃ W, (w.alloc (Obj.cells #[.string ⟨#[]⟩, .int .i64 0, .int .i64 0, .bool false, .bool false] 27)).alloc (Obj.cells namesA 9) = W := ⟨_, rfl⟩
    have hx := two_blocks w _ _ hW
    change Code.wp _ _ _ _ ((w.alloc (Obj.cells #[.string ⟨#[]⟩, .int .i64 0, .int .i64 0, .bool false, .bool false] 27)).alloc (Obj.cells namesA 9))
    rw [hW]
    have hbx := hx.1
    have HX := Lib.hid hx; clear hx hW
    obtain ⟨c0, c1, c2, c3, c4⟩ := box_cells hbx
    have z0 := box_frozen hbx 0
    have z1 := box_frozen hbx 1
    have z2 := box_frozen hbx 2
    have z3 := box_frozen hbx 3
    have z4 := box_frozen hbx 4
    clear hbx
    go_wp2_with fail
    refine bodyPost_ret (results_row1 rfl _ _ w.heap.size 27 _ (0, 0) _ _ rfl rfl (set_five HX.out.1) Try.underlying27 rfl Try.infoFr) rfl ?_
    exact ⟨rfl, set_five_below HX.out.2.2 (Nat.le_refl _)⟩
theorem rFacts_any (n : Int) (hn : I64 n) (w : World) : Calls Try.prog 12 #[.int .i64 n] w fun e w' => e = .returned (factV (factOf n)) ∧ Below w.heap.size w w' := by
  by_cases h : n < 0 ∨ 30 < n
  · rw [factOf_none.2 h]; exact rfacts_none n hn h w
  · have hc : n = 0 ∨ n = 1 ∨ n = 2 ∨ n = 3 ∨ n = 4 ∨ n = 5 ∨ n = 6 ∨ n = 7 ∨ n = 8 ∨ n = 9 ∨ n = 10 ∨ n = 11 ∨ n = 12 ∨ n = 13 ∨ n = 14 ∨ n = 15 ∨ n = 16 ∨ n = 17 ∨ n = 18 ∨ n = 19 ∨ n = 20 ∨ n = 21 ∨ n = 22 ∨ n = 23 ∨ n = 24 ∨ n = 25 ∨ n = 26 ∨ n = 27 ∨ n = 28 ∨ n = 29 ∨ n = 30 := by omega
    rcases hc with rfl | rfl | rfl | rfl | rfl | rfl | rfl | rfl | rfl | rfl | rfl | rfl | rfl | rfl | rfl | rfl | rfl | rfl | rfl | rfl | rfl | rfl | rfl | rfl | rfl | rfl | rfl | rfl | rfl | rfl | rfl
    · exact rfact0 w
    · exact rfact1 w
    · exact rfact2 w
    · exact rfact3 w
    · exact rfact4 w
    · exact rfact5 w
    · exact rfact6 w
    · exact rfact7 w
    · exact rfact8 w
    · exact rfact9 w
    · exact rfact10 w
    · exact rfact11 w
    · exact rfact12 w
    · exact rfact13 w
    · exact rfact14 w
    · exact rfact15 w
    · exact rfact16 w
    · exact rfact17 w
    · exact rfact18 w
    · exact rfact19 w
    · exact rfact20 w
    · exact rfact21 w
    · exact rfact22 w
    · exact rfact23 w
    · exact rfact24 w
    · exact rfact25 w
    · exact rfact26 w
    · exact rfact27 w
    · exact rfact28 w
    · exact rfact29 w
    · exact rfact30 w
set_option maxHeartbeats 1000000 in
set_option maxRecDepth 100000 in
theorem rtakes_none (n k : Int) (hn : I64 n) (h : factOf n = none) (w : World) : Calls Try.prog 16 #[.int .i64 n, .int .i64 k] w fun e w' => e = .returned (.bool false) ∧ Below w.heap.size w w' := by
  have F := rFacts_any n hn w
  rw [h] at F
  unfold factV noF Fc.val at F
  have HF := Lib.hid F; clear F h hn
  go_enter Try.func16, Try.ntmps16
  go_wp2_with fail
  refine HF.out.mono ?_
  rintro _ w1 ⟨rfl, hb⟩
  have HB := Lib.hid (below_seq hb (box_below w1 (Obj.cells #[.string ⟨#[]⟩, .int .i64 0, .int .i64 0, .bool false, .bool false] 27))); clear hb
  go_wp2_with fail
  go_ret
  exact ⟨rfl, HB.out⟩
theorem most_neg : ∀ {n : Int} {f : Fc}, factOf n = some f → (f.most < 0 ↔ f.most = -1) := by
  intro n f h
  obtain ⟨i, hi, rfl, ht⟩ := factOf_some h
  have : ∀ g ∈ table, (g.most < 0 ↔ g.most = -1) := by decide +kernel
  exact this f (List.mem_of_getElem? ht)
set_option maxHeartbeats 2000000 in
set_option maxRecDepth 100000 in
theorem rtakes_some (n k : Int) (hn : I64 n) (hk : I64 k) (f : Fc) (h : factOf n = some f) (w : World) : Calls Try.prog 16 #[.int .i64 n, .int .i64 k] w fun e w' => e = .returned (.bool (decide (f.least ≤ k) && (decide (k ≤ f.most) || decide (f.most = -1)))) ∧ Below w.heap.size w w' := by
  have F := rFacts_any n hn w
  have ft := table_fits h
  have hm := most_neg h
  rw [h] at F
  obtain ⟨fn, fl, fm, fp, ff⟩ := f
  unfold factV Fc.val at F
  unfold Fc.Fits I64 at ft
  obtain ⟨⟨l0, l1⟩, ⟨m0, m1⟩⟩ := ft
  unfold I64 at hk
  obtain ⟨k0, k1⟩ := hk
  simp only at F l0 l1 m0 m1 hm ⊢
  have HF := Lib.hid F; clear F h hn
  have HB := Lib.hid (fun w1 (hb : Below w.heap.size w w1) => below_seq hb (box_below w1 (Obj.cells #[.string fn, .int .i64 fl, .int .i64 fm, .bool fp, .bool ff] 27)))
  by_cases h1 : fl ≤ k
  · have D1 := Lib.hid (decide_eq_true h1)
    by_cases h3 : fm < 0
    · have D3 := Lib.hid (decide_eq_true (hm.1 h3))
      clear hm
      go_enter Try.func16, Try.ntmps16
      go_wp2_with fail
      refine HF.out.mono ?_
      rintro _ w1 ⟨rfl, hb⟩
      have HB1 := Lib.hid (HB.out w1 hb); clear hb
      go_wp2_with fail
      go_ret
      exact ⟨ret_bool (by rw [D1.out, D3.out, Bool.or_true]; rfl), HB1.out⟩
    · have D3 := Lib.hid (decide_eq_false (fun e => h3 (hm.2 e)))
      have D4 := Lib.hid (decide_eq_false h3)
      clear hm
      by_cases h2 : k ≤ fm
      · have D2 := Lib.hid (decide_eq_true h2)
        go_enter Try.func16, Try.ntmps16
        go_wp2_with fail
        refine HF.out.mono ?_
        rintro _ w1 ⟨rfl, hb⟩
        have HB1 := Lib.hid (HB.out w1 hb); clear hb
        go_wp2_with fail
        go_ret
        exact ⟨ret_bool (by rw [D1.out, D2.out]; rfl), HB1.out⟩
      · have D2 := Lib.hid (decide_eq_false h2)
        go_enter Try.func16, Try.ntmps16
        go_wp2_with fail
        refine HF.out.mono ?_
        rintro _ w1 ⟨rfl, hb⟩
        have HB1 := Lib.hid (HB.out w1 hb); clear hb
        go_wp2_with fail
        go_ret
        exact ⟨ret_bool (by rw [D1.out, D2.out, D3.out, D4.out]; rfl), HB1.out⟩
  · have D1 := Lib.hid (decide_eq_false h1)
    clear hm
    go_enter Try.func16, Try.ntmps16
    go_wp2_with fail
    refine HF.out.mono ?_
    rintro _ w1 ⟨rfl, hb⟩
    have HB1 := Lib.hid (HB.out w1 hb); clear hb
    go_wp2_with fail
    go_ret
    exact ⟨ret_bool (by rw [D1.out]; rfl), HB1.out⟩
theorem rTakes_any (n k : Int) (hn : I64 n) (hk : I64 k) (w : World) : Calls Try.prog 16 #[.int .i64 n, .int .i64 k] w fun e w' => e = .returned (.bool (takesB n k)) ∧ Below w.heap.size w w' := by
  unfold takesB
  cases h : factOf n with
  | none => exact rtakes_none n k hn h w
  | some f => exact rtakes_some n k hn hk f h w
set_option maxHeartbeats 2000000 in
set_option maxRecDepth 100000 in
theorem rFind_any (s : ByteArray) (hs : s.size ≤ maxLen) (w : World) : Calls Try.prog 14 #[.string s] w fun e w' => e = .returned (.tuple #[.int .i64 (findB s).1, .bool (findB s).2]) ∧ Below w.heap.size w w' := by
  unfold maxLen at hs
  obtain ⟨r, hr⟩ : ∃ r, findB s = r := ⟨_, rfl⟩
  rw [hr]
  unfold findB at hr
  by_cases h : s = ⟨#[37, 101, 113, 63]⟩
  · rw [if_pos h] at hr
    subst h
    have HR := Lib.hid hr; clear hr
    go_enter Try.func14, Try.ntmps14
    go_wp2_with fail
    go_ret2
    exact ⟨by rw [← HR.out]; rfl, Below.refl _ _⟩
  · rw [if_neg h] at hr
    have q : (s.toList == [37, 101, 113, 63]) = false := by
      rw [beq_eq_false_iff_ne, ← show (⟨#[37, 101, 113, 63]⟩ : ByteArray).toList = [37, 101, 113, 63] from by decide +kernel]
      exact fun e => h (bytes_inj e)
    have HR := Lib.hid hr
    clear hr h
    go_enter Try.func14, Try.ntmps14
    go_wp2_with fail
    go_loopw [4] (fun x wr => ∃ (i : Nat), i ≤ 31 ∧ x = .int .i64 i ∧ r = findIn s (table.drop i) (i : Int) ∧ Below w.heap.size w wr) (fun x _ => 31 - (intOf x).toNat)
    case atStart => exact ⟨0, by omega, rfl, by rw [← HR.out]; rfl, Below.refl _ _⟩
    case round =>
      obtain ⟨i, hi, rfl, hf, hbw⟩ := hrel
      have HFF := Lib.hid (And.intro hf hbw); clear hf hbw
      by_cases hlt : i < 31
      · have hl : i < table.length := by rw [table_len]; omega
        obtain ⟨f, hfi⟩ : ∃ f, table[i]? = some f := ⟨_, List.getElem?_eq_getElem hl⟩
        have F := rFacts_any (i : Int) (by unfold I64; omega) wr
        rw [factOf_nat hlt, hfi] at F
        obtain ⟨fn, fl, fm, fp, ff⟩ := f
        unfold factV Fc.val at F
        simp only at F
        have HF := Lib.hid F
        have HST := Lib.hid (find_step (s := s) hfi)
        clear hl hfi F
        by_cases he : fn = s
        · subst he
          go_wp2_with fail
          refine HF.out.mono ?_
          rintro _ w1 ⟨rfl, hb⟩
          have ob := Lib.hid (below_seq HFF.out.2 (below_seq hb (box_below w1 (Obj.cells #[.string fn, .int .i64 fl, .int .i64 fm, .bool fp, .bool ff] 27)))); clear hb
          go_wp2_with fail
          go_ret2
          exact ⟨by rw [HFF.out.1, HST.out]; simp, ob.out⟩
        · have q : (fn.toList == s.toList) = false := by rw [beq_eq_false_iff_ne]; exact fun e => he (bytes_inj e)
          have HE := Lib.hid he; clear he
          go_wp2_with fail
          refine HF.out.mono ?_
          rintro _ w1 ⟨rfl, hb⟩
          have ob := Lib.hid (below_seq HFF.out.2 (below_seq hb (box_below w1 (Obj.cells #[.string fn, .int .i64 fl, .int .i64 fm, .bool fp, .bool ff] 27)))); clear hb
          go_wp2_with fail
          go_roundw
          case rel => exact ⟨i + 1, by omega, by go_num, by rw [HFF.out.1, HST.out, if_neg HE.out]; push_cast; rfl, ob.out⟩
          case measure => simp [intOf]; omega
      · have hr : r = (0, false) := by
          rw [HFF.out.1, List.drop_of_length_le (by rw [table_len]; omega)]; rfl
        have HR2 := Lib.hid hr; clear hr
        go_wp2_with fail
        go_ret2
        exact ⟨by rw [HR2.out]; rfl, HFF.out.2⟩
end Go.Proofs.Ytdeelpagoffdjaa.Dat
