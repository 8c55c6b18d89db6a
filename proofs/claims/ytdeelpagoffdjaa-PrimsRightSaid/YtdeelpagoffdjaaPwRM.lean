/- The law PrimsRight. -/
import Derived.Test.YtdeelpagoffdjaaPwBM
import Derived.Test.YtdeelpagoffdjaaPwCM

namespace Go.Proofs.Ytdeelpagoffdjaa.Dat
open Go.RowKit
open NumPlain
set_option linter.unusedVariables false

theorem fact_folds (n : Int) : ∃ fn fl fm fp ok, factV (factOf n) = .tuple #[.agg #[.string fn, .int .i64 fl, .int .i64 fm, .bool fp, .bool (foldsB n)], .bool ok] := by
  unfold foldsB
  cases h : factOf n with
  | none => exact ⟨_, _, _, _, _, rfl⟩
  | some f => obtain ⟨fn, fl, fm, fp, ff⟩ := f; exact ⟨_, _, _, _, _, rfl⟩
set_option maxHeartbeats 8000000 in
set_option maxRecDepth 100000 in
theorem primsRight_any (n : Int) (l : List Dt) (p : Option Addr) (cap : Nat) (w : World) (hn : I64 n) (hlm : l.length ≤ maxLen) (hcap : l.length ≤ cap) (hl : Lies w l p) :
    Calls Try.prog 6 #[.int .i64 n, .slice p l.length cap] w fun e w' => e = .returned (.bool true) ∧ Below w.heap.size w w' := by
  have HL := Lib.hid (And.intro hn (And.intro hlm (And.intro hcap hl)))
  have HFW := Lib.hid (fun W (hb : Below w.heap.size w W) => few5_any l p cap 100 W hlm (by omega) (by omega) (hl.below hb))
  obtain ⟨fe, hfe⟩ : ∃ r, decide ((Dt.sizes l : Int) ≤ 100) = r := ⟨_, rfl⟩
  rw [hfe] at HFW
  have HFE := Lib.hid hfe
  obtain ⟨fn, fl, fm, fp, fok, hfact⟩ := fact_folds n
  have HF := Lib.hid (fun W => Facts_any n hn W)
  rw [hfact] at HF
  obtain ⟨ff, hff⟩ : ∃ r, foldsB n = r := ⟨_, rfl⟩
  rw [hff] at HF
  have HFF := Lib.hid hff
  unfold I64 at hn
  unfold maxLen at hlm
  clear hl hfe hfact hff hcap
  go_enter Try.func6, Try.ntmps6
  go_wp2_with fail
  refine (awake5_any _).mono ?_
  rintro _ w1 ⟨rfl, hb1⟩
  have HB1 := Lib.hid hb1; clear hb1
  go_wp2_with fail
  refine (HFW.out w1 HB1.out).mono ?_
  rintro _ w2 ⟨rfl, hb2⟩
  have HB2 := Lib.hid (below_seq HB1.out hb2); clear hb2
  cases fe
  · go_wp2_with fail
    go_ret
    exact ⟨rfl, HB2.out⟩
  have hsz : Dt.sizes l ≤ 90000 := by have := of_decide_eq_true HFE.out; omega
  have HG := Lib.hid (fold_good n l hsz)
  have HFO := Lib.hid (Fold_any n l p cap w2 HL.out.1 HL.out.2.1 hsz HL.out.2.2.1 (HL.out.2.2.2.below HB2.out))
  clear hsz
  obtain ⟨⟨ad, ae, ao⟩, hr⟩ : ∃ r, foldB nameB n l = r := ⟨_, rfl⟩
  rw [hr] at HFO HG
  clear hr
  go_wp2_with fail
  refine HFO.out.mono ?_
  rintro _ w3 ⟨⟨ka, na, da, sa, pa, lena, capa, rfl, ht⟩, hb3⟩
  have HB3 := Lib.hid (And.intro ht (below_seq HB2.out hb3)); clear ht hb3
  have hbx3 := at_new w3 (Obj.cells #[.int .i64 ka, .int .i64 na, .int .i64 da, .string sa, .slice pa lena capa] 37)
  have hbw3 : Below w3.heap.size w3 (w3.alloc (Obj.cells #[.int .i64 ka, .int .i64 na, .int .i64 da, .string sa, .slice pa lena capa] 37)) := box_below w3 _
  have HW3 := Lib.hid (And.intro hbx3 (And.intro (HB3.out.1.below hbw3) (below_seq HB3.out.2 hbw3)))
  clear hbx3 hbw3
  go_wp2_with fail
  refine (HF.out _).mono ?_
  rintro _ w4 ⟨rfl, hb4⟩
  have HB4 := Lib.hid (And.intro (block_on hb4 HW3.out.1) (And.intro (HW3.out.2.1.below hb4) (below_seq HW3.out.2.2 hb4))); clear hb4
  have hbx4 := at_new w4 (Obj.cells #[.string fn, .int .i64 fl, .int .i64 fm, .bool fp, .bool ff] 24)
  have hbw4 : Below w4.heap.size w4 (w4.alloc (Obj.cells #[.string fn, .int .i64 fl, .int .i64 fm, .bool fp, .bool ff] 24)) := box_below w4 _
  have HW4 := Lib.hid (And.intro hbx4 (And.intro (block_on hbw4 HB4.out.1) (And.intro (HB4.out.2.1.below hbw4) (below_seq HB4.out.2.2 hbw4))))
  clear hbx4 hbw4
  go_wp2_with fail
  go_loopw [11, 12] (fun y x wr => ∃ (i : Nat) (rb : Bool), i ≤ l.length ∧ x = .int .i64 i ∧ y = .bool rb ∧ Dt.rightAll rightB nameB l 0 = (rb && Dt.rightAll rightB nameB (l.drop i) 0) ∧
    wr.heap[w4.heap.size]? = some (Obj.cells #[.string fn, .int .i64 fl, .int .i64 fm, .bool fp, .bool ff] 24) ∧ wr.heap[w3.heap.size]? = some (Obj.cells #[.int .i64 ka, .int .i64 na, .int .i64 da, .string sa, .slice pa lena capa] 37) ∧ ad.At wr (.agg #[.int .i64 ka, .int .i64 na, .int .i64 da, .string sa, .slice pa lena capa]) ∧ Below w.heap.size w wr) (fun _ x _ => l.length - (intOf x).toNat)
  case atStart => exact ⟨0, true, by omega, rfl, rfl, by simp, HW4.out.1, HW4.out.2.1, HW4.out.2.2.1, HW4.out.2.2.2⟩
  case round =>
    obtain ⟨i, rb, hi, rfl, rfl, hf, hb9, hb6, hat, hb⟩ := hrel
    have HR := Lib.hid (And.intro hf (And.intro hb9 (And.intro hb6 (And.intro hat hb)))); clear hf hb9 hb6 hat hb
    by_cases hlt : i < l.length
    · cases rb
      · go_wp2_with fail
        go_roundw
        case rel => exact ⟨i + 1, false, by omega, by go_num, rfl, HR.out.1, HR.out.2.1, HR.out.2.2.1, HR.out.2.2.2.1, HR.out.2.2.2.2⟩
        case measure => simp [intOf]; omega
      · obtain ⟨t, ht⟩ : ∃ t, l[i]? = some t := ⟨l[i], by simp [hlt]⟩
        rcases HL.out.2.2.2 with he | ⟨b, o, rfl, hall⟩
        · rw [he] at hlt; simp at hlt
        obtain ⟨v0, v1, v2, v3, v4, d0, d1, d2, d3, d4, hta⟩ := (hall.on (cell_on HR.out.2.2.2.2)).kid ht
        have C := pRight t _ wr hta
        obtain ⟨kt, nt, dt, st, lt, pt, capt, hte, rfl, rfl, rfl, rfl, rfl, _, _⟩ := hta.open5
        have HC := Lib.hid C
        have HT := Lib.hid ht
        clear C hta hall hte ht
        go_wp2_with fail
        refine (HC.out).mono ?_
        rintro _ wq ⟨rfl, hbq⟩
        have HQ := Lib.hid (And.intro (block_on hbq HR.out.2.1) (And.intro (block_on hbq HR.out.2.2.1) (And.intro (HR.out.2.2.2.1.below hbq) (below_seq HR.out.2.2.2.2 hbq)))); clear hbq
        go_wp2_with fail
        go_roundw
        case rel => exact ⟨i + 1, t.right rightB nameB 0, by omega, by go_num, rfl, by rw [HR.out.1, Bool.true_and, Dt.rightAll_step HT.out], HQ.out.1, HQ.out.2.1, HQ.out.2.2.1, HQ.out.2.2.2⟩
        case measure => simp [intOf]; omega
    · have hr : Dt.rightAll rightB nameB l 0 = rb := by rw [HR.out.1, Dt.rightAll_stop (by omega), Bool.and_true]
      have HRR := Lib.hid hr; clear hr
      obtain ⟨c0, c1, c2, c3, c4⟩ := box_cells HR.out.2.1
      obtain ⟨g0, g1, g2, g3, g4⟩ := box_cells HR.out.2.2.1
      rcases HG.out with ⟨h1, h2, h3⟩ | ⟨h1, h2, h3⟩ | ⟨h1, h2, h3, h4⟩
      · obtain rfl : ao = false := h1
        obtain rfl : ae = 0 := h2
        rcases h3 with h3 | h3
        · obtain rfl : ff = false := by rw [← HFF.out, h3]
          go_wp2_with fail
          go_ret
          exact ⟨rfl, HR.out.2.2.2.2⟩
        · obtain rfl : rb = false := by rw [← HRR.out, h3]
          cases ff
          · go_wp2_with fail
            go_ret
            exact ⟨rfl, HR.out.2.2.2.2⟩
          · go_wp2_with fail
            go_ret
            exact ⟨rfl, HR.out.2.2.2.2⟩
      · obtain rfl : ao = true := h1
        obtain rfl : ae = 2 := h3
        have T := takes_no n l.length HL.out.1 (by have := HL.out.2.1; unfold maxLen at this; unfold I64; omega) h2 wr
        have HT := Lib.hid T; clear T h2
        go_wp2_with fail
        refine HT.out.mono ?_
        rintro _ wq ⟨rfl, hbq⟩
        have HQ := Lib.hid (below_seq HR.out.2.2.2.2 hbq); clear hbq
        go_wp2_with fail
        go_ret
        exact ⟨rfl, HQ.out⟩
      · obtain rfl : ao = true := h1
        have h3 : ae ≠ 2 := h3
        have h4 : ae = 0 → rightD ad = true := h4
        have T := takes_yes n l.length HL.out.1 (by have := HL.out.2.1; unfold maxLen at this; unfold I64; omega) h2 wr
        have HT := Lib.hid T; clear T h2
        have q2 : (ae != 2) = true := by rw [bne_iff_ne]; exact h3
        by_cases h0 : ae = 0
        · subst h0
          have hra := h4 rfl
          clear h3 h4 q2
          go_wp2_with fail
          refine HT.out.mono ?_
          rintro _ wq ⟨rfl, hbq⟩
          have P := pRight ad _ wq (HR.out.2.2.2.1.below hbq)
          rw [show ad.right rightB nameB 0 = true from hra] at P
          have HP := Lib.hid P
          have HQ := Lib.hid (below_seq HR.out.2.2.2.2 hbq)
          replace g0 := cell_on hbq _ _ _ g0
          replace g1 := cell_on hbq _ _ _ g1
          replace g2 := cell_on hbq _ _ _ g2
          replace g3 := cell_on hbq _ _ _ g3
          replace g4 := cell_on hbq _ _ _ g4
          clear P hbq hra
          go_wp2_with fail
          refine HP.out.mono ?_
          rintro _ wz ⟨rfl, hbz⟩
          have HZ := Lib.hid (below_seq HQ.out hbz); clear hbz
          go_wp2_with fail
          go_ret
          exact ⟨rfl, HZ.out⟩
        · have q0 : (ae != 0) = true := by rw [bne_iff_ne]; exact h0
          clear h3 h4 h0
          go_wp2_with fail
          refine HT.out.mono ?_
          rintro _ wq ⟨rfl, hbq⟩
          have HQ := Lib.hid (below_seq HR.out.2.2.2.2 hbq); clear hbq
          go_wp2_with fail
          go_ret
          exact ⟨rfl, HQ.out⟩
end Go.Proofs.Ytdeelpagoffdjaa.Dat
