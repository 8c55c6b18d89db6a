/- The program's through: + - * / from the left to the right. -/
import Derived.Test.YtdeelpagoffdjaaPrMM
import Derived.Test.YtdeelpagoffdjaaPrBM
import Derived.Deep.Cut
import Derived.StillTailTactics
import Derived.Deep.RegionHeld3


namespace Go.Proofs.Ytdeelpagoffdjaa.Dat
open Go.RowKit
open Go.Proofs.Ytdeelpagoffdjaa (three)
open NumPlain
set_option linter.unusedVariables false

/-- What a step answers. -/
def StepIs (g : FuncId) (f : Int → Int → Int → Int → Int × Int × Int) : Prop := ∀ (n d m e : Int) (w : World), I64 n → I64 d → I64 m → I64 e → Calls Try.prog g #[.int .i64 n, .int .i64 d, .int .i64 m, .int .i64 e] w fun e' w' => e' = .returned (three (f n d m e)) ∧ Below w.heap.size w w'
theorem thr_step {f : Int → Int → Int → Int → Int × Int × Int} {l : List Dt} {i : Nat} {t : Dt} {a b : Int} (h : l[i]? = some t) :
    thr f a b (l.drop i) = if (f a b t.nm t.dn).2.2 = 0 then thr f (f a b t.nm t.dn).1 (f a b t.nm t.dn).2.1 (l.drop (i + 1)) else (0, 0, (f a b t.nm t.dn).2.2) := by
  rw [Dt.drop_at h]; conv => lhs; unfold thr
theorem thr_stop {f : Int → Int → Int → Int → Int × Int × Int} {l : List Dt} {i : Nat} {a b : Int} (h : l.length ≤ i) : thr f a b (l.drop i) = (a, b, 0) := by
  rw [List.drop_of_length_le h]; rfl
/-- A number, wherever its parts would lie. -/
def numAt (n d : Int) (p : Option Addr) (cap : Nat) : Value := .agg #[.int .i64 0, .int .i64 n, .int .i64 d, .string ⟨#[]⟩, .slice p 0 cap]
theorem i64_right {n d : Int} (h : rightB n d = true) : I64 n ∧ I64 d := by
  obtain ⟨_, _, _, h1, h2, h3, h4⟩ := right_num h
  unfold I64; omega

theorem Dt.At.open7 {w : World} {t : Dt} {v0 v1 v2 v3 v4 : Value} (h : t.At w (.agg #[v0, v1, v2, v3, v4])) : ∃ k n d s l p cap, t = .node k n d s l ∧ v0 = .int .i64 k ∧ v1 = .int .i64 n ∧ v2 = .int .i64 d ∧ v3 = .string s ∧ v4 = .slice p l.length cap ∧ I64 k ∧ I64 n ∧ I64 d ∧ s.size ≤ maxLen ∧ l.length ≤ maxLen ∧ (l = [] ∨ ∃ b o, p = some ⟨b, o, none⟩ ∧ Dt.AllAt w l b o) := by
  obtain ⟨k, n, d, s, l⟩ := t
  unfold Dt.At at h
  obtain ⟨h1, h2, h3, h4, h5, p, cap, hv, hl⟩ := h
  simp only [Value.agg.injEq, Array.mk.injEq, List.cons.injEq, and_true] at hv
  obtain ⟨rfl, rfl, rfl, rfl, rfl⟩ := hv
  exact ⟨k, n, d, s, l, p, cap, rfl, rfl, rfl, rfl, rfl, rfl, h1, h2, h3, h4, h5, hl⟩
theorem number_yes (n d : Int) (w : World) : Calls Try.prog 58 #[.int .i64 n, .int .i64 d, .int .i64 0] w fun e' w' => e' = .returned (.tuple #[leafV 0 n d, .int .i64 0]) ∧ Below w.heap.size w w' := number_any n d 0 w
theorem number_no (n d e : Int) (h : e ≠ 0) (w : World) : Calls Try.prog 58 #[.int .i64 n, .int .i64 d, .int .i64 e] w fun e' w' => e' = .returned (.tuple #[leafV 0 0 0, .int .i64 e]) ∧ Below w.heap.size w w' := by
  have := number_any n d e w
  unfold numV at this
  rwa [if_neg h] at this

theorem i64_end {n d : Int} (h : okEnd (n, d, 0)) : I64 n ∧ I64 d := by
  rcases h with h | h | h
  · exact i64_right h.2
  · cases h
  · cases h
end Go.Proofs.Ytdeelpagoffdjaa.Dat

/- The program's through, for one of the four. -/
namespace Go.Proofs.Ytdeelpagoffdjaa.Dat
open Go.RowKit
open Go.Proofs.Ytdeelpagoffdjaa (three)
open NumPlain
set_option linter.unusedVariables false

set_option maxHeartbeats 2000000 in
set_option maxRecDepth 100000 in
theorem throughSub_any (f : Int → Int → Int → Int → Int × Int × Int) (hg : StepIs 50 f) (hf : ∀ n d m e, okEnd (f n d m e)) (a0 b0 : Int) (ha0 : I64 a0) (hb0 : I64 b0) (p0 : Option Addr) (cap0 : Nat)
    (l : List Dt) (p : Option Addr) (cap : Nat) (w : World) (hlm : l.length ≤ maxLen) (hl : l = [] ∨ ∃ b o, p = some ⟨b, o, none⟩ ∧ Dt.AllAt w l b o) :
    Calls Try.prog 47 #[.func (.func 50) #[] #[], numAt a0 b0 p0 cap0, .slice p l.length cap] w fun e w' => ∃ q c, e = .returned (.tuple #[numAt (thr f a0 b0 l).1 (thr f a0 b0 l).2.1 q c, .int .i64 (thr f a0 b0 l).2.2]) ∧ Below w.heap.size w w' := by
  unfold maxLen at hlm
  have HG := Lib.hid hg; clear hg
  have HL := Lib.hid hl; clear hl
  have HI := Lib.hid (And.intro ha0 hb0); clear ha0 hb0
  obtain ⟨r, hr⟩ : ∃ r, thr f a0 b0 l = r := ⟨_, rfl⟩
  rw [hr]
  have HR := Lib.hid hr; clear hr
  unfold numAt
  go_enter Try.func47, Try.ntmps47
  go_wp2_with fail
  go_loopw [14] (fun x wr => ∃ (i : Nat) (a b : Int) (q : Option Addr) (c : Nat), i ≤ l.length ∧ x = .int .i64 i ∧ r = thr f a b (l.drop i) ∧ I64 a ∧ I64 b ∧ wr.heap[w.heap.size]? = some (.cells #[.int .i64 0, .int .i64 a, .int .i64 b, .string ⟨#[]⟩, .slice q 0 c] 37 (0, 0)) ∧ wr.heap[w.heap.size + 1]? = some (.cells #[.int .i64 0, .int .i64 0, .int .i64 0, .string ⟨#[]⟩, .slice none 0 0] 37 (0, 0)) ∧ Below w.heap.size w wr) (fun x _ => l.length - (intOf x).toNat)
  case atStart => exact ⟨0, a0, b0, p0, cap0, by omega, rfl, by rw [← HR.out]; simp, HI.out.1, HI.out.2, two_first w _ _, two_second w _ _, two_below w _ _⟩
  case round =>
    obtain ⟨i, a, b, q, c, hi, rfl, hf', ha, hb, hx0, hx1, hbw⟩ := hrel
    have HF := Lib.hid hf'; clear hf'
    have HX := Lib.hid (And.intro hx0 (And.intro hx1 hbw))
    have hBs : w.heap.size + 1 < wr.heap.size := lt_of_block hx1
    by_cases hlt : i < l.length
    · obtain ⟨t, ht⟩ : ∃ t, l[i]? = some t := ⟨l[i], by simp [hlt]⟩
      rcases HL.out with he | ⟨bb, o, rfl, hall⟩
      · rw [he] at hlt; simp at hlt
      obtain ⟨v0, v1, v2, v3, v4, d0, d1, d2, d3, d4, hta⟩ := (hall.on (cell_on HX.out.2.2)).kid ht
      obtain ⟨kt, nt, dt, st, lt, pt, capt, rfl, rfl, rfl, rfl, rfl, rfl, _, hnt, hdt, _, _, _⟩ := hta.open7
      have ob := box_below wr (.cells #[.int .i64 kt, .int .i64 nt, .int .i64 dt, .string st, .slice pt lt.length capt] 37)
      obtain ⟨c0, c1, c2, c3, c4⟩ := box_cells (block_on ob hx0)
      obtain ⟨x, hx⟩ : ∃ x, f a b nt dt = x := ⟨_, rfl⟩
      have C := HG.out a b nt dt (wr.alloc (.cells #[.int .i64 kt, .int .i64 nt, .int .i64 dt, .string st, .slice pt lt.length capt] 37)) ha hb hnt hdt
      rw [hx] at C
      have hxe := hf a b nt dt
      rw [hx] at hxe
      obtain ⟨x1, x2, x3⟩ := x
      unfold three at C
      have HC := Lib.hid C
      have HT := Lib.hid ht
      have HXX := Lib.hid (And.intro hx hxe)
      have OB := Lib.hid ob
      clear C hta hall ht hx hxe ob hx0 hx1 hbw ha hb hnt hdt
      go_wp2_with fail
      refine (HC.out).mono ?_
      rintro _ w1 ⟨rfl, hb1⟩
      have HB1 := Lib.hid (below_seq OB.out hb1); clear hb1 c0 c1 c2 c3 c4 d0 d1 d2 d3 d4
      by_cases hz : x3 = 0
      · subst hz
        have N := number_yes x1 x2 w1
        unfold leafV at N
        have HN := Lib.hid N; clear N
        go_wp2_with fail
        refine (HN.out).mono ?_
        rintro _ w2 ⟨rfl, hb2⟩
        have hall2 := below_seq HB1.out hb2
        have ob2 := box_below w2 (.cells #[.int .i64 0, .int .i64 x1, .int .i64 x2, .string ⟨#[]⟩, .slice none 0 0] 37)
        have hall3 := below_seq hall2 ob2
        have hbx := block_on hall3 HX.out.1
        have hby := block_on hall3 HX.out.2.1
        have HH := Lib.hid (And.intro hbx (And.intro hby (below_seq HX.out.2.2 hall3)))
        obtain ⟨c0, c1, c2, c3, c4⟩ := box_cells hbx
        have z0 := box_frozen hbx 0
        have z1 := box_frozen hbx 1
        have z2 := box_frozen hbx 2
        have z3 := box_frozen hbx 3
        have z4 := box_frozen hbx 4
        clear hbx hby hall3 ob2 hall2 hb2
        go_wp2_with fail
        go_roundw
        case rel =>
          refine ⟨i + 1, x1, x2, none, 0, by omega, by go_num, ?_, ?_, ?_, set_five HH.out.1, (set_five_other (by omega)).trans HH.out.2.1, set_five_below HH.out.2.2 (Nat.le_refl _)⟩
          · have e : f a b (Dt.node kt nt dt st lt).nm (Dt.node kt nt dt st lt).dn = (x1, x2, 0) := HXX.out.1
            rw [HF.out, thr_step HT.out, e, if_pos rfl]
          · exact (i64_end HXX.out.2).1
          · exact (i64_end HXX.out.2).2
        case measure => simp [intOf]; omega
      · have hq : (x3 != 0) = true := by rw [bne_iff_ne]; exact hz
        have N := number_no x1 x2 x3 hz w1
        unfold leafV at N
        have HN := Lib.hid N; clear N
        go_wp2_with fail
        refine (HN.out).mono ?_
        rintro _ w2 ⟨rfl, hb2⟩
        have hall2 := below_seq HB1.out hb2
        have ob2 := box_below w2 (.cells #[.int .i64 0, .int .i64 0, .int .i64 0, .string ⟨#[]⟩, .slice none 0 0] 37)
        have hall3 := below_seq hall2 ob2
        have B := bad_any x3 (w2.alloc (.cells #[.int .i64 0, .int .i64 0, .int .i64 0, .string ⟨#[]⟩, .slice none 0 0] 37))
        unfold leafV at B
        have HB := Lib.hid B
        have HH := Lib.hid hall3
        clear B hall3 ob2 hall2 hb2
        go_wp2_with fail
        refine (HB.out).mono ?_
        rintro _ w3 ⟨rfl, hb3⟩
        have hall4 := below_seq HH.out hb3
        have hby := block_on hall4 HX.out.2.1
        have HK := Lib.hid (And.intro hby (below_seq HX.out.2.2 hall4))
        obtain ⟨c0, c1, c2, c3, c4⟩ := box_cells hby
        have z0 := box_frozen hby 0
        have z1 := box_frozen hby 1
        have z2 := box_frozen hby 2
        have z3 := box_frozen hby 3
        have z4 := box_frozen hby 4
        clear hby hall4 hb3
        go_wp2_with fail
        refine bodyPost_ret (results_row1 rfl _ _ (w.heap.size + 1) 37 _ (0, 0) _ _ rfl rfl (set_five HK.out.1) Try.underlying37 rfl Try.sizD) rfl ?_
        refine ⟨none, 0, ?_, set_five_below HK.out.2 (by omega)⟩
        have hr : r = (0, 0, x3) := by
          have e : f a b (Dt.node kt nt dt st lt).nm (Dt.node kt nt dt st lt).dn = (x1, x2, x3) := HXX.out.1
          rw [HF.out, thr_step HT.out, e, if_neg hz]
        rw [hr]; rfl
    · obtain ⟨c0, c1, c2, c3, c4⟩ := box_cells hx0
      obtain ⟨e0, e1, e2, e3, e4⟩ := box_cells hx1
      have z0 := box_frozen hx1 0
      have z1 := box_frozen hx1 1
      have z2 := box_frozen hx1 2
      have z3 := box_frozen hx1 3
      have z4 := box_frozen hx1 4
      clear hx0 hx1 hbw
      go_wp2_with fail
      refine bodyPost_ret (results_row1 rfl _ _ (w.heap.size + 1) 37 _ (0, 0) _ _ rfl rfl (set_five HX.out.2.1) Try.underlying37 rfl Try.sizD) rfl ?_
      refine ⟨q, c, ?_, set_five_below HX.out.2.2 (by omega)⟩
      have hr : r = (a, b, 0) := by rw [HF.out, thr_stop (by omega)]
      rw [hr]; rfl
end Go.Proofs.Ytdeelpagoffdjaa.Dat

/- The program's through, for one of the four. -/
namespace Go.Proofs.Ytdeelpagoffdjaa.Dat
open Go.RowKit
open Go.Proofs.Ytdeelpagoffdjaa (three)
open NumPlain
set_option linter.unusedVariables false

set_option maxHeartbeats 2000000 in
set_option maxRecDepth 100000 in
theorem throughDiv_any (f : Int → Int → Int → Int → Int × Int × Int) (hg : StepIs 51 f) (hf : ∀ n d m e, okEnd (f n d m e)) (a0 b0 : Int) (ha0 : I64 a0) (hb0 : I64 b0) (p0 : Option Addr) (cap0 : Nat)
    (l : List Dt) (p : Option Addr) (cap : Nat) (w : World) (hlm : l.length ≤ maxLen) (hl : l = [] ∨ ∃ b o, p = some ⟨b, o, none⟩ ∧ Dt.AllAt w l b o) :
    Calls Try.prog 47 #[.func (.func 51) #[] #[], numAt a0 b0 p0 cap0, .slice p l.length cap] w fun e w' => ∃ q c, e = .returned (.tuple #[numAt (thr f a0 b0 l).1 (thr f a0 b0 l).2.1 q c, .int .i64 (thr f a0 b0 l).2.2]) ∧ Below w.heap.size w w' := by
  unfold maxLen at hlm
  have HG := Lib.hid hg; clear hg
  have HL := Lib.hid hl; clear hl
  have HI := Lib.hid (And.intro ha0 hb0); clear ha0 hb0
  obtain ⟨r, hr⟩ : ∃ r, thr f a0 b0 l = r := ⟨_, rfl⟩
  rw [hr]
  have HR := Lib.hid hr; clear hr
  unfold numAt
  go_enter Try.func47, Try.ntmps47
  go_wp2_with fail
  go_loopw [14] (fun x wr => ∃ (i : Nat) (a b : Int) (q : Option Addr) (c : Nat), i ≤ l.length ∧ x = .int .i64 i ∧ r = thr f a b (l.drop i) ∧ I64 a ∧ I64 b ∧ wr.heap[w.heap.size]? = some (.cells #[.int .i64 0, .int .i64 a, .int .i64 b, .string ⟨#[]⟩, .slice q 0 c] 37 (0, 0)) ∧ wr.heap[w.heap.size + 1]? = some (.cells #[.int .i64 0, .int .i64 0, .int .i64 0, .string ⟨#[]⟩, .slice none 0 0] 37 (0, 0)) ∧ Below w.heap.size w wr) (fun x _ => l.length - (intOf x).toNat)
  case atStart => exact ⟨0, a0, b0, p0, cap0, by omega, rfl, by rw [← HR.out]; simp, HI.out.1, HI.out.2, two_first w _ _, two_second w _ _, two_below w _ _⟩
  case round =>
    obtain ⟨i, a, b, q, c, hi, rfl, hf', ha, hb, hx0, hx1, hbw⟩ := hrel
    have HF := Lib.hid hf'; clear hf'
    have HX := Lib.hid (And.intro hx0 (And.intro hx1 hbw))
    have hBs : w.heap.size + 1 < wr.heap.size := lt_of_block hx1
    by_cases hlt : i < l.length
    · obtain ⟨t, ht⟩ : ∃ t, l[i]? = some t := ⟨l[i], by simp [hlt]⟩
      rcases HL.out with he | ⟨bb, o, rfl, hall⟩
      · rw [he] at hlt; simp at hlt
      obtain ⟨v0, v1, v2, v3, v4, d0, d1, d2, d3, d4, hta⟩ := (hall.on (cell_on HX.out.2.2)).kid ht
      obtain ⟨kt, nt, dt, st, lt, pt, capt, rfl, rfl, rfl, rfl, rfl, rfl, _, hnt, hdt, _, _, _⟩ := hta.open7
      have ob := box_below wr (.cells #[.int .i64 kt, .int .i64 nt, .int .i64 dt, .string st, .slice pt lt.length capt] 37)
      obtain ⟨c0, c1, c2, c3, c4⟩ := box_cells (block_on ob hx0)
      obtain ⟨x, hx⟩ : ∃ x, f a b nt dt = x := ⟨_, rfl⟩
      have C := HG.out a b nt dt (wr.alloc (.cells #[.int .i64 kt, .int .i64 nt, .int .i64 dt, .string st, .slice pt lt.length capt] 37)) ha hb hnt hdt
      rw [hx] at C
      have hxe := hf a b nt dt
      rw [hx] at hxe
      obtain ⟨x1, x2, x3⟩ := x
      unfold three at C
      have HC := Lib.hid C
      have HT := Lib.hid ht
      have HXX := Lib.hid (And.intro hx hxe)
      have OB := Lib.hid ob
      clear C hta hall ht hx hxe ob hx0 hx1 hbw ha hb hnt hdt
      go_wp2_with fail
      refine (HC.out).mono ?_
      rintro _ w1 ⟨rfl, hb1⟩
      have HB1 := Lib.hid (below_seq OB.out hb1); clear hb1 c0 c1 c2 c3 c4 d0 d1 d2 d3 d4
      by_cases hz : x3 = 0
      · subst hz
        have N := number_yes x1 x2 w1
        unfold leafV at N
        have HN := Lib.hid N; clear N
        go_wp2_with fail
        refine (HN.out).mono ?_
        rintro _ w2 ⟨rfl, hb2⟩
        have hall2 := below_seq HB1.out hb2
        have ob2 := box_below w2 (.cells #[.int .i64 0, .int .i64 x1, .int .i64 x2, .string ⟨#[]⟩, .slice none 0 0] 37)
        have hall3 := below_seq hall2 ob2
        have hbx := block_on hall3 HX.out.1
        have hby := block_on hall3 HX.out.2.1
        have HH := Lib.hid (And.intro hbx (And.intro hby (below_seq HX.out.2.2 hall3)))
        obtain ⟨c0, c1, c2, c3, c4⟩ := box_cells hbx
        have z0 := box_frozen hbx 0
        have z1 := box_frozen hbx 1
        have z2 := box_frozen hbx 2
        have z3 := box_frozen hbx 3
        have z4 := box_frozen hbx 4
        clear hbx hby hall3 ob2 hall2 hb2
        go_wp2_with fail
        go_roundw
        case rel =>
          refine ⟨i + 1, x1, x2, none, 0, by omega, by go_num, ?_, ?_, ?_, set_five HH.out.1, (set_five_other (by omega)).trans HH.out.2.1, set_five_below HH.out.2.2 (Nat.le_refl _)⟩
          · have e : f a b (Dt.node kt nt dt st lt).nm (Dt.node kt nt dt st lt).dn = (x1, x2, 0) := HXX.out.1
            rw [HF.out, thr_step HT.out, e, if_pos rfl]
          · exact (i64_end HXX.out.2).1
          · exact (i64_end HXX.out.2).2
        case measure => simp [intOf]; omega
      · have hq : (x3 != 0) = true := by rw [bne_iff_ne]; exact hz
        have N := number_no x1 x2 x3 hz w1
        unfold leafV at N
        have HN := Lib.hid N; clear N
        go_wp2_with fail
        refine (HN.out).mono ?_
        rintro _ w2 ⟨rfl, hb2⟩
        have hall2 := below_seq HB1.out hb2
        have ob2 := box_below w2 (.cells #[.int .i64 0, .int .i64 0, .int .i64 0, .string ⟨#[]⟩, .slice none 0 0] 37)
        have hall3 := below_seq hall2 ob2
        have B := bad_any x3 (w2.alloc (.cells #[.int .i64 0, .int .i64 0, .int .i64 0, .string ⟨#[]⟩, .slice none 0 0] 37))
        unfold leafV at B
        have HB := Lib.hid B
        have HH := Lib.hid hall3
        clear B hall3 ob2 hall2 hb2
        go_wp2_with fail
        refine (HB.out).mono ?_
        rintro _ w3 ⟨rfl, hb3⟩
        have hall4 := below_seq HH.out hb3
        have hby := block_on hall4 HX.out.2.1
        have HK := Lib.hid (And.intro hby (below_seq HX.out.2.2 hall4))
        obtain ⟨c0, c1, c2, c3, c4⟩ := box_cells hby
        have z0 := box_frozen hby 0
        have z1 := box_frozen hby 1
        have z2 := box_frozen hby 2
        have z3 := box_frozen hby 3
        have z4 := box_frozen hby 4
        clear hby hall4 hb3
        go_wp2_with fail
        refine bodyPost_ret (results_row1 rfl _ _ (w.heap.size + 1) 37 _ (0, 0) _ _ rfl rfl (set_five HK.out.1) Try.underlying37 rfl Try.sizD) rfl ?_
        refine ⟨none, 0, ?_, set_five_below HK.out.2 (by omega)⟩
        have hr : r = (0, 0, x3) := by
          have e : f a b (Dt.node kt nt dt st lt).nm (Dt.node kt nt dt st lt).dn = (x1, x2, x3) := HXX.out.1
          rw [HF.out, thr_step HT.out, e, if_neg hz]
        rw [hr]; rfl
    · obtain ⟨c0, c1, c2, c3, c4⟩ := box_cells hx0
      obtain ⟨e0, e1, e2, e3, e4⟩ := box_cells hx1
      have z0 := box_frozen hx1 0
      have z1 := box_frozen hx1 1
      have z2 := box_frozen hx1 2
      have z3 := box_frozen hx1 3
      have z4 := box_frozen hx1 4
      clear hx0 hx1 hbw
      go_wp2_with fail
      refine bodyPost_ret (results_row1 rfl _ _ (w.heap.size + 1) 37 _ (0, 0) _ _ rfl rfl (set_five HX.out.2.1) Try.underlying37 rfl Try.sizD) rfl ?_
      refine ⟨q, c, ?_, set_five_below HX.out.2.2 (by omega)⟩
      have hr : r = (a, b, 0) := by rw [HF.out, thr_stop (by omega)]
      rw [hr]; rfl
end Go.Proofs.Ytdeelpagoffdjaa.Dat

/- The program's lessened: the first one of numbers by all others. -/
namespace Go.Proofs.Ytdeelpagoffdjaa.Dat
open Go.RowKit
open Go.Proofs.Ytdeelpagoffdjaa (three)
open NumPlain
set_option linter.unusedVariables false

theorem five_keep {w : World} {B b o : Nat} {b0 b1 b2 b3 b4 x0 x1 x2 x3 x4 : Value} (h : b ≠ B)
    (hs : w.cell? ⟨b, o, none⟩ = some x0 ∧ w.cell? ⟨b, o + 1, none⟩ = some x1 ∧ w.cell? ⟨b, o + 2, none⟩ = some x2 ∧ w.cell? ⟨b, o + 3, none⟩ = some x3 ∧ w.cell? ⟨b, o + 4, none⟩ = some x4) :
    (((((w.setCell ⟨B, 0, none⟩ b0).setCell ⟨B, 1, none⟩ b1).setCell ⟨B, 2, none⟩ b2).setCell ⟨B, 3, none⟩ b3).setCell ⟨B, 4, none⟩ b4).cell? ⟨b, o, none⟩ = some x0 ∧
    (((((w.setCell ⟨B, 0, none⟩ b0).setCell ⟨B, 1, none⟩ b1).setCell ⟨B, 2, none⟩ b2).setCell ⟨B, 3, none⟩ b3).setCell ⟨B, 4, none⟩ b4).cell? ⟨b, o + 1, none⟩ = some x1 ∧
    (((((w.setCell ⟨B, 0, none⟩ b0).setCell ⟨B, 1, none⟩ b1).setCell ⟨B, 2, none⟩ b2).setCell ⟨B, 3, none⟩ b3).setCell ⟨B, 4, none⟩ b4).cell? ⟨b, o + 2, none⟩ = some x2 ∧
    (((((w.setCell ⟨B, 0, none⟩ b0).setCell ⟨B, 1, none⟩ b1).setCell ⟨B, 2, none⟩ b2).setCell ⟨B, 3, none⟩ b3).setCell ⟨B, 4, none⟩ b4).cell? ⟨b, o + 3, none⟩ = some x3 ∧
    (((((w.setCell ⟨B, 0, none⟩ b0).setCell ⟨B, 1, none⟩ b1).setCell ⟨B, 2, none⟩ b2).setCell ⟨B, 3, none⟩ b3).setCell ⟨B, 4, none⟩ b4).cell? ⟨b, o + 4, none⟩ = some x4 := by
  refine ⟨(World.cell?_of_block (set_five_other h)).trans hs.1, (World.cell?_of_block (set_five_other h)).trans hs.2.1, (World.cell?_of_block (set_five_other h)).trans hs.2.2.1, (World.cell?_of_block (set_five_other h)).trans hs.2.2.2.1, (World.cell?_of_block (set_five_other h)).trans hs.2.2.2.2⟩
/-- The first one by all others; one alone is itself the step from none. -/
def lessB (f : Int → Int → Int → Int → Int × Int × Int) (a0 b0 : Int) (l : List Dt) : Int × Int × Int :=
  match l with
  | [] => thr f a0 b0 []
  | [t] => thr f a0 b0 [t]
  | t :: u :: r => thr f t.nm t.dn (u :: r)

set_option maxHeartbeats 2000000 in
set_option maxRecDepth 100000 in
theorem lessSub_one (f : Int → Int → Int → Int → Int × Int × Int) (hg : StepIs 50 f) (hf : ∀ n d m e, okEnd (f n d m e)) (a0 b0 : Int) (ha0 : I64 a0) (hb0 : I64 b0) (p0 : Option Addr) (cap0 : Nat)
    (t : Dt) (p : Option Addr) (cap : Nat) (w : World) (hl : [t] = [] ∨ ∃ b o, p = some ⟨b, o, none⟩ ∧ Dt.AllAt w [t] b o) :
    Calls Try.prog 49 #[.func (.func 50) #[] #[], numAt a0 b0 p0 cap0, .slice p 1 cap] w fun e w' => ∃ q c, e = .returned (.tuple #[numAt (thr f a0 b0 [t]).1 (thr f a0 b0 [t]).2.1 q c, .int .i64 (thr f a0 b0 [t]).2.2]) ∧ Below w.heap.size w w' := by
  have C := throughSub_any f hg hf a0 b0 ha0 hb0 p0 cap0 [t] p cap ((w.alloc (Obj.cells #[Value.int IntKind.i64 0, Value.int IntKind.i64 a0, Value.int IntKind.i64 b0, Value.string { data := #[] }, Value.slice p0 0 cap0] 37)).alloc (Obj.cells #[Value.int IntKind.i64 0, Value.int IntKind.i64 0, Value.int IntKind.i64 0, Value.string { data := #[] }, Value.slice none 0 0] 37)) (by unfold maxLen; simp) (by
    rcases hl with h | ⟨b, o, h1, h2⟩
    · exact Or.inl h
    · exact Or.inr ⟨b, o, h1, h2.on (cell_on (two_below w _ _))⟩)
  obtain ⟨r, hr⟩ : ∃ r, thr f a0 b0 [t] = r := ⟨_, rfl⟩
  rw [hr] at C ⊢
  unfold numAt at C ⊢
  have HC := Lib.hid C
  clear C hl hr hg hf
  go_enter Try.func49, Try.ntmps49
  go_wp2_with fail
  refine HC.out.mono ?_
  rintro _ w1 ⟨q, c, rfl, hb⟩
  have hbx := block_on hb (two_second w (Obj.cells #[Value.int IntKind.i64 0, Value.int IntKind.i64 a0, Value.int IntKind.i64 b0, Value.string { data := #[] }, Value.slice p0 0 cap0] 37) (Obj.cells #[Value.int IntKind.i64 0, Value.int IntKind.i64 0, Value.int IntKind.i64 0, Value.string { data := #[] }, Value.slice none 0 0] 37))
  have HB := Lib.hid (And.intro hbx (below_seq (two_below w _ _) hb))
  obtain ⟨c0, c1, c2, c3, c4⟩ := box_cells hbx
  have z0 := box_frozen hbx 0
  have z1 := box_frozen hbx 1
  have z2 := box_frozen hbx 2
  have z3 := box_frozen hbx 3
  have z4 := box_frozen hbx 4
  clear hbx hb
  go_wp2_with fail
  refine bodyPost_ret (results_row1 rfl _ _ (w.heap.size + 1) 37 _ (0, 0) _ _ rfl rfl (set_five HB.out.1) Try.underlying37 rfl Try.sizD) rfl ?_
  exact ⟨q, c, rfl, set_five_below HB.out.2 (by omega)⟩
set_option maxHeartbeats 2000000 in
set_option maxRecDepth 100000 in
theorem lessSub_more (f : Int → Int → Int → Int → Int × Int × Int) (hg : StepIs 50 f) (hf : ∀ n d m e, okEnd (f n d m e)) (a0 b0 : Int) (p0 : Option Addr) (cap0 : Nat)
    (n0 d0 : Int) (u : Dt) (r : List Dt) (p : Option Addr) (cap : Nat) (w : World) (hlm : (Dt.node 0 n0 d0 ⟨#[]⟩ [] :: u :: r).length ≤ maxLen) (hcap : (Dt.node 0 n0 d0 ⟨#[]⟩ [] :: u :: r).length ≤ cap) (hl : (Dt.node 0 n0 d0 ⟨#[]⟩ [] :: u :: r) = [] ∨ ∃ b o, p = some ⟨b, o, none⟩ ∧ Dt.AllAt w (Dt.node 0 n0 d0 ⟨#[]⟩ [] :: u :: r) b o) :
    Calls Try.prog 49 #[.func (.func 50) #[] #[], numAt a0 b0 p0 cap0, .slice p (Dt.node 0 n0 d0 ⟨#[]⟩ [] :: u :: r).length cap] w fun e w' => ∃ q c, e = .returned (.tuple #[numAt (thr f n0 d0 (u :: r)).1 (thr f n0 d0 (u :: r)).2.1 q c, .int .i64 (thr f n0 d0 (u :: r)).2.2]) ∧ Below w.heap.size w w' := by
  rcases hl with h | ⟨b, o, rfl, h2⟩
  · cases h
  unfold Dt.AllAt at h2
  obtain ⟨⟨v0, v1, v2, v3, v4, e0, e1, e2, e3, e4, ht⟩, hr⟩ := h2
  obtain ⟨k, n, d, s, l, q0, c0, hte, rfl, rfl, rfl, rfl, rfl, _, hn, hd, _, _, _⟩ := ht.open7
  obtain ⟨rfl, rfl, rfl, rfl, rfl⟩ := Dt.node.inj hte
  have hlm' : (u :: r).length ≤ maxLen := by simp only [List.length_cons] at hlm ⊢; omega
  obtain ⟨x, hx⟩ : ∃ x, thr f n0 d0 (u :: r) = x := ⟨_, rfl⟩
  rw [hx]
  unfold numAt
  obtain ⟨m, hm⟩ : ∃ m, (u :: r).length = m := ⟨_, rfl⟩
  have hm1 : (Dt.node 0 n0 d0 ⟨#[]⟩ [] :: u :: r).length = m + 1 := by rw [← hm]; rfl
  have hm2 : 1 ≤ m := by rw [← hm]; simp
  rw [hm1] at hlm hcap ⊢
  have hc1 : ¬ cap = 1 := by omega
  have hc2 : (1 : Int) ≤ (m : Int) + 1 := by omega
  unfold maxLen at hlm
  have HG := Lib.hid (And.intro hg (And.intro hf (And.intro hn (And.intro hd (And.intro hr (And.intro hx (And.intro hm hlm')))))))
  have HE := Lib.hid (And.intro e0 (And.intro e1 (And.intro e2 (And.intro e3 e4))))
  clear hr hg hf hx ht e0 e1 e2 e3 e4 hlm' hte hn hd hm
  go_enter Try.func49, Try.ntmps49
  go_upto_region 3 with fail
  obtain ⟨W, hW⟩ : ∃ W, (w.alloc (Obj.cells #[Value.int IntKind.i64 0, Value.int IntKind.i64 a0, Value.int IntKind.i64 b0, Value.string { data := #[] }, Value.slice p0 0 cap0] 37)).alloc (Obj.cells #[Value.int IntKind.i64 0, Value.int IntKind.i64 0, Value.int IntKind.i64 0, Value.string { data := #[] }, Value.slice none 0 0] 37) = W := ⟨_, rfl⟩
  have hb0 : Below w.heap.size w W := hW ▸ two_below w _ _
  have hx1 := hW ▸ two_second w (Obj.cells #[Value.int IntKind.i64 0, Value.int IntKind.i64 a0, Value.int IntKind.i64 b0, Value.string { data := #[] }, Value.slice p0 0 cap0] 37) (Obj.cells #[Value.int IntKind.i64 0, Value.int IntKind.i64 0, Value.int IntKind.i64 0, Value.string { data := #[] }, Value.slice none 0 0] 37)
  rw [hW]
  have H0 := Lib.hid (And.intro hb0 hx1); clear hx1 hW
  have e0 := cell_on hb0 _ _ _ HE.out.1
  have e1 := cell_on hb0 _ _ _ HE.out.2.1
  have e2 := cell_on hb0 _ _ _ HE.out.2.2.1
  have e3 := cell_on hb0 _ _ _ HE.out.2.2.2.1
  have e4 : W.cell? ⟨b, o + 4, none⟩ = some (.slice q0 0 c0) := cell_on hb0 _ _ _ HE.out.2.2.2.2
  have d0' : W.drew.cell? ⟨b, o, none⟩ = some (.int .i64 0) := e0
  have d1' : W.drew.cell? ⟨b, o + 1, none⟩ = some (.int .i64 n0) := e1
  have d2' : W.drew.cell? ⟨b, o + 2, none⟩ = some (.int .i64 d0) := e2
  have d3' : W.drew.cell? ⟨b, o + 3, none⟩ = some (.string ⟨#[]⟩) := e3
  have d4' : W.drew.cell? ⟨b, o + 4, none⟩ = some (.slice q0 0 c0) := e4
  clear hb0
  have HNE := Lib.hid (show b ≠ w.heap.size + 1 from by have := cell_lt HE.out.1; omega)
  have C := throughSub_any f HG.out.1 HG.out.2.1 n0 d0 HG.out.2.2.1 HG.out.2.2.2.1 q0 c0 (u :: r) (some ⟨b, o + 5, none⟩) (cap - 1) W.drew HG.out.2.2.2.2.2.2.2 (Or.inr ⟨b, o + 5, rfl, Dt.AllAt.on (w' := W.drew) (fun _ _ _ h => cell_on H0.out.1 _ _ _ h) HG.out.2.2.2.2.1⟩)
  rw [HG.out.2.2.2.2.2.1, HG.out.2.2.2.2.2.2.1] at C
  unfold numAt at C
  have HC := Lib.hid C
  clear C
  go_region_held3 (fun w' => w'.cell? ⟨b, o, none⟩ = some (.int .i64 0) ∧ w'.cell? ⟨b, o + 1, none⟩ = some (.int .i64 n0) ∧ w'.cell? ⟨b, o + 2, none⟩ = some (.int .i64 d0) ∧ w'.cell? ⟨b, o + 3, none⟩ = some (.string ⟨#[]⟩) ∧ w'.cell? ⟨b, o + 4, none⟩ = some (.slice q0 0 c0))
    (with_reducible (first | (refine ⟨?_, ?_, ?_, ?_, ?_⟩ <;> assumption) | exact five_keep HNE.out ⟨e0, e1, e2, e3, e4⟩))
    (first
      | (go_at_call 47
         with_reducible refine Calls.mono HC.out ?_
         rintro _ w1 ⟨q, c, rfl, hb⟩
         have hb' := below_drew hb
         have hbx := block_on hb' H0.out.2
         have HB := Lib.hid (And.intro hbx (below_seq H0.out.1 hb'))
         replace e0 := cell_on hb' _ _ _ e0
         replace e1 := cell_on hb' _ _ _ e1
         replace e2 := cell_on hb' _ _ _ e2
         replace e3 := cell_on hb' _ _ _ e3
         replace e4 := cell_on hb' _ _ _ e4
         obtain ⟨y0, y1, y2, y3, y4⟩ := box_cells hbx
         have z0 := box_frozen hbx 0
         have z1 := box_frozen hbx 1
         have z2 := box_frozen hbx 2
         have z3 := box_frozen hbx 3
         have z4 := box_frozen hbx 4
         clear hbx hb hb'))
  go_wp2_with fail
  refine bodyPost_ret (results_row1 rfl _ _ (w.heap.size + 1) 37 _ (0, 0) _ _ rfl rfl (set_five HB.out.1) Try.underlying37 rfl Try.sizD) rfl ?_
  exact ⟨q, c, rfl, set_five_below HB.out.2 (by omega)⟩

set_option maxHeartbeats 2000000 in
set_option maxRecDepth 100000 in
theorem lessDiv_one (f : Int → Int → Int → Int → Int × Int × Int) (hg : StepIs 51 f) (hf : ∀ n d m e, okEnd (f n d m e)) (a0 b0 : Int) (ha0 : I64 a0) (hb0 : I64 b0) (p0 : Option Addr) (cap0 : Nat)
    (t : Dt) (p : Option Addr) (cap : Nat) (w : World) (hl : [t] = [] ∨ ∃ b o, p = some ⟨b, o, none⟩ ∧ Dt.AllAt w [t] b o) :
    Calls Try.prog 49 #[.func (.func 51) #[] #[], numAt a0 b0 p0 cap0, .slice p 1 cap] w fun e w' => ∃ q c, e = .returned (.tuple #[numAt (thr f a0 b0 [t]).1 (thr f a0 b0 [t]).2.1 q c, .int .i64 (thr f a0 b0 [t]).2.2]) ∧ Below w.heap.size w w' := by
  have C := throughDiv_any f hg hf a0 b0 ha0 hb0 p0 cap0 [t] p cap ((w.alloc (Obj.cells #[Value.int IntKind.i64 0, Value.int IntKind.i64 a0, Value.int IntKind.i64 b0, Value.string { data := #[] }, Value.slice p0 0 cap0] 37)).alloc (Obj.cells #[Value.int IntKind.i64 0, Value.int IntKind.i64 0, Value.int IntKind.i64 0, Value.string { data := #[] }, Value.slice none 0 0] 37)) (by unfold maxLen; simp) (by
    rcases hl with h | ⟨b, o, h1, h2⟩
    · exact Or.inl h
    · exact Or.inr ⟨b, o, h1, h2.on (cell_on (two_below w _ _))⟩)
  obtain ⟨r, hr⟩ : ∃ r, thr f a0 b0 [t] = r := ⟨_, rfl⟩
  rw [hr] at C ⊢
  unfold numAt at C ⊢
  have HC := Lib.hid C
  clear C hl hr hg hf
  go_enter Try.func49, Try.ntmps49
  go_wp2_with fail
  refine HC.out.mono ?_
  rintro _ w1 ⟨q, c, rfl, hb⟩
  have hbx := block_on hb (two_second w (Obj.cells #[Value.int IntKind.i64 0, Value.int IntKind.i64 a0, Value.int IntKind.i64 b0, Value.string { data := #[] }, Value.slice p0 0 cap0] 37) (Obj.cells #[Value.int IntKind.i64 0, Value.int IntKind.i64 0, Value.int IntKind.i64 0, Value.string { data := #[] }, Value.slice none 0 0] 37))
  have HB := Lib.hid (And.intro hbx (below_seq (two_below w _ _) hb))
  obtain ⟨c0, c1, c2, c3, c4⟩ := box_cells hbx
  have z0 := box_frozen hbx 0
  have z1 := box_frozen hbx 1
  have z2 := box_frozen hbx 2
  have z3 := box_frozen hbx 3
  have z4 := box_frozen hbx 4
  clear hbx hb
  go_wp2_with fail
  refine bodyPost_ret (results_row1 rfl _ _ (w.heap.size + 1) 37 _ (0, 0) _ _ rfl rfl (set_five HB.out.1) Try.underlying37 rfl Try.sizD) rfl ?_
  exact ⟨q, c, rfl, set_five_below HB.out.2 (by omega)⟩
set_option maxHeartbeats 2000000 in
set_option maxRecDepth 100000 in
theorem lessDiv_more (f : Int → Int → Int → Int → Int × Int × Int) (hg : StepIs 51 f) (hf : ∀ n d m e, okEnd (f n d m e)) (a0 b0 : Int) (p0 : Option Addr) (cap0 : Nat)
    (n0 d0 : Int) (u : Dt) (r : List Dt) (p : Option Addr) (cap : Nat) (w : World) (hlm : (Dt.node 0 n0 d0 ⟨#[]⟩ [] :: u :: r).length ≤ maxLen) (hcap : (Dt.node 0 n0 d0 ⟨#[]⟩ [] :: u :: r).length ≤ cap) (hl : (Dt.node 0 n0 d0 ⟨#[]⟩ [] :: u :: r) = [] ∨ ∃ b o, p = some ⟨b, o, none⟩ ∧ Dt.AllAt w (Dt.node 0 n0 d0 ⟨#[]⟩ [] :: u :: r) b o) :
    Calls Try.prog 49 #[.func (.func 51) #[] #[], numAt a0 b0 p0 cap0, .slice p (Dt.node 0 n0 d0 ⟨#[]⟩ [] :: u :: r).length cap] w fun e w' => ∃ q c, e = .returned (.tuple #[numAt (thr f n0 d0 (u :: r)).1 (thr f n0 d0 (u :: r)).2.1 q c, .int .i64 (thr f n0 d0 (u :: r)).2.2]) ∧ Below w.heap.size w w' := by
  rcases hl with h | ⟨b, o, rfl, h2⟩
  · cases h
  unfold Dt.AllAt at h2
  obtain ⟨⟨v0, v1, v2, v3, v4, e0, e1, e2, e3, e4, ht⟩, hr⟩ := h2
  obtain ⟨k, n, d, s, l, q0, c0, hte, rfl, rfl, rfl, rfl, rfl, _, hn, hd, _, _, _⟩ := ht.open7
  obtain ⟨rfl, rfl, rfl, rfl, rfl⟩ := Dt.node.inj hte
  have hlm' : (u :: r).length ≤ maxLen := by simp only [List.length_cons] at hlm ⊢; omega
  obtain ⟨x, hx⟩ : ∃ x, thr f n0 d0 (u :: r) = x := ⟨_, rfl⟩
  rw [hx]
  unfold numAt
  obtain ⟨m, hm⟩ : ∃ m, (u :: r).length = m := ⟨_, rfl⟩
  have hm1 : (Dt.node 0 n0 d0 ⟨#[]⟩ [] :: u :: r).length = m + 1 := by rw [← hm]; rfl
  have hm2 : 1 ≤ m := by rw [← hm]; simp
  rw [hm1] at hlm hcap ⊢
  have hc1 : ¬ cap = 1 := by omega
  have hc2 : (1 : Int) ≤ (m : Int) + 1 := by omega
  unfold maxLen at hlm
  have HG := Lib.hid (And.intro hg (And.intro hf (And.intro hn (And.intro hd (And.intro hr (And.intro hx (And.intro hm hlm')))))))
  have HE := Lib.hid (And.intro e0 (And.intro e1 (And.intro e2 (And.intro e3 e4))))
  clear hr hg hf hx ht e0 e1 e2 e3 e4 hlm' hte hn hd hm
  go_enter Try.func49, Try.ntmps49
  go_upto_region 3 with fail
  obtain ⟨W, hW⟩ : ∃ W, (w.alloc (Obj.cells #[Value.int IntKind.i64 0, Value.int IntKind.i64 a0, Value.int IntKind.i64 b0, Value.string { data := #[] }, Value.slice p0 0 cap0] 37)).alloc (Obj.cells #[Value.int IntKind.i64 0, Value.int IntKind.i64 0, Value.int IntKind.i64 0, Value.string { data := #[] }, Value.slice none 0 0] 37) = W := ⟨_, rfl⟩
  have hb0 : Below w.heap.size w W := hW ▸ two_below w _ _
  have hx1 := hW ▸ two_second w (Obj.cells #[Value.int IntKind.i64 0, Value.int IntKind.i64 a0, Value.int IntKind.i64 b0, Value.string { data := #[] }, Value.slice p0 0 cap0] 37) (Obj.cells #[Value.int IntKind.i64 0, Value.int IntKind.i64 0, Value.int IntKind.i64 0, Value.string { data := #[] }, Value.slice none 0 0] 37)
  rw [hW]
  have H0 := Lib.hid (And.intro hb0 hx1); clear hx1 hW
  have e0 := cell_on hb0 _ _ _ HE.out.1
  have e1 := cell_on hb0 _ _ _ HE.out.2.1
  have e2 := cell_on hb0 _ _ _ HE.out.2.2.1
  have e3 := cell_on hb0 _ _ _ HE.out.2.2.2.1
  have e4 : W.cell? ⟨b, o + 4, none⟩ = some (.slice q0 0 c0) := cell_on hb0 _ _ _ HE.out.2.2.2.2
  have d0' : W.drew.cell? ⟨b, o, none⟩ = some (.int .i64 0) := e0
  have d1' : W.drew.cell? ⟨b, o + 1, none⟩ = some (.int .i64 n0) := e1
  have d2' : W.drew.cell? ⟨b, o + 2, none⟩ = some (.int .i64 d0) := e2
  have d3' : W.drew.cell? ⟨b, o + 3, none⟩ = some (.string ⟨#[]⟩) := e3
  have d4' : W.drew.cell? ⟨b, o + 4, none⟩ = some (.slice q0 0 c0) := e4
  clear hb0
  have HNE := Lib.hid (show b ≠ w.heap.size + 1 from by have := cell_lt HE.out.1; omega)
  have C := throughDiv_any f HG.out.1 HG.out.2.1 n0 d0 HG.out.2.2.1 HG.out.2.2.2.1 q0 c0 (u :: r) (some ⟨b, o + 5, none⟩) (cap - 1) W.drew HG.out.2.2.2.2.2.2.2 (Or.inr ⟨b, o + 5, rfl, Dt.AllAt.on (w' := W.drew) (fun _ _ _ h => cell_on H0.out.1 _ _ _ h) HG.out.2.2.2.2.1⟩)
  rw [HG.out.2.2.2.2.2.1, HG.out.2.2.2.2.2.2.1] at C
  unfold numAt at C
  have HC := Lib.hid C
  clear C
  go_region_held3 (fun w' => w'.cell? ⟨b, o, none⟩ = some (.int .i64 0) ∧ w'.cell? ⟨b, o + 1, none⟩ = some (.int .i64 n0) ∧ w'.cell? ⟨b, o + 2, none⟩ = some (.int .i64 d0) ∧ w'.cell? ⟨b, o + 3, none⟩ = some (.string ⟨#[]⟩) ∧ w'.cell? ⟨b, o + 4, none⟩ = some (.slice q0 0 c0))
    (with_reducible (first | (refine ⟨?_, ?_, ?_, ?_, ?_⟩ <;> assumption) | exact five_keep HNE.out ⟨e0, e1, e2, e3, e4⟩))
    (first
      | (go_at_call 47
         with_reducible refine Calls.mono HC.out ?_
         rintro _ w1 ⟨q, c, rfl, hb⟩
         have hb' := below_drew hb
         have hbx := block_on hb' H0.out.2
         have HB := Lib.hid (And.intro hbx (below_seq H0.out.1 hb'))
         replace e0 := cell_on hb' _ _ _ e0
         replace e1 := cell_on hb' _ _ _ e1
         replace e2 := cell_on hb' _ _ _ e2
         replace e3 := cell_on hb' _ _ _ e3
         replace e4 := cell_on hb' _ _ _ e4
         obtain ⟨y0, y1, y2, y3, y4⟩ := box_cells hbx
         have z0 := box_frozen hbx 0
         have z1 := box_frozen hbx 1
         have z2 := box_frozen hbx 2
         have z3 := box_frozen hbx 3
         have z4 := box_frozen hbx 4
         clear hbx hb hb'))
  go_wp2_with fail
  refine bodyPost_ret (results_row1 rfl _ _ (w.heap.size + 1) 37 _ (0, 0) _ _ rfl rfl (set_five HB.out.1) Try.underlying37 rfl Try.sizD) rfl ?_
  exact ⟨q, c, rfl, set_five_below HB.out.2 (by omega)⟩
end Go.Proofs.Ytdeelpagoffdjaa.Dat

/- The program's through, for one of the four. -/
namespace Go.Proofs.Ytdeelpagoffdjaa.Dat
open Go.RowKit
open Go.Proofs.Ytdeelpagoffdjaa (three)
open NumPlain
set_option linter.unusedVariables false

set_option maxHeartbeats 2000000 in
set_option maxRecDepth 100000 in
theorem throughAdd_any (f : Int → Int → Int → Int → Int × Int × Int) (hg : StepIs 25 f) (hf : ∀ n d m e, okEnd (f n d m e)) (a0 b0 : Int) (ha0 : I64 a0) (hb0 : I64 b0) (p0 : Option Addr) (cap0 : Nat)
    (l : List Dt) (p : Option Addr) (cap : Nat) (w : World) (hlm : l.length ≤ maxLen) (hl : l = [] ∨ ∃ b o, p = some ⟨b, o, none⟩ ∧ Dt.AllAt w l b o) :
    Calls Try.prog 47 #[.func (.func 25) #[] #[], numAt a0 b0 p0 cap0, .slice p l.length cap] w fun e w' => ∃ q c, e = .returned (.tuple #[numAt (thr f a0 b0 l).1 (thr f a0 b0 l).2.1 q c, .int .i64 (thr f a0 b0 l).2.2]) ∧ Below w.heap.size w w' := by
  unfold maxLen at hlm
  have HG := Lib.hid hg; clear hg
  have HL := Lib.hid hl; clear hl
  have HI := Lib.hid (And.intro ha0 hb0); clear ha0 hb0
  obtain ⟨r, hr⟩ : ∃ r, thr f a0 b0 l = r := ⟨_, rfl⟩
  rw [hr]
  have HR := Lib.hid hr; clear hr
  unfold numAt
  go_enter Try.func47, Try.ntmps47
  go_wp2_with fail
  go_loopw [14] (fun x wr => ∃ (i : Nat) (a b : Int) (q : Option Addr) (c : Nat), i ≤ l.length ∧ x = .int .i64 i ∧ r = thr f a b (l.drop i) ∧ I64 a ∧ I64 b ∧ wr.heap[w.heap.size]? = some (.cells #[.int .i64 0, .int .i64 a, .int .i64 b, .string ⟨#[]⟩, .slice q 0 c] 37 (0, 0)) ∧ wr.heap[w.heap.size + 1]? = some (.cells #[.int .i64 0, .int .i64 0, .int .i64 0, .string ⟨#[]⟩, .slice none 0 0] 37 (0, 0)) ∧ Below w.heap.size w wr) (fun x _ => l.length - (intOf x).toNat)
  case atStart => exact ⟨0, a0, b0, p0, cap0, by omega, rfl, by rw [← HR.out]; simp, HI.out.1, HI.out.2, two_first w _ _, two_second w _ _, two_below w _ _⟩
  case round =>
    obtain ⟨i, a, b, q, c, hi, rfl, hf', ha, hb, hx0, hx1, hbw⟩ := hrel
    have HF := Lib.hid hf'; clear hf'
    have HX := Lib.hid (And.intro hx0 (And.intro hx1 hbw))
    have hBs : w.heap.size + 1 < wr.heap.size := lt_of_block hx1
    by_cases hlt : i < l.length
    · obtain ⟨t, ht⟩ : ∃ t, l[i]? = some t := ⟨l[i], by simp [hlt]⟩
      rcases HL.out with he | ⟨bb, o, rfl, hall⟩
      · rw [he] at hlt; simp at hlt
      obtain ⟨v0, v1, v2, v3, v4, d0, d1, d2, d3, d4, hta⟩ := (hall.on (cell_on HX.out.2.2)).kid ht
      obtain ⟨kt, nt, dt, st, lt, pt, capt, rfl, rfl, rfl, rfl, rfl, rfl, _, hnt, hdt, _, _, _⟩ := hta.open7
      have ob := box_below wr (.cells #[.int .i64 kt, .int .i64 nt, .int .i64 dt, .string st, .slice pt lt.length capt] 37)
      obtain ⟨c0, c1, c2, c3, c4⟩ := box_cells (block_on ob hx0)
      obtain ⟨x, hx⟩ : ∃ x, f a b nt dt = x := ⟨_, rfl⟩
      have C := HG.out a b nt dt (wr.alloc (.cells #[.int .i64 kt, .int .i64 nt, .int .i64 dt, .string st, .slice pt lt.length capt] 37)) ha hb hnt hdt
      rw [hx] at C
      have hxe := hf a b nt dt
      rw [hx] at hxe
      obtain ⟨x1, x2, x3⟩ := x
      unfold three at C
      have HC := Lib.hid C
      have HT := Lib.hid ht
      have HXX := Lib.hid (And.intro hx hxe)
      have OB := Lib.hid ob
      clear C hta hall ht hx hxe ob hx0 hx1 hbw ha hb hnt hdt
      go_wp2_with fail
      refine (HC.out).mono ?_
      rintro _ w1 ⟨rfl, hb1⟩
      have HB1 := Lib.hid (below_seq OB.out hb1); clear hb1 c0 c1 c2 c3 c4 d0 d1 d2 d3 d4
      by_cases hz : x3 = 0
      · subst hz
        have N := number_yes x1 x2 w1
        unfold leafV at N
        have HN := Lib.hid N; clear N
        go_wp2_with fail
        refine (HN.out).mono ?_
        rintro _ w2 ⟨rfl, hb2⟩
        have hall2 := below_seq HB1.out hb2
        have ob2 := box_below w2 (.cells #[.int .i64 0, .int .i64 x1, .int .i64 x2, .string ⟨#[]⟩, .slice none 0 0] 37)
        have hall3 := below_seq hall2 ob2
        have hbx := block_on hall3 HX.out.1
        have hby := block_on hall3 HX.out.2.1
        have HH := Lib.hid (And.intro hbx (And.intro hby (below_seq HX.out.2.2 hall3)))
        obtain ⟨c0, c1, c2, c3, c4⟩ := box_cells hbx
        have z0 := box_frozen hbx 0
        have z1 := box_frozen hbx 1
        have z2 := box_frozen hbx 2
        have z3 := box_frozen hbx 3
        have z4 := box_frozen hbx 4
        clear hbx hby hall3 ob2 hall2 hb2
        go_wp2_with fail
        go_roundw
        case rel =>
          refine ⟨i + 1, x1, x2, none, 0, by omega, by go_num, ?_, ?_, ?_, set_five HH.out.1, (set_five_other (by omega)).trans HH.out.2.1, set_five_below HH.out.2.2 (Nat.le_refl _)⟩
          · have e : f a b (Dt.node kt nt dt st lt).nm (Dt.node kt nt dt st lt).dn = (x1, x2, 0) := HXX.out.1
            rw [HF.out, thr_step HT.out, e, if_pos rfl]
          · exact (i64_end HXX.out.2).1
          · exact (i64_end HXX.out.2).2
        case measure => simp [intOf]; omega
      · have hq : (x3 != 0) = true := by rw [bne_iff_ne]; exact hz
        have N := number_no x1 x2 x3 hz w1
        unfold leafV at N
        have HN := Lib.hid N; clear N
        go_wp2_with fail
        refine (HN.out).mono ?_
        rintro _ w2 ⟨rfl, hb2⟩
        have hall2 := below_seq HB1.out hb2
        have ob2 := box_below w2 (.cells #[.int .i64 0, .int .i64 0, .int .i64 0, .string ⟨#[]⟩, .slice none 0 0] 37)
        have hall3 := below_seq hall2 ob2
        have B := bad_any x3 (w2.alloc (.cells #[.int .i64 0, .int .i64 0, .int .i64 0, .string ⟨#[]⟩, .slice none 0 0] 37))
        unfold leafV at B
        have HB := Lib.hid B
        have HH := Lib.hid hall3
        clear B hall3 ob2 hall2 hb2
        go_wp2_with fail
        refine (HB.out).mono ?_
        rintro _ w3 ⟨rfl, hb3⟩
        have hall4 := below_seq HH.out hb3
        have hby := block_on hall4 HX.out.2.1
        have HK := Lib.hid (And.intro hby (below_seq HX.out.2.2 hall4))
        obtain ⟨c0, c1, c2, c3, c4⟩ := box_cells hby
        have z0 := box_frozen hby 0
        have z1 := box_frozen hby 1
        have z2 := box_frozen hby 2
        have z3 := box_frozen hby 3
        have z4 := box_frozen hby 4
        clear hby hall4 hb3
        go_wp2_with fail
        refine bodyPost_ret (results_row1 rfl _ _ (w.heap.size + 1) 37 _ (0, 0) _ _ rfl rfl (set_five HK.out.1) Try.underlying37 rfl Try.sizD) rfl ?_
        refine ⟨none, 0, ?_, set_five_below HK.out.2 (by omega)⟩
        have hr : r = (0, 0, x3) := by
          have e : f a b (Dt.node kt nt dt st lt).nm (Dt.node kt nt dt st lt).dn = (x1, x2, x3) := HXX.out.1
          rw [HF.out, thr_step HT.out, e, if_neg hz]
        rw [hr]; rfl
    · obtain ⟨c0, c1, c2, c3, c4⟩ := box_cells hx0
      obtain ⟨e0, e1, e2, e3, e4⟩ := box_cells hx1
      have z0 := box_frozen hx1 0
      have z1 := box_frozen hx1 1
      have z2 := box_frozen hx1 2
      have z3 := box_frozen hx1 3
      have z4 := box_frozen hx1 4
      clear hx0 hx1 hbw
      go_wp2_with fail
      refine bodyPost_ret (results_row1 rfl _ _ (w.heap.size + 1) 37 _ (0, 0) _ _ rfl rfl (set_five HX.out.2.1) Try.underlying37 rfl Try.sizD) rfl ?_
      refine ⟨q, c, ?_, set_five_below HX.out.2.2 (by omega)⟩
      have hr : r = (a, b, 0) := by rw [HF.out, thr_stop (by omega)]
      rw [hr]; rfl
end Go.Proofs.Ytdeelpagoffdjaa.Dat

/- The program's through, for one of the four. -/
namespace Go.Proofs.Ytdeelpagoffdjaa.Dat
open Go.RowKit
open Go.Proofs.Ytdeelpagoffdjaa (three)
open NumPlain
set_option linter.unusedVariables false

set_option maxHeartbeats 2000000 in
set_option maxRecDepth 100000 in
theorem throughMul_any (f : Int → Int → Int → Int → Int × Int × Int) (hg : StepIs 26 f) (hf : ∀ n d m e, okEnd (f n d m e)) (a0 b0 : Int) (ha0 : I64 a0) (hb0 : I64 b0) (p0 : Option Addr) (cap0 : Nat)
    (l : List Dt) (p : Option Addr) (cap : Nat) (w : World) (hlm : l.length ≤ maxLen) (hl : l = [] ∨ ∃ b o, p = some ⟨b, o, none⟩ ∧ Dt.AllAt w l b o) :
    Calls Try.prog 47 #[.func (.func 26) #[] #[], numAt a0 b0 p0 cap0, .slice p l.length cap] w fun e w' => ∃ q c, e = .returned (.tuple #[numAt (thr f a0 b0 l).1 (thr f a0 b0 l).2.1 q c, .int .i64 (thr f a0 b0 l).2.2]) ∧ Below w.heap.size w w' := by
  unfold maxLen at hlm
  have HG := Lib.hid hg; clear hg
  have HL := Lib.hid hl; clear hl
  have HI := Lib.hid (And.intro ha0 hb0); clear ha0 hb0
  obtain ⟨r, hr⟩ : ∃ r, thr f a0 b0 l = r := ⟨_, rfl⟩
  rw [hr]
  have HR := Lib.hid hr; clear hr
  unfold numAt
  go_enter Try.func47, Try.ntmps47
  go_wp2_with fail
  go_loopw [14] (fun x wr => ∃ (i : Nat) (a b : Int) (q : Option Addr) (c : Nat), i ≤ l.length ∧ x = .int .i64 i ∧ r = thr f a b (l.drop i) ∧ I64 a ∧ I64 b ∧ wr.heap[w.heap.size]? = some (.cells #[.int .i64 0, .int .i64 a, .int .i64 b, .string ⟨#[]⟩, .slice q 0 c] 37 (0, 0)) ∧ wr.heap[w.heap.size + 1]? = some (.cells #[.int .i64 0, .int .i64 0, .int .i64 0, .string ⟨#[]⟩, .slice none 0 0] 37 (0, 0)) ∧ Below w.heap.size w wr) (fun x _ => l.length - (intOf x).toNat)
  case atStart => exact ⟨0, a0, b0, p0, cap0, by omega, rfl, by rw [← HR.out]; simp, HI.out.1, HI.out.2, two_first w _ _, two_second w _ _, two_below w _ _⟩
  case round =>
    obtain ⟨i, a, b, q, c, hi, rfl, hf', ha, hb, hx0, hx1, hbw⟩ := hrel
    have HF := Lib.hid hf'; clear hf'
    have HX := Lib.hid (And.intro hx0 (And.intro hx1 hbw))
    have hBs : w.heap.size + 1 < wr.heap.size := lt_of_block hx1
    by_cases hlt : i < l.length
    · obtain ⟨t, ht⟩ : ∃ t, l[i]? = some t := ⟨l[i], by simp [hlt]⟩
      rcases HL.out with he | ⟨bb, o, rfl, hall⟩
      · rw [he] at hlt; simp at hlt
      obtain ⟨v0, v1, v2, v3, v4, d0, d1, d2, d3, d4, hta⟩ := (hall.on (cell_on HX.out.2.2)).kid ht
      obtain ⟨kt, nt, dt, st, lt, pt, capt, rfl, rfl, rfl, rfl, rfl, rfl, _, hnt, hdt, _, _, _⟩ := hta.open7
      have ob := box_below wr (.cells #[.int .i64 kt, .int .i64 nt, .int .i64 dt, .string st, .slice pt lt.length capt] 37)
      obtain ⟨c0, c1, c2, c3, c4⟩ := box_cells (block_on ob hx0)
      obtain ⟨x, hx⟩ : ∃ x, f a b nt dt = x := ⟨_, rfl⟩
      have C := HG.out a b nt dt (wr.alloc (.cells #[.int .i64 kt, .int .i64 nt, .int .i64 dt, .string st, .slice pt lt.length capt] 37)) ha hb hnt hdt
      rw [hx] at C
      have hxe := hf a b nt dt
      rw [hx] at hxe
      obtain ⟨x1, x2, x3⟩ := x
      unfold three at C
      have HC := Lib.hid C
      have HT := Lib.hid ht
      have HXX := Lib.hid (And.intro hx hxe)
      have OB := Lib.hid ob
      clear C hta hall ht hx hxe ob hx0 hx1 hbw ha hb hnt hdt
      go_wp2_with fail
      refine (HC.out).mono ?_
      rintro _ w1 ⟨rfl, hb1⟩
      have HB1 := Lib.hid (below_seq OB.out hb1); clear hb1 c0 c1 c2 c3 c4 d0 d1 d2 d3 d4
      by_cases hz : x3 = 0
      · subst hz
        have N := number_yes x1 x2 w1
        unfold leafV at N
        have HN := Lib.hid N; clear N
        go_wp2_with fail
        refine (HN.out).mono ?_
        rintro _ w2 ⟨rfl, hb2⟩
        have hall2 := below_seq HB1.out hb2
        have ob2 := box_below w2 (.cells #[.int .i64 0, .int .i64 x1, .int .i64 x2, .string ⟨#[]⟩, .slice none 0 0] 37)
        have hall3 := below_seq hall2 ob2
        have hbx := block_on hall3 HX.out.1
        have hby := block_on hall3 HX.out.2.1
        have HH := Lib.hid (And.intro hbx (And.intro hby (below_seq HX.out.2.2 hall3)))
        obtain ⟨c0, c1, c2, c3, c4⟩ := box_cells hbx
        have z0 := box_frozen hbx 0
        have z1 := box_frozen hbx 1
        have z2 := box_frozen hbx 2
        have z3 := box_frozen hbx 3
        have z4 := box_frozen hbx 4
        clear hbx hby hall3 ob2 hall2 hb2
        go_wp2_with fail
        go_roundw
        case rel =>
          refine ⟨i + 1, x1, x2, none, 0, by omega, by go_num, ?_, ?_, ?_, set_five HH.out.1, (set_five_other (by omega)).trans HH.out.2.1, set_five_below HH.out.2.2 (Nat.le_refl _)⟩
          · have e : f a b (Dt.node kt nt dt st lt).nm (Dt.node kt nt dt st lt).dn = (x1, x2, 0) := HXX.out.1
            rw [HF.out, thr_step HT.out, e, if_pos rfl]
          · exact (i64_end HXX.out.2).1
          · exact (i64_end HXX.out.2).2
        case measure => simp [intOf]; omega
      · have hq : (x3 != 0) = true := by rw [bne_iff_ne]; exact hz
        have N := number_no x1 x2 x3 hz w1
        unfold leafV at N
        have HN := Lib.hid N; clear N
        go_wp2_with fail
        refine (HN.out).mono ?_
        rintro _ w2 ⟨rfl, hb2⟩
        have hall2 := below_seq HB1.out hb2
        have ob2 := box_below w2 (.cells #[.int .i64 0, .int .i64 0, .int .i64 0, .string ⟨#[]⟩, .slice none 0 0] 37)
        have hall3 := below_seq hall2 ob2
        have B := bad_any x3 (w2.alloc (.cells #[.int .i64 0, .int .i64 0, .int .i64 0, .string ⟨#[]⟩, .slice none 0 0] 37))
        unfold leafV at B
        have HB := Lib.hid B
        have HH := Lib.hid hall3
        clear B hall3 ob2 hall2 hb2
        go_wp2_with fail
        refine (HB.out).mono ?_
        rintro _ w3 ⟨rfl, hb3⟩
        have hall4 := below_seq HH.out hb3
        have hby := block_on hall4 HX.out.2.1
        have HK := Lib.hid (And.intro hby (below_seq HX.out.2.2 hall4))
        obtain ⟨c0, c1, c2, c3, c4⟩ := box_cells hby
        have z0 := box_frozen hby 0
        have z1 := box_frozen hby 1
        have z2 := box_frozen hby 2
        have z3 := box_frozen hby 3
        have z4 := box_frozen hby 4
        clear hby hall4 hb3
        go_wp2_with fail
        refine bodyPost_ret (results_row1 rfl _ _ (w.heap.size + 1) 37 _ (0, 0) _ _ rfl rfl (set_five HK.out.1) Try.underlying37 rfl Try.sizD) rfl ?_
        refine ⟨none, 0, ?_, set_five_below HK.out.2 (by omega)⟩
        have hr : r = (0, 0, x3) := by
          have e : f a b (Dt.node kt nt dt st lt).nm (Dt.node kt nt dt st lt).dn = (x1, x2, x3) := HXX.out.1
          rw [HF.out, thr_step HT.out, e, if_neg hz]
        rw [hr]; rfl
    · obtain ⟨c0, c1, c2, c3, c4⟩ := box_cells hx0
      obtain ⟨e0, e1, e2, e3, e4⟩ := box_cells hx1
      have z0 := box_frozen hx1 0
      have z1 := box_frozen hx1 1
      have z2 := box_frozen hx1 2
      have z3 := box_frozen hx1 3
      have z4 := box_frozen hx1 4
      clear hx0 hx1 hbw
      go_wp2_with fail
      refine bodyPost_ret (results_row1 rfl _ _ (w.heap.size + 1) 37 _ (0, 0) _ _ rfl rfl (set_five HX.out.2.1) Try.underlying37 rfl Try.sizD) rfl ?_
      refine ⟨q, c, ?_, set_five_below HX.out.2.2 (by omega)⟩
      have hr : r = (a, b, 0) := by rw [HF.out, thr_stop (by omega)]
      rw [hr]; rfl
end Go.Proofs.Ytdeelpagoffdjaa.Dat
