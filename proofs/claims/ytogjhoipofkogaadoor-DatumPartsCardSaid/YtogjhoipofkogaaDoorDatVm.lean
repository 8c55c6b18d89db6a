/- The program's own Text: Pairs, and the whole. -/
import Derived.Test.YtogjhoipofkogaaDoorDatVl
import Derived.Test.YtogjhoipofkogaaDoorDatZ
namespace Go.Proofs.YtogjhoipofkogaaDoor.Dat
open Go.RowKit
set_option linter.unusedVariables false
variable {R : Int → Int → Bool} {Nm : ByteArray → Bool} {NT : Int → Int → List UInt8}

theorem Telling.setBox {w0 w : World} {B Bb Bt Br : Nat} {acc : List UInt8} {cs : Array Value} (h : Telling w0 B Bb Bt acc w) (hb : w.heap[Br]? = some (.cells cs 24 (0, 0))) (hlo : w0.heap.size ≤ Br) (b0 b1 b2 b3 b4 : Value) :
    Telling w0 B Bb Bt acc (((((w.setCell ⟨Br, 0, none⟩ b0).setCell ⟨Br, 1, none⟩ b1).setCell ⟨Br, 2, none⟩ b2).setCell ⟨Br, 3, none⟩ b3).setCell ⟨Br, 4, none⟩ b4) := by
  have hother : ∀ k, k ≠ Br → (((((w.setCell ⟨Br, 0, none⟩ b0).setCell ⟨Br, 1, none⟩ b1).setCell ⟨Br, 2, none⟩ b2).setCell ⟨Br, 3, none⟩ b3).setCell ⟨Br, 4, none⟩ b4).heap[k]? = w.heap[k]? := fun k hk => set_five_other hk
  have one : ∀ p, Lib.BuilderAtF 48 5 B Bb p (Lib.byteCells acc) w → Lib.BuilderAtF 48 5 B Bb p (Lib.byteCells acc) (((((w.setCell ⟨Br, 0, none⟩ b0).setCell ⟨Br, 1, none⟩ b1).setCell ⟨Br, 2, none⟩ b2).setCell ⟨Br, 3, none⟩ b3).setCell ⟨Br, 4, none⟩ b4) := by
    intro p ⟨hB, v, hbk, hown, hne⟩
    refine ⟨hB, v, (hother Bb (fun e => by rw [e, hb] at hbk; simp at hbk)).trans hbk, ⟨hown.1, ?_⟩, hne⟩
    rcases hown.2 with hn | ⟨g, cap, cur, fz, rfl, hg, hgg, rest⟩
    · exact .inl hn
    · exact .inr ⟨g, cap, cur, fz, rfl, hg, (hother g (fun e => by rw [e, hb] at hgg; simp at hgg)).trans hgg, rest⟩
  refine ⟨set_five_below h.base hlo, h.hB, by rw [set_five_size]; exact h.hBw, h.bld.elim (fun x => .inl (one _ x)) (fun x => .inr (one _ x)), (hother Bt (fun e => by have := h.fn; rw [e, hb] at this; simp at this)).trans h.fn, h.ne⟩
theorem others_set {w wr W : World} {b : Option Nat} (h : Lib.OthersKept 5 b w wr) (hs : ∀ k, k < w.heap.size → W.heap[k]? = wr.heap[k]?) : Lib.OthersKept 5 b w W := fun k o hk hb ho => (hs k (lt_of_block hk)).trans (h k o hk hb ho)

/-- What holds in a round of a Pair's rest. -/
def Tail (R : Int → Int → Bool) (Nm : ByteArray → Bool) (NT : Int → Int → List UInt8) (w0 w : World) (B Bb Bt Br : Nat) (most : Nat) (whole : List UInt8) (g : Nat) (wr : World) (z : List UInt8) (k n d : Int) (s : ByteArray) (l : List Dt) (p : Option Addr) (cap deep : Nat) : Prop :=
  wr.heap[Br]? = some (.cells #[.int .i64 k, .int .i64 n, .int .i64 d, .string s, .slice p l.length cap] 24 (0, 0)) ∧ (Dt.node k n d s l).At w0 (.agg #[.int .i64 k, .int .i64 n, .int .i64 d, .string s, .slice p l.length cap]) ∧
    (Dt.node k n d s l).right R Nm deep = true ∧ (Dt.node k n d s l).size ≤ g ∧ (Dt.node k n d s l).size < most ∧ whole = z ++ (Dt.node k n d s l).tail NT ∧ Telling w0 B Bb Bt z wr ∧ Lib.OthersKept 5 (some Bb) w wr

set_option maxHeartbeats 4000000 in
set_option maxRecDepth 100000 in
theorem tell_pair (T : World → Prop) (n d : Int) (s : ByteArray) (ta tb : Dt) (ih : ∀ x, x.size < (Dt.node 6 n d s [ta, tb]).size → TellAt T R Nm NT x) (hra : ∀ deep, (Dt.node 6 n d s [ta, tb]).right R Nm deep = true → ta.right R Nm (deep + 1) = true ∧ tb.right R Nm (deep + 1) = true) : TellAt T R Nm NT (.node 6 n d s [ta, tb]) := by
  intro v deep acc w0 w B Bb Bt hat hr ht htl hlen
  obtain ⟨hra, hrb⟩ := hra deep hr
  have sa : ta.size < (Dt.node 6 n d s [ta, tb]).size ∧ tb.size < (Dt.node 6 n d s [ta, tb]).size := by
    have := ta.size_pos; have := tb.size_pos
    simp only [Dt.size, Dt.sizes]; omega
  unfold Dt.At at hat
  obtain ⟨-, -, -, -, -, p, cap, rfl, hl⟩ := hat
  rcases hl with hl | ⟨b, o, rfl, hall⟩
  · cases hl
  rw [text_pair] at hlen ⊢
  obtain ⟨most, hmost⟩ : ∃ m, (Dt.node 6 n d s [ta, tb]).size = m := ⟨_, rfl⟩
  rw [hmost] at ih sa
  obtain ⟨v0, v1, v2, v3, v4, d0, d1, d2, d3, d4, hta⟩ := hall.kid (i := 0) (t := ta) rfl
  obtain ⟨u0, u1, u2, u3, u4, f0, f1, f2, f3, f4, htb⟩ := hall.kid (i := 1) (t := tb) rfl
  simp only [Nat.zero_mul, Nat.add_zero, Nat.one_mul] at d0 d1 d2 d3 d4 f0 f1 f2 f3 f4
  obtain ⟨kc, nc, dc, sc, lc, pc, capc, htbe, rfl, rfl, rfl, rfl, rfl, _, _⟩ := htb.open5
  have hlen2 : acc.length + 2 + (ta.text NT).length + (tb.tail NT).length ≤ 140737488355328 := by
    simp only [List.length_cons, List.length_append, List.length_nil] at hlen; omega
  have hlb := builder_lt htl.bld
  have C0 := fun w' (hb : Below w.heap.size w w') => tellByte_any 40 40 rfl w' (htl.below hb) (by omega)
  have HC0 := Lib.hid C0
  have HIA := Lib.hid (fun w' (h : Telling w0 B Bb Bt (acc ++ [40]) w') => ih ta sa.1 _ (deep + 1) (acc ++ [40]) w0 w' B Bb Bt hta hra ht h (by rw [List.length_append]; simp; omega))
  have HBX := Lib.hid (at_new w (.cells #[.int .i64 6, .int .i64 n, .int .i64 d, .string s, .slice (some ⟨b, o, none⟩) [ta, tb].length cap] 24))
  have HNE := Lib.hid (show w.heap.size ≠ Bb by omega)
  have IH := Lib.hid ih
  have HT := Lib.hid ht
  have HLEN := Lib.hid hlen2
  have HTB := Lib.hid htb
  have HTE := Lib.hid htbe
  have HRB := Lib.hid hrb
  have HSB := Lib.hid sa.2
  have HD := Lib.hid (And.intro d0 (And.intro d1 (And.intro d2 (And.intro d3 d4))))
  have HF := Lib.hid (And.intro f0 (And.intro f1 (And.intro f2 (And.intro f3 f4))))
  have HWS := Lib.hid htl.base.size
  clear C0 hr ht htl hlen hlen2 hra hrb sa hall hta htb htbe ih hmost hlb d0 d1 d2 d3 d4 f0 f1 f2 f3 f4
  simp only [List.length_cons, List.length_nil, Nat.zero_add, Nat.reduceAdd] at HBX ⊢
  go_enter Tryd.func37, Tryd.ntmps37
  go_wp2_with fail
  refine (HC0.out _ (box_below _ _)).mono ?_
  rintro _ w1 ⟨rfl, ht1, ho1⟩
  obtain ⟨c0, c1, c2, c3, c4⟩ := box_cells (kept_box ho1 HBX.out HNE.out)
  have HBX1 := Lib.hid (kept_box ho1 HBX.out HNE.out)
  have hfn := cell_of_one ht1.fn
  have x0 := cell_on ht1.base _ _ _ HD.out.1
  have x1 := cell_on ht1.base _ _ _ HD.out.2.1
  have x2 := cell_on ht1.base _ _ _ HD.out.2.2.1
  have x3 := cell_on ht1.base _ _ _ HD.out.2.2.2.1
  have x4 := cell_on ht1.base _ _ _ HD.out.2.2.2.2
  have HT1 := Lib.hid ht1
  have HO1 := Lib.hid ((others_of (box_below w _)).trans ho1)
  clear ht1 ho1 c0 c1 c2 c3
  go_wp2_with fail
  go_still_tail 5, (by kernel_rfl)
  change wpList _ _ _ _ _ w1.drew
  go_wp2_with fail
  refine (HIA.out _ ((HT1.out).below ((Below.refl _ _).drew))).mono ?_
  rintro _ w2 ⟨rfl, ht2, ho2⟩
  obtain ⟨c0, c1, c2, c3, c4⟩ := box_cells (kept_box ho2 (show w1.drew.heap[w.heap.size]? = _ from HBX1.out) HNE.out)
  have y0 := cell_on ht2.base _ _ _ HF.out.1
  have y1 := cell_on ht2.base _ _ _ HF.out.2.1
  have y2 := cell_on ht2.base _ _ _ HF.out.2.2.1
  have y3 := cell_on ht2.base _ _ _ HF.out.2.2.2.1
  have y4 := cell_on ht2.base _ _ _ HF.out.2.2.2.2
  have HT2 := Lib.hid ht2
  have HW2 := Lib.hid (lt_of_block (kept_box ho2 (show w1.drew.heap[w.heap.size]? = _ from HBX1.out) HNE.out))
  have HO2 := Lib.hid ((HO1.out).trans ((show Lib.OthersKept 5 (some Bb) w1 w1.drew from fun k o h _ _ => h).trans ho2))
  clear ht2 ho2 c0 c1 c2 c3 hfn x0 x1 x2 x3 x4
  go_wp2_with fail
  go_loopg [] most (fun g wr => ∃ (z : List UInt8) (k n' d' : Int) (s' : ByteArray) (l : List Dt) (p : Option Addr) (cap' dp : Nat), Tail R Nm NT w0 w B Bb Bt w2.heap.size most (acc ++ 40 :: (ta.text NT ++ tb.tail NT)) g wr z k n' d' s' l p cap' dp)
  case atStart =>
    refine ⟨acc ++ [40] ++ ta.text NT, kc, nc, dc, sc, lc, pc, capc, deep + 1, ?_⟩
    unfold Tail
    rw [← HTE.out]
    refine ⟨at_new _ _, HTB.out, HRB.out, Nat.le_of_lt HSB.out, HSB.out, by simp, (HT2.out).below (box_below _ _), (HO2.out).trans (others_of (box_below _ _))⟩
  case round =>
    obtain ⟨z, k, n', d', s', l, p, cap', dp, htail⟩ := hrel
    obtain ⟨hh, hqa, hqr, hqg, hqm, hwh, htz, hoz⟩ := htail
    have hz : z.length + ((Dt.node k n' d' s' l).tail NT).length + 1 ≤ 140737488355328 := by
      have h := congrArg List.length hwh
      have h2 := HLEN.out
      simp only [List.length_append, List.length_cons] at h
      omega
    have hne : w2.heap.size ≠ Bb := fun e => by rcases htz.bld with ⟨_, v, hbk, _⟩ | ⟨_, v, hbk, _⟩ <;> (rw [← e, hh] at hbk; simp at hbk)
    have hlo : w.heap.size ≤ w2.heap.size := by have := HW2.out; omega
    have hlo0 : w0.heap.size ≤ w2.heap.size := Nat.le_trans HWS.out hlo
    obtain ⟨c0, c1, c2, c3, c4⟩ := box_cells hh
    have HH := Lib.hid hh
    have HNB := Lib.hid hne
    have HLO := Lib.hid hlo
    have HLO0 := Lib.hid hlo0
    have HOZ := Lib.hid hoz
    by_cases hk : k = 6
    · subst hk
      obtain ⟨x, q, rfl, hx, hq⟩ := pair_of hqr
      obtain ⟨_, _, _, _, _, _, _, he, _, _, _, _, hsl, _, hl⟩ := hqa.open5
      simp only [Dt.node.injEq] at he
      obtain ⟨_, _, _, _, rfl⟩ := he
      simp only [Value.slice.injEq, true_and] at hsl
      obtain ⟨rfl, _⟩ := hsl
      rcases hl with hl | ⟨b', o', rfl, hall⟩
      · cases hl
      obtain ⟨x0, x1, x2, x3, x4, i0, i1, i2, i3, i4, hxa⟩ := hall.kid (i := 0) (t := x) rfl
      obtain ⟨q0, q1, q2, q3, q4, j0, j1, j2, j3, j4, hqa2⟩ := hall.kid (i := 1) (t := q) rfl
      simp only [Nat.zero_mul, Nat.add_zero, Nat.one_mul] at i0 i1 i2 i3 i4 j0 j1 j2 j3 j4
      obtain ⟨kq, nq, dq, sq, lq, pq, capq, hqe, rfl, rfl, rfl, rfl, rfl, _, _⟩ := hqa2.open5
      have hszx : x.size < (Dt.node 6 n' d' s' [x, q]).size ∧ q.size < (Dt.node 6 n' d' s' [x, q]).size := by
        have := x.size_pos; have := q.size_pos
        simp only [Dt.size, Dt.sizes]; omega
      rw [tail_pair] at hwh hz
      simp only [List.length_cons, List.length_append] at hz
      have HC0 := Lib.hid (tellByte_any 32 32 rfl wr htz (by omega))
      have HIX := Lib.hid (fun w' (h : Telling w0 B Bb Bt (z ++ [32]) w') => IH.out x (by omega) _ (dp + 1) (z ++ [32]) w0 w' B Bb Bt hxa hx HT.out h (by rw [List.length_append]; simp; omega))
      have HI := Lib.hid (And.intro i0 (And.intro i1 (And.intro i2 (And.intro i3 i4))))
      have HJ := Lib.hid (And.intro j0 (And.intro j1 (And.intro j2 (And.intro j3 j4))))
      have HQA := Lib.hid hqa2
      have HQE := Lib.hid hqe
      have HQR := Lib.hid hq
      have HWH := Lib.hid hwh
      have HG := Lib.hid (show q.size < gk by omega)
      have HM := Lib.hid (show q.size < most by omega)
      simp only [List.length_cons, List.length_nil, Nat.zero_add, Nat.reduceAdd] at c4 HH
      clear i0 i1 i2 i3 i4 j0 j1 j2 j3 j4 hqa2 hqe hq hwh hqg hqm hszx hqa hqr hx hxa hall hh hne hlo hlo0 htz hoz hz c1 c2 c3
      go_wp2_with fail
      refine (HC0.out).mono ?_
      rintro _ w3 ⟨rfl, ht3, ho3⟩
      obtain ⟨e0, e1, e2, e3, e4⟩ := box_cells (kept_box ho3 HH.out HNB.out)
      have HH3 := Lib.hid (kept_box ho3 HH.out HNB.out)
      have hfn3 := cell_of_one ht3.fn
      have i0 := cell_on ht3.base _ _ _ HI.out.1
      have i1 := cell_on ht3.base _ _ _ HI.out.2.1
      have i2 := cell_on ht3.base _ _ _ HI.out.2.2.1
      have i3 := cell_on ht3.base _ _ _ HI.out.2.2.2.1
      have i4 := cell_on ht3.base _ _ _ HI.out.2.2.2.2
      have HT3 := Lib.hid ht3
      have HO3 := Lib.hid ho3
      clear ht3 ho3 e0 e1 e2 e3 c0 c4
      go_wp2_with fail
      go_still_tail 5, (by kernel_rfl)
      change wpList _ _ _ _ _ w3.drew
      go_wp2_with fail
      refine (HIX.out _ ((HT3.out).below ((Below.refl _ _).drew))).mono ?_
      rintro _ w4 ⟨rfl, ht4, ho4⟩
      have hh4 := kept_box ho4 (show w3.drew.heap[w2.heap.size]? = _ from HH3.out) HNB.out
      obtain ⟨m0, m1, m2, m3, m4⟩ := box_cells hh4
      have z0 := box_frozen hh4 0
      have z1 := box_frozen hh4 1
      have z2 := box_frozen hh4 2
      have z3 := box_frozen hh4 3
      have z4 := box_frozen hh4 4
      have j0 := cell_on ht4.base _ _ _ HJ.out.1
      have j1 := cell_on ht4.base _ _ _ HJ.out.2.1
      have j2 := cell_on ht4.base _ _ _ HJ.out.2.2.1
      have j3 := cell_on ht4.base _ _ _ HJ.out.2.2.2.1
      have j4 := cell_on ht4.base _ _ _ HJ.out.2.2.2.2
      have HH4 := Lib.hid hh4
      have HT4 := Lib.hid ht4
      have HO4 := Lib.hid (((HOZ.out).trans HO3.out).trans ((show Lib.OthersKept 5 (some Bb) w3 w3.drew from fun k o h _ _ => h).trans ho4))
      clear ht4 ho4 hh4 hfn3 i0 i1 i2 i3 i4 e4
      go_wp2_with fail
      go_roundg q.size
      case measure => exact HG.out
      case rel =>
        refine ⟨z ++ [32] ++ x.text NT, kq, nq, dq, sq, lq, pq, capq, dp + 1, ?_⟩
        unfold Tail
        rw [← HQE.out]
        refine ⟨set_five HH4.out, HQA.out, HQR.out, Nat.le_refl _, HM.out, by rw [HWH.out]; simp, (HT4.out).setBox HH4.out HLO0.out _ _ _ _ _, others_set HO4.out fun k hk => set_five_other (by have := HLO.out; omega)⟩
    · have e6 : (k == 6) = false := by rw [beq_eq_false_iff_ne]; exact hk
      by_cases h4 : k = 4
      · subst h4
        rw [tail_null, List.append_nil] at hwh
        have HWH := Lib.hid hwh
        have HC0 := Lib.hid (tellByte_any 41 41 rfl wr htz (by omega))
        clear hwh hqg hqm hqa hqr hh hne hlo hlo0 htz hoz hz hk e6
        go_wp2_with fail
        refine (HC0.out).mono ?_
        rintro _ w3 ⟨rfl, ht3, ho3⟩
        have HT3 := Lib.hid ht3
        have HO3 := Lib.hid ((HOZ.out).trans ho3)
        clear ht3 ho3
        go_wp2_with fail
        go_end0
        exact ⟨rfl, by rw [show acc ++ 40 :: (ta.text NT ++ tb.tail NT ++ [41]) = acc ++ 40 :: (ta.text NT ++ tb.tail NT) ++ [41] by simp, HWH.out]; exact HT3.out, HO3.out⟩
      · have e4 : (k != 4) = true := by rw [bne_iff_ne]; exact h4
        rw [tail_else (t := Dt.node k n' d' s' l) hk h4] at hwh hz
        simp only [List.length_cons] at hz
        have HWH := Lib.hid hwh
        have HC0 := Lib.hid (tellStr_any ⟨#[32, 46, 32]⟩ wr htz (by show z.length + 3 ≤ _; omega))
        have HIX := Lib.hid (fun w' (h : Telling w0 B Bb Bt (z ++ [32, 46, 32]) w') => IH.out _ hqm _ dp (z ++ [32, 46, 32]) w0 w' B Bb Bt hqa hqr HT.out h (by rw [List.length_append]; simp; omega))
        have HC1 := Lib.hid (fun w' (h : Telling w0 B Bb Bt (z ++ [32, 46, 32] ++ (Dt.node k n' d' s' l).text NT) w') => tellByte_any 41 41 rfl w' h (by rw [List.length_append, List.length_append]; simp; omega))
        clear hwh hqg hqm hqa hqr hh hne hlo hlo0 htz hoz hz hk h4
        go_wp2_with fail
        refine (HC0.out).mono ?_
        rintro _ w3 ⟨rfl, ht3, ho3⟩
        obtain ⟨m0, m1, m2, m3, m4⟩ := box_cells (kept_box ho3 HH.out HNB.out)
        have hfn3 := cell_of_one ht3.fn
        have HT3 := Lib.hid (show Telling w0 B Bb Bt (z ++ [32, 46, 32]) w3 from ht3)
        have HO3 := Lib.hid ((HOZ.out).trans ho3)
        clear ht3 ho3 c0 c1 c2 c3 c4
        go_wp2_with fail
        refine (HIX.out _ HT3.out).mono ?_
        rintro _ w4 ⟨rfl, ht4, ho4⟩
        have HT4 := Lib.hid ht4
        have HO4 := Lib.hid ((HO3.out).trans ho4)
        clear ht4 ho4 m0 m1 m2 m3 m4 hfn3
        go_wp2_with fail
        refine (HC1.out _ HT4.out).mono ?_
        rintro _ w5 ⟨rfl, ht5, ho5⟩
        have HT5 := Lib.hid ht5
        have HO5 := Lib.hid ((HO4.out).trans ho5)
        clear ht5 ho5
        go_wp2_with fail
        go_end0
        exact ⟨rfl, by rw [show acc ++ 40 :: (ta.text NT ++ tb.tail NT ++ [41]) = acc ++ 40 :: (ta.text NT ++ tb.tail NT) ++ [41] by simp, HWH.out, show z ++ 32 :: 46 :: 32 :: (Dt.node k n' d' s' l).text NT ++ [41] = z ++ [32, 46, 32] ++ (Dt.node k n' d' s' l).text NT ++ [41] by simp]; exact HT5.out, HO5.out⟩
end Go.Proofs.YtogjhoipofkogaaDoor.Dat
