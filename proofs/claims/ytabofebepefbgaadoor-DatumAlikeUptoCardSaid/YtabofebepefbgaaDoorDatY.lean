/- The reference's text of a Pair. -/
import Derived.Test.YtabofebepefbgaaDoorDatX
namespace Go.Proofs.YtabofebepefbgaaDoor.Dat
open Go.RowKit
set_option linter.unusedVariables false
variable {R : Int → Int → Bool} {Nm : ByteArray → Bool} {NT : Int → Int → List UInt8}

def lenOf : Value → Nat
  | .string s => s.size
  | _ => 0
theorem pair_of {n d : Int} {s : ByteArray} {l : List Dt} {deep : Nat} (h : (Dt.node 6 n d s l).right R Nm deep = true) : ∃ x q, l = [x, q] ∧ x.right R Nm (deep + 1) = true ∧ q.right R Nm (deep + 1) = true := by
  generalize e : Dt.node 6 n d s l = t at h
  rcases view_of h with ⟨n', d', hr⟩ | ⟨n', hn⟩ | ⟨s', hs⟩ | ⟨s', hs⟩ | _ | _ | ⟨x, q, hx, hq⟩ | ⟨l', hl⟩ <;> simp at e
  obtain ⟨rfl, rfl, rfl, rfl⟩ := e
  exact ⟨x, q, rfl, hx, hq⟩
/-- What holds in a round: the box holds the rest, its text is what is missing. -/
def Rest (R : Int → Int → Bool) (Nm : ByteArray → Bool) (NT : Int → Int → List UInt8) (w : World) (B : Nat) (most : Nat) (whole : List UInt8) (z : ByteArray) (wr : World) (k n d : Int) (s : ByteArray) (l : List Dt) (p : Option Addr) (cap deep : Nat) : Prop :=
  wr.heap[B]? = some (.cells #[.int .i64 k, .int .i64 n, .int .i64 d, .string s, .slice p l.length cap] 24 (0, 0)) ∧ (Dt.node k n d s l).At w (.agg #[.int .i64 k, .int .i64 n, .int .i64 d, .string s, .slice p l.length cap]) ∧
    (Dt.node k n d s l).right R Nm deep = true ∧ (Dt.node k n d s l).size < most ∧ whole = z.data.toList ++ (Dt.node k n d s l).tail NT ∧ Below w.heap.size w wr

set_option maxHeartbeats 2000000 in
set_option maxRecDepth 100000 in
theorem text_k6 (n d : Int) (s : ByteArray) (ta tb : Dt) (p : Option Addr) (cap : Nat) (deep : Nat) (a : ByteArray) (w : World) (hl : ∃ b o, p = some ⟨b, o, none⟩ ∧ Dt.AllAt w [ta, tb] b o)
    (hra : ta.right R Nm deep = true) (hrb : tb.right R Nm deep = true) (ih : ∀ x, x.size < (Dt.node 6 n d s [ta, tb]).size → TextAt R Nm NT x) (ha : a.data.toList = (Dt.node 6 n d s [ta, tb]).text NT) (hr : Roomy ((Dt.node 6 n d s [ta, tb]).text NT)) :
    Calls Tryd.prog 37 #[.agg #[.int .i64 6, .int .i64 n, .int .i64 d, .string s, .slice p (2 : Nat) cap]] w fun e w' => e = .returned (.string a) ∧ Below w.heap.size w w' := by
  rw [text_pair] at ha hr
  unfold Roomy at hr
  have sa : ta.size < (Dt.node 6 n d s [ta, tb]).size ∧ tb.size < (Dt.node 6 n d s [ta, tb]).size := by
    have := ta.size_pos; have := tb.size_pos
    simp only [Dt.size, Dt.sizes]; omega
  obtain ⟨b, o, rfl, hall⟩ := hl
  obtain ⟨v0, v1, v2, v3, v4, d0, d1, d2, d3, d4, hta⟩ := hall.kid (i := 0) (t := ta) rfl
  obtain ⟨u0, u1, u2, u3, u4, f0, f1, f2, f3, f4, htb⟩ := hall.kid (i := 1) (t := tb) rfl
  simp only [Nat.zero_mul, Nat.add_zero, Nat.one_mul] at d0 d1 d2 d3 d4 f0 f1 f2 f3 f4
  obtain ⟨y, hy⟩ : ∃ y : ByteArray, y.data.toList = ta.text NT := ⟨⟨(ta.text NT).toArray⟩, rfl⟩
  have hy2 : y.size = (ta.text NT).length := by rw [Lib.size_eq, hy]
  have hroom : y.size + (tb.tail NT).length + 2 ≤ 1152921504606846976 := by
    simp only [List.length_cons, List.length_append, List.length_nil] at hr; omega
  have hy3 : y.size ≤ 1152921504606846976 := by omega
  have hroom1 : Roomy (ta.text NT) := by unfold Roomy; omega
  have C := fun w' h => ih ta sa.1 (.agg #[v0, v1, v2, v3, v4]) deep y w' h hra hroom1 hy
  have C1 := C _ ((hta.below (box_below w (.cells #[.int .i64 6, .int .i64 n, .int .i64 d, .string s, .slice (some ⟨b, o, none⟩) (2 : Nat) cap] 24))))
  have HC := Lib.hid C1
  have HAA := Lib.hid ha
  have IH := Lib.hid ih
  have HROOM := Lib.hid hroom
  have HY := Lib.hid hy
  obtain ⟨kc, nc, dc, sc, lc, pc, capc, htbe, rfl, rfl, rfl, rfl, rfl, kcb, hl2⟩ := htb.open5
  have HTB := Lib.hid htb
  have HTE := Lib.hid htbe
  have HL2 := Lib.hid hl2
  have HRB := Lib.hid hrb
  have HSZ := Lib.hid sa.2
  have OB := Lib.hid (box_below w (.cells #[.int .i64 6, .int .i64 n, .int .i64 d, .string s, .slice (some ⟨b, o, none⟩) (2 : Nat) cap] 24))
  have q0 := cell_on OB.out _ _ _ d0
  have q1 := cell_on OB.out _ _ _ d1
  have q2 := cell_on OB.out _ _ _ d2
  have q3 := cell_on OB.out _ _ _ d3
  have q4 := cell_on OB.out _ _ _ d4
  have F := Lib.hid (And.intro f0 (And.intro f1 (And.intro f2 (And.intro f3 f4))))
  clear htbe hl2 ha hr sa hall hta htb hra hrb ih hy hy2 hroom hroom1 C C1 d0 d1 d2 d3 d4 f0 f1 f2 f3 f4
  go_enter Tryd.func37, Tryd.ntmps37
  go_wp2_with fail
  refine (HC.out).mono ?_
  rintro _ w1 ⟨rfl, hb1⟩
  have hs1 := hb1.size
  have hc' := cell_on hb1 w.heap.size 4 (.slice (some ⟨b, o, none⟩) (2 : Nat) cap) (by simp)
  have g0 := cell_on hb1 _ _ _ (cell_on OB.out _ _ _ F.out.1)
  have g1 := cell_on hb1 _ _ _ (cell_on OB.out _ _ _ F.out.2.1)
  have g2 := cell_on hb1 _ _ _ (cell_on OB.out _ _ _ F.out.2.2.1)
  have g3 := cell_on hb1 _ _ _ (cell_on OB.out _ _ _ F.out.2.2.2.1)
  have g4 := cell_on hb1 _ _ _ (cell_on OB.out _ _ _ F.out.2.2.2.2)
  have hbw : Below w.heap.size w w1 := below_after hb1
  have HB1 := Lib.hid hbw; clear hb1 hbw
  have hs2 : w.heap.size < w1.heap.size := by simp at hs1; omega
  clear hs1 q0 q1 q2 q3 q4
  go_wp2_with fail
  obtain ⟨B, hB⟩ : ∃ B, w1.heap.size = B := ⟨_, rfl⟩
  obtain ⟨T, hT⟩ : ∃ T, [40] ++ ta.text NT ++ tb.tail NT = T := ⟨_, rfl⟩
  have hT2 : T.length + 1 ≤ 1152921504606846976 := by
    have h := HROOM.out
    rw [← hT, ← HY.out]
    simp only [List.length_append, List.length_cons, List.length_nil]
    rw [← Lib.size_eq]; omega
  have HAT : Hid (a.data.toList = T ++ [41]) := Lib.hid (by rw [HAA.out, ← hT]; simp)
  have HT := Lib.hid hT; clear hT
  have HT2 := Lib.hid hT2; clear hT2
  go_loopw [5] (fun u wr => ∃ (z : ByteArray) (k n' d' : Int) (s' : ByteArray) (l : List Dt) (p : Option Addr) (cap' dp : Nat), u = .string z ∧ Rest R Nm NT w B (Dt.node 6 n d s [ta, tb]).size T z wr k n' d' s' l p cap' dp) (fun u _ => T.length - lenOf u)
  case atStart =>
    refine ⟨_, kc, nc, dc, sc, lc, pc, capc, deep, rfl, ?_⟩
    unfold Rest
    rw [← HTE.out]
    refine ⟨by show (w1.heap.push _)[B]? = _; rw [← hB]; simp, HTB.out, HRB.out, HSZ.out, by rw [← HT.out, ← HY.out]; simp, (HB1.out).trans ((Below.refl _ _).alloc (by omega) _)⟩
  case round =>
    obtain ⟨z, k, n', d', s', l, p, cap', dp, rfl, hrest⟩ := hrel
    have HRE := Lib.hid hrest
    have hh := hrest.1
    have hz : z.size ≤ 1152921504606846976 := by
      have h := congrArg List.length hrest.2.2.2.2.1
      rw [List.length_append, ← Lib.size_eq] at h
      have h2 := HT2.out
      omega
    clear hrest
    by_cases hk : k = 6
    · subst hk
      obtain ⟨x, q, rfl, hx, hq⟩ := pair_of (HRE.out).2.2.1
      obtain ⟨_, _, _, _, _, _, _, he, _, _, _, _, hsl, _, hl⟩ := (HRE.out).2.1.open5
      simp only [Dt.node.injEq] at he
      obtain ⟨_, _, _, _, rfl⟩ := he
      simp only [Value.slice.injEq, true_and] at hsl
      obtain ⟨rfl, _⟩ := hsl
      rcases hl with hl | ⟨b', o', rfl, hall⟩
      · cases hl
      obtain ⟨x0, x1, x2, x3, x4, i0, i1, i2, i3, i4, hxa⟩ := hall.kid (i := 0) (t := x) rfl
      obtain ⟨q0, q1, q2, q3, q4, j0, j1, j2, j3, j4, hqa⟩ := hall.kid (i := 1) (t := q) rfl
      simp only [Nat.zero_mul, Nat.add_zero, Nat.one_mul] at i0 i1 i2 i3 i4 j0 j1 j2 j3 j4
      have hbr := (HRE.out).2.2.2.2.2
      replace i0 := cell_on hbr _ _ _ i0
      replace i1 := cell_on hbr _ _ _ i1
      replace i2 := cell_on hbr _ _ _ i2
      replace i3 := cell_on hbr _ _ _ i3
      replace i4 := cell_on hbr _ _ _ i4
      have hszx : x.size < (Dt.node 6 n' d' s' [x, q]).size ∧ q.size < (Dt.node 6 n' d' s' [x, q]).size := by
        have := x.size_pos; have := q.size_pos
        simp only [Dt.size, Dt.sizes]; omega
      have hmost := (HRE.out).2.2.2.1
      have hwhole := (HRE.out).2.2.2.2.1
      rw [tail_pair] at hwhole
      obtain ⟨yx, hyx⟩ : ∃ y : ByteArray, y.data.toList = x.text NT := ⟨⟨(x.text NT).toArray⟩, rfl⟩
      have hlen : z.size + yx.size + (q.tail NT).length + 1 = T.length := by
        rw [hwhole, ← hyx]
        simp only [List.length_append, List.length_cons]
        rw [← Lib.size_eq, ← Lib.size_eq]; omega
      have hT2 := HT2.out
      have hyx3 : yx.size ≤ 1152921504606846976 := by omega
      have hroomx : Roomy (x.text NT) := by unfold Roomy; rw [← hyx, ← Lib.size_eq]; exact hyx3
      have C := IH.out x (by omega) _ (dp + 1) yx wr (hxa.below hbr) hx hroomx hyx
      have HC2 := Lib.hid C
      have HYX := Lib.hid hyx
      have HW := Lib.hid hwhole
      have HLEN := Lib.hid hlen
      obtain ⟨kq, nq, dq, sq, lq, pq, capq, hqe, rfl, rfl, rfl, rfl, rfl, _, _⟩ := hqa.open5
      have HQE := Lib.hid hqe
      have HQ := Lib.hid hqa
      have HQR := Lib.hid hq
      have HQS := Lib.hid (show q.size < (Dt.node 6 n d s [ta, tb]).size by omega)
      have HJ := Lib.hid (And.intro j0 (And.intro j1 (And.intro j2 (And.intro j3 j4))))
      have hBw : B < wr.heap.size := by
        rcases Nat.lt_or_ge B wr.heap.size with h | h
        · exact h
        · rw [Array.getElem?_eq_none h] at hh; cases hh
      have HBR := Lib.hid hbr
      obtain ⟨c0, _, _, _, c4⟩ := box_cells hh
      clear C hyx hwhole hqe hqa hq hxa hall hmost hszx hlen hT2 hroomx j0 j1 j2 j3 j4 hx hbr
      go_wp2_with fail
      refine (HC2.out).mono ?_
      rintro _ w2 ⟨rfl, hb2⟩
      have hs2' := hb2.size
      have hh2 := (hb2.block B hBw).trans hh
      have HB2 := Lib.hid ((HBR.out).trans (hb2.mono (HBR.out).size)); clear hb2
      have g0 := cell_on (HB2.out) _ _ _ (HJ.out).1
      have g1 := cell_on (HB2.out) _ _ _ (HJ.out).2.1
      have g2 := cell_on (HB2.out) _ _ _ (HJ.out).2.2.1
      have g3 := cell_on (HB2.out) _ _ _ (HJ.out).2.2.2.1
      have g4 := cell_on (HB2.out) _ _ _ (HJ.out).2.2.2.2
      clear hh i0 i1 i2 i3 i4 c0 c4
      obtain ⟨c0, c1, c2, c3, c4⟩ := box_cells hh2
      have z0 := box_frozen hh2 0
      have z1 := box_frozen hh2 1
      have z2 := box_frozen hh2 2
      have z3 := box_frozen hh2 3
      have z4 := box_frozen hh2 4
      go_wp2_with fail
      subst hB
      go_roundw
      case rel =>
        refine ⟨_, kq, nq, dq, sq, lq, pq, capq, dp + 1, rfl, ?_⟩
        unfold Rest
        rw [← HQE.out]
        refine ⟨?_, HQ.out, HQR.out, HQS.out, by rw [HW.out, ← HYX.out]; simp, ?_⟩
        · refine (heap_setCell_same _ _ 4 _ 24 _ (heap_setCell_same _ _ 3 _ 24 _ (heap_setCell_same _ _ 2 _ 24 _ (heap_setCell_same _ _ 1 _ 24 _ (heap_setCell_same _ _ 0 _ 24 _ hh2))))).trans ?_
          simp
        · exact (((((HB2.out).setCell (Nat.le_of_lt hs2) _).setCell (Nat.le_of_lt hs2) _).setCell (Nat.le_of_lt hs2) _).setCell (Nat.le_of_lt hs2) _).setCell (Nat.le_of_lt hs2) _
      case measure =>
        have h1 := HLEN.out
        show T.length - (z ++ ⟨#[32]⟩ ++ yx).size < T.length - z.size
        rw [ByteArray.size_append, ByteArray.size_append]
        have h2 : (⟨#[32]⟩ : ByteArray).size = 1 := rfl
        omega
    · have hfin := (HRE.out).2.2.2.2.1
      by_cases h4 : k = 4
      · subst h4
        rw [tail_null, List.append_nil] at hfin
        have HFI := Lib.hid hfin; clear hfin
        obtain ⟨c0, c1, c2, c3, c4⟩ := box_cells hh
        have hbb := Lib.hid (HRE.out).2.2.2.2.2
        clear hh
        go_wp2_with fail
        go_ret
        exact ⟨ret_str (by rw [HAT.out, HFI.out]; simp), hbb.out⟩
      · have hk6 : (k == 6) = false := by rw [beq_eq_false_iff_ne]; exact hk
        have hk4 : (k != 4) = true := by rw [bne_iff_ne]; exact h4
        rw [tail_else (t := .node k n' d' s' l) hk h4] at hfin
        have hbr := (HRE.out).2.2.2.2.2
        obtain ⟨yx, hyx⟩ : ∃ y : ByteArray, y.data.toList = (Dt.node k n' d' s' l).text NT := ⟨⟨((Dt.node k n' d' s' l).text NT).toArray⟩, rfl⟩
        have hlen : z.size + yx.size + 3 = T.length := by
          rw [hfin, ← hyx]
          simp only [List.length_append, List.length_cons]
          rw [← Lib.size_eq, ← Lib.size_eq]; omega
        have hT2 := HT2.out
        have hyx3 : yx.size ≤ 1152921504606846976 := by omega
        have hroomx : Roomy ((Dt.node k n' d' s' l).text NT) := by unfold Roomy; rw [← hyx, ← Lib.size_eq]; exact hyx3
        have C := IH.out _ (HRE.out).2.2.2.1 _ dp yx wr ((HRE.out).2.1.below hbr) (HRE.out).2.2.1 hroomx hyx
        have HC2 := Lib.hid C
        have HYX := Lib.hid hyx
        have HW := Lib.hid hfin
        have HBR := Lib.hid hbr
        obtain ⟨c0, c1, c2, c3, c4⟩ := box_cells hh
        clear C hyx hfin hlen hT2 hroomx hbr hh
        go_wp2_with fail
        refine (HC2.out).mono ?_
        rintro _ w2 ⟨rfl, hb2⟩
        have HB2 := Lib.hid ((HBR.out).trans (hb2.mono (HBR.out).size)); clear hb2
        go_wp2_with fail
        go_ret
        exact ⟨ret_str (by rw [HAT.out, HW.out, ← HYX.out]; simp), HB2.out⟩
end Go.Proofs.YtabofebepefbgaaDoor.Dat
