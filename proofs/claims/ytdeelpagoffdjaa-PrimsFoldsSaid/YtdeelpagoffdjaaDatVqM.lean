/- The program's own Items. -/
import Derived.Test.YtdeelpagoffdjaaDatVy
import Derived.Maps.AppendAt

namespace Go.Proofs.Ytdeelpagoffdjaa.Dat
open Go.RowKit
set_option linter.unusedVariables false
variable {R : Int → Int → Bool} {Nm : ByteArray → Bool} {NT : Int → Int → List UInt8}

theorem Dt.Row.on {w w' : World} (hc : ∀ b o v, w.cell? ⟨b, o, none⟩ = some v → w'.cell? ⟨b, o, none⟩ = some v) : ∀ {l : List Dt} {xs : List Value}, Dt.Row w l xs → Dt.Row w' l xs
  | [], _, h => h
  | t :: r, xs, h => by
    unfold Dt.Row at h ⊢
    obtain ⟨u0, u1, u2, u3, u4, ys, rfl, hx, hr⟩ := h
    exact ⟨u0, u1, u2, u3, u4, ys, rfl, hx.on hc, hr.on hc⟩
/-- The box and the row. -/
def Xv (B : Nat) (v : Value) (b : Nat) : Bool := b == B || decide (v.ownBlock = some b)
theorem Xv_no {B : Nat} {v : Value} {b : Nat} : Xv B v b = false ↔ b ≠ B ∧ v.ownBlock ≠ some b := by
  unfold Xv; simp
theorem own_lt {w : World} {B e size n : Nat} {v : Value} {xs : List Value} (h : w.ownsRow B e size v n xs) : ∀ k, v.ownBlock = some k → B ≤ k ∧ k < w.heap.size := World.ownsRow.lt h
theorem own_slice2 {W w' : World} (hc : ∀ b o v, W.cell? ⟨b, o, none⟩ = some v → w'.cell? ⟨b, o, none⟩ = some v) {B : Nat} {v : Value} {l : List Dt} {xs : List Value} (ho : w'.ownsRow B 37 5 v l.length xs) (hr : Dt.Row W l xs) : Dt.Slice w' l v := by
  obtain ⟨hlen, hv⟩ := ho
  rcases hv with ⟨rfl, h0⟩ | ⟨g, cap, cur, rfl, hB, hg, hn, hm, hs, ht⟩
  · exact ⟨none, 0, by rw [h0], Or.inl (List.eq_nil_of_length_eq_zero h0)⟩
  · refine ⟨_, cap, rfl, Or.inr ⟨g, 0, rfl, hr.allAt hc fun j v hj => ?_⟩⟩
    rw [← ht, List.getElem?_take] at hj
    split at hj
    · rw [cell_of_block hg]; simpa using hj
    · cases hj
/-- What holds in a round. -/
def MetO (R : Int → Int → Bool) (Nm : ByteArray → Bool) (w : World) (t : Dt) (acc : List Dt) (v : Value) (wr : World) (k n d : Int) (s : ByteArray) (l : List Dt) (p : Option Addr) (cap deep : Nat) (xs : List Value) : Prop :=
  wr.heap[w.heap.size]? = some (.cells #[.int .i64 k, .int .i64 n, .int .i64 d, .string s, .slice p l.length cap] 37 (0, 0)) ∧ (Dt.node k n d s l).At w (.agg #[.int .i64 k, .int .i64 n, .int .i64 d, .string s, .slice p l.length cap]) ∧
    (Dt.node k n d s l).right R Nm deep = true ∧ acc.length + (Dt.node k n d s l).size ≤ t.size ∧ t.items = (Dt.node k n d s l).items.map (acc ++ ·) ∧ Below w.heap.size w wr ∧ wr.ownsRow (w.heap.size + 1) 37 5 v acc.length xs ∧ Dt.Row (off wr (Xv w.heap.size v)) acc xs

set_option maxHeartbeats 4000000 in
set_option maxRecDepth 100000 in
/-- The program's Items, out of what its Right answers. -/
theorem ownItems_any (hQ : ∀ (t : Dt) (v : Value) (w : World), t.At w v → Calls Try.prog 21 #[v] w fun e w' => e = .returned (.bool (t.right R Nm 0)) ∧ Below w.heap.size w w')
    (t : Dt) (v : Value) (w : World) (hbig : t.size ≤ 100000) (hat : t.At w v) :
    Calls Try.prog 59 #[v] w fun e w' => ItemsPost R Nm t e w' ∧ Below w.heap.size w w' := by
  have hat2 := hat
  obtain ⟨k, n, d, s, l⟩ := t
  unfold Dt.At at hat2
  obtain ⟨-, -, -, -, -, p, cap, rfl, -⟩ := hat2
  have C := fun w1 (hb : Below w.heap.size w w1) => hQ (.node k n d s l) _ w1 (hat.below hb)
  have HC := Lib.hid C
  have HAT := Lib.hid hat
  clear C hat hQ
  cases hrt : (Dt.node k n d s l).right R Nm 0
  · have HRT := Lib.hid hrt; clear hrt
    go_enter Try.func59, Try.ntmps59
    go_wp2_with fail
    refine (HC.out _ (box_below _ _)).mono ?_
    rintro _ w1 ⟨rfl, hb1⟩
    rw [HRT.out]
    have HB1 := Lib.hid (below_after hb1); clear hb1
    go_wp2_with fail
    go_ret2
    exact ⟨Or.inl ⟨Or.inl HRT.out, rfl⟩, HB1.out⟩
  have HRT := Lib.hid hrt; clear hrt
  have HBIG := Lib.hid hbig; clear hbig
  go_enter Try.func59, Try.ntmps59
  go_wp2_with fail
  refine (HC.out _ (box_below _ _)).mono ?_
  rintro _ w1 ⟨rfl, hb1⟩
  rw [HRT.out]
  have hh1 := one_box hb1
  have hbw := below_after hb1
  have HH1 := Lib.hid (And.intro hh1 hbw)
  clear hb1 hh1 hbw
  go_wp2_with fail
  go_loopw [4] (fun u wr => ∃ (acc : List Dt) (k' n' d' : Int) (s' : ByteArray) (l' : List Dt) (p' : Option Addr) (cap' dp : Nat) (xs : List Value), MetO R Nm w (.node k n d s l) acc u wr k' n' d' s' l' p' cap' dp xs) (fun u _ => (Dt.node k n d s l).size - lenSl u)
  case atStart =>
    refine ⟨[], k, n, d, s, l, p, cap, 0, [], ?_⟩
    unfold MetO
    exact ⟨HH1.out.1, HAT.out, HRT.out, by simp, by simp, HH1.out.2, ⟨rfl, Or.inl ⟨rfl, rfl⟩⟩, rfl⟩
  case round =>
    obtain ⟨acc, k', n', d', s', l', p', cap', dp, xs, hmet⟩ := hrel
    have HM := Lib.hid hmet
    have hh := hmet.1
    have hsz := lt_of_block hh
    have hacc : acc.length ≤ 100000 := by
      have h1 := hmet.2.2.2.1
      have h2 := HBIG.out
      omega
    clear hmet
    by_cases hk : k' = 6
    · subst hk
      obtain ⟨x, q, rfl, hx, hq⟩ := pair_of (HM.out).2.2.1
      obtain ⟨_, _, _, _, _, _, _, he, _, _, _, _, hsl, _, hl⟩ := (HM.out).2.1.open5
      simp only [Dt.node.injEq] at he
      obtain ⟨_, _, _, _, rfl⟩ := he
      simp only [Value.slice.injEq, true_and] at hsl
      obtain ⟨rfl, _⟩ := hsl
      rcases hl with hl | ⟨b', o', rfl, hall⟩
      · cases hl
      obtain ⟨x0, x1, x2, x3, x4, i0, i1, i2, i3, i4, hxa⟩ := hall.kid (i := 0) (t := x) rfl
      obtain ⟨q0, q1, q2, q3, q4, j0, j1, j2, j3, j4, hqa⟩ := hall.kid (i := 1) (t := q) rfl
      simp only [Nat.zero_mul, Nat.add_zero, Nat.one_mul] at i0 i1 i2 i3 i4 j0 j1 j2 j3 j4
      have hbr := (HM.out).2.2.2.2.2.1
      have hown := (HM.out).2.2.2.2.2.2.1
      have HJ := Lib.hid (And.intro j0 (And.intro j1 (And.intro j2 (And.intro j3 j4))))
      replace i0 := cell_on hbr _ _ _ i0
      replace i1 := cell_on hbr _ _ _ i1
      replace i2 := cell_on hbr _ _ _ i2
      replace i3 := cell_on hbr _ _ _ i3
      replace i4 := cell_on hbr _ _ _ i4
      have hszx : 1 + q.size ≤ (Dt.node 6 n' d' s' [x, q]).size ∧ x.size ≤ (Dt.node 6 n' d' s' [x, q]).size := by
        simp only [Dt.size, Dt.sizes]; omega
      have hslim : x.slim := Dt.slim_size x (by have := (HM.out).2.2.2.1; have := HBIG.out; omega)
      have C := copied_any x (Xv w.heap.size u4) _ wr (fun b hb => Xv_no.2 ⟨by omega, fun e => by have := (own_lt hown b e).2; omega⟩) (hxa.on fun b o v hv => off_cell.2 ⟨Xv_no.2 ⟨by have := cell_lt hv; omega, fun e => by have := (own_lt hown b e).1; have := cell_lt hv; omega⟩, cell_on hbr _ _ _ hv⟩) hslim
      have HC2 := Lib.hid C
      have HBR := Lib.hid hbr
      have HQ := Lib.hid hqa
      have HQR := Lib.hid hq
      obtain ⟨kx, nx, dx, sx, lx, px, capx, _, rfl, rfl, rfl, rfl, rfl, _, _⟩ := hxa.open5
      obtain ⟨kq, nq, dq, sq, lq, pq, capq, hqe, rfl, rfl, rfl, rfl, rfl, _, _⟩ := hqa.open5
      have HQE := Lib.hid hqe
      have HSX := Lib.hid hszx.1
      have HOWN := Lib.hid hown
      obtain ⟨c0, _, _, _, c4⟩ := box_cells hh
      have HH := Lib.hid hh
      simp only [List.length_cons, List.length_nil, Nat.zero_add, Nat.reduceAdd] at c4 HH
      clear C hxa hqa hall hbr j0 j1 j2 j3 j4 hq hx hqe hszx hslim hown hh
      obtain ⟨i0', hi, hz⟩ := Option.map_eq_some_iff.1 Try.infoDt
      simp only [Prod.mk.injEq] at hz
      obtain ⟨hz0, hz1, hz2⟩ := hz
      have HI0 := Lib.hid (And.intro hi (And.intro hz0 (And.intro hz1 hz2)))
      clear hi hz0 hz1 hz2
      go_wp2_with fail
      refine (HC2.out).mono ?_
      rintro _ w2 ⟨⟨ku, nu, du, su, pu, lenu, capu, rfl, hu⟩, hb2⟩
      have hs2 := hb2.size
      have HB2 := Lib.hid hb2
      have HU := Lib.hid hu
      clear hb2 hu c0 c4 i0 i1 i2 i3 i4
      go_wp2_with (first
        | (at_builtin; refine wpList_append_own_at _ rfl (.tmp 15) (.tmp 21) 34 rfl (w.heap.size + 1) 37 i0' (.agg #[.int .i64 0, .int .i64 0, .int .i64 0, .string ⟨#[]⟩, .slice none 0 0]) 5 64 Try.underlying34 HI0.out.1 HI0.out.2.1 HI0.out.2.2.1 HI0.out.2.2.2 rfl (by decide) _ _ _ rfl ((row_below HOWN.out HB2.out).alloc _) ⟨w2.heap.size, 0, none⟩ 1 1 [.int .i64 ku, .int .i64 nu, .int .i64 du, .string su, .slice pu lenu capu] rfl rfl (five_new _ _ _ _ _ _ _) (by intro u hu; simp at hu; rcases hu with rfl | rfl | rfl | rfl | rfl <;> rfl) (by unfold maxLen; omega) (by omega) (by simp; omega) ?_
           intro v3 w3 hown3 hgrow3 hnil3 hat3
           have hown0 := row_below HOWN.out HB2.out
           have hb3 := (((HBR.out).trans ((HB2.out).mono (HBR.out).size)).alloc (by omega) (.cells #[.int .i64 ku, .int .i64 nu, .int .i64 du, .string su, .slice pu lenu capu] 37)).grown hgrow3 (by simp; omega) (own_up hown0)
           have hh3 := (hgrow3.block w.heap.size (by simp; omega) (own_ne hown0)).trans ((Below.heap_alloc _ _ _ (by omega)).trans (block_on HB2.out HH.out))
           obtain ⟨c0, c1, c2, c3, c4⟩ := box_cells hh3
           have z0 := box_frozen hh3 0
           have z1 := box_frozen hh3 1
           have z2 := box_frozen hh3 2
           have z3 := box_frozen hh3 3
           have z4 := box_frozen hh3 4
           have g0 := cell_on hb3 _ _ _ (HJ.out).1
           have g1 := cell_on hb3 _ _ _ (HJ.out).2.1
           have g2 := cell_on hb3 _ _ _ (HJ.out).2.2.1
           have g3 := cell_on hb3 _ _ _ (HJ.out).2.2.2.1
           have g4 := cell_on hb3 _ _ _ (HJ.out).2.2.2.2
           have HB3 := Lib.hid hb3
           have HO3 := Lib.hid hown3
           have HG3 := Lib.hid hgrow3
           have HA3 := Lib.hid hat3
           have HH3 := Lib.hid hh3
           clear hown0 hb3 hown3 hgrow3 hnil3 hat3 hh3))
      go_roundw
      case rel =>
        have htr : ∀ (b o : Nat) (v : Value), (off w2 (Xv w.heap.size u4)).cell? ⟨b, o, none⟩ = some v → (off (((((w3.setCell ⟨w.heap.size, 0, none⟩ (.int .i64 kq)).setCell ⟨w.heap.size, 1, none⟩ (.int .i64 nq)).setCell ⟨w.heap.size, 2, none⟩ (.int .i64 dq)).setCell ⟨w.heap.size, 3, none⟩ (.string sq)).setCell ⟨w.heap.size, 4, none⟩ (.slice pq lq.length capq)) (Xv w.heap.size v3)).cell? ⟨b, o, none⟩ = some v := by
          intro b o v hv
          refine off_on (fun b hb hx => ?_) (fun b hb hx => ?_) b o v hv
          · obtain ⟨h1, h2⟩ := Xv_no.1 hx
            refine Xv_no.2 ⟨h1, ?_⟩
            rcases HA3.out with e | e
            · rw [e]; exact h2
            · rw [e]; simp; omega
          · obtain ⟨h1, h2⟩ := Xv_no.1 hx
            exact (set_five_other h1).trans (((HG3.out).block b (by simp; omega) (fun e => h2 e.symm)).trans (Below.heap_alloc _ _ _ hb))
        refine ⟨acc ++ [x], kq, nq, dq, sq, lq, pq, capq, dp + 1, xs ++ [.int .i64 ku, .int .i64 nu, .int .i64 du, .string su, .slice pu lenu capu], ?_⟩
        unfold MetO
        rw [← HQE.out]
        refine ⟨set_five HH3.out, HQ.out, HQR.out, ?_, ?_, set_five_below HB3.out (Nat.le_refl _), ?_, ?_⟩
        · have h1 := (HM.out).2.2.2.1
          have h2 := HSX.out
          simp only [List.length_append, List.length_cons, List.length_nil]; omega
        · have h := (HM.out).2.2.2.2.1
          rw [items_pair] at h
          rw [h, Option.map_map]
          congr 1
          funext z; simp
        · rw [List.length_append]
          exact ownsRow_setCell_below (ownsRow_setCell_below (ownsRow_setCell_below (ownsRow_setCell_below (ownsRow_setCell_below HO3.out (Nat.lt_succ_self _) _) (Nat.lt_succ_self _) _) (Nat.lt_succ_self _) _) (Nat.lt_succ_self _) _) (Nat.lt_succ_self _) _
        · exact (((HM.out).2.2.2.2.2.2.2.on (off_later HB2.out)).on htr).snoc ((HU.out).on htr)
      case measure =>
        have h1 := own_len HO3.out
        have h2 := own_len (HM.out).2.2.2.2.2.2.1
        have h3 := (HM.out).2.2.2.1
        have h4 := (Dt.node 6 n' d' s' [x, q]).size_pos
        omega
    · have hbr := Lib.hid (HM.out).2.2.2.2.2.1
      have hown := Lib.hid (HM.out).2.2.2.2.2.2
      have hit := (HM.out).2.2.2.2.1
      obtain ⟨c0, _, _, _, _⟩ := box_cells hh
      by_cases h4 : k' = 4
      · subst h4
        rw [items_null] at hit
        have HIT := Lib.hid hit; clear hit hh
        go_wp2_with fail
        go_ret2
        exact ⟨Or.inr ⟨HRT.out, acc, _, by rw [HIT.out]; simp, rfl, own_slice2 (fun b o v hv => (off_cell.1 hv).2) hown.out.1 hown.out.2⟩, hbr.out⟩
      · rw [items_else hk h4] at hit
        have HIT := Lib.hid hit; clear hit hh
        have hk6 : (k' == 6) = false := by rw [beq_eq_false_iff_ne]; exact hk
        have hk4 : (k' != 4) = true := by rw [bne_iff_ne]; exact h4
        go_wp2_with fail
        go_ret2
        exact ⟨Or.inl ⟨Or.inr (by rw [HIT.out]; rfl), rfl⟩, hbr.out⟩
end Go.Proofs.Ytdeelpagoffdjaa.Dat
