/- The reference's Items. -/
import Derived.Test.YtabofebepefbgaaDoorDatL
import Derived.Laws.AppendOwn
import Derived.Laws.OwnMore
namespace Go.Proofs.YtabofebepefbgaaDoor.Dat
open Go.RowKit
set_option linter.unusedVariables false
variable {R : Int → Int → Bool} {Nm : ByteArray → Bool} {NT : Int → Int → List UInt8}

mutual
/-- The first ones of Pairs, one behind another, to a Null. -/
def Dt.items : Dt → Option (List Dt)
  | .node k _ _ _ l => if k = 6 then Dt.itemsL l else if k = 4 then some [] else none
def Dt.itemsL : List Dt → Option (List Dt)
  | [] => none
  | a :: r => (Dt.itemsR r).map (a :: ·)
def Dt.itemsR : List Dt → Option (List Dt)
  | [] => none
  | b :: _ => b.items
end
theorem items_pair (n d : Int) (s : ByteArray) (a b : Dt) : (Dt.node 6 n d s [a, b]).items = b.items.map (a :: ·) := by simp [Dt.items, Dt.itemsL, Dt.itemsR]
theorem items_null (n d : Int) (s : ByteArray) (l : List Dt) : (Dt.node 4 n d s l).items = some [] := by simp [Dt.items]
theorem items_else {k n d : Int} {s : ByteArray} {l : List Dt} (h6 : k ≠ 6) (h4 : k ≠ 4) : (Dt.node k n d s l).items = none := by simp [Dt.items, h6, h4]

/-- These are the cells of these data. -/
def Dt.Row (w : World) : List Dt → List Value → Prop
  | [], xs => xs = []
  | t :: r, xs => ∃ v0 v1 v2 v3 v4 ys, xs = v0 :: v1 :: v2 :: v3 :: v4 :: ys ∧ t.At w (.agg #[v0, v1, v2, v3, v4]) ∧ Dt.Row w r ys
theorem Dt.Row.snoc {w : World} : ∀ {l : List Dt} {xs : List Value} {t : Dt} {v0 v1 v2 v3 v4 : Value}, Dt.Row w l xs → t.At w (.agg #[v0, v1, v2, v3, v4]) → Dt.Row w (l ++ [t]) (xs ++ [v0, v1, v2, v3, v4])
  | [], xs, t, v0, v1, v2, v3, v4, h, ht => by
    unfold Dt.Row at h; subst h
    exact ⟨v0, v1, v2, v3, v4, [], rfl, ht, rfl⟩
  | x :: r, xs, t, v0, v1, v2, v3, v4, h, ht => by
    unfold Dt.Row at h
    obtain ⟨u0, u1, u2, u3, u4, ys, rfl, hx, hr⟩ := h
    exact ⟨u0, u1, u2, u3, u4, ys ++ [v0, v1, v2, v3, v4], rfl, hx, hr.snoc ht⟩
theorem Dt.Row.allAt {w w' : World} (hc : ∀ b o v, w.cell? ⟨b, o, none⟩ = some v → w'.cell? ⟨b, o, none⟩ = some v) {g : Nat} : ∀ {l : List Dt} {xs : List Value} {o : Nat}, Dt.Row w l xs → (∀ j v, xs[j]? = some v → w'.cell? ⟨g, o + j, none⟩ = some v) → Dt.AllAt w' l g o
  | [], _, _, _, _ => by unfold Dt.AllAt; trivial
  | t :: r, xs, o, h, hx => by
    unfold Dt.Row at h
    obtain ⟨v0, v1, v2, v3, v4, ys, rfl, ht, hr⟩ := h
    unfold Dt.AllAt
    refine ⟨⟨v0, v1, v2, v3, v4, hx 0 _ rfl, hx 1 _ rfl, hx 2 _ rfl, hx 3 _ rfl, hx 4 _ rfl, ht.on hc⟩, hr.allAt hc fun j v hj => ?_⟩
    have := hx (j + 5) v (by simpa using hj)
    rw [show o + (j + 5) = o + 5 + j by omega] at this
    exact this
def lenSl : Value → Nat
  | .slice _ n _ => n
  | _ => 0
theorem Tryd.infoDt : (Tryd.prog.info? 24).map (fun i => (i.zero, i.size, i.bytes)) = some (some (.agg #[.int .i64 0, .int .i64 0, .int .i64 0, .string ⟨#[]⟩, .slice none 0 0]), 5, 64) := by kernel_rfl
/-- The data lie in a slice. -/
def Dt.Slice (w : World) (l : List Dt) (v : Value) : Prop := ∃ p cap, v = .slice p l.length cap ∧ (l = [] ∨ ∃ b o, p = some ⟨b, o, none⟩ ∧ Dt.AllAt w l b o)
theorem own_slice {w w' : World} (hb : Below w.heap.size w w') {B : Nat} {v : Value} {l : List Dt} {xs : List Value} (ho : w'.ownsRow B 24 5 v l.length xs) (hr : Dt.Row w l xs) : Dt.Slice w' l v := by
  obtain ⟨hlen, hv⟩ := ho
  rcases hv with ⟨rfl, h0⟩ | ⟨g, cap, cur, rfl, hB, hg, hn, hm, hs, ht⟩
  · exact ⟨none, 0, by rw [h0], Or.inl (List.eq_nil_of_length_eq_zero h0)⟩
  · refine ⟨_, cap, rfl, Or.inr ⟨g, 0, rfl, hr.allAt (cell_on hb) fun j v hj => ?_⟩⟩
    rw [← ht] at hj
    rw [List.getElem?_take] at hj
    split at hj
    · unfold World.cell?
      simp [hg] at hj ⊢
      simpa using hj
    · cases hj
theorem row_below {w w' : World} {B e size n : Nat} {v : Value} {xs : List Value} (h : w.ownsRow B e size v n xs) (hb : Below w.heap.size w w') : w'.ownsRow B e size v n xs := by
  refine ⟨h.1, ?_⟩
  rcases h.2 with hn | ⟨g, cap, cur, rfl, hg, hgg, rest⟩
  · exact .inl hn
  · exact .inr ⟨g, cap, cur, rfl, hg, by rw [hb.block g (Array.getElem?_eq_some_iff.1 hgg).1]; exact hgg, rest⟩
/-- What holds in a round: the box holds the rest, the row what was met. -/
def Met (R : Int → Int → Bool) (Nm : ByteArray → Bool) (w : World) (t : Dt) (acc : List Dt) (v : Value) (wr : World) (k n d : Int) (s : ByteArray) (l : List Dt) (p : Option Addr) (cap deep : Nat) (xs : List Value) : Prop :=
  wr.heap[w.heap.size]? = some (.cells #[.int .i64 k, .int .i64 n, .int .i64 d, .string s, .slice p l.length cap] 24 (0, 0)) ∧ (Dt.node k n d s l).At w (.agg #[.int .i64 k, .int .i64 n, .int .i64 d, .string s, .slice p l.length cap]) ∧
    (Dt.node k n d s l).right R Nm deep = true ∧ acc.length + (Dt.node k n d s l).size ≤ t.size ∧ t.items = (Dt.node k n d s l).items.map (acc ++ ·) ∧ Below w.heap.size w wr ∧ wr.ownsRow (w.heap.size + 1) 24 5 v acc.length xs ∧ Dt.Row w acc xs

/-- What Items answers. -/
def ItemsPost (R : Int → Int → Bool) (Nm : ByteArray → Bool) (t : Dt) (e : Ending) (w' : World) : Prop :=
  ((t.right R Nm 0 = false ∨ t.items = none) ∧ e = .returned (.tuple #[.slice none 0 0, .bool false])) ∨
    (t.right R Nm 0 = true ∧ ∃ l v, t.items = some l ∧ e = .returned (.tuple #[v, .bool true]) ∧ Dt.Slice w' l v)
theorem own_ne {w : World} {B e size n : Nat} {v : Value} {xs : List Value} (h : w.ownsRow (B + 1) e size v n xs) : some B ≠ v.ownBlock := by
  rcases h.2 with ⟨rfl, _⟩ | ⟨g, cap, cur, rfl, hg, _⟩
  · simp [Value.ownBlock]
  · simp [Value.ownBlock]; omega
theorem own_up {w : World} {B e size n : Nat} {v : Value} {xs : List Value} (h : w.ownsRow (B + 1) e size v n xs) : ∀ k, v.ownBlock = some k → B ≤ k := by
  intro k hk
  rcases h.2 with ⟨rfl, _⟩ | ⟨g, cap, cur, rfl, hg, _⟩
  · cases hk
  · simp [Value.ownBlock] at hk; omega
theorem heap_cell {w : World} {B : Nat} {cs : Array Value} {t : TypeId} (h : w.heap[B]? = some (.cells cs t (0, 0))) {j : Nat} : w.cell? ⟨B, j, none⟩ = cs[j]? := by
  unfold World.cell?
  simp [h]
theorem five_new (w : World) (a0 a1 a2 a3 a4 : Value) (t : TypeId) : ∀ j u, [a0, a1, a2, a3, a4][j]? = some u → (w.alloc (.cells #[a0, a1, a2, a3, a4] t)).cell? ((⟨w.heap.size, 0, none⟩ : Addr).add j) = some u := by
  intro j u hj
  have hb : (w.alloc (.cells #[a0, a1, a2, a3, a4] t)).heap[w.heap.size]? = some (.cells #[a0, a1, a2, a3, a4] t (0, 0)) := by
    show (w.heap.push _)[w.heap.size]? = _
    simp
  rw [show ((⟨w.heap.size, 0, none⟩ : Addr).add j) = ⟨w.heap.size, j, none⟩ by simp [Addr.add]; intro h; exact h.symm, heap_cell hb]
  simpa using hj
theorem own_len {w : World} {B e size n : Nat} {v : Value} {xs : List Value} (h : w.ownsRow B e size v n xs) : lenSl v = n := by
  rcases h.2 with ⟨rfl, h0⟩ | ⟨g, cap, cur, rfl, hg, _⟩
  · exact h0.symm
  · rfl
set_option maxHeartbeats 2000000 in
set_option maxRecDepth 100000 in
theorem Items_any (hR : RCall R) (hNm : NCall Nm) (t : Dt) (v : Value) (w : World) (hbig : t.size ≤ 100000) (hat : t.At w v) :
    Calls Tryd.prog 13 #[v] w fun e w' => ItemsPost R Nm t e w' ∧ Below w.heap.size w w' := by
  have hat2 := hat
  obtain ⟨k, n, d, s, l⟩ := t
  unfold Dt.At at hat2
  obtain ⟨-, -, -, -, -, p, cap, rfl, -⟩ := hat2
  have C := fun w1 (hb : Below w.heap.size w w1) => Right_any R Nm hR hNm (.node k n d s l) _ w1 (hat.below hb)
  have HC := Lib.hid C
  have HAT := Lib.hid hat
  clear C hat
  cases hrt : (Dt.node k n d s l).right R Nm 0
  · have HRT := Lib.hid hrt; clear hrt
    go_enter Tryd.func13, Tryd.ntmps13
    go_wp2_with fail
    refine (HC.out _ (box_below _ _)).mono ?_
    rintro _ w1 ⟨rfl, hb1⟩
    rw [HRT.out]
    have HB1 := Lib.hid (below_after hb1); clear hb1
    go_wp2_with fail
    go_ret2
    exact ⟨Or.inl ⟨Or.inl HRT.out, rfl⟩, HB1.out⟩
  have HRT := Lib.hid hrt; clear hrt
  have HBIG := Lib.hid hbig; clear hbig
  go_enter Tryd.func13, Tryd.ntmps13
  go_wp2_with fail
  refine (HC.out _ (box_below _ _)).mono ?_
  rintro _ w1 ⟨rfl, hb1⟩
  rw [HRT.out]
  have hh1 := one_box hb1
  have hbw := below_after hb1
  have HH1 := Lib.hid (And.intro hh1 hbw)
  have hs1 : w.heap.size < w1.heap.size := by
    have := hb1.size; simp at this; omega
  clear hb1 hh1 hbw
  go_wp2_with fail
  go_loopw [4] (fun u wr => ∃ (acc : List Dt) (k' n' d' : Int) (s' : ByteArray) (l' : List Dt) (p' : Option Addr) (cap' dp : Nat) (xs : List Value), w.heap.size < wr.heap.size ∧ Met R Nm w (.node k n d s l) acc u wr k' n' d' s' l' p' cap' dp xs) (fun u _ => (Dt.node k n d s l).size - lenSl u)
  case atStart =>
    refine ⟨[], k, n, d, s, l, p, cap, 0, [], hs1, ?_⟩
    unfold Met
    exact ⟨HH1.out.1, HAT.out, HRT.out, by simp, by simp, HH1.out.2, ⟨rfl, Or.inl ⟨rfl, rfl⟩⟩, rfl⟩
  case round =>
    obtain ⟨acc, k', n', d', s', l', p', cap', dp, xs, hsz, hmet⟩ := hrel
    have HM := Lib.hid hmet
    have hh := hmet.1
    have hacc : acc.length ≤ 100000 := by
      have h1 := hmet.2.2.2.1
      have h2 := HBIG.out
      omega
    clear hmet
    by_cases hk : k' = 6
    · subst hk
      obtain ⟨x, q, rfl, hx, hq⟩ := pair_of (HM.out).2.2.1
      obtain ⟨_, _, _, _, _, _, _, he, _, _, _, _, hsl, _, hl⟩ := (HM.out).2.1.open5
      simp only [Dt.node.injEq] at he
      obtain ⟨_, _, _, _, rfl⟩ := he
      simp only [Value.slice.injEq, true_and] at hsl
      obtain ⟨rfl, _⟩ := hsl
      rcases hl with hl | ⟨b', o', rfl, hall⟩
      · cases hl
      obtain ⟨x0, x1, x2, x3, x4, i0, i1, i2, i3, i4, hxa⟩ := hall.kid (i := 0) (t := x) rfl
      obtain ⟨q0, q1, q2, q3, q4, j0, j1, j2, j3, j4, hqa⟩ := hall.kid (i := 1) (t := q) rfl
      simp only [Nat.zero_mul, Nat.add_zero, Nat.one_mul] at i0 i1 i2 i3 i4 j0 j1 j2 j3 j4
      have hbr := (HM.out).2.2.2.2.2.1
      have HI := Lib.hid (And.intro i0 (And.intro i1 (And.intro i2 (And.intro i3 i4))))
      have HJ := Lib.hid (And.intro j0 (And.intro j1 (And.intro j2 (And.intro j3 j4))))
      replace i0 := cell_on hbr _ _ _ i0
      replace i1 := cell_on hbr _ _ _ i1
      replace i2 := cell_on hbr _ _ _ i2
      replace i3 := cell_on hbr _ _ _ i3
      replace i4 := cell_on hbr _ _ _ i4
      have HBR := Lib.hid hbr
      have HX := Lib.hid hxa
      have HQ := Lib.hid hqa
      have HQR := Lib.hid hq
      obtain ⟨kx, nx, dx, sx, lx, px, capx, _, rfl, rfl, rfl, rfl, rfl, _, _⟩ := hxa.open5
      obtain ⟨kq, nq, dq, sq, lq, pq, capq, hqe, rfl, rfl, rfl, rfl, rfl, _, _⟩ := hqa.open5
      have HQE := Lib.hid hqe
      have hszx : 1 + q.size ≤ (Dt.node 6 n' d' s' [x, q]).size := by
        simp only [Dt.size, Dt.sizes]; omega
      have HSX := Lib.hid hszx
      obtain ⟨c0, _, _, _, c4⟩ := box_cells hh
      clear hxa hqa hall hbr j0 j1 j2 j3 j4 hq hx hqe hszx
      obtain ⟨i0', hi, hz⟩ := Option.map_eq_some_iff.1 Tryd.infoDt
      simp only [Prod.mk.injEq] at hz
      obtain ⟨hz0, hz1, hz2⟩ := hz
      have HI0 := Lib.hid (And.intro hi (And.intro hz0 (And.intro hz1 hz2)))
      clear hi hz0 hz1 hz2
      go_wp2_with (first
        | (at_builtin; refine wpList_append_own _ rfl (.tmp 11) (.tmp 16) 22 rfl (w.heap.size + 1) 24 i0' (.agg #[.int .i64 0, .int .i64 0, .int .i64 0, .string ⟨#[]⟩, .slice none 0 0]) 5 64 Tryd.underlying22 HI0.out.1 HI0.out.2.1 HI0.out.2.2.1 HI0.out.2.2.2 rfl (by decide) _ _ _ rfl ((HM.out).2.2.2.2.2.2.1.alloc _) ⟨wr.heap.size, 0, none⟩ 1 1 [.int .i64 kx, .int .i64 nx, .int .i64 dx, .string sx, .slice px lx.length capx] rfl rfl (five_new _ _ _ _ _ _ _) (by intro u hu; simp at hu; rcases hu with rfl | rfl | rfl | rfl | rfl <;> rfl) (by unfold maxLen; omega) (by omega) (by simp; omega) ?_
           intro v3 w3 hown3 hgrow3 hnil3
           have hown0 := (HM.out).2.2.2.2.2.2.1
           have hb3 := ((HBR.out).alloc (Nat.le_of_lt hsz) (.cells #[.int .i64 kx, .int .i64 nx, .int .i64 dx, .string sx, .slice px lx.length capx] 24)).grown hgrow3 (by simp; omega) (own_up hown0)
           have hh3 := (hgrow3.block w.heap.size (by simp; omega) (own_ne hown0)).trans ((Below.heap_alloc _ _ _ hsz).trans hh)
           obtain ⟨c0, c1, c2, c3, c4⟩ := box_cells hh3
           have z0 := box_frozen hh3 0
           have z1 := box_frozen hh3 1
           have z2 := box_frozen hh3 2
           have z3 := box_frozen hh3 3
           have z4 := box_frozen hh3 4
           have g0 := cell_on hb3 _ _ _ (HJ.out).1
           have g1 := cell_on hb3 _ _ _ (HJ.out).2.1
           have g2 := cell_on hb3 _ _ _ (HJ.out).2.2.1
           have g3 := cell_on hb3 _ _ _ (HJ.out).2.2.2.1
           have g4 := cell_on hb3 _ _ _ (HJ.out).2.2.2.2
           have HB3 := Lib.hid hb3
           have HO3 := Lib.hid hown3
           have HG3 := Lib.hid hgrow3
           have hs3 := hgrow3.size
           clear hown0 hb3 hown3 hgrow3 hnil3))
      go_roundw
      case rel =>
        refine ⟨acc ++ [x], kq, nq, dq, sq, lq, pq, capq, dp + 1, xs ++ [.int .i64 kx, .int .i64 nx, .int .i64 dx, .string sx, .slice px lx.length capx], ?_, ?_⟩
        · have h1 := HB3.out.size
          simp only [World.setCell, Array.size_modify]
          have h2 := HG3.out.size
          simp at h2; omega
        · unfold Met
          rw [← HQE.out]
          refine ⟨?_, HQ.out, HQR.out, ?_, ?_, ?_, ?_, (HM.out).2.2.2.2.2.2.2.snoc HX.out⟩
          · refine (heap_setCell_same _ _ 4 _ 24 _ (heap_setCell_same _ _ 3 _ 24 _ (heap_setCell_same _ _ 2 _ 24 _ (heap_setCell_same _ _ 1 _ 24 _ (heap_setCell_same _ _ 0 _ 24 _ hh3))))).trans ?_
            simp
          · have h1 := (HM.out).2.2.2.1
            have h2 := HSX.out
            simp only [List.length_append, List.length_cons, List.length_nil]; omega
          · have h := (HM.out).2.2.2.2.1
            rw [items_pair] at h
            rw [h, Option.map_map]
            congr 1
            funext z; simp
          · exact (((((HB3.out).setCell (Nat.le_refl _) _).setCell (Nat.le_refl _) _).setCell (Nat.le_refl _) _).setCell (Nat.le_refl _) _).setCell (Nat.le_refl _) _
          · rw [List.length_append]
            exact ownsRow_setCell_below (ownsRow_setCell_below (ownsRow_setCell_below (ownsRow_setCell_below (ownsRow_setCell_below HO3.out (Nat.lt_succ_self _) _) (Nat.lt_succ_self _) _) (Nat.lt_succ_self _) _) (Nat.lt_succ_self _) _) (Nat.lt_succ_self _) _
      case measure =>
        have h1 := own_len HO3.out
        have h2 := own_len (HM.out).2.2.2.2.2.2.1
        have h3 := (HM.out).2.2.2.1
        have h4 := (Dt.node 6 n' d' s' [x, q]).size_pos
        omega
    · have hbr := Lib.hid (HM.out).2.2.2.2.2.1
      have hown := Lib.hid (HM.out).2.2.2.2.2.2
      have hit := (HM.out).2.2.2.2.1
      obtain ⟨c0, _, _, _, _⟩ := box_cells hh
      by_cases h4 : k' = 4
      · subst h4
        rw [items_null] at hit
        have HIT := Lib.hid hit; clear hit hh
        go_wp2_with fail
        go_ret2
        exact ⟨Or.inr ⟨HRT.out, acc, _, by rw [HIT.out]; simp, rfl, own_slice hbr.out hown.out.1 hown.out.2⟩, hbr.out⟩
      · rw [items_else hk h4] at hit
        have HIT := Lib.hid hit; clear hit hh
        have hk6 : (k' == 6) = false := by rw [beq_eq_false_iff_ne]; exact hk
        have hk4 : (k' != 4) = true := by rw [bne_iff_ne]; exact h4
        go_wp2_with fail
        go_ret2
        exact ⟨Or.inl ⟨Or.inr (by rw [HIT.out]; rfl), rfl⟩, hbr.out⟩
end Go.Proofs.YtabofebepefbgaaDoor.Dat
