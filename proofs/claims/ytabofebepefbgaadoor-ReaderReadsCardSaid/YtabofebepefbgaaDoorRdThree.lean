/- The program's reader: lists. -/
import Derived.Test.YtabofebepefbgaaDoorRdTwo
import Derived.Test.YtabofebepefbgaaDoorRdOne
import Derived.Test.YtabofebepefbgaaDoorDatVv
import Derived.Deep.RegionHeld3
import Derived.Deep.AppendLies
import Derived.Deep.RegionWith
import Derived.Deep.RegionLaw
import Derived.Recover
import Derived.Defers


namespace Go.Proofs.YtabofebepefbgaaDoor.Dat
open Go.RowKit
set_option linter.unusedVariables false

abbrev Zero5 : Obj := .cells #[.int .i64 0, .int .i64 0, .int .i64 0, .string ⟨#[]⟩, .slice none 0 0] 24 (0, 0)
abbrev Five (k n d : Int) (s : ByteArray) (v : Value) : Obj := .cells #[.int .i64 k, .int .i64 n, .int .i64 d, .string s, v] 24 (0, 0)
/-- The blocks ahead of this one, and the row's own. -/
def Xo (n : Nat) (v : Value) (b : Nat) : Bool := old n b || decide (v.ownBlock = some b)
theorem Xo_no {n : Nat} {v : Value} {b : Nat} : Xo n v b = false ↔ n ≤ b ∧ v.ownBlock ≠ some b := by
  unfold Xo; simp
/-- What has been read of a list: two boxes, and a row of data in new memory. -/
structure Held (B : Nat) (w : World) (acc : List Dt) (v : Value) (xs : List Value) (E : Obj) (wr : World) : Prop where
  keeps : Keeps B w wr
  size : w.heap.size + 2 ≤ wr.heap.size
  res : wr.heap[w.heap.size]? = some Zero5
  box : wr.heap[w.heap.size + 1]? = some E
  own : wr.ownsRow (w.heap.size + 2) 24 5 v acc.length xs
  row : Dt.Row (off wr (Xo (w.heap.size + 2) v)) acc xs
theorem own_keeps {w wr w1 : World} {B n m : Nat} {v : Value} {xs : List Value} (h : wr.ownsRow n 24 5 v m xs) (hk : Keeps B wr w1) (hB : B < n) : w1.ownsRow n 24 5 v m xs := by
  refine ⟨h.1, ?_⟩
  rcases h.2 with hn | ⟨g, cap, cur, rfl, hg, hgg, rest⟩
  · exact .inl hn
  · exact .inr ⟨g, cap, cur, rfl, hg, keeps_block hk hgg (by omega), rest⟩
theorem off_keeps {wr w1 : World} {B n : Nat} {v : Value} (hk : Keeps B wr w1) (hB : B < n) (b o : Nat) (u : Value) (hu : (off wr (Xo n v)).cell? ⟨b, o, none⟩ = some u) : (off w1 (Xo n v)).cell? ⟨b, o, none⟩ = some u :=
  off_on (fun _ _ hx => hx) (fun k hk' hx => hk.block k hk' (by have := (Xo_no.1 hx).1; omega)) b o u hu
theorem Held.on {B : Nat} {w wr w1 : World} {acc : List Dt} {v : Value} {xs : List Value} {E : Obj} (h : Held B w acc v xs E wr) (hk : Keeps B wr w1) (hB : B < w.heap.size) : Held B w acc v xs E w1 :=
  ⟨h.keeps.trans hk, Nat.le_trans h.size hk.size, keeps_block hk h.res (by omega), keeps_block hk h.box (by omega), own_keeps (w := w) h.own hk (by omega), h.row.on (off_keeps hk (by omega))⟩
/-- The row, as a slice whose data lie in new memory. -/
theorem Held.slice {B : Nat} {w wr : World} {acc : List Dt} {v : Value} {xs : List Value} {E : Obj} (h : Held B w acc v xs E wr) :
    ∃ p cap, v = .slice p acc.length cap ∧ (acc = [] ∨ ∃ b o, p = some ⟨b, o, none⟩ ∧ Dt.AllAt (off wr (old (w.heap.size + 2))) acc b o) := by
  obtain ⟨hlen, hv⟩ := h.own
  rcases hv with ⟨rfl, h0⟩ | ⟨g, cap, cur, rfl, hB, hg, hn, hm, hs, ht⟩
  · exact ⟨none, 0, by rw [h0], Or.inl (List.eq_nil_of_length_eq_zero h0)⟩
  · refine ⟨_, cap, rfl, Or.inr ⟨g, 0, rfl, h.row.allAt (w' := off wr (old (w.heap.size + 2))) (fun b o u hu => ?_) fun j u hj => ?_⟩⟩
    · obtain ⟨h0, hc⟩ := off_cell.1 hu
      exact off_cell.2 ⟨decide_eq_false (by have := (Xo_no.1 h0).1; omega), hc⟩
    · rw [← ht, List.getElem?_take] at hj
      refine off_cell.2 ⟨decide_eq_false (by omega), ?_⟩
      split at hj
      · rw [cell_of_block hg]; simpa using hj
      · cases hj
/-- One datum more. -/
theorem Held.push {B : Nat} {w W w3 : World} {acc : List Dt} {v v3 : Value} {xs : List Value} {E : Obj} {d : Dt} {u0 u1 u2 u3 u4 : Value} (h : Held B w acc v xs E W) (hd : d.At (off W (Xo (w.heap.size + 2) v)) (.agg #[u0, u1, u2, u3, u4])) (hB : B < w.heap.size) (O : Obj)
    (ho : w3.ownsRow (w.heap.size + 2) 24 5 v3 (acc.length + 1) (xs ++ [u0, u1, u2, u3, u4])) (hg : (W.alloc O).grownBy w3 v.ownBlock) (ha : v3.ownBlock = v.ownBlock ∨ v3.ownBlock = some (W.alloc O).heap.size) :
    Held B w (acc ++ [d]) v3 (xs ++ [u0, u1, u2, u3, u4]) E w3 ∧ ∀ b, b < w.heap.size + 2 → w3.heap[b]? = W.heap[b]? := by
  have hlo : ∀ b, v.ownBlock = some b → w.heap.size + 2 ≤ b := fun b hb => (own_lt h.own b hb).1
  have hsame : ∀ b, b < W.heap.size → v.ownBlock ≠ some b → w3.heap[b]? = W.heap[b]? := fun b hb hn => (hg.block b (by simp; omega) (fun e => hn e.symm)).trans (Below.heap_alloc _ _ _ hb)
  have hs := h.size
  have hsm : ∀ b, b < w.heap.size + 2 → w3.heap[b]? = W.heap[b]? := fun b hb => hsame b (by omega) (fun e => by have := hlo b e; omega)
  have hsz : W.heap.size ≤ w3.heap.size := by have := hg.size; simp at this; omega
  have htr : ∀ (b o : Nat) (u : Value), (off W (Xo (w.heap.size + 2) v)).cell? ⟨b, o, none⟩ = some u → (off w3 (Xo (w.heap.size + 2) v3)).cell? ⟨b, o, none⟩ = some u := by
    intro b o u hu
    refine off_on (fun b hb hx => ?_) (fun b hb hx => hsame b hb (Xo_no.1 hx).2) b o u hu
    obtain ⟨h1, h2⟩ := Xo_no.1 hx
    refine Xo_no.2 ⟨h1, ?_⟩
    rcases ha with e | e
    · rw [e]; exact h2
    · rw [e]; simp; omega
  have hbw : Below w.heap.size W w3 := ((Below.refl w.heap.size W).alloc (by omega) O).grown hg (by simp; omega) (fun b hb => by have := hlo b hb; omega)
  have hk : Keeps B w w3 := ⟨hbw.os.trans h.keeps.os, hbw.tape.trans h.keeps.tape, hbw.output.trans h.keeps.output, Nat.le_trans h.keeps.size hsz, fun k hk hn => (hbw.block k hk).trans (h.keeps.block k hk hn)⟩
  refine ⟨⟨hk, by omega, (hsm _ (by omega)).trans h.res, (hsm _ (by omega)).trans h.box, by rw [List.length_append]; exact ho, (h.row.on htr).snoc (hd.on htr)⟩, hsm⟩

/-- What the reader's datum answers, where fewer bytes than so many are left. -/
def OneAt (N : Nat) : Prop := ∀ (B : Nat) (s : ByteArray) (a : Nat) (w : World) (res : Res Dt), s.size - a < N → w.heap[B]? = some (Tx s a) → a ≤ s.size → s.size ≤ 65536 → Rd .one (s.data.toList.drop a) res →
  Calls Tryd.prog 65 #[.pointer (some ⟨B, 0, none⟩)] w fun e w' => Told B s res w e w'
/-- What holds ahead of each round. -/
def Lst (B : Nat) (s : ByteArray) (a : Nat) (w : World) (res : Res Dt) (g : Nat) (v : Value) (wr : World) : Prop :=
  ∃ (acc : List Dt) (xs : List Value) (b : Nat), acc.length ≤ b ∧ a ≤ b ∧ b ≤ s.size ∧ s.size - b ≤ g ∧ wr.heap[B]? = some (Tx s b) ∧ Rd (.list acc) (s.data.toList.drop b) res ∧ Held B w acc v xs (Five 4 0 0 ⟨#[]⟩ (.slice none 0 0)) wr
theorem drop_tail {s : ByteArray} {b : Nat} {c : UInt8} {r : List UInt8} (h : s.data.toList.drop b = c :: r) : b < s.size ∧ s.data.toList.drop (b + 1) = r := by
  have h1 := congrArg List.length h
  have hb : b < s.size := by simp at h1; omega
  refine ⟨hb, ?_⟩
  rw [drop_cons s b hb] at h
  exact (List.cons.inj h).2
theorem null_off (w : World) : nullD.At w (.agg #[.int .i64 4, .int .i64 0, .int .i64 0, .string ⟨#[]⟩, .slice none 0 0]) := leaf_off _ _ _ _ _ (by unfold I64; omega) (by unfold I64; omega) (by unfold I64; omega) (by unfold maxLen; decide)

theorem at_five {w : World} {t : Dt} {u : Value} (h : t.At w u) : ∃ k n d s p len cap, u = .agg #[.int .i64 k, .int .i64 n, .int .i64 d, .string s, .slice p len cap] := by
  obtain ⟨k, n, d, s, l⟩ := t
  unfold Dt.At at h
  obtain ⟨-, -, -, -, -, p, cap, rfl, -⟩ := h
  exact ⟨k, n, d, s, p, l.length, cap, rfl⟩
theorem Held.rows {B : Nat} {w wr : World} {acc : List Dt} {p : Option Addr} {cap : Nat} {xs : List Value} {E : Obj} (h : Held B w acc (.slice p acc.length cap) xs E wr) : acc = [] ∨ ∃ b o, p = some ⟨b, o, none⟩ ∧ Dt.AllAt (off wr (old (w.heap.size + 2))) acc b o := by
  obtain ⟨p', cap', e, h⟩ := h.slice
  simp only [Value.slice.injEq, true_and] at e
  obtain ⟨rfl, rfl⟩ := e
  exact h
theorem Held.boxed {B : Nat} {w wr : World} {acc : List Dt} {v : Value} {xs : List Value} {k0 n0 d0 : Int} {s0 : ByteArray} {v0 : Value} (h : Held B w acc v xs (Five k0 n0 d0 s0 v0) wr) (hB : B < w.heap.size) (k n d : Int) (s : ByteArray) (u : Value) :
    Held B w acc v xs (Five k n d s u) (((((wr.setCell ⟨w.heap.size + 1, 0, none⟩ (.int .i64 k)).setCell ⟨w.heap.size + 1, 1, none⟩ (.int .i64 n)).setCell ⟨w.heap.size + 1, 2, none⟩ (.int .i64 d)).setCell ⟨w.heap.size + 1, 3, none⟩ (.string s)).setCell ⟨w.heap.size + 1, 4, none⟩ u) := by
  have ho : ∀ b, b ≠ w.heap.size + 1 → (((((wr.setCell ⟨w.heap.size + 1, 0, none⟩ (.int .i64 k)).setCell ⟨w.heap.size + 1, 1, none⟩ (.int .i64 n)).setCell ⟨w.heap.size + 1, 2, none⟩ (.int .i64 d)).setCell ⟨w.heap.size + 1, 3, none⟩ (.string s)).setCell ⟨w.heap.size + 1, 4, none⟩ u).heap[b]? = wr.heap[b]? := fun b hb => set_five_other hb
  refine ⟨keeps_five h.keeps (Nat.le_succ _), by rw [set_five_size]; exact h.size, (ho _ (by omega)).trans h.res, set_five h.box, ?_, h.row.on fun b o x hx => off_on (fun _ _ hx => hx) (fun b _ hx => ho b (by have := (Xo_no.1 hx).1; omega)) b o x hx⟩
  refine ⟨h.own.1, ?_⟩
  rcases h.own.2 with hn | ⟨g, cap, cur, rfl, hg, hgg, rest⟩
  · exact .inl hn
  · exact .inr ⟨g, cap, cur, rfl, hg, (ho g (by omega)).trans hgg, rest⟩
theorem keeps_old {B n : Nat} {w w' : World} (h : Keeps B w w') (hB : B < n) (b o : Nat) (v : Value) (hv : (off w (old n)).cell? ⟨b, o, none⟩ = some v) : (off w' (old n)).cell? ⟨b, o, none⟩ = some v :=
  off_on (fun _ _ hx => hx) (fun k hk hx => h.block k hk (by have := of_decide_eq_false hx; omega)) b o v hv
/-- What lies in newer memory than the row does not lie in the row. -/
theorem xo_up {B : Nat} {w wr w' : World} {acc : List Dt} {v : Value} {xs : List Value} {E : Obj} (h : Held B w acc v xs E wr) (b o : Nat) (u : Value) (hu : (off w' (old wr.heap.size)).cell? ⟨b, o, none⟩ = some u) : (off w' (Xo (w.heap.size + 2) v)).cell? ⟨b, o, none⟩ = some u := by
  obtain ⟨h0, hc⟩ := off_cell.1 hu
  have h1 := of_decide_eq_false h0
  exact off_cell.2 ⟨Xo_no.2 ⟨by have := h.size; omega, fun e => by have := (own_lt h.own b e).2; omega⟩, hc⟩
/-- What is answered lies in the result's box. -/
theorem list_fin {B : Nat} {s : ByteArray} {w W w2 : World} {acc : List Dt} {v : Value} {xs : List Value} {E : Obj} {c : Nat} {t : Dt} {k n d : Int} {s' : ByteArray} {p : Option Addr} {len cap : Nat} (h : Held B w acc v xs E W) (hB : B < w.heap.size) (hh : W.heap[B]? = some (Tx s c)) (hc : c ≤ s.size) (hb2 : Below W.heap.size W w2)
    (hu : t.At (off w2 (old (w.heap.size + 2))) (.agg #[.int .i64 k, .int .i64 n, .int .i64 d, .string s', .slice p len cap])) :
    Told B s (.ok t (s.data.toList.drop c)) w (.returned (.agg #[.int .i64 k, .int .i64 n, .int .i64 d, .string s', .slice p len cap]))
      (((((w2.setCell ⟨w.heap.size, 0, none⟩ (.int .i64 k)).setCell ⟨w.heap.size, 1, none⟩ (.int .i64 n)).setCell ⟨w.heap.size, 2, none⟩ (.int .i64 d)).setCell ⟨w.heap.size, 3, none⟩ (.string s')).setCell ⟨w.heap.size, 4, none⟩ (.slice p len cap)) := by
  refine ⟨keeps_five (h.keeps.trans (Keeps.of hb2)) (Nat.le_refl _), Or.inr ⟨_, _, _, c, rfl, rfl, ?_, hc, (set_five_other (Nat.ne_of_lt hB)).trans (block_on hb2 hh), rfl⟩⟩
  refine hu.on fun b o x hx => off_on (X := old (w.heap.size + 2)) (fun b _ hx => decide_eq_false (by have := of_decide_eq_false hx; omega)) (fun b _ hx => set_five_other (by have := of_decide_eq_false hx; omega)) b o x hx

set_option maxHeartbeats 4000000 in
set_option maxRecDepth 100000 in
theorem list_any (N : Nat) (ih : OneAt N) (B : Nat) (s : ByteArray) (a : Nat) (w : World) (res : Res Dt) (hN : s.size - a < N) (hb : w.heap[B]? = some (Tx s a)) (ha : a ≤ s.size) (hs : s.size ≤ 65536) (hr : Rd (.list []) (s.data.toList.drop a) res) :
    Calls Tryd.prog 84 #[.pointer (some ⟨B, 0, none⟩)] w fun e w' => Told B s res w e w' := by
  have hB : B < w.heap.size := (Array.getElem?_eq_some_iff.1 hb).1
  have HB := Lib.hid hb; clear hb
  have HR := Lib.hid hr; clear hr
  have IH := Lib.hid ih; clear ih
  go_enter Tryd.func84, Tryd.ntmps84
  go_wp2_with fail
  go_loopg [3] (s.size - a) (fun g v wr => Lst B s a w res g v wr)
  case atStart =>
    refine ⟨[], [], a, by simp, Nat.le_refl _, ha, Nat.le_refl _, block_on (two_below _ _ _) HB.out, HR.out, ⟨Keeps.of (two_below _ _ _), by simp, two_first _ _ _, two_second _ _ _, ⟨rfl, Or.inl ⟨rfl, rfl⟩⟩, rfl⟩⟩
  case round =>
    obtain ⟨acc, xs, b, hacc, hab, hb, hg, hh, hrd, hheld⟩ := hrel
    obtain ⟨p, cap, rfl, hslice⟩ := hheld.slice
    have HH := Lib.hid hheld
    have HSL := Lib.hid hslice; clear hslice
    cases hrd with
    | lNone hsk =>
      have HN := Lib.hid (next_out B s b wr hh hb hs hsk)
      have HH' := Lib.hid hh; clear hh hheld hsk
      go_wp2_with fail
      refine (HN.out).mono ?_
      rintro _ w1 ⟨rfl, hk⟩
      have HK := Lib.hid hk; clear hk
      go_wp2_with fail
      exact ⟨rfl, HH.out.keeps.trans HK.out, Or.inl ⟨[], rfl, rfl⟩⟩
    | @lShut _ _ r hsk =>
      have HN := Lib.hid (next_in B s b wr 41 r hh hb hs hsk)
      clear hh hheld hsk
      go_wp2_with fail
      refine (HN.out).mono ?_
      rintro _ w1 ⟨rfl, hk, b1, hb1, hh1, hd1⟩
      obtain ⟨hlt, hd2⟩ := drop_tail hd1
      obtain ⟨c0, c1, z1⟩ := tx_cells hh1
      have hheld := HH.out.on hk hB
      have hw1 : IntKind.i64.wrap ((b1 : Int) + 1) = (b1 : Int) + 1 := IntWalk.i64_in _ (by omega)
      have hn0 : ((41 : Int) != 41) = false := rfl
      have hne0 : ¬ B = w.heap.size + 1 := by omega
      have hne1 : ¬ w.heap.size + 1 = B := by omega
      obtain ⟨q0, q1, q2, q3, q4⟩ := box_cells hheld.box
      have heldW := hheld.on ((Keeps.refl B w1).setCell 1 (.int .i64 ((b1 : Int) + 1))) hB
      have hhW := tx_set (b1 + 1) hh1 (show ((b1 : Int) + 1) = ((b1 + 1 : Nat) : Int) by omega)
      have C := chain_any (old (w.heap.size + 2)) nullD 4 0 0 ⟨#[]⟩ [] none 0 acc p cap _ (fun b hb => decide_eq_false (by have := heldW.size; omega)) rfl (null_off _) (by unfold maxLen; omega) heldW.rows
      have HC := Lib.hid C; clear C
      have HK := Lib.hid (And.intro heldW (And.intro hd2 hhW)); clear hh1 hd2 hd1 hheld hk heldW hhW
      go_wp2_with fail
      refine (HC.out).mono ?_
      rintro _ w2 ⟨⟨u, rfl, hu⟩, hb2⟩
      obtain ⟨k, n, d, s', p', len', cap', rfl⟩ := at_five hu
      have hbx := block_on hb2 HK.out.1.res
      have y0 := box_frozen hbx 0
      have y1 := box_frozen hbx 1
      have y2 := box_frozen hbx 2
      have y3 := box_frozen hbx 3
      have y4 := box_frozen hbx 4
      obtain ⟨v0, v1, v2, v3, v4⟩ := box_cells hbx
      have hfin := list_fin HK.out.1 hB HK.out.2.2 (by omega) hb2 hu
      rw [HK.out.2.1] at hfin
      have HF := Lib.hid (And.intro hbx hfin); clear hbx hb2 hu hfin
      go_wp2_with fail
      refine bodyPost_ret (results_cell_row rfl _ _ w.heap.size 24 _ (0, 0) _ rfl (set_five (b0 := .int .i64 k) (b1 := .int .i64 n) (b2 := .int .i64 d) (b3 := .string s') (b4 := .slice p' len' cap') HF.out.1) Tryd.underlying24 rfl Tryd.sizeDt) rfl ?_
      exact HF.out.2
    | @lDotBad _ _ r q hsk hne hr1 =>
      have HSK := Lib.hid (show (46 :: r).length ≤ s.size - b by rw [← hsk]; have := skip_len false (s.data.toList.drop b); simpa using this)
      have HN := Lib.hid (next_in B s b wr 46 r hh hb hs hsk)
      have HRD := Lib.hid hr1
      have hpos : (0 : Int) < acc.length := by have := List.length_pos_iff.2 hne; omega
      clear hh hheld hsk hr1 hne
      go_wp2_with fail
      refine (HN.out).mono ?_
      rintro _ w1 ⟨rfl, hk, b1, hb1, hh1, hd1⟩
      obtain ⟨hlt, hd2⟩ := drop_tail hd1
      have hheld := HH.out.on hk hB
      have hw1 : IntKind.i64.wrap ((b1 : Int) + 1) = (b1 : Int) + 1 := IntWalk.i64_in _ (by omega)
      have C := here_in B s b1 w1 hh1 hlt hs
      rw [show s[b1] = 46 by rw [drop_cons s b1 hlt] at hd1; exact (List.cons.inj hd1).1] at C
      have HC0 := Lib.hid C; clear C
      have HD1 := Lib.hid (And.intro hh1 (And.intro hd2 hheld)); clear hh1 hd2 hd1 hheld hk
      go_wp2_with fail
      refine (HC0.out).mono ?_
      rintro _ w2 ⟨rfl, k, hw2⟩
      have hh2 : w2.heap[B]? = some (Tx s b1) := by rw [hw2]; exact HD1.out.1
      have heldW := (HD1.out.2.2.on (show Keeps B w1 w2 by rw [hw2]; exact Keeps.of (below_drewN _ _)) hB).on ((Keeps.refl B w2).setCell 1 (.int .i64 ((b1 : Int) + 1))) hB
      have hhW := tx_set (b1 + 1) hh2 (show ((b1 : Int) + 1) = ((b1 + 1 : Nat) : Int) by omega)
      obtain ⟨c0, c1, z1⟩ := tx_cells hh2
      have C := IH.out B s (b1 + 1) _ _ (by have := HSK.out; have h3 := congrArg List.length HD1.out.2.1; simp at this h3; omega) hhW (by omega) hs (HD1.out.2.1.symm ▸ HRD.out)
      have HC := Lib.hid C
      have HK := Lib.hid heldW
      clear C hh2 hhW heldW hw2
      go_wp2_with fail
      refine (HC.out).mono ?_
      intro e w3 ht
      obtain ⟨hk3, rfl⟩ := told_bad ht
      have HT := Lib.hid hk3; clear hk3 ht
      go_wp2_with fail
      exact ⟨rfl, HK.out.keeps.trans HT.out, Or.inl ⟨q, rfl, rfl⟩⟩
    | @lDotNone _ _ r d q hsk hne hr1 hsq =>
      have HSK := Lib.hid (show (46 :: r).length ≤ s.size - b by rw [← hsk]; have := skip_len false (s.data.toList.drop b); simpa using this)
      have HN := Lib.hid (next_in B s b wr 46 r hh hb hs hsk)
      have HRD := Lib.hid hr1
      have hpos : (0 : Int) < acc.length := by have := List.length_pos_iff.2 hne; omega
      clear hh hheld hsk hr1 hne
      go_wp2_with fail
      refine (HN.out).mono ?_
      rintro _ w1 ⟨rfl, hk, b1, hb1, hh1, hd1⟩
      obtain ⟨hlt, hd2⟩ := drop_tail hd1
      have hheld := HH.out.on hk hB
      have hw1 : IntKind.i64.wrap ((b1 : Int) + 1) = (b1 : Int) + 1 := IntWalk.i64_in _ (by omega)
      have C := here_in B s b1 w1 hh1 hlt hs
      rw [show s[b1] = 46 by rw [drop_cons s b1 hlt] at hd1; exact (List.cons.inj hd1).1] at C
      have HC0 := Lib.hid C; clear C
      have HD1 := Lib.hid (And.intro hh1 (And.intro hd2 hheld)); clear hh1 hd2 hd1 hheld hk
      go_wp2_with fail
      refine (HC0.out).mono ?_
      rintro _ w2 ⟨rfl, k, hw2⟩
      have hh2 : w2.heap[B]? = some (Tx s b1) := by rw [hw2]; exact HD1.out.1
      have heldW := (HD1.out.2.2.on (show Keeps B w1 w2 by rw [hw2]; exact Keeps.of (below_drewN _ _)) hB).on ((Keeps.refl B w2).setCell 1 (.int .i64 ((b1 : Int) + 1))) hB
      have hhW := tx_set (b1 + 1) hh2 (show ((b1 : Int) + 1) = ((b1 + 1 : Nat) : Int) by omega)
      obtain ⟨c0, c1, z1⟩ := tx_cells hh2
      have C := IH.out B s (b1 + 1) _ _ (by have := HSK.out; have h3 := congrArg List.length HD1.out.2.1; simp at this h3; omega) hhW (by omega) hs (HD1.out.2.1.symm ▸ HRD.out)
      have HC := Lib.hid C
      have HK := Lib.hid heldW
      clear C hh2 hhW heldW hw2
      go_wp2_with fail
      refine (HC.out).mono ?_
      intro e w3 ht
      obtain ⟨hk3, dk, dn, dd, ds, dp, dlen, dcap, b3, rfl, hat, hb3, hh3, hd3⟩ := told_ok ht
      have held3 := HK.out.on hk3 hB
      have y0 := box_frozen held3.box 0
      have y1 := box_frozen held3.box 1
      have y2 := box_frozen held3.box 2
      have y3 := box_frozen held3.box 3
      have y4 := box_frozen held3.box 4
      obtain ⟨v0, v1, v2, v3, v4⟩ := box_cells held3.box
      have held4 := held3.boxed hB (dk) (dn) (dd) (ds) (.slice dp dlen dcap)
      have hh4 := (set_five_other (w := w3) (B := w.heap.size + 1) (k := B) (b0 := .int .i64 dk) (b1 := .int .i64 dn) (b2 := .int .i64 dd) (b3 := .string ds) (b4 := .slice dp dlen dcap) (by omega)).trans hh3
      rw [← hd3] at hsq
      have HN2 := Lib.hid (next_out B s b3 _ hh4 hb3 hs hsq)
      have HK4 := Lib.hid held4
      clear ht hat hh3 hd3 hsq held3 held4 hh4
      go_wp2_with fail
      refine (HN2.out).mono ?_
      rintro _ w5 ⟨rfl, hk5⟩
      have HT := Lib.hid hk5; clear hk5
      go_wp2_with fail
      exact ⟨rfl, HK4.out.keeps.trans HT.out, Or.inl ⟨[], rfl, rfl⟩⟩
    | @lDotNo _ _ r d q c z hsk hne hr1 hsq hc =>
      have HSK := Lib.hid (show (46 :: r).length ≤ s.size - b by rw [← hsk]; have := skip_len false (s.data.toList.drop b); simpa using this)
      have HN := Lib.hid (next_in B s b wr 46 r hh hb hs hsk)
      have HRD := Lib.hid hr1
      have hpos : (0 : Int) < acc.length := by have := List.length_pos_iff.2 hne; omega
      clear hh hheld hsk hr1 hne
      go_wp2_with fail
      refine (HN.out).mono ?_
      rintro _ w1 ⟨rfl, hk, b1, hb1, hh1, hd1⟩
      obtain ⟨hlt, hd2⟩ := drop_tail hd1
      have hheld := HH.out.on hk hB
      have hw1 : IntKind.i64.wrap ((b1 : Int) + 1) = (b1 : Int) + 1 := IntWalk.i64_in _ (by omega)
      have C := here_in B s b1 w1 hh1 hlt hs
      rw [show s[b1] = 46 by rw [drop_cons s b1 hlt] at hd1; exact (List.cons.inj hd1).1] at C
      have HC0 := Lib.hid C; clear C
      have HD1 := Lib.hid (And.intro hh1 (And.intro hd2 hheld)); clear hh1 hd2 hd1 hheld hk
      go_wp2_with fail
      refine (HC0.out).mono ?_
      rintro _ w2 ⟨rfl, k, hw2⟩
      have hh2 : w2.heap[B]? = some (Tx s b1) := by rw [hw2]; exact HD1.out.1
      have heldW := (HD1.out.2.2.on (show Keeps B w1 w2 by rw [hw2]; exact Keeps.of (below_drewN _ _)) hB).on ((Keeps.refl B w2).setCell 1 (.int .i64 ((b1 : Int) + 1))) hB
      have hhW := tx_set (b1 + 1) hh2 (show ((b1 : Int) + 1) = ((b1 + 1 : Nat) : Int) by omega)
      obtain ⟨c0, c1, z1⟩ := tx_cells hh2
      have C := IH.out B s (b1 + 1) _ _ (by have := HSK.out; have h3 := congrArg List.length HD1.out.2.1; simp at this h3; omega) hhW (by omega) hs (HD1.out.2.1.symm ▸ HRD.out)
      have HC := Lib.hid C
      have HK := Lib.hid heldW
      clear C hh2 hhW heldW hw2
      go_wp2_with fail
      refine (HC.out).mono ?_
      intro e w3 ht
      obtain ⟨hk3, dk, dn, dd, ds, dp, dlen, dcap, b3, rfl, hat, hb3, hh3, hd3⟩ := told_ok ht
      have held3 := HK.out.on hk3 hB
      have y0 := box_frozen held3.box 0
      have y1 := box_frozen held3.box 1
      have y2 := box_frozen held3.box 2
      have y3 := box_frozen held3.box 3
      have y4 := box_frozen held3.box 4
      obtain ⟨v0, v1, v2, v3, v4⟩ := box_cells held3.box
      have held4 := held3.boxed hB (dk) (dn) (dd) (ds) (.slice dp dlen dcap)
      have hh4 := (set_five_other (w := w3) (B := w.heap.size + 1) (k := B) (b0 := .int .i64 dk) (b1 := .int .i64 dn) (b2 := .int .i64 dd) (b3 := .string ds) (b4 := .slice dp dlen dcap) (by omega)).trans hh3
      rw [← hd3] at hsq
      have HN2 := Lib.hid (next_in B s b3 _ c z hh4 hb3 hs hsq)
      have hcb : ((c.toNat : Int) != 41) = true := byte_no hc
      have HK4 := Lib.hid held4
      clear ht hat hh3 hd3 hsq held3 held4 hh4 hc
      go_wp2_with fail
      refine (HN2.out).mono ?_
      rintro _ w5 ⟨rfl, hk5, b5, hb5, hh5, hd5⟩
      have HF := Lib.hid (fail_any B s b5 w5 hh5)
      have HT := Lib.hid (And.intro hk5 hd5); clear hk5 hd5 hh5
      go_wp2_with fail
      refine (HF.out).mono ?_
      rintro _ w6 ⟨rfl, rfl⟩
      go_wp2_with fail
      refine ⟨rfl, HK4.out.keeps.trans HT.out.1, Or.inl ⟨_, rfl, ?_⟩⟩
      rw [drop_len HT.out.2 hb5]
    | @lDot _ _ r d q z hsk hne hr1 hsq =>
      have HSK := Lib.hid (show (46 :: r).length ≤ s.size - b by rw [← hsk]; have := skip_len false (s.data.toList.drop b); simpa using this)
      have HN := Lib.hid (next_in B s b wr 46 r hh hb hs hsk)
      have HRD := Lib.hid hr1
      have hpos : (0 : Int) < acc.length := by have := List.length_pos_iff.2 hne; omega
      clear hh hheld hsk hr1 hne
      go_wp2_with fail
      refine (HN.out).mono ?_
      rintro _ w1 ⟨rfl, hk, b1, hb1, hh1, hd1⟩
      obtain ⟨hlt, hd2⟩ := drop_tail hd1
      have hheld := HH.out.on hk hB
      have hw1 : IntKind.i64.wrap ((b1 : Int) + 1) = (b1 : Int) + 1 := IntWalk.i64_in _ (by omega)
      have C := here_in B s b1 w1 hh1 hlt hs
      rw [show s[b1] = 46 by rw [drop_cons s b1 hlt] at hd1; exact (List.cons.inj hd1).1] at C
      have HC0 := Lib.hid C; clear C
      have HD1 := Lib.hid (And.intro hh1 (And.intro hd2 hheld)); clear hh1 hd2 hd1 hheld hk
      go_wp2_with fail
      refine (HC0.out).mono ?_
      rintro _ w2 ⟨rfl, k, hw2⟩
      have hh2 : w2.heap[B]? = some (Tx s b1) := by rw [hw2]; exact HD1.out.1
      have heldW := (HD1.out.2.2.on (show Keeps B w1 w2 by rw [hw2]; exact Keeps.of (below_drewN _ _)) hB).on ((Keeps.refl B w2).setCell 1 (.int .i64 ((b1 : Int) + 1))) hB
      have hhW := tx_set (b1 + 1) hh2 (show ((b1 : Int) + 1) = ((b1 + 1 : Nat) : Int) by omega)
      obtain ⟨c0, c1, z1⟩ := tx_cells hh2
      have C := IH.out B s (b1 + 1) _ _ (by have := HSK.out; have h3 := congrArg List.length HD1.out.2.1; simp at this h3; omega) hhW (by omega) hs (HD1.out.2.1.symm ▸ HRD.out)
      have HC := Lib.hid C
      have HK := Lib.hid heldW
      clear C hh2 hhW heldW hw2
      go_wp2_with fail
      refine (HC.out).mono ?_
      intro e w3 ht
      obtain ⟨hk3, dk, dn, dd, ds, dp, dlen, dcap, b3, rfl, hat, hb3, hh3, hd3⟩ := told_ok ht
      have held3 := HK.out.on hk3 hB
      have y0 := box_frozen held3.box 0
      have y1 := box_frozen held3.box 1
      have y2 := box_frozen held3.box 2
      have y3 := box_frozen held3.box 3
      have y4 := box_frozen held3.box 4
      obtain ⟨v0, v1, v2, v3, v4⟩ := box_cells held3.box
      have held4 := held3.boxed hB (dk) (dn) (dd) (ds) (.slice dp dlen dcap)
      have hh4 := (set_five_other (w := w3) (B := w.heap.size + 1) (k := B) (b0 := .int .i64 dk) (b1 := .int .i64 dn) (b2 := .int .i64 dd) (b3 := .string ds) (b4 := .slice dp dlen dcap) (by omega)).trans hh3
      have hat4 := hat.on (fun b o x hx => off_on (X := old _) (Y := old (w.heap.size + 2)) (w' := ((((w3.setCell ⟨w.heap.size + 1, 0, none⟩ (.int .i64 dk)).setCell ⟨w.heap.size + 1, 1, none⟩ (.int .i64 dn)).setCell ⟨w.heap.size + 1, 2, none⟩ (.int .i64 dd)).setCell ⟨w.heap.size + 1, 3, none⟩ (.string ds)).setCell ⟨w.heap.size + 1, 4, none⟩ (.slice dp dlen dcap)) (fun b _ hx => decide_eq_false (by have := of_decide_eq_false hx; have := HK.out.size; omega)) (fun b _ hx => set_five_other (by have := of_decide_eq_false hx; have := HK.out.size; omega)) b o x hx)
      rw [← hd3] at hsq
      have HN2 := Lib.hid (next_in B s b3 _ 41 z hh4 hb3 hs hsq)
      have HK4 := Lib.hid (And.intro held4 hat4)
      clear ht hat hh3 hd3 hsq held3 held4 hh4 hat4
      go_wp2_with fail
      refine (HN2.out).mono ?_
      rintro _ w5 ⟨rfl, hk5, b5, hb5, hh5, hd5⟩
      obtain ⟨hlt5, hd6⟩ := drop_tail hd5
      have hw5 : IntKind.i64.wrap ((b5 : Int) + 1) = (b5 : Int) + 1 := IntWalk.i64_in _ (by omega)
      have hne0 : ¬ B = w.heap.size + 1 := by omega
      have hne1 : ¬ w.heap.size + 1 = B := by omega
      have held5 := HK4.out.1.on hk5 hB
      obtain ⟨q0, q1, q2, q3, q4⟩ := box_cells held5.box
      obtain ⟨c0, c1, z1⟩ := tx_cells hh5
      have held6 := held5.on ((Keeps.refl B w5).setCell 1 (.int .i64 ((b5 : Int) + 1))) hB
      have hh6 := tx_set (b5 + 1) hh5 (show ((b5 : Int) + 1) = ((b5 + 1 : Nat) : Int) by omega)
      have hat6 := HK4.out.2.on (keeps_old (hk5.trans ((Keeps.refl B w5).setCell 1 (.int .i64 ((b5 : Int) + 1)))) (show B < w.heap.size + 2 by omega))
      obtain ⟨el, rfl, hde⟩ : ∃ el : List Dt, dlen = el.length ∧ d = .node dk dn dd ds el := by
        obtain ⟨k', n', d', s', l', p', cap', he, e0, e1, e2, e3, e4, -, -⟩ := hat6.open5
        simp only [Value.int.injEq, true_and, Value.string.injEq, Value.slice.injEq] at e0 e1 e2 e3 e4
        obtain ⟨rfl, rfl, rfl⟩ := e4
        subst e0 e1 e2 e3
        exact ⟨l', rfl, he⟩
      have C := chain_any (old (w.heap.size + 2)) d dk dn dd ds el dp dcap acc p cap _ (fun b hb => decide_eq_false (by have := held6.size; omega)) hde hat6 (by unfold maxLen; omega) held6.rows
      have HC2 := Lib.hid C; clear C
      have HK6 := Lib.hid (And.intro held6 (And.intro hd6 hh6)); clear hh5 hd5 hd6 held5 held6 hh6 hat6 hk5 hde
      go_wp2_with fail
      refine (HC2.out).mono ?_
      rintro _ w7 ⟨⟨u, rfl, hu⟩, hb7⟩
      obtain ⟨k, n, d', s', p', len', cap', rfl⟩ := at_five hu
      have hbx := block_on hb7 HK6.out.1.res
      have y0 := box_frozen hbx 0
      have y1 := box_frozen hbx 1
      have y2 := box_frozen hbx 2
      have y3 := box_frozen hbx 3
      have y4 := box_frozen hbx 4
      obtain ⟨v0, v1, v2, v3, v4⟩ := box_cells hbx
      have hfin := list_fin HK6.out.1 hB HK6.out.2.2 (by omega) hb7 hu
      rw [HK6.out.2.1] at hfin
      have HF := Lib.hid (And.intro hbx hfin); clear hbx hb7 hu hfin
      go_wp2_with fail
      refine bodyPost_ret (results_cell_row rfl _ _ w.heap.size 24 _ (0, 0) _ rfl (set_five (b0 := .int .i64 k) (b1 := .int .i64 n) (b2 := .int .i64 d') (b3 := .string s') (b4 := .slice p' len' cap') HF.out.1) Tryd.underlying24 rfl Tryd.sizeDt) rfl ?_
      exact HF.out.2
    | @lBad _ _ c r q hsk hc hem0 hr1 =>
      have HSK := Lib.hid (show (c :: r).length ≤ s.size - b by rw [← hsk]; have := skip_len false (s.data.toList.drop b); simpa using this)
      have HLE := Lib.hid (And.intro hb (And.intro hacc (And.intro hg (And.intro hN hab))))
      by_cases hem : acc = []
      · clear hem0
        have HN := Lib.hid (next_in B s b wr c r hh hb hs hsk)
        have HRD := Lib.hid hr1
        have hpos : (acc.length : Int) ≤ 0 := by rw [hem]; simp
        have hcb : ((c.toNat : Int) != 41) = true := byte_no hc
        clear hh hheld hsk hr1 hc hem
        go_wp2_with fail
        refine (HN.out).mono ?_
        rintro _ w1 ⟨rfl, hk, b1, hb1, hh1, hd1⟩
        obtain ⟨hlt, hd2⟩ := drop_tail hd1
        have hheld := HH.out.on hk hB
        have C := IH.out B s b1 w1 _ (by have h4 := HLE.out; have h5 := congrArg List.length hd1; have h3 := HSK.out; simp at h5 h3; omega) hh1 hb1 hs (hd1.symm ▸ HRD.out)
        have HC := Lib.hid C
        have HK := Lib.hid hheld
        clear C hh1 hd2 hd1 hheld hk
        go_wp2_with fail
        refine (HC.out).mono ?_
        intro e w3 ht
        obtain ⟨hk3, rfl⟩ := told_bad ht
        have HT := Lib.hid hk3; clear hk3 ht
        go_wp2_with fail
        exact ⟨rfl, HK.out.keeps.trans HT.out, Or.inl ⟨q, rfl, rfl⟩⟩
      · have hdot : c ≠ 46 := hem0.resolve_left hem
        clear hem0
        have HN := Lib.hid (next_in B s b wr c r hh hb hs hsk)
        have HRD := Lib.hid hr1
        have hpos : (0 : Int) < acc.length := by have := List.length_pos_iff.2 hem; omega
        have hcb : ((c.toNat : Int) != 41) = true := byte_no hc
        have hc46 : ((c.toNat : Int) == 46) = false := byte_ne hdot
        clear hh hheld hsk hr1 hc hem hdot
        go_wp2_with fail
        refine (HN.out).mono ?_
        rintro _ w1 ⟨rfl, hk, b1, hb1, hh1, hd1⟩
        obtain ⟨hlt, hd2⟩ := drop_tail hd1
        have hheld := HH.out.on hk hB
        have C := here_in B s b1 w1 hh1 hlt hs
        rw [show s[b1] = c by rw [drop_cons s b1 hlt] at hd1; exact (List.cons.inj hd1).1] at C
        have HC0 := Lib.hid C; clear C
        have HD1 := Lib.hid (And.intro hh1 (And.intro hd1 hheld)); clear hh1 hd2 hd1 hheld hk
        go_wp2_with fail
        refine (HC0.out).mono ?_
        rintro _ w2 ⟨rfl, k, hw2⟩
        have hh2 : w2.heap[B]? = some (Tx s b1) := by rw [hw2]; exact HD1.out.1
        have heldW := HD1.out.2.2.on (show Keeps B w1 w2 by rw [hw2]; exact Keeps.of (below_drewN _ _)) hB
        have C := IH.out B s b1 w2 _ (by have h4 := HLE.out; have h5 := congrArg List.length HD1.out.2.1; have h3 := HSK.out; simp at h5 h3; omega) hh2 hb1 hs (HD1.out.2.1.symm ▸ HRD.out)
        have HC := Lib.hid C
        have HK := Lib.hid heldW
        clear C hh2 heldW hw2
        go_wp2_with fail
        refine (HC.out).mono ?_
        intro e w3 ht
        obtain ⟨hk3, rfl⟩ := told_bad ht
        have HT := Lib.hid hk3; clear hk3 ht
        go_wp2_with fail
        exact ⟨rfl, HK.out.keeps.trans HT.out, Or.inl ⟨q, rfl, rfl⟩⟩
    | @lMore _ _ c r d q res hsk hc hem0 hr1 hmore =>
      have HSK := Lib.hid (show (c :: r).length ≤ s.size - b by rw [← hsk]; have := skip_len false (s.data.toList.drop b); simpa using this)
      have HLE := Lib.hid (And.intro hb (And.intro hacc (And.intro hg (And.intro hN hab))))
      have HMORE := Lib.hid hmore; clear hmore
      by_cases hem : acc = []
      · clear hem0
        have HN := Lib.hid (next_in B s b wr c r hh hb hs hsk)
        have HRD := Lib.hid hr1
        have hpos : (acc.length : Int) ≤ 0 := by rw [hem]; simp
        have hcb : ((c.toNat : Int) != 41) = true := byte_no hc
        clear hh hheld hsk hr1 hc hem
        go_wp2_with fail
        refine (HN.out).mono ?_
        rintro _ w1 ⟨rfl, hk, b1, hb1, hh1, hd1⟩
        obtain ⟨hlt, hd2⟩ := drop_tail hd1
        have hheld := HH.out.on hk hB
        have C := IH.out B s b1 w1 _ (by have h4 := HLE.out; have h5 := congrArg List.length hd1; have h3 := HSK.out; simp at h5 h3; omega) hh1 hb1 hs (hd1.symm ▸ HRD.out)
        have HC := Lib.hid C
        have HK := Lib.hid hheld
        clear C hh1 hd2 hd1 hheld hk
        go_wp2_with fail
        refine (HC.out).mono ?_
        intro e w3 ht
        obtain ⟨hk3, dk, dn, dd, ds, dp, dlen, dcap, b3, rfl, hat, hb3, hh3, hd3⟩ := told_ok ht
        have held3 := HK.out.on hk3 hB
        have hatx := hat.on (xo_up HK.out)
        have HK3 := Lib.hid (And.intro held3 (And.intro hatx (And.intro hh3 (And.intro hd3 HMORE.out))))
        have hlen3 : q.length < (c :: r).length := rd_shorter HRD.out
        have hlenq : acc.length + 1 ≤ b3 ∧ b < b3 ∧ a ≤ b3 := by
          have h1 := HSK.out
          have h2 := congrArg List.length hd3
          have h3 := HLE.out
          simp at h1 h2 hlen3
          omega
        have hsz3 := held3.size
        clear ht hat hh3 hd3 held3 hatx hk3 hlen3
        obtain ⟨i0', hi, hz⟩ := Option.map_eq_some_iff.1 Tryd.infoDt
        simp only [Prod.mk.injEq] at hz
        obtain ⟨hz0, hz1, hz2⟩ := hz
        have HI0 := Lib.hid (And.intro hi (And.intro hz0 (And.intro hz1 hz2)))
        clear hi hz0 hz1 hz2
        go_wp2_with (first
          | (at_builtin; refine wpList_append_own_at _ rfl (.tmp 31) (.tmp 34) 22 rfl (w.heap.size + 2) 24 i0' (.agg #[.int .i64 0, .int .i64 0, .int .i64 0, .string ⟨#[]⟩, .slice none 0 0]) 5 64 Tryd.underlying22 HI0.out.1 HI0.out.2.1 HI0.out.2.2.1 HI0.out.2.2.2 rfl (by decide) _ _ _ rfl (HK3.out.1.own.alloc _) ⟨w3.heap.size, 0, none⟩ 1 1 [.int .i64 dk, .int .i64 dn, .int .i64 dd, .string ds, .slice dp dlen dcap] rfl rfl (five_new _ _ _ _ _ _ _) (by intro u hu; simp at hu; rcases hu with rfl | rfl | rfl | rfl | rfl <;> rfl) (by unfold maxLen; omega) (by omega) (by simp; omega) ?_
             intro v4 w4 hown4 hgrow4 hnil4 hat4
             have HP := Lib.hid (And.intro hown4 (And.intro hgrow4 hat4))
             clear hown4 hgrow4 hnil4 hat4))
        go_roundg (s.size - b3)
        case measure => omega
        case rel =>
          obtain ⟨h1, h2⟩ := HK3.out.1.push HK3.out.2.1 hB _ HP.out.1 HP.out.2.1 HP.out.2.2
          refine ⟨acc ++ [d], _, b3, by simp; omega, by omega, hb3, Nat.le_refl _, (h2 B (by omega)).trans HK3.out.2.2.1, ?_, h1⟩
          rw [HK3.out.2.2.2.1]; exact HK3.out.2.2.2.2
      · have hdot : c ≠ 46 := hem0.resolve_left hem
        clear hem0
        have HN := Lib.hid (next_in B s b wr c r hh hb hs hsk)
        have HRD := Lib.hid hr1
        have hpos : (0 : Int) < acc.length := by have := List.length_pos_iff.2 hem; omega
        have hcb : ((c.toNat : Int) != 41) = true := byte_no hc
        have hc46 : ((c.toNat : Int) == 46) = false := byte_ne hdot
        clear hh hheld hsk hr1 hc hem hdot
        go_wp2_with fail
        refine (HN.out).mono ?_
        rintro _ w1 ⟨rfl, hk, b1, hb1, hh1, hd1⟩
        obtain ⟨hlt, hd2⟩ := drop_tail hd1
        have hheld := HH.out.on hk hB
        have C := here_in B s b1 w1 hh1 hlt hs
        rw [show s[b1] = c by rw [drop_cons s b1 hlt] at hd1; exact (List.cons.inj hd1).1] at C
        have HC0 := Lib.hid C; clear C
        have HD1 := Lib.hid (And.intro hh1 (And.intro hd1 hheld)); clear hh1 hd2 hd1 hheld hk
        go_wp2_with fail
        refine (HC0.out).mono ?_
        rintro _ w2 ⟨rfl, k, hw2⟩
        have hh2 : w2.heap[B]? = some (Tx s b1) := by rw [hw2]; exact HD1.out.1
        have heldW := HD1.out.2.2.on (show Keeps B w1 w2 by rw [hw2]; exact Keeps.of (below_drewN _ _)) hB
        have C := IH.out B s b1 w2 _ (by have h4 := HLE.out; have h5 := congrArg List.length HD1.out.2.1; have h3 := HSK.out; simp at h5 h3; omega) hh2 hb1 hs (HD1.out.2.1.symm ▸ HRD.out)
        have HC := Lib.hid C
        have HK := Lib.hid heldW
        clear C hh2 heldW hw2
        go_wp2_with fail
        refine (HC.out).mono ?_
        intro e w3 ht
        obtain ⟨hk3, dk, dn, dd, ds, dp, dlen, dcap, b3, rfl, hat, hb3, hh3, hd3⟩ := told_ok ht
        have held3 := HK.out.on hk3 hB
        have hatx := hat.on (xo_up HK.out)
        have HK3 := Lib.hid (And.intro held3 (And.intro hatx (And.intro hh3 (And.intro hd3 HMORE.out))))
        have hlen3 : q.length < (c :: r).length := rd_shorter HRD.out
        have hlenq : acc.length + 1 ≤ b3 ∧ b < b3 ∧ a ≤ b3 := by
          have h1 := HSK.out
          have h2 := congrArg List.length hd3
          have h3 := HLE.out
          simp at h1 h2 hlen3
          omega
        have hsz3 := held3.size
        clear ht hat hh3 hd3 held3 hatx hk3 hlen3
        obtain ⟨i0', hi, hz⟩ := Option.map_eq_some_iff.1 Tryd.infoDt
        simp only [Prod.mk.injEq] at hz
        obtain ⟨hz0, hz1, hz2⟩ := hz
        have HI0 := Lib.hid (And.intro hi (And.intro hz0 (And.intro hz1 hz2)))
        clear hi hz0 hz1 hz2
        go_wp2_with (first
          | (at_builtin; refine wpList_append_own_at _ rfl (.tmp 31) (.tmp 34) 22 rfl (w.heap.size + 2) 24 i0' (.agg #[.int .i64 0, .int .i64 0, .int .i64 0, .string ⟨#[]⟩, .slice none 0 0]) 5 64 Tryd.underlying22 HI0.out.1 HI0.out.2.1 HI0.out.2.2.1 HI0.out.2.2.2 rfl (by decide) _ _ _ rfl (HK3.out.1.own.alloc _) ⟨w3.heap.size, 0, none⟩ 1 1 [.int .i64 dk, .int .i64 dn, .int .i64 dd, .string ds, .slice dp dlen dcap] rfl rfl (five_new _ _ _ _ _ _ _) (by intro u hu; simp at hu; rcases hu with rfl | rfl | rfl | rfl | rfl <;> rfl) (by unfold maxLen; omega) (by omega) (by simp; omega) ?_
             intro v4 w4 hown4 hgrow4 hnil4 hat4
             have HP := Lib.hid (And.intro hown4 (And.intro hgrow4 hat4))
             clear hown4 hgrow4 hnil4 hat4))
        go_roundg (s.size - b3)
        case measure => omega
        case rel =>
          obtain ⟨h1, h2⟩ := HK3.out.1.push HK3.out.2.1 hB _ HP.out.1 HP.out.2.1 HP.out.2.2
          refine ⟨acc ++ [d], _, b3, by simp; omega, by omega, hb3, Nat.le_refl _, (h2 B (by omega)).trans HK3.out.2.2.1, ?_, h1⟩
          rw [HK3.out.2.2.2.1]; exact HK3.out.2.2.2.2
end Go.Proofs.YtabofebepefbgaaDoor.Dat

/- The program's reader: Vecs. -/
namespace Go.Proofs.YtabofebepefbgaaDoor.Dat
open Go.RowKit
set_option linter.unusedVariables false

theorem set_fifth {w : World} {B : Nat} {a0 a1 a2 a3 a4 b4 : Value} {t : TypeId} (h : w.heap[B]? = some (.cells #[a0, a1, a2, a3, a4] t (0, 0))) : (w.setCell ⟨B, 4, none⟩ b4).heap[B]? = some (.cells #[a0, a1, a2, a3, b4] t (0, 0)) := by
  refine (heap_setCell_same _ _ 4 _ t _ h).trans ?_
  simp
theorem Held.cell4 {B : Nat} {w wr : World} {acc : List Dt} {v : Value} {xs : List Value} {k0 n0 d0 : Int} {s0 : ByteArray} {v0 : Value} (h : Held B w acc v xs (Five k0 n0 d0 s0 v0) wr) (u : Value) : Held B w acc v xs (Five k0 n0 d0 s0 u) (wr.setCell ⟨w.heap.size + 1, 4, none⟩ u) := by
  have ho : ∀ b, b ≠ w.heap.size + 1 → (wr.setCell ⟨w.heap.size + 1, 4, none⟩ u).heap[b]? = wr.heap[b]? := fun b hb => Below.heap_setCell _ _ _ _ hb
  refine ⟨keeps_set h.keeps (Nat.le_succ _) _ _, by simp only [World.setCell, Array.size_modify]; exact h.size, (ho _ (by omega)).trans h.res, set_fifth h.box, ?_, h.row.on fun b o x hx => off_on (fun _ _ hx => hx) (fun b _ hx => ho b (by have := (Xo_no.1 hx).1; omega)) b o x hx⟩
  refine ⟨h.own.1, ?_⟩
  rcases h.own.2 with hn | ⟨g, cap, cur, rfl, hg, hgg, rest⟩
  · exact .inl hn
  · exact .inr ⟨g, cap, cur, rfl, hg, (ho g (by omega)).trans hgg, rest⟩
/-- What holds ahead of each round. -/
def Vct (B : Nat) (s : ByteArray) (a : Nat) (w : World) (res : Res Dt) (g : Nat) (wr : World) : Prop :=
  ∃ (acc : List Dt) (xs : List Value) (b : Nat) (v : Value), acc.length ≤ b ∧ a ≤ b ∧ b ≤ s.size ∧ s.size - b ≤ g ∧ wr.heap[B]? = some (Tx s b) ∧ Rd (.vec acc) (s.data.toList.drop b) res ∧ Held B w acc v xs (Five 7 0 0 ⟨#[]⟩ v) wr

set_option maxHeartbeats 4000000 in
set_option maxRecDepth 100000 in
theorem vec_any (N : Nat) (ih : OneAt N) (B : Nat) (s : ByteArray) (a : Nat) (w : World) (res : Res Dt) (hN : s.size - a < N) (hb : w.heap[B]? = some (Tx s a)) (ha : a ≤ s.size) (hs : s.size ≤ 65536) (hr : Rd (.vec []) (s.data.toList.drop a) res) :
    Calls Tryd.prog 98 #[.pointer (some ⟨B, 0, none⟩)] w fun e w' => Told B s res w e w' := by
  have hB : B < w.heap.size := (Array.getElem?_eq_some_iff.1 hb).1
  have HB := Lib.hid hb; clear hb
  have HR := Lib.hid hr; clear hr
  have IH := Lib.hid ih; clear ih
  go_enter Tryd.func98, Tryd.ntmps98
  go_wp2_with fail
  go_loopg [] (s.size - a) (fun g wr => Vct B s a w res g wr)
  case atStart =>
    refine ⟨[], [], a, .slice none 0 0, by simp, Nat.le_refl _, ha, Nat.le_refl _, block_on (two_below _ _ _) HB.out, HR.out, ⟨Keeps.of (two_below _ _ _), by simp, two_first _ _ _, two_second _ _ _, ⟨rfl, Or.inl ⟨rfl, rfl⟩⟩, rfl⟩⟩
  case round =>
    obtain ⟨acc, xs, b, v, hacc, hab, hb, hg, hh, hrd, hheld⟩ := hrel
    obtain ⟨p, cap, rfl, hslice⟩ := hheld.slice
    have HH := Lib.hid hheld
    have HSL := Lib.hid hslice; clear hslice
    cases hrd with
    | vNone hsk =>
      have HN := Lib.hid (next_out B s b wr hh hb hs hsk)
      have HH' := Lib.hid hh; clear hh hheld hsk
      go_wp2_with fail
      refine (HN.out).mono ?_
      rintro _ w1 ⟨rfl, hk⟩
      have HK := Lib.hid hk; clear hk
      go_wp2_with fail
      exact ⟨rfl, HH.out.keeps.trans HK.out, Or.inl ⟨[], rfl, rfl⟩⟩
    | @vShut _ _ r hsk =>
      have HN := Lib.hid (next_in B s b wr 41 r hh hb hs hsk)
      clear hh hheld hsk
      go_wp2_with fail
      refine (HN.out).mono ?_
      rintro _ w1 ⟨rfl, hk, b1, hb1, hh1, hd1⟩
      obtain ⟨hlt, hd2⟩ := drop_tail hd1
      obtain ⟨c0, c1, z1⟩ := tx_cells hh1
      have hheld := HH.out.on hk hB
      have hw1 : IntKind.i64.wrap ((b1 : Int) + 1) = (b1 : Int) + 1 := IntWalk.i64_in _ (by omega)
      have hn0 : ((41 : Int) != 41) = false := rfl
      have hne0 : ¬ B = w.heap.size + 1 := by omega
      have hne1 : ¬ w.heap.size + 1 = B := by omega
      have hne2 : ¬ B = w.heap.size := by omega
      have hne3 : ¬ w.heap.size = B := by omega
      obtain ⟨q0, q1, q2, q3, q4⟩ := box_cells hheld.box
      have y0 := box_frozen hheld.res 0
      have y1 := box_frozen hheld.res 1
      have y2 := box_frozen hheld.res 2
      have y3 := box_frozen hheld.res 3
      have y4 := box_frozen hheld.res 4
      obtain ⟨v0, v1, v2, v3, v4⟩ := box_cells hheld.res
      have heldW := hheld.on ((Keeps.refl B w1).setCell 1 (.int .i64 ((b1 : Int) + 1))) hB
      have hhW := tx_set (b1 + 1) hh1 (show ((b1 : Int) + 1) = ((b1 + 1 : Nat) : Int) by omega)
      have hat : (Dt.node 7 0 0 nil8 acc).At (off (w1.setCell ⟨B, 1, none⟩ (.int .i64 ((b1 : Int) + 1))) (old (w.heap.size + 2))) (.agg #[.int .i64 7, .int .i64 0, .int .i64 0, .string ⟨#[]⟩, .slice p acc.length cap]) := by
        unfold Dt.At
        exact ⟨by unfold I64; omega, by unfold I64; omega, by unfold I64; omega, by unfold maxLen; decide, by unfold maxLen; omega, p, cap, rfl, heldW.rows⟩
      have hfin := list_fin heldW hB hhW (by omega) (Below.refl _ _) hat
      rw [hd2] at hfin
      have HF := Lib.hid (And.intro heldW.res hfin)
      clear hh1 hd2 hd1 hheld hk heldW hhW hat hfin
      go_wp2_with fail
      refine bodyPost_ret (results_cell_row rfl _ _ w.heap.size 24 _ (0, 0) _ rfl (set_five (b0 := .int .i64 7) (b1 := .int .i64 0) (b2 := .int .i64 0) (b3 := .string ⟨#[]⟩) (b4 := .slice p acc.length cap) HF.out.1) Tryd.underlying24 rfl Tryd.sizeDt) rfl ?_
      exact HF.out.2
    | @vBad _ _ c r q hsk hc hr1 =>
      have HSK := Lib.hid (show (c :: r).length ≤ s.size - b by rw [← hsk]; have := skip_len false (s.data.toList.drop b); simpa using this)
      have HLE := Lib.hid (And.intro hb (And.intro hacc (And.intro hg (And.intro hN hab))))
      have HN := Lib.hid (next_in B s b wr c r hh hb hs hsk)
      have HRD := Lib.hid hr1
      have hcb : ((c.toNat : Int) != 41) = true := byte_no hc
      clear hh hheld hsk hr1 hc
      go_wp2_with fail
      refine (HN.out).mono ?_
      rintro _ w1 ⟨rfl, hk, b1, hb1, hh1, hd1⟩
      obtain ⟨hlt, hd2⟩ := drop_tail hd1
      have hheld := HH.out.on hk hB
      have C := fun W (h : W.heap[B]? = some (Tx s b1)) => IH.out B s b1 W _ (by have h4 := HLE.out; have h5 := congrArg List.length hd1; have h3 := HSK.out; simp at h5 h3; omega) h hb1 hs (hd1.symm ▸ HRD.out)
      have HC := Lib.hid C
      have HK := Lib.hid hheld
      have HH1 := Lib.hid hh1
      obtain ⟨q0, q1, q2, q3, q4⟩ := box_cells hheld.box
      have z4 := box_frozen hheld.box 4
      clear C hd2 hd1 hheld hk hh1
      go_wp2_with fail
      refine wp_region_any (by kernel_rfl) ?_
      change wpAny _ _ _ _ _ _ _ (World.drew _)
      refine wpAny_ready (rs := [0, 2]) (by kernel_rfl) (by simp) ?_
      refine AllReady.cons rfl (fun K hK => ?_) ?_
      · go_simp
        refine hK _ _ ?_
        clear hK K
        refine wpAny_ready (rs := [1, 2]) (by kernel_rfl) (by simp) ?_
        refine AllReady.cons rfl (fun K hK => ?_) ?_
        · go_simp
          refine hK _ _ ?_
          clear hK K
          refine wpAny_ready (rs := [2]) (by kernel_rfl) (by simp) ?_
          refine AllReady.cons rfl (fun K hK => ?_) ?_
          · go_simp
            refine hK _ _ ?_
            clear hK K
            refine wpAny_ready (rs := [3]) (by kernel_rfl) (by simp) ?_
            refine AllReady.cons rfl (fun K hK => ?_) ?_
            · go_simp
              go_wp2_with fail
              refine (HC.out _ (by exact HH1.out)).mono ?_
              intro e w3 ht
              obtain ⟨hk3, rfl⟩ := told_bad ht
              exact ⟨rfl, HK.out.keeps.trans (((Keeps.refl B w1).drew).trans hk3), Or.inl ⟨q, rfl, rfl⟩⟩
            exact AllReady.nil
          exact AllReady.nil
        refine AllReady.cons rfl (fun K hK => ?_) ?_
        · go_simp
          refine hK _ _ ?_
          clear hK K
          refine wpAny_ready (rs := [1, 3]) (by kernel_rfl) (by simp) ?_
          refine AllReady.cons rfl (fun K hK => ?_) ?_
          · go_simp
            refine hK _ _ ?_
            clear hK K
            refine wpAny_ready (rs := [3]) (by kernel_rfl) (by simp) ?_
            refine AllReady.cons rfl (fun K hK => ?_) ?_
            · go_simp
              go_wp2_with fail
              refine (HC.out _ (by exact HH1.out)).mono ?_
              intro e w3 ht
              obtain ⟨hk3, rfl⟩ := told_bad ht
              exact ⟨rfl, HK.out.keeps.trans (((Keeps.refl B w1).drew).trans hk3), Or.inl ⟨q, rfl, rfl⟩⟩
            exact AllReady.nil
          refine AllReady.cons rfl (fun K hK => ?_) ?_
          · go_simp
            go_wp2_with fail
            refine (HC.out _ (by exact HH1.out)).mono ?_
            intro e w3 ht
            obtain ⟨hk3, rfl⟩ := told_bad ht
            exact ⟨rfl, HK.out.keeps.trans (((Keeps.refl B w1).drew).trans hk3), Or.inl ⟨q, rfl, rfl⟩⟩
          exact AllReady.nil
        exact AllReady.nil
      refine AllReady.cons rfl (fun K hK => ?_) ?_
      · go_simp
        refine hK _ _ ?_
        clear hK K
        refine wpAny_ready (rs := [0, 3]) (by kernel_rfl) (by simp) ?_
        refine AllReady.cons rfl (fun K hK => ?_) ?_
        · go_simp
          refine hK _ _ ?_
          clear hK K
          refine wpAny_ready (rs := [1, 3]) (by kernel_rfl) (by simp) ?_
          refine AllReady.cons rfl (fun K hK => ?_) ?_
          · go_simp
            refine hK _ _ ?_
            clear hK K
            refine wpAny_ready (rs := [3]) (by kernel_rfl) (by simp) ?_
            refine AllReady.cons rfl (fun K hK => ?_) ?_
            · go_simp
              go_wp2_with fail
              refine (HC.out _ (by exact HH1.out)).mono ?_
              intro e w3 ht
              obtain ⟨hk3, rfl⟩ := told_bad ht
              exact ⟨rfl, HK.out.keeps.trans (((Keeps.refl B w1).drew).trans hk3), Or.inl ⟨q, rfl, rfl⟩⟩
            exact AllReady.nil
          refine AllReady.cons rfl (fun K hK => ?_) ?_
          · go_simp
            go_wp2_with fail
            refine (HC.out _ (by exact HH1.out)).mono ?_
            intro e w3 ht
            obtain ⟨hk3, rfl⟩ := told_bad ht
            exact ⟨rfl, HK.out.keeps.trans (((Keeps.refl B w1).drew).trans hk3), Or.inl ⟨q, rfl, rfl⟩⟩
          exact AllReady.nil
        refine AllReady.cons rfl (fun K hK => ?_) ?_
        · go_simp
          go_wp2_with fail
          refine (HC.out _ (by exact HH1.out)).mono ?_
          intro e w3 ht
          obtain ⟨hk3, rfl⟩ := told_bad ht
          exact ⟨rfl, HK.out.keeps.trans (((Keeps.refl B w1).drew).trans hk3), Or.inl ⟨q, rfl, rfl⟩⟩
        exact AllReady.nil
      exact AllReady.nil
    | @vMore _ _ c r d q res hsk hc hr1 hmore =>
      have HSK := Lib.hid (show (c :: r).length ≤ s.size - b by rw [← hsk]; have := skip_len false (s.data.toList.drop b); simpa using this)
      have HLE := Lib.hid (And.intro hb (And.intro hacc (And.intro hg (And.intro hN hab))))
      have HMORE := Lib.hid hmore; clear hmore
      have HN := Lib.hid (next_in B s b wr c r hh hb hs hsk)
      have HRD := Lib.hid hr1
      have hcb : ((c.toNat : Int) != 41) = true := byte_no hc
      clear hh hheld hsk hr1 hc
      go_wp2_with fail
      refine (HN.out).mono ?_
      rintro _ w1 ⟨rfl, hk, b1, hb1, hh1, hd1⟩
      obtain ⟨hlt, hd2⟩ := drop_tail hd1
      have hheld := HH.out.on hk hB
      have C := fun W (h : W.heap[B]? = some (Tx s b1)) => IH.out B s b1 W _ (by have h4 := HLE.out; have h5 := congrArg List.length hd1; have h3 := HSK.out; simp at h5 h3; omega) h hb1 hs (hd1.symm ▸ HRD.out)
      have HC := Lib.hid C
      have HK := Lib.hid hheld
      have HH1 := Lib.hid hh1
      obtain ⟨q0, q1, q2, q3, q4⟩ := box_cells hheld.box
      have z4 := box_frozen hheld.box 4
      clear C hd2 hd1 hheld hk hh1
      go_wp2_with fail
      obtain ⟨i0', hi, hz⟩ := Option.map_eq_some_iff.1 Tryd.infoDt
      simp only [Prod.mk.injEq] at hz
      obtain ⟨hz0, hz1, hz2⟩ := hz
      have HI0 := Lib.hid (And.intro hi (And.intro hz0 (And.intro hz1 hz2)))
      clear hi hz0 hz1 hz2
      go_region_law
        (first
          | (go_simp; go_at_call 65; refine (HC.out _ (by exact HH1.out)).mono ?_; intro e w3 ht
             obtain ⟨hk3, dk, dn, dd, ds, dp, dlen, dcap, b3, rfl, hat, hb3, hh3, hd3⟩ := told_ok ht
             have hkd : Keeps B w1 w3 := ((Keeps.refl B w1).drew).trans hk3
             have held3 := HK.out.on hkd hB
             have hatx := hat.on (xo_up HK.out)
             have k4 := (box_cells held3.box).2.2.2.2
             have HK3 := Lib.hid (And.intro held3 (And.intro hatx (And.intro hh3 (And.intro hd3 HMORE.out))))
             have hlen3 : q.length < (c :: r).length := rd_shorter HRD.out
             have hlenq : acc.length + 1 ≤ b3 ∧ b < b3 ∧ a ≤ b3 := by
               have h1 := HSK.out
               have h2 := congrArg List.length hd3
               have h3 := HLE.out
               simp at h1 h2 hlen3
               omega
             have hsz3 := held3.size
             have hsz4 : w.heap.size + 1 < w3.heap.size := by omega
             clear ht hat hh3 hd3 held3 hatx hk3 hkd hlen3)
          | (refine step_append_lies _ rfl (.tmp 9) (.tmp 12) 22 (by rfl) (w.heap.size + 2) 24 i0' (.agg #[.int .i64 0, .int .i64 0, .int .i64 0, .string ⟨#[]⟩, .slice none 0 0]) 5 64 Tryd.underlying22 HI0.out.1 HI0.out.2.1 HI0.out.2.2.1 HI0.out.2.2.2 (by rfl) (by decide) _ _ _ (by rfl) (HK3.out.1.own.alloc _) ⟨w3.heap.size, 0, none⟩ 1 1 [.int .i64 dk, .int .i64 dn, .int .i64 dd, .string ds, .slice dp dlen dcap] (by rfl) (by rfl) (five_new _ _ _ _ _ _ _) (by intro u hu; simp at hu; rcases hu with rfl | rfl | rfl | rfl | rfl <;> rfl) (by omega) (by unfold maxLen; omega) (by omega) (by simp; omega) (w3.heap.size + 1) (by simp) ?_
             intro g4 cap4 w4 hown4 hgrow4 hat4 hlt4
             have hpush := HK3.out.1.push (v3 := .slice (some ⟨g4, 0, none⟩) (acc.length + 1) cap4) HK3.out.2.1 hB _ hown4 hgrow4 (hat4.imp (fun e => e.symm) (fun e => by rw [e]; simp [Value.ownBlock]))
             have k5 := (box_cells hpush.1.box).2.2.2.2
             have y5 := box_frozen hpush.1.box 4
             have HP := Lib.hid hpush
             clear hpush
             clear hown4 hgrow4 hat4))
      all_goals
        go_wp2_with fail
        go_roundg (s.size - b3)
        case measure => omega
        case rel =>
          obtain ⟨h1, h2⟩ := HP.out
          refine ⟨acc ++ [d], _, b3, .slice (some ⟨g4, 0, none⟩) (acc.length + 1) cap4, by simp; omega, by omega, hb3, Nat.le_refl _, ?_, ?_, h1.cell4 _⟩
          · exact (Below.heap_setCell _ _ _ _ (show B ≠ w.heap.size + 1 by omega)).trans ((h2 B (by omega)).trans HK3.out.2.2.1)
          · rw [HK3.out.2.2.2.1]; exact HK3.out.2.2.2.2
end Go.Proofs.YtabofebepefbgaaDoor.Dat

/- The program's reader: what "#" begins; one datum. -/
namespace Go.Proofs.YtabofebepefbgaaDoor.Dat
open Go.RowKit
set_option linter.unusedVariables false

/-- What stands behind "#". -/
inductive Mark : List UInt8 → Res Dt → Prop
  | none : Mark [] (.bad [])
  | leaf {m r d} : leafH m = some d → Mark (m :: r) (.ok d r)
  | vec {r res} : Rd (.vec []) r res → Mark (40 :: r) res
  | bad {m r} : leafH m = Option.none → m ≠ 40 → Mark (m :: r) (.bad (m :: r))
theorem mark_in (m : UInt8) (h : leafH m ≠ Option.none ∨ m = 40) : 0 ≤ Lib.indexByte [116, 102, 118, 40] m := by
  by_cases h1 : m = 116
  · subst h1; decide
  by_cases h2 : m = 102
  · subst h2; decide
  by_cases h3 : m = 118
  · subst h3; decide
  unfold leafH at h
  rw [if_neg h1, if_neg h2, if_neg h3] at h
  rcases h with h | rfl
  · exact absurd rfl h
  · decide
theorem mark_out {m : UInt8} (h : leafH m = Option.none) (h40 : m ≠ 40) : Lib.indexByte [116, 102, 118, 40] m = -1 := by
  have h1 : m ≠ 116 := fun e => by rw [e] at h; exact absurd h (by decide)
  have h2 : m ≠ 102 := fun e => by rw [e] at h; exact absurd h (by decide)
  have h3 : m ≠ 118 := fun e => by rw [e] at h; exact absurd h (by decide)
  simp [Lib.indexByte, h1.symm, h2.symm, h3.symm, h40.symm]
/-- A datum lies in the result's box, as a callee has answered it. -/
theorem one_fin {B : Nat} {s : ByteArray} {w W w3 : World} {a : Nat} {d : Dt} {q : List UInt8} {k n d' : Int} {s' : ByteArray} {p : Option Addr} {len cap : Nat} (hB : B < w.heap.size) (hk : Keeps B w W) (hs : w.heap.size < W.heap.size) (hk3 : Keeps B W w3)
    (hat : d.At (off w3 (old W.heap.size)) (.agg #[.int .i64 k, .int .i64 n, .int .i64 d', .string s', .slice p len cap])) (ha : a ≤ s.size) (hh : w3.heap[B]? = some (Tx s a)) (hd : s.data.toList.drop a = q) :
    Told B s (.ok d q) w (.returned (.agg #[.int .i64 k, .int .i64 n, .int .i64 d', .string s', .slice p len cap]))
      (((((w3.setCell ⟨w.heap.size, 0, none⟩ (.int .i64 k)).setCell ⟨w.heap.size, 1, none⟩ (.int .i64 n)).setCell ⟨w.heap.size, 2, none⟩ (.int .i64 d')).setCell ⟨w.heap.size, 3, none⟩ (.string s')).setCell ⟨w.heap.size, 4, none⟩ (.slice p len cap)) := by
  refine ⟨keeps_five (hk.trans hk3) (Nat.le_refl _), Or.inr ⟨_, _, _, a, rfl, rfl, ?_, ha, (set_five_other (Nat.ne_of_lt hB)).trans hh, hd⟩⟩
  refine hat.on fun b o x hx => off_on (X := old W.heap.size) (fun b _ hx => decide_eq_false (by have := of_decide_eq_false hx; omega)) (fun b _ hx => set_five_other (by have := of_decide_eq_false hx; omega)) b o x hx
theorem leaf_told {B : Nat} {s : ByteArray} {w W : World} {a : Nat} {q : List UInt8} (k n : Int) (hB : B < w.heap.size) (hk : Keeps B w W) (hI : I64 k) (hn : I64 n) (ha : a ≤ s.size) (hh : W.heap[B]? = some (Tx s a)) (hd : s.data.toList.drop a = q) :
    Told B s (.ok (.node k n 0 nil8 []) q) w (.returned (.agg #[.int .i64 k, .int .i64 n, .int .i64 0, .string ⟨#[]⟩, .slice none 0 0]))
      (((((W.setCell ⟨w.heap.size, 0, none⟩ (.int .i64 k)).setCell ⟨w.heap.size, 1, none⟩ (.int .i64 n)).setCell ⟨w.heap.size, 2, none⟩ (.int .i64 0)).setCell ⟨w.heap.size, 3, none⟩ (.string ⟨#[]⟩)).setCell ⟨w.heap.size, 4, none⟩ (.slice none 0 0)) :=
  ⟨keeps_five hk (Nat.le_refl _), Or.inr ⟨_, _, _, a, rfl, rfl, leaf_off _ _ _ _ _ hI hn (by unfold I64; omega) (by unfold maxLen; decide), ha, (set_five_other (Nat.ne_of_lt hB)).trans hh, hd⟩⟩

set_option maxHeartbeats 4000000 in
set_option maxRecDepth 100000 in
theorem marked_any (N : Nat) (ih : OneAt N) (B : Nat) (s : ByteArray) (a : Nat) (w : World) (res : Res Dt) (hN : s.size - a < N) (hb : w.heap[B]? = some (Tx s a)) (ha : a ≤ s.size) (hs : s.size ≤ 65536) (hr : Mark (s.data.toList.drop a) res) :
    Calls Tryd.prog 87 #[.pointer (some ⟨B, 0, none⟩)] w fun e w' => Told B s res w e w' := by
  have hB : B < w.heap.size := (Array.getElem?_eq_some_iff.1 hb).1
  have hbA := block_on (box_below w Zero5) hb
  have hzA := at_new w Zero5
  have HB := Lib.hid (And.intro hb (And.intro hbA hzA)); clear hb hbA hzA
  have IH := Lib.hid ih; clear ih
  generalize hl : s.data.toList.drop a = l at hr
  cases hr with
  | none =>
    have hend : a = s.size := by have := congrArg List.length hl; simp at this; omega
    have HO := Lib.hid (here_out B s a (w.alloc Zero5) HB.out.2.1 hend hs)
    clear hl hend
    go_enter Tryd.func87, Tryd.ntmps87
    go_wp2_with fail
    refine (HO.out).mono ?_
    rintro _ w1 ⟨rfl, k, rfl⟩
    go_wp2_with fail
    exact ⟨rfl, (Keeps.of (box_below _ _)).trans (Keeps.of (below_drewN _ _)), Or.inl ⟨[], rfl, rfl⟩⟩
  | @bad m r hm h40 =>
    obtain ⟨hlt, hd2⟩ := drop_tail hl
    have C := here_in B s a (w.alloc Zero5) HB.out.2.1 hlt hs
    rw [show s[a] = m by rw [drop_cons s a hlt] at hl; exact (List.cons.inj hl).1] at C
    obtain ⟨N0, hN0⟩ : ∃ N0, Lib.indexByte [116, 102, 118, 40] m = N0 := ⟨_, rfl⟩
    have C2 := fun W => Tryd.strings_IndexByte ⟨#[116, 102, 118, 40]⟩ (m.toNat : Int) W
    rw [show ((⟨#[116, 102, 118, 40]⟩ : ByteArray).data.toList) = [116, 102, 118, 40] from rfl, show ((m.toNat : Int).toNat.toUInt8) = m by simp, hN0] at C2
    rw [mark_out hm h40] at hN0
    have hneg : N0 < 0 := by omega
    have HC := Lib.hid C; clear C
    have HC2 := Lib.hid C2; clear C2
    have HL := Lib.hid (And.intro hl hd2); clear hl hd2 hN0
    have hw1 : IntKind.i64.wrap ((a : Int) + 1) = (a : Int) + 1 := IntWalk.i64_in _ (by omega)
    go_enter Tryd.func87, Tryd.ntmps87
    go_wp2_with fail
    refine (HC.out).mono ?_
    rintro _ w1 ⟨rfl, k, hw⟩
    have hh1 : w1.heap[B]? = some (Tx s a) := by rw [hw]; exact HB.out.2.1
    have hz1 : w1.heap[w.heap.size]? = some Zero5 := by rw [hw]; exact HB.out.2.2
    have hk1 : Keeps B w w1 := by rw [hw]; exact (Keeps.of (box_below _ _)).trans (Keeps.of (below_drewN _ _))
    obtain ⟨c0, c1, z1⟩ := tx_cells hh1
    have H1 := Lib.hid (And.intro hh1 (And.intro hz1 hk1)); clear hw hh1 hz1 hk1
    go_wp2_with fail
    refine (HC2.out _).mono ?_
    rintro _ w2 ⟨rfl, rfl⟩
    have HF := Lib.hid (fail_any B s a _ H1.out.1)
    go_wp2_with fail
    refine (HF.out).mono ?_
    rintro _ w3 ⟨rfl, rfl⟩
    go_wp2_with fail
    refine ⟨rfl, H1.out.2.2, Or.inl ⟨_, rfl, ?_⟩⟩
    rw [drop_len HL.out.1 ha]
  | @leaf m r d hm =>
    have hm3 : m = 116 ∨ m = 102 ∨ m = 118 := by
      unfold leafH at hm
      split at hm
      · exact Or.inl ‹_›
      · split at hm
        · exact Or.inr (Or.inl ‹_›)
        · split at hm
          · exact Or.inr (Or.inr ‹_›)
          · cases hm
    rcases hm3 with h116 | h102 | h118
    · obtain rfl : d = .node 1 1 0 nil8 [] := by
        rw [h116] at hm; exact (Option.some.inj (hm.symm.trans (by rfl)))
      subst h116
      obtain ⟨hlt, hd2⟩ := drop_tail hl
      have C := here_in B s a (w.alloc Zero5) HB.out.2.1 hlt hs
      rw [show s[a] = (116 : UInt8) by rw [drop_cons s a hlt] at hl; exact (List.cons.inj hl).1] at C
      obtain ⟨N0, hN0⟩ : ∃ N0, Lib.indexByte [116, 102, 118, 40] (116 : UInt8) = N0 := ⟨_, rfl⟩
      have C2 := fun W => Tryd.strings_IndexByte ⟨#[116, 102, 118, 40]⟩ ((116 : UInt8).toNat : Int) W
      rw [show ((⟨#[116, 102, 118, 40]⟩ : ByteArray).data.toList) = [116, 102, 118, 40] from rfl, show (((116 : UInt8).toNat : Int).toNat.toUInt8) = (116 : UInt8) by simp, hN0] at C2
      have hge := mark_in (116 : UInt8) (Or.inl (by decide))
      rw [hN0] at hge
      have hneg : ¬ N0 < 0 := by omega
      have HC := Lib.hid C; clear C
      have HC2 := Lib.hid C2; clear C2
      have HL := Lib.hid (And.intro hl hd2); clear hl hd2 hN0
      have hw1 : IntKind.i64.wrap ((a : Int) + 1) = (a : Int) + 1 := IntWalk.i64_in _ (by omega)
      go_enter Tryd.func87, Tryd.ntmps87
      go_wp2_with fail
      refine (HC.out).mono ?_
      rintro _ w1 ⟨rfl, k, hw⟩
      have hh1 : w1.heap[B]? = some (Tx s a) := by rw [hw]; exact HB.out.2.1
      have hz1 : w1.heap[w.heap.size]? = some Zero5 := by rw [hw]; exact HB.out.2.2
      have hk1 : Keeps B w w1 := by rw [hw]; exact (Keeps.of (box_below _ _)).trans (Keeps.of (below_drewN _ _))
      obtain ⟨c0, c1, z1⟩ := tx_cells hh1
      have H1 := Lib.hid (And.intro hh1 (And.intro hz1 hk1)); clear hw hh1 hz1 hk1
      go_wp2_with fail
      refine (HC2.out _).mono ?_
      rintro _ w2 ⟨rfl, rfl⟩
      have t116 : ((116 : Int) == 116) = true := rfl
      have t102 : ((116 : Int) == 102) = false := rfl
      have t118 : ((116 : Int) == 118) = false := rfl
      have hne0 : ¬ B = w.heap.size := by omega
      have hne1 : ¬ w.heap.size = B := by omega
      have hkW := H1.out.2.2.trans ((Keeps.refl B _).setCell 1 (.int .i64 ((a : Int) + 1)))
      have hhW := tx_set (a + 1) H1.out.1 (show ((a : Int) + 1) = ((a + 1 : Nat) : Int) by omega)
      have hzW := keeps_block ((Keeps.refl B _).setCell 1 (.int .i64 ((a : Int) + 1))) H1.out.2.1 (by omega)
      have hz1 := H1.out.2.1
      have y0 := box_frozen hz1 0
      have y1 := box_frozen hz1 1
      have y2 := box_frozen hz1 2
      have y3 := box_frozen hz1 3
      have y4 := box_frozen hz1 4
      obtain ⟨v0, v1, v2, v3, v4⟩ := box_cells hz1
      have HF := Lib.hid (And.intro hzW (leaf_told (q := r) 1 1 hB hkW (by unfold I64; omega) (by unfold I64; omega) (by omega) hhW HL.out.2))
      clear hkW hhW hzW hz1
      go_wp2_with fail
      refine bodyPost_ret (results_cell_row rfl _ _ w.heap.size 24 _ (0, 0) _ rfl (set_five (b0 := .int .i64 1) (b1 := .int .i64 1) (b2 := .int .i64 0) (b3 := .string ⟨#[]⟩) (b4 := .slice none 0 0) HF.out.1) Tryd.underlying24 rfl Tryd.sizeDt) rfl ?_
      exact HF.out.2
    · obtain rfl : d = .node 1 0 0 nil8 [] := by
        rw [h102] at hm; exact (Option.some.inj (hm.symm.trans (by rfl)))
      subst h102
      obtain ⟨hlt, hd2⟩ := drop_tail hl
      have C := here_in B s a (w.alloc Zero5) HB.out.2.1 hlt hs
      rw [show s[a] = (102 : UInt8) by rw [drop_cons s a hlt] at hl; exact (List.cons.inj hl).1] at C
      obtain ⟨N0, hN0⟩ : ∃ N0, Lib.indexByte [116, 102, 118, 40] (102 : UInt8) = N0 := ⟨_, rfl⟩
      have C2 := fun W => Tryd.strings_IndexByte ⟨#[116, 102, 118, 40]⟩ ((102 : UInt8).toNat : Int) W
      rw [show ((⟨#[116, 102, 118, 40]⟩ : ByteArray).data.toList) = [116, 102, 118, 40] from rfl, show (((102 : UInt8).toNat : Int).toNat.toUInt8) = (102 : UInt8) by simp, hN0] at C2
      have hge := mark_in (102 : UInt8) (Or.inl (by decide))
      rw [hN0] at hge
      have hneg : ¬ N0 < 0 := by omega
      have HC := Lib.hid C; clear C
      have HC2 := Lib.hid C2; clear C2
      have HL := Lib.hid (And.intro hl hd2); clear hl hd2 hN0
      have hw1 : IntKind.i64.wrap ((a : Int) + 1) = (a : Int) + 1 := IntWalk.i64_in _ (by omega)
      go_enter Tryd.func87, Tryd.ntmps87
      go_wp2_with fail
      refine (HC.out).mono ?_
      rintro _ w1 ⟨rfl, k, hw⟩
      have hh1 : w1.heap[B]? = some (Tx s a) := by rw [hw]; exact HB.out.2.1
      have hz1 : w1.heap[w.heap.size]? = some Zero5 := by rw [hw]; exact HB.out.2.2
      have hk1 : Keeps B w w1 := by rw [hw]; exact (Keeps.of (box_below _ _)).trans (Keeps.of (below_drewN _ _))
      obtain ⟨c0, c1, z1⟩ := tx_cells hh1
      have H1 := Lib.hid (And.intro hh1 (And.intro hz1 hk1)); clear hw hh1 hz1 hk1
      go_wp2_with fail
      refine (HC2.out _).mono ?_
      rintro _ w2 ⟨rfl, rfl⟩
      have t116 : ((102 : Int) == 116) = false := rfl
      have t102 : ((102 : Int) == 102) = true := rfl
      have t118 : ((102 : Int) == 118) = false := rfl
      have hne0 : ¬ B = w.heap.size := by omega
      have hne1 : ¬ w.heap.size = B := by omega
      have hkW := H1.out.2.2.trans ((Keeps.refl B _).setCell 1 (.int .i64 ((a : Int) + 1)))
      have hhW := tx_set (a + 1) H1.out.1 (show ((a : Int) + 1) = ((a + 1 : Nat) : Int) by omega)
      have hzW := keeps_block ((Keeps.refl B _).setCell 1 (.int .i64 ((a : Int) + 1))) H1.out.2.1 (by omega)
      have hz1 := H1.out.2.1
      have y0 := box_frozen hz1 0
      have y1 := box_frozen hz1 1
      have y2 := box_frozen hz1 2
      have y3 := box_frozen hz1 3
      have y4 := box_frozen hz1 4
      obtain ⟨v0, v1, v2, v3, v4⟩ := box_cells hz1
      have HF := Lib.hid (And.intro hzW (leaf_told (q := r) 1 0 hB hkW (by unfold I64; omega) (by unfold I64; omega) (by omega) hhW HL.out.2))
      clear hkW hhW hzW hz1
      go_wp2_with fail
      refine bodyPost_ret (results_cell_row rfl _ _ w.heap.size 24 _ (0, 0) _ rfl (set_five (b0 := .int .i64 1) (b1 := .int .i64 0) (b2 := .int .i64 0) (b3 := .string ⟨#[]⟩) (b4 := .slice none 0 0) HF.out.1) Tryd.underlying24 rfl Tryd.sizeDt) rfl ?_
      exact HF.out.2
    · obtain rfl : d = .node 5 0 0 nil8 [] := by
        rw [h118] at hm; exact (Option.some.inj (hm.symm.trans (by rfl)))
      subst h118
      obtain ⟨hlt, hd2⟩ := drop_tail hl
      have C := here_in B s a (w.alloc Zero5) HB.out.2.1 hlt hs
      rw [show s[a] = (118 : UInt8) by rw [drop_cons s a hlt] at hl; exact (List.cons.inj hl).1] at C
      obtain ⟨N0, hN0⟩ : ∃ N0, Lib.indexByte [116, 102, 118, 40] (118 : UInt8) = N0 := ⟨_, rfl⟩
      have C2 := fun W => Tryd.strings_IndexByte ⟨#[116, 102, 118, 40]⟩ ((118 : UInt8).toNat : Int) W
      rw [show ((⟨#[116, 102, 118, 40]⟩ : ByteArray).data.toList) = [116, 102, 118, 40] from rfl, show (((118 : UInt8).toNat : Int).toNat.toUInt8) = (118 : UInt8) by simp, hN0] at C2
      have hge := mark_in (118 : UInt8) (Or.inl (by decide))
      rw [hN0] at hge
      have hneg : ¬ N0 < 0 := by omega
      have HC := Lib.hid C; clear C
      have HC2 := Lib.hid C2; clear C2
      have HL := Lib.hid (And.intro hl hd2); clear hl hd2 hN0
      have hw1 : IntKind.i64.wrap ((a : Int) + 1) = (a : Int) + 1 := IntWalk.i64_in _ (by omega)
      go_enter Tryd.func87, Tryd.ntmps87
      go_wp2_with fail
      refine (HC.out).mono ?_
      rintro _ w1 ⟨rfl, k, hw⟩
      have hh1 : w1.heap[B]? = some (Tx s a) := by rw [hw]; exact HB.out.2.1
      have hz1 : w1.heap[w.heap.size]? = some Zero5 := by rw [hw]; exact HB.out.2.2
      have hk1 : Keeps B w w1 := by rw [hw]; exact (Keeps.of (box_below _ _)).trans (Keeps.of (below_drewN _ _))
      obtain ⟨c0, c1, z1⟩ := tx_cells hh1
      have H1 := Lib.hid (And.intro hh1 (And.intro hz1 hk1)); clear hw hh1 hz1 hk1
      go_wp2_with fail
      refine (HC2.out _).mono ?_
      rintro _ w2 ⟨rfl, rfl⟩
      have t116 : ((118 : Int) == 116) = false := rfl
      have t102 : ((118 : Int) == 102) = false := rfl
      have t118 : ((118 : Int) == 118) = true := rfl
      have hne0 : ¬ B = w.heap.size := by omega
      have hne1 : ¬ w.heap.size = B := by omega
      have hkW := H1.out.2.2.trans ((Keeps.refl B _).setCell 1 (.int .i64 ((a : Int) + 1)))
      have hhW := tx_set (a + 1) H1.out.1 (show ((a : Int) + 1) = ((a + 1 : Nat) : Int) by omega)
      have hzW := keeps_block ((Keeps.refl B _).setCell 1 (.int .i64 ((a : Int) + 1))) H1.out.2.1 (by omega)
      have hz1 := H1.out.2.1
      have y0 := box_frozen hz1 0
      have y1 := box_frozen hz1 1
      have y2 := box_frozen hz1 2
      have y3 := box_frozen hz1 3
      have y4 := box_frozen hz1 4
      obtain ⟨v0, v1, v2, v3, v4⟩ := box_cells hz1
      have HF := Lib.hid (And.intro hzW (leaf_told (q := r) 5 0 hB hkW (by unfold I64; omega) (by unfold I64; omega) (by omega) hhW HL.out.2))
      clear hkW hhW hzW hz1
      go_wp2_with fail
      refine bodyPost_ret (results_cell_row rfl _ _ w.heap.size 24 _ (0, 0) _ rfl (set_five (b0 := .int .i64 5) (b1 := .int .i64 0) (b2 := .int .i64 0) (b3 := .string ⟨#[]⟩) (b4 := .slice none 0 0) HF.out.1) Tryd.underlying24 rfl Tryd.sizeDt) rfl ?_
      exact HF.out.2
  | @vec r res hr =>
    have HR := Lib.hid hr; clear hr
    obtain ⟨hlt, hd2⟩ := drop_tail hl
    have C := here_in B s a (w.alloc Zero5) HB.out.2.1 hlt hs
    rw [show s[a] = (40 : UInt8) by rw [drop_cons s a hlt] at hl; exact (List.cons.inj hl).1] at C
    obtain ⟨N0, hN0⟩ : ∃ N0, Lib.indexByte [116, 102, 118, 40] (40 : UInt8) = N0 := ⟨_, rfl⟩
    have C2 := fun W => Tryd.strings_IndexByte ⟨#[116, 102, 118, 40]⟩ ((40 : UInt8).toNat : Int) W
    rw [show ((⟨#[116, 102, 118, 40]⟩ : ByteArray).data.toList) = [116, 102, 118, 40] from rfl, show (((40 : UInt8).toNat : Int).toNat.toUInt8) = (40 : UInt8) by simp, hN0] at C2
    have hge := mark_in (40 : UInt8) (Or.inr rfl)
    rw [hN0] at hge
    have hneg : ¬ N0 < 0 := by omega
    have HC := Lib.hid C; clear C
    have HC2 := Lib.hid C2; clear C2
    have HL := Lib.hid (And.intro hl hd2); clear hl hd2 hN0
    have hw1 : IntKind.i64.wrap ((a : Int) + 1) = (a : Int) + 1 := IntWalk.i64_in _ (by omega)
    go_enter Tryd.func87, Tryd.ntmps87
    go_wp2_with fail
    refine (HC.out).mono ?_
    rintro _ w1 ⟨rfl, k, hw⟩
    have hh1 : w1.heap[B]? = some (Tx s a) := by rw [hw]; exact HB.out.2.1
    have hz1 : w1.heap[w.heap.size]? = some Zero5 := by rw [hw]; exact HB.out.2.2
    have hk1 : Keeps B w w1 := by rw [hw]; exact (Keeps.of (box_below _ _)).trans (Keeps.of (below_drewN _ _))
    obtain ⟨c0, c1, z1⟩ := tx_cells hh1
    have H1 := Lib.hid (And.intro hh1 (And.intro hz1 hk1)); clear hw hh1 hz1 hk1
    go_wp2_with fail
    refine (HC2.out _).mono ?_
    rintro _ w2 ⟨rfl, rfl⟩
    have t116 : ((40 : Int) == 116) = false := rfl
    have t102 : ((40 : Int) == 102) = false := rfl
    have t118 : ((40 : Int) == 118) = false := rfl
    have hkW := H1.out.2.2.trans ((Keeps.refl B _).setCell 1 (.int .i64 ((a : Int) + 1)))
    have hhW := tx_set (a + 1) H1.out.1 (show ((a : Int) + 1) = ((a + 1 : Nat) : Int) by omega)
    have hzW := keeps_block ((Keeps.refl B _).setCell 1 (.int .i64 ((a : Int) + 1))) H1.out.2.1 (by omega)
    have C3 := vec_any N IH.out B s (a + 1) _ _ (by omega) hhW (by omega) hs (HL.out.2.symm ▸ HR.out)
    have HC3 := Lib.hid C3; clear C3
    have HW := Lib.hid (And.intro hkW (And.intro (Array.getElem?_eq_some_iff.1 hzW).1 hzW)); clear hkW hhW hzW
    cases res with
    | bad q =>
      go_wp2_with fail
      refine (HC3.out).mono ?_
      intro e w3 ht
      obtain ⟨hk3, rfl⟩ := told_bad ht
      have HT := Lib.hid hk3; clear hk3 ht
      go_wp2_with fail
      exact ⟨rfl, HW.out.1.trans HT.out, Or.inl ⟨q, rfl, rfl⟩⟩
    | ok d q =>
      go_wp2_with fail
      refine (HC3.out).mono ?_
      intro e w3 ht
      obtain ⟨hk3, dk, dn, dd, ds, dp, dlen, dcap, b3, rfl, hat, hb3, hh3, hd3⟩ := told_ok ht
      have hbx := keeps_block hk3 HW.out.2.2 (by omega)
      have y0 := box_frozen hbx 0
      have y1 := box_frozen hbx 1
      have y2 := box_frozen hbx 2
      have y3 := box_frozen hbx 3
      have y4 := box_frozen hbx 4
      obtain ⟨v0, v1, v2, v3, v4⟩ := box_cells hbx
      have hfin := one_fin hB HW.out.1 HW.out.2.1 hk3 hat hb3 hh3 hd3
      have HF := Lib.hid (And.intro hbx hfin)
      clear hbx hfin ht hat hh3 hd3 hk3
      go_wp2_with fail
      refine bodyPost_ret (results_cell_row rfl _ _ w.heap.size 24 _ (0, 0) _ rfl (set_five (b0 := .int .i64 dk) (b1 := .int .i64 dn) (b2 := .int .i64 dd) (b3 := .string ds) (b4 := .slice dp dlen dcap) HF.out.1) Tryd.underlying24 rfl Tryd.sizeDt) rfl ?_
      exact HF.out.2
end Go.Proofs.YtabofebepefbgaaDoor.Dat

/- The program's reader: one datum. -/
namespace Go.Proofs.YtabofebepefbgaaDoor.Dat
open Go.RowKit
set_option linter.unusedVariables false

theorem quote_row {w w3 : World} {d : Dt} {dk dn dd : Int} {ds : ByteArray} {dp : Option Addr} {dlen dcap : Nat} {O : Obj} (h4 : w.heap.size < w3.heap.size) (h5 : w.heap.size + 1 ≤ w3.heap.size) (hat : d.At (off w3 (old (w.heap.size + 1))) (.agg #[.int .i64 dk, .int .i64 dn, .int .i64 dd, .string ds, .slice dp dlen dcap]))
    (hO : Obj.cells #[.int .i64 2, .int .i64 0, .int .i64 0, .string ⟨#[113, 117, 111, 116, 101]⟩, .slice none 0 0, .int .i64 dk, .int .i64 dn, .int .i64 dd, .string ds, .slice dp dlen dcap] 24 = O) :
    Dt.AllAt (off (w3.alloc O) (old (w.heap.size + 1))) [quoteD, d] w3.heap.size 0 := by
  have tc : ∀ j v, #[Value.int IntKind.i64 2, .int .i64 0, .int .i64 0, .string ⟨#[113, 117, 111, 116, 101]⟩, .slice none 0 0, .int .i64 dk, .int .i64 dn, .int .i64 dd, .string ds, .slice dp dlen dcap][j]? = some v → (off (w3.alloc O) (old (w.heap.size + 1))).cell? ⟨w3.heap.size, j, none⟩ = some v := by
    intro j v hj
    exact off_cell.2 ⟨decide_eq_false (by omega), by rw [heap_cell ((at_new w3 O).trans (congrArg some hO.symm))]; exact hj⟩
  unfold Dt.AllAt
  refine ⟨⟨_, _, _, _, _, tc 0 _ rfl, tc 1 _ rfl, tc 2 _ rfl, tc 3 _ rfl, tc 4 _ rfl, leaf_off _ _ _ _ _ (by unfold I64; omega) (by unfold I64; omega) (by unfold I64; omega) (by unfold maxLen; decide)⟩, ?_⟩
  unfold Dt.AllAt
  refine ⟨⟨_, _, _, _, _, tc 5 _ rfl, tc 6 _ rfl, tc 7 _ rfl, tc 8 _ rfl, tc 9 _ rfl, hat.on fun b o v hv => ?_⟩, by unfold Dt.AllAt; trivial⟩
  obtain ⟨h0, hc⟩ := off_cell.1 hv
  exact off_cell.2 ⟨h0, cell_on (box_below _ _) _ _ _ hc⟩

set_option maxHeartbeats 8000000 in
set_option maxRecDepth 100000 in
theorem one_step (N : Nat) (ih : OneAt N) : OneAt (N + 1) := by
  intro B s a w res hN hb ha hs hr
  have hB : B < w.heap.size := (Array.getElem?_eq_some_iff.1 hb).1
  have hbA := block_on (box_below w Zero5) hb
  have hzA := at_new w Zero5
  have HB := Lib.hid (And.intro hb (And.intro hbA hzA)); clear hb hbA hzA
  have IH := Lib.hid ih; clear ih
  generalize hl : s.data.toList.drop a = l at hr
  cases hr with
  | none hsk =>
    rw [← hl] at hsk
    have HO := Lib.hid (next_out B s a (w.alloc Zero5) HB.out.2.1 ha hs hsk)
    clear hl hsk
    go_enter Tryd.func65, Tryd.ntmps65
    go_wp2_with fail
    refine (HO.out).mono ?_
    rintro _ w1 ⟨rfl, hk1⟩
    have H1 := Lib.hid hk1; clear hk1
    go_wp2_with fail
    exact ⟨rfl, (Keeps.of (box_below _ _)).trans H1.out, Or.inl ⟨[], rfl, rfl⟩⟩
  | @str _ r hsk =>
    generalize hres : strR r = res
    rw [← hl] at hsk
    have HSK := Lib.hid (show ((34 : UInt8) :: r).length ≤ s.size - a by rw [← hsk]; have := skip_len false (s.data.toList.drop a); simpa using this)
    have HO := Lib.hid (next_in B s a (w.alloc Zero5) 34 r HB.out.2.1 ha hs hsk)
    clear hl hsk
    have t40 : ((34 : Int) == 40) = false := rfl
    have t39 : ((34 : Int) == 39) = false := rfl
    have t34 : ((34 : Int) == 34) = true := rfl
    go_enter Tryd.func65, Tryd.ntmps65
    go_wp2_with fail
    refine (HO.out).mono ?_
    rintro _ w1 ⟨rfl, hk, b, hb1, hh1, hd1⟩
    have hz1 := keeps_block hk HB.out.2.2 (by omega)
    have hk1 := (Keeps.of (box_below w Zero5)).trans hk
    obtain ⟨hlt, hd2⟩ := drop_tail hd1
    have hbN : s.size - b < N + 1 ∧ s.size - (b + 1) < N := by
      have h1 := HSK.out
      have h2 := congrArg List.length hd1
      simp at h1 h2
      omega
    obtain ⟨hbN1, hbN2⟩ := hbN
    have hw1 : IntKind.i64.wrap ((b : Int) + 1) = (b : Int) + 1 := IntWalk.i64_in _ (by omega)
    obtain ⟨c0, c1, z1⟩ := tx_cells hh1
    have H1 := Lib.hid (And.intro hh1 (And.intro hz1 (And.intro hk1 (And.intro hd1 hd2)))); clear hh1 hz1 hk1 hk hd1 hd2
    have hkW := H1.out.2.2.1.trans ((Keeps.refl B _).setCell 1 (.int .i64 ((b : Int) + 1)))
    have hhW := tx_set (b + 1) H1.out.1 (show ((b : Int) + 1) = ((b + 1 : Nat) : Int) by omega)
    have hzW := keeps_block ((Keeps.refl B _).setCell 1 (.int .i64 ((b : Int) + 1))) H1.out.2.1 (by omega)
    have C3 := str_any B s (b + 1) _ hhW (by omega) hs
    rw [H1.out.2.2.2.2, hres] at C3
    clear hres
    have HC3 := Lib.hid C3; clear C3
    have HW := Lib.hid (And.intro hkW (And.intro (Array.getElem?_eq_some_iff.1 hzW).1 hzW)); clear hkW hhW hzW
    cases res with
    | bad q =>
      go_wp2_with fail
      refine (HC3.out).mono ?_
      intro e w3 ht
      obtain ⟨hk3, rfl⟩ := told_bad ht
      have HT := Lib.hid hk3; clear hk3 ht
      go_wp2_with fail
      exact ⟨rfl, HW.out.1.trans HT.out, Or.inl ⟨q, rfl, rfl⟩⟩
    | ok d q =>
      go_wp2_with fail
      refine (HC3.out).mono ?_
      intro e w3 ht
      obtain ⟨hk3, dk, dn, dd, ds, dp, dlen, dcap, b3, rfl, hat, hb3, hh3, hd3⟩ := told_ok ht
      have hbx := keeps_block hk3 HW.out.2.2 (by omega)
      have y0 := box_frozen hbx 0
      have y1 := box_frozen hbx 1
      have y2 := box_frozen hbx 2
      have y3 := box_frozen hbx 3
      have y4 := box_frozen hbx 4
      obtain ⟨v0, v1, v2, v3, v4⟩ := box_cells hbx
      have hfin := one_fin hB HW.out.1 HW.out.2.1 hk3 hat hb3 hh3 hd3
      have HF := Lib.hid (And.intro hbx hfin)
      clear hbx hfin ht hat hh3 hd3 hk3
      go_wp2_with fail
      refine bodyPost_ret (results_cell_row rfl _ _ w.heap.size 24 _ (0, 0) _ rfl (set_five (b0 := .int .i64 dk) (b1 := .int .i64 dn) (b2 := .int .i64 dd) (b3 := .string ds) (b4 := .slice dp dlen dcap) HF.out.1) Tryd.underlying24 rfl Tryd.sizeDt) rfl ?_
      exact HF.out.2
  | @word _ c r hsk n1 n2 n3 n4 =>
    generalize hres : wordR (c :: r) = res
    have t40 : ((c.toNat : Int) == 40) = false := byte_ne n1
    have t39 : ((c.toNat : Int) == 39) = false := byte_ne n2
    have t34 : ((c.toNat : Int) == 34) = false := byte_ne n3
    have t35 : ((c.toNat : Int) == 35) = false := byte_ne n4
    clear n1 n2 n3 n4
    rw [← hl] at hsk
    have HSK := Lib.hid (show ((c : UInt8) :: r).length ≤ s.size - a by rw [← hsk]; have := skip_len false (s.data.toList.drop a); simpa using this)
    have HO := Lib.hid (next_in B s a (w.alloc Zero5) c r HB.out.2.1 ha hs hsk)
    clear hl hsk
    go_enter Tryd.func65, Tryd.ntmps65
    go_wp2_with fail
    refine (HO.out).mono ?_
    rintro _ w1 ⟨rfl, hk, b, hb1, hh1, hd1⟩
    have hz1 := keeps_block hk HB.out.2.2 (by omega)
    have hk1 := (Keeps.of (box_below w Zero5)).trans hk
    obtain ⟨hlt, hd2⟩ := drop_tail hd1
    have hbN : s.size - b < N + 1 ∧ s.size - (b + 1) < N := by
      have h1 := HSK.out
      have h2 := congrArg List.length hd1
      simp at h1 h2
      omega
    obtain ⟨hbN1, hbN2⟩ := hbN
    have hw1 : IntKind.i64.wrap ((b : Int) + 1) = (b : Int) + 1 := IntWalk.i64_in _ (by omega)
    obtain ⟨c0, c1, z1⟩ := tx_cells hh1
    have H1 := Lib.hid (And.intro hh1 (And.intro hz1 (And.intro hk1 (And.intro hd1 hd2)))); clear hh1 hz1 hk1 hk hd1 hd2
    have C3 := wordT_any B s b w1 H1.out.1 hb1 hs
    rw [H1.out.2.2.2.1, hres] at C3
    clear hres
    have HC3 := Lib.hid C3; clear C3
    have HW := Lib.hid (And.intro H1.out.2.2.1 (And.intro (Array.getElem?_eq_some_iff.1 H1.out.2.1).1 H1.out.2.1))
    cases res with
    | bad q =>
      go_wp2_with fail
      refine (HC3.out).mono ?_
      intro e w3 ht
      obtain ⟨hk3, rfl⟩ := told_bad ht
      have HT := Lib.hid hk3; clear hk3 ht
      go_wp2_with fail
      exact ⟨rfl, HW.out.1.trans HT.out, Or.inl ⟨q, rfl, rfl⟩⟩
    | ok d q =>
      go_wp2_with fail
      refine (HC3.out).mono ?_
      intro e w3 ht
      obtain ⟨hk3, dk, dn, dd, ds, dp, dlen, dcap, b3, rfl, hat, hb3, hh3, hd3⟩ := told_ok ht
      have hbx := keeps_block hk3 HW.out.2.2 (by omega)
      have y0 := box_frozen hbx 0
      have y1 := box_frozen hbx 1
      have y2 := box_frozen hbx 2
      have y3 := box_frozen hbx 3
      have y4 := box_frozen hbx 4
      obtain ⟨v0, v1, v2, v3, v4⟩ := box_cells hbx
      have hfin := one_fin hB HW.out.1 HW.out.2.1 hk3 hat hb3 hh3 hd3
      have HF := Lib.hid (And.intro hbx hfin)
      clear hbx hfin ht hat hh3 hd3 hk3
      go_wp2_with fail
      refine bodyPost_ret (results_cell_row rfl _ _ w.heap.size 24 _ (0, 0) _ rfl (set_five (b0 := .int .i64 dk) (b1 := .int .i64 dn) (b2 := .int .i64 dd) (b3 := .string ds) (b4 := .slice dp dlen dcap) HF.out.1) Tryd.underlying24 rfl Tryd.sizeDt) rfl ?_
      exact HF.out.2
  | @list _ r _ hsk hr1 =>
    have HR := Lib.hid hr1; clear hr1
    rw [← hl] at hsk
    have HSK := Lib.hid (show ((40 : UInt8) :: r).length ≤ s.size - a by rw [← hsk]; have := skip_len false (s.data.toList.drop a); simpa using this)
    have HO := Lib.hid (next_in B s a (w.alloc Zero5) 40 r HB.out.2.1 ha hs hsk)
    clear hl hsk
    have t40 : ((40 : Int) == 40) = true := rfl
    go_enter Tryd.func65, Tryd.ntmps65
    go_wp2_with fail
    refine (HO.out).mono ?_
    rintro _ w1 ⟨rfl, hk, b, hb1, hh1, hd1⟩
    have hz1 := keeps_block hk HB.out.2.2 (by omega)
    have hk1 := (Keeps.of (box_below w Zero5)).trans hk
    obtain ⟨hlt, hd2⟩ := drop_tail hd1
    have hbN : s.size - b < N + 1 ∧ s.size - (b + 1) < N := by
      have h1 := HSK.out
      have h2 := congrArg List.length hd1
      simp at h1 h2
      omega
    obtain ⟨hbN1, hbN2⟩ := hbN
    have hw1 : IntKind.i64.wrap ((b : Int) + 1) = (b : Int) + 1 := IntWalk.i64_in _ (by omega)
    obtain ⟨c0, c1, z1⟩ := tx_cells hh1
    have H1 := Lib.hid (And.intro hh1 (And.intro hz1 (And.intro hk1 (And.intro hd1 hd2)))); clear hh1 hz1 hk1 hk hd1 hd2
    have hkW := H1.out.2.2.1.trans ((Keeps.refl B _).setCell 1 (.int .i64 ((b : Int) + 1)))
    have hhW := tx_set (b + 1) H1.out.1 (show ((b : Int) + 1) = ((b + 1 : Nat) : Int) by omega)
    have hzW := keeps_block ((Keeps.refl B _).setCell 1 (.int .i64 ((b : Int) + 1))) H1.out.2.1 (by omega)
    have C3 := list_any N IH.out B s (b + 1) _ _ hbN2 hhW (by omega) hs (H1.out.2.2.2.2.symm ▸ HR.out)
    have HC3 := Lib.hid C3; clear C3
    have HW := Lib.hid (And.intro hkW (And.intro (Array.getElem?_eq_some_iff.1 hzW).1 hzW)); clear hkW hhW hzW
    cases res with
    | bad q =>
      go_wp2_with fail
      refine (HC3.out).mono ?_
      intro e w3 ht
      obtain ⟨hk3, rfl⟩ := told_bad ht
      have HT := Lib.hid hk3; clear hk3 ht
      go_wp2_with fail
      exact ⟨rfl, HW.out.1.trans HT.out, Or.inl ⟨q, rfl, rfl⟩⟩
    | ok d q =>
      go_wp2_with fail
      refine (HC3.out).mono ?_
      intro e w3 ht
      obtain ⟨hk3, dk, dn, dd, ds, dp, dlen, dcap, b3, rfl, hat, hb3, hh3, hd3⟩ := told_ok ht
      have hbx := keeps_block hk3 HW.out.2.2 (by omega)
      have y0 := box_frozen hbx 0
      have y1 := box_frozen hbx 1
      have y2 := box_frozen hbx 2
      have y3 := box_frozen hbx 3
      have y4 := box_frozen hbx 4
      obtain ⟨v0, v1, v2, v3, v4⟩ := box_cells hbx
      have hfin := one_fin hB HW.out.1 HW.out.2.1 hk3 hat hb3 hh3 hd3
      have HF := Lib.hid (And.intro hbx hfin)
      clear hbx hfin ht hat hh3 hd3 hk3
      go_wp2_with fail
      refine bodyPost_ret (results_cell_row rfl _ _ w.heap.size 24 _ (0, 0) _ rfl (set_five (b0 := .int .i64 dk) (b1 := .int .i64 dn) (b2 := .int .i64 dd) (b3 := .string ds) (b4 := .slice dp dlen dcap) HF.out.1) Tryd.underlying24 rfl Tryd.sizeDt) rfl ?_
      exact HF.out.2
  | @hashEnd _ hsk =>
    have hmk := Mark.none
    generalize hres : (Res.bad [] : Res Dt) = res at hmk
    have HMK := Lib.hid hmk; clear hmk
    rw [← hl] at hsk
    have HSK := Lib.hid (show ((35 : UInt8) :: []).length ≤ s.size - a by rw [← hsk]; have := skip_len false (s.data.toList.drop a); simpa using this)
    have HO := Lib.hid (next_in B s a (w.alloc Zero5) 35 [] HB.out.2.1 ha hs hsk)
    clear hl hsk
    have t40 : ((35 : Int) == 40) = false := rfl
    have t39 : ((35 : Int) == 39) = false := rfl
    have t34 : ((35 : Int) == 34) = false := rfl
    have t35 : ((35 : Int) == 35) = true := rfl
    go_enter Tryd.func65, Tryd.ntmps65
    go_wp2_with fail
    refine (HO.out).mono ?_
    rintro _ w1 ⟨rfl, hk, b, hb1, hh1, hd1⟩
    have hz1 := keeps_block hk HB.out.2.2 (by omega)
    have hk1 := (Keeps.of (box_below w Zero5)).trans hk
    obtain ⟨hlt, hd2⟩ := drop_tail hd1
    have hbN : s.size - b < N + 1 ∧ s.size - (b + 1) < N := by
      have h1 := HSK.out
      have h2 := congrArg List.length hd1
      simp at h1 h2
      omega
    obtain ⟨hbN1, hbN2⟩ := hbN
    have hw1 : IntKind.i64.wrap ((b : Int) + 1) = (b : Int) + 1 := IntWalk.i64_in _ (by omega)
    obtain ⟨c0, c1, z1⟩ := tx_cells hh1
    have H1 := Lib.hid (And.intro hh1 (And.intro hz1 (And.intro hk1 (And.intro hd1 hd2)))); clear hh1 hz1 hk1 hk hd1 hd2
    have hkW := H1.out.2.2.1.trans ((Keeps.refl B _).setCell 1 (.int .i64 ((b : Int) + 1)))
    have hhW := tx_set (b + 1) H1.out.1 (show ((b : Int) + 1) = ((b + 1 : Nat) : Int) by omega)
    have hzW := keeps_block ((Keeps.refl B _).setCell 1 (.int .i64 ((b : Int) + 1))) H1.out.2.1 (by omega)
    have C3 := marked_any N IH.out B s (b + 1) _ _ hbN2 hhW (by omega) hs (H1.out.2.2.2.2.symm ▸ HMK.out)
    have HC3 := Lib.hid C3; clear C3
    have HW := Lib.hid (And.intro hkW (And.intro (Array.getElem?_eq_some_iff.1 hzW).1 hzW)); clear hkW hhW hzW
    cases res with
    | bad q =>
      go_wp2_with fail
      refine (HC3.out).mono ?_
      intro e w3 ht
      obtain ⟨hk3, rfl⟩ := told_bad ht
      have HT := Lib.hid hk3; clear hk3 ht
      go_wp2_with fail
      exact ⟨rfl, HW.out.1.trans HT.out, Or.inl ⟨q, rfl, rfl⟩⟩
    | ok d q =>
      go_wp2_with fail
      refine (HC3.out).mono ?_
      intro e w3 ht
      obtain ⟨hk3, dk, dn, dd, ds, dp, dlen, dcap, b3, rfl, hat, hb3, hh3, hd3⟩ := told_ok ht
      have hbx := keeps_block hk3 HW.out.2.2 (by omega)
      have y0 := box_frozen hbx 0
      have y1 := box_frozen hbx 1
      have y2 := box_frozen hbx 2
      have y3 := box_frozen hbx 3
      have y4 := box_frozen hbx 4
      obtain ⟨v0, v1, v2, v3, v4⟩ := box_cells hbx
      have hfin := one_fin hB HW.out.1 HW.out.2.1 hk3 hat hb3 hh3 hd3
      have HF := Lib.hid (And.intro hbx hfin)
      clear hbx hfin ht hat hh3 hd3 hk3
      go_wp2_with fail
      refine bodyPost_ret (results_cell_row rfl _ _ w.heap.size 24 _ (0, 0) _ rfl (set_five (b0 := .int .i64 dk) (b1 := .int .i64 dn) (b2 := .int .i64 dd) (b3 := .string ds) (b4 := .slice dp dlen dcap) HF.out.1) Tryd.underlying24 rfl Tryd.sizeDt) rfl ?_
      exact HF.out.2
  | @hashLeaf _ m r d hsk hm =>
    have hmk := Mark.leaf (r := r) hm
    generalize hres : Res.ok d r = res at hmk
    have HMK := Lib.hid hmk; clear hmk hm
    rw [← hl] at hsk
    have HSK := Lib.hid (show ((35 : UInt8) :: (m :: r)).length ≤ s.size - a by rw [← hsk]; have := skip_len false (s.data.toList.drop a); simpa using this)
    have HO := Lib.hid (next_in B s a (w.alloc Zero5) 35 (m :: r) HB.out.2.1 ha hs hsk)
    clear hl hsk
    have t40 : ((35 : Int) == 40) = false := rfl
    have t39 : ((35 : Int) == 39) = false := rfl
    have t34 : ((35 : Int) == 34) = false := rfl
    have t35 : ((35 : Int) == 35) = true := rfl
    go_enter Tryd.func65, Tryd.ntmps65
    go_wp2_with fail
    refine (HO.out).mono ?_
    rintro _ w1 ⟨rfl, hk, b, hb1, hh1, hd1⟩
    have hz1 := keeps_block hk HB.out.2.2 (by omega)
    have hk1 := (Keeps.of (box_below w Zero5)).trans hk
    obtain ⟨hlt, hd2⟩ := drop_tail hd1
    have hbN : s.size - b < N + 1 ∧ s.size - (b + 1) < N := by
      have h1 := HSK.out
      have h2 := congrArg List.length hd1
      simp at h1 h2
      omega
    obtain ⟨hbN1, hbN2⟩ := hbN
    have hw1 : IntKind.i64.wrap ((b : Int) + 1) = (b : Int) + 1 := IntWalk.i64_in _ (by omega)
    obtain ⟨c0, c1, z1⟩ := tx_cells hh1
    have H1 := Lib.hid (And.intro hh1 (And.intro hz1 (And.intro hk1 (And.intro hd1 hd2)))); clear hh1 hz1 hk1 hk hd1 hd2
    have hkW := H1.out.2.2.1.trans ((Keeps.refl B _).setCell 1 (.int .i64 ((b : Int) + 1)))
    have hhW := tx_set (b + 1) H1.out.1 (show ((b : Int) + 1) = ((b + 1 : Nat) : Int) by omega)
    have hzW := keeps_block ((Keeps.refl B _).setCell 1 (.int .i64 ((b : Int) + 1))) H1.out.2.1 (by omega)
    have C3 := marked_any N IH.out B s (b + 1) _ _ hbN2 hhW (by omega) hs (H1.out.2.2.2.2.symm ▸ HMK.out)
    have HC3 := Lib.hid C3; clear C3
    have HW := Lib.hid (And.intro hkW (And.intro (Array.getElem?_eq_some_iff.1 hzW).1 hzW)); clear hkW hhW hzW
    cases res with
    | bad q =>
      go_wp2_with fail
      refine (HC3.out).mono ?_
      intro e w3 ht
      obtain ⟨hk3, rfl⟩ := told_bad ht
      have HT := Lib.hid hk3; clear hk3 ht
      go_wp2_with fail
      exact ⟨rfl, HW.out.1.trans HT.out, Or.inl ⟨q, rfl, rfl⟩⟩
    | ok d q =>
      go_wp2_with fail
      refine (HC3.out).mono ?_
      intro e w3 ht
      obtain ⟨hk3, dk, dn, dd, ds, dp, dlen, dcap, b3, rfl, hat, hb3, hh3, hd3⟩ := told_ok ht
      have hbx := keeps_block hk3 HW.out.2.2 (by omega)
      have y0 := box_frozen hbx 0
      have y1 := box_frozen hbx 1
      have y2 := box_frozen hbx 2
      have y3 := box_frozen hbx 3
      have y4 := box_frozen hbx 4
      obtain ⟨v0, v1, v2, v3, v4⟩ := box_cells hbx
      have hfin := one_fin hB HW.out.1 HW.out.2.1 hk3 hat hb3 hh3 hd3
      have HF := Lib.hid (And.intro hbx hfin)
      clear hbx hfin ht hat hh3 hd3 hk3
      go_wp2_with fail
      refine bodyPost_ret (results_cell_row rfl _ _ w.heap.size 24 _ (0, 0) _ rfl (set_five (b0 := .int .i64 dk) (b1 := .int .i64 dn) (b2 := .int .i64 dd) (b3 := .string ds) (b4 := .slice dp dlen dcap) HF.out.1) Tryd.underlying24 rfl Tryd.sizeDt) rfl ?_
      exact HF.out.2
  | @hashVec _ r _ hsk hr1 =>
    have hmk := Mark.vec hr1
    have HMK := Lib.hid hmk; clear hmk hr1
    rw [← hl] at hsk
    have HSK := Lib.hid (show ((35 : UInt8) :: (40 :: r)).length ≤ s.size - a by rw [← hsk]; have := skip_len false (s.data.toList.drop a); simpa using this)
    have HO := Lib.hid (next_in B s a (w.alloc Zero5) 35 (40 :: r) HB.out.2.1 ha hs hsk)
    clear hl hsk
    have t40 : ((35 : Int) == 40) = false := rfl
    have t39 : ((35 : Int) == 39) = false := rfl
    have t34 : ((35 : Int) == 34) = false := rfl
    have t35 : ((35 : Int) == 35) = true := rfl
    go_enter Tryd.func65, Tryd.ntmps65
    go_wp2_with fail
    refine (HO.out).mono ?_
    rintro _ w1 ⟨rfl, hk, b, hb1, hh1, hd1⟩
    have hz1 := keeps_block hk HB.out.2.2 (by omega)
    have hk1 := (Keeps.of (box_below w Zero5)).trans hk
    obtain ⟨hlt, hd2⟩ := drop_tail hd1
    have hbN : s.size - b < N + 1 ∧ s.size - (b + 1) < N := by
      have h1 := HSK.out
      have h2 := congrArg List.length hd1
      simp at h1 h2
      omega
    obtain ⟨hbN1, hbN2⟩ := hbN
    have hw1 : IntKind.i64.wrap ((b : Int) + 1) = (b : Int) + 1 := IntWalk.i64_in _ (by omega)
    obtain ⟨c0, c1, z1⟩ := tx_cells hh1
    have H1 := Lib.hid (And.intro hh1 (And.intro hz1 (And.intro hk1 (And.intro hd1 hd2)))); clear hh1 hz1 hk1 hk hd1 hd2
    have hkW := H1.out.2.2.1.trans ((Keeps.refl B _).setCell 1 (.int .i64 ((b : Int) + 1)))
    have hhW := tx_set (b + 1) H1.out.1 (show ((b : Int) + 1) = ((b + 1 : Nat) : Int) by omega)
    have hzW := keeps_block ((Keeps.refl B _).setCell 1 (.int .i64 ((b : Int) + 1))) H1.out.2.1 (by omega)
    have C3 := marked_any N IH.out B s (b + 1) _ _ hbN2 hhW (by omega) hs (H1.out.2.2.2.2.symm ▸ HMK.out)
    have HC3 := Lib.hid C3; clear C3
    have HW := Lib.hid (And.intro hkW (And.intro (Array.getElem?_eq_some_iff.1 hzW).1 hzW)); clear hkW hhW hzW
    cases res with
    | bad q =>
      go_wp2_with fail
      refine (HC3.out).mono ?_
      intro e w3 ht
      obtain ⟨hk3, rfl⟩ := told_bad ht
      have HT := Lib.hid hk3; clear hk3 ht
      go_wp2_with fail
      exact ⟨rfl, HW.out.1.trans HT.out, Or.inl ⟨q, rfl, rfl⟩⟩
    | ok d q =>
      go_wp2_with fail
      refine (HC3.out).mono ?_
      intro e w3 ht
      obtain ⟨hk3, dk, dn, dd, ds, dp, dlen, dcap, b3, rfl, hat, hb3, hh3, hd3⟩ := told_ok ht
      have hbx := keeps_block hk3 HW.out.2.2 (by omega)
      have y0 := box_frozen hbx 0
      have y1 := box_frozen hbx 1
      have y2 := box_frozen hbx 2
      have y3 := box_frozen hbx 3
      have y4 := box_frozen hbx 4
      obtain ⟨v0, v1, v2, v3, v4⟩ := box_cells hbx
      have hfin := one_fin hB HW.out.1 HW.out.2.1 hk3 hat hb3 hh3 hd3
      have HF := Lib.hid (And.intro hbx hfin)
      clear hbx hfin ht hat hh3 hd3 hk3
      go_wp2_with fail
      refine bodyPost_ret (results_cell_row rfl _ _ w.heap.size 24 _ (0, 0) _ rfl (set_five (b0 := .int .i64 dk) (b1 := .int .i64 dn) (b2 := .int .i64 dd) (b3 := .string ds) (b4 := .slice dp dlen dcap) HF.out.1) Tryd.underlying24 rfl Tryd.sizeDt) rfl ?_
      exact HF.out.2
  | @hashBad _ m r hsk hm h40 =>
    have hmk := Mark.bad (r := r) hm h40
    generalize hres : (Res.bad (m :: r) : Res Dt) = res at hmk
    have HMK := Lib.hid hmk; clear hmk hm h40
    rw [← hl] at hsk
    have HSK := Lib.hid (show ((35 : UInt8) :: (m :: r)).length ≤ s.size - a by rw [← hsk]; have := skip_len false (s.data.toList.drop a); simpa using this)
    have HO := Lib.hid (next_in B s a (w.alloc Zero5) 35 (m :: r) HB.out.2.1 ha hs hsk)
    clear hl hsk
    have t40 : ((35 : Int) == 40) = false := rfl
    have t39 : ((35 : Int) == 39) = false := rfl
    have t34 : ((35 : Int) == 34) = false := rfl
    have t35 : ((35 : Int) == 35) = true := rfl
    go_enter Tryd.func65, Tryd.ntmps65
    go_wp2_with fail
    refine (HO.out).mono ?_
    rintro _ w1 ⟨rfl, hk, b, hb1, hh1, hd1⟩
    have hz1 := keeps_block hk HB.out.2.2 (by omega)
    have hk1 := (Keeps.of (box_below w Zero5)).trans hk
    obtain ⟨hlt, hd2⟩ := drop_tail hd1
    have hbN : s.size - b < N + 1 ∧ s.size - (b + 1) < N := by
      have h1 := HSK.out
      have h2 := congrArg List.length hd1
      simp at h1 h2
      omega
    obtain ⟨hbN1, hbN2⟩ := hbN
    have hw1 : IntKind.i64.wrap ((b : Int) + 1) = (b : Int) + 1 := IntWalk.i64_in _ (by omega)
    obtain ⟨c0, c1, z1⟩ := tx_cells hh1
    have H1 := Lib.hid (And.intro hh1 (And.intro hz1 (And.intro hk1 (And.intro hd1 hd2)))); clear hh1 hz1 hk1 hk hd1 hd2
    have hkW := H1.out.2.2.1.trans ((Keeps.refl B _).setCell 1 (.int .i64 ((b : Int) + 1)))
    have hhW := tx_set (b + 1) H1.out.1 (show ((b : Int) + 1) = ((b + 1 : Nat) : Int) by omega)
    have hzW := keeps_block ((Keeps.refl B _).setCell 1 (.int .i64 ((b : Int) + 1))) H1.out.2.1 (by omega)
    have C3 := marked_any N IH.out B s (b + 1) _ _ hbN2 hhW (by omega) hs (H1.out.2.2.2.2.symm ▸ HMK.out)
    have HC3 := Lib.hid C3; clear C3
    have HW := Lib.hid (And.intro hkW (And.intro (Array.getElem?_eq_some_iff.1 hzW).1 hzW)); clear hkW hhW hzW
    cases res with
    | bad q =>
      go_wp2_with fail
      refine (HC3.out).mono ?_
      intro e w3 ht
      obtain ⟨hk3, rfl⟩ := told_bad ht
      have HT := Lib.hid hk3; clear hk3 ht
      go_wp2_with fail
      exact ⟨rfl, HW.out.1.trans HT.out, Or.inl ⟨q, rfl, rfl⟩⟩
    | ok d q =>
      go_wp2_with fail
      refine (HC3.out).mono ?_
      intro e w3 ht
      obtain ⟨hk3, dk, dn, dd, ds, dp, dlen, dcap, b3, rfl, hat, hb3, hh3, hd3⟩ := told_ok ht
      have hbx := keeps_block hk3 HW.out.2.2 (by omega)
      have y0 := box_frozen hbx 0
      have y1 := box_frozen hbx 1
      have y2 := box_frozen hbx 2
      have y3 := box_frozen hbx 3
      have y4 := box_frozen hbx 4
      obtain ⟨v0, v1, v2, v3, v4⟩ := box_cells hbx
      have hfin := one_fin hB HW.out.1 HW.out.2.1 hk3 hat hb3 hh3 hd3
      have HF := Lib.hid (And.intro hbx hfin)
      clear hbx hfin ht hat hh3 hd3 hk3
      go_wp2_with fail
      refine bodyPost_ret (results_cell_row rfl _ _ w.heap.size 24 _ (0, 0) _ rfl (set_five (b0 := .int .i64 dk) (b1 := .int .i64 dn) (b2 := .int .i64 dd) (b3 := .string ds) (b4 := .slice dp dlen dcap) HF.out.1) Tryd.underlying24 rfl Tryd.sizeDt) rfl ?_
      exact HF.out.2
  | @quoteBad _ r q hsk hr1 =>
    have HR := Lib.hid hr1; clear hr1
    rw [← hl] at hsk
    have HSK := Lib.hid (show ((39 : UInt8) :: r).length ≤ s.size - a by rw [← hsk]; have := skip_len false (s.data.toList.drop a); simpa using this)
    have HO := Lib.hid (next_in B s a (w.alloc Zero5) 39 r HB.out.2.1 ha hs hsk)
    clear hl hsk
    have t40 : ((39 : Int) == 40) = false := rfl
    have t39 : ((39 : Int) == 39) = true := rfl
    go_enter Tryd.func65, Tryd.ntmps65
    go_wp2_with fail
    refine (HO.out).mono ?_
    rintro _ w1 ⟨rfl, hk, b, hb1, hh1, hd1⟩
    have hz1 := keeps_block hk HB.out.2.2 (by omega)
    have hk1 := (Keeps.of (box_below w Zero5)).trans hk
    obtain ⟨hlt, hd2⟩ := drop_tail hd1
    have hbN : s.size - b < N + 1 ∧ s.size - (b + 1) < N := by
      have h1 := HSK.out
      have h2 := congrArg List.length hd1
      simp at h1 h2
      omega
    obtain ⟨hbN1, hbN2⟩ := hbN
    have hw1 : IntKind.i64.wrap ((b : Int) + 1) = (b : Int) + 1 := IntWalk.i64_in _ (by omega)
    obtain ⟨c0, c1, z1⟩ := tx_cells hh1
    have H1 := Lib.hid (And.intro hh1 (And.intro hz1 (And.intro hk1 (And.intro hd1 hd2)))); clear hh1 hz1 hk1 hk hd1 hd2
    have hkW := H1.out.2.2.1.trans ((Keeps.refl B _).setCell 1 (.int .i64 ((b : Int) + 1)))
    have hhW := tx_set (b + 1) H1.out.1 (show ((b : Int) + 1) = ((b + 1 : Nat) : Int) by omega)
    have hzW := keeps_block ((Keeps.refl B _).setCell 1 (.int .i64 ((b : Int) + 1))) H1.out.2.1 (by omega)
    have C3 := IH.out B s (b + 1) _ _ hbN2 hhW (by omega) hs (H1.out.2.2.2.2.symm ▸ HR.out)
    have HC3 := Lib.hid C3; clear C3
    have HW := Lib.hid (And.intro hkW (And.intro (Array.getElem?_eq_some_iff.1 hzW).1 hzW)); clear hkW hhW hzW
    go_wp2_with fail
    refine (HC3.out).mono ?_
    intro e w3 ht
    obtain ⟨hk3, rfl⟩ := told_bad ht
    have HT := Lib.hid hk3; clear hk3 ht
    go_wp2_with fail
    exact ⟨rfl, HW.out.1.trans HT.out, Or.inl ⟨q, rfl, rfl⟩⟩
  | @quote _ r d q hsk hr1 =>
    have HR := Lib.hid hr1; clear hr1
    rw [← hl] at hsk
    have HSK := Lib.hid (show ((39 : UInt8) :: r).length ≤ s.size - a by rw [← hsk]; have := skip_len false (s.data.toList.drop a); simpa using this)
    have HO := Lib.hid (next_in B s a (w.alloc Zero5) 39 r HB.out.2.1 ha hs hsk)
    clear hl hsk
    have t40 : ((39 : Int) == 40) = false := rfl
    have t39 : ((39 : Int) == 39) = true := rfl
    go_enter Tryd.func65, Tryd.ntmps65
    go_wp2_with fail
    refine (HO.out).mono ?_
    rintro _ w1 ⟨rfl, hk, b, hb1, hh1, hd1⟩
    have hz1 := keeps_block hk HB.out.2.2 (by omega)
    have hk1 := (Keeps.of (box_below w Zero5)).trans hk
    obtain ⟨hlt, hd2⟩ := drop_tail hd1
    have hbN : s.size - b < N + 1 ∧ s.size - (b + 1) < N := by
      have h1 := HSK.out
      have h2 := congrArg List.length hd1
      simp at h1 h2
      omega
    obtain ⟨hbN1, hbN2⟩ := hbN
    have hw1 : IntKind.i64.wrap ((b : Int) + 1) = (b : Int) + 1 := IntWalk.i64_in _ (by omega)
    obtain ⟨c0, c1, z1⟩ := tx_cells hh1
    have H1 := Lib.hid (And.intro hh1 (And.intro hz1 (And.intro hk1 (And.intro hd1 hd2)))); clear hh1 hz1 hk1 hk hd1 hd2
    have hkW := H1.out.2.2.1.trans ((Keeps.refl B _).setCell 1 (.int .i64 ((b : Int) + 1)))
    have hhW := tx_set (b + 1) H1.out.1 (show ((b : Int) + 1) = ((b + 1 : Nat) : Int) by omega)
    have hzW := keeps_block ((Keeps.refl B _).setCell 1 (.int .i64 ((b : Int) + 1))) H1.out.2.1 (by omega)
    have C3 := IH.out B s (b + 1) _ _ hbN2 hhW (by omega) hs (H1.out.2.2.2.2.symm ▸ HR.out)
    have HC3 := Lib.hid C3; clear C3
    have HW := Lib.hid (And.intro hkW (And.intro (Array.getElem?_eq_some_iff.1 hzW).1 hzW)); clear hkW hhW hzW
    go_wp2_with fail
    refine (HC3.out).mono ?_
    intro e w3 ht
    obtain ⟨hk3, dk, dn, dd, ds, dp, dlen, dcap, b3, rfl, hat, hb3, hh3, hd3⟩ := told_ok ht
    have hz3 := keeps_block hk3 HW.out.2.2 (by omega)
    have hsz3 := hk3.size
    have hsz4 : w.heap.size < w3.heap.size := (Array.getElem?_eq_some_iff.1 hz3).1
    obtain ⟨O, hO⟩ : ∃ O, Obj.cells #[.int .i64 2, .int .i64 0, .int .i64 0, .string ⟨#[113, 117, 111, 116, 101]⟩, .slice none 0 0, .int .i64 dk, .int .i64 dn, .int .i64 dd, .string ds, .slice dp dlen dcap] 24 = O := ⟨_, rfl⟩
    have C4 := chain_any (old (w.heap.size + 1)) nullD 4 0 0 ⟨#[]⟩ [] none 0 [quoteD, d] (some ⟨w3.heap.size, 0, none⟩) 2 (w3.alloc O) (fun b hb => decide_eq_false (by simp at hb; omega)) rfl (null_off _) (by simp [maxLen]) (Or.inr ⟨_, _, rfl, quote_row hsz4 (by have := HW.out.2.1; omega) (hat.on (old_up (by have := HW.out.2.1; omega))) hO⟩)
    have HC4 := Lib.hid C4; clear C4
    have HK3 := Lib.hid (And.intro hz3 (And.intro hk3 (And.intro hh3 (And.intro hd3 hO)))); clear hz3 hk3 hh3 hd3 hat ht
    clear hsz3
    go_wp2_with fail
    refine (HC4.out).mono ?_
    rintro _ w5 ⟨⟨u, rfl, hu⟩, hb5⟩
    obtain ⟨k, n, d', s', p', len', cap', rfl⟩ := at_five hu
    have hbx := block_on hb5 (block_on (box_below w3 O) HK3.out.1)
    have y0 := box_frozen hbx 0
    have y1 := box_frozen hbx 1
    have y2 := box_frozen hbx 2
    have y3 := box_frozen hbx 3
    have y4 := box_frozen hbx 4
    obtain ⟨v0, v1, v2, v3, v4⟩ := box_cells hbx
    have hfin : Told B s (.ok (Dt.chain nullD [quoteD, d]) q) w (.returned (.agg #[.int .i64 k, .int .i64 n, .int .i64 d', .string s', .slice p' len' cap']))
        (((((w5.setCell ⟨w.heap.size, 0, none⟩ (.int .i64 k)).setCell ⟨w.heap.size, 1, none⟩ (.int .i64 n)).setCell ⟨w.heap.size, 2, none⟩ (.int .i64 d')).setCell ⟨w.heap.size, 3, none⟩ (.string s')).setCell ⟨w.heap.size, 4, none⟩ (.slice p' len' cap')) := by
      refine ⟨keeps_five (HW.out.1.trans (HK3.out.2.1.trans (Keeps.of (below_seq (box_below w3 O) hb5)))) (Nat.le_refl _), Or.inr ⟨_, _, _, b3, rfl, rfl, ?_, hb3, (set_five_other (Nat.ne_of_lt hB)).trans (block_on hb5 (block_on (box_below _ _) HK3.out.2.2.1)), HK3.out.2.2.2.1⟩⟩
      refine hu.on fun b o x hx => off_on (X := old (w.heap.size + 1)) (fun b _ hx => decide_eq_false (by have := of_decide_eq_false hx; omega)) (fun b _ hx => set_five_other (by have := of_decide_eq_false hx; omega)) b o x hx
    have HF := Lib.hid (And.intro hbx hfin); clear hbx hfin hu hb5
    go_wp2_with fail
    refine bodyPost_ret (results_cell_row rfl _ _ w.heap.size 24 _ (0, 0) _ rfl (set_five (b0 := .int .i64 k) (b1 := .int .i64 n) (b2 := .int .i64 d') (b3 := .string s') (b4 := .slice p' len' cap') HF.out.1) Tryd.underlying24 rfl Tryd.sizeDt) rfl ?_
    exact HF.out.2
theorem oneAt_all (N : Nat) : OneAt N := by
  induction N with
  | zero => intro B s a w res hN; omega
  | succ N ih => exact one_step N ih
/-- ONE DATUM, of whatever text, from whatever place on. -/
theorem datum_any (B : Nat) (s : ByteArray) (a : Nat) (w : World) (res : Res Dt) (hb : w.heap[B]? = some (Tx s a)) (ha : a ≤ s.size) (hs : s.size ≤ 65536) (hr : Rd .one (s.data.toList.drop a) res) :
    Calls Tryd.prog 65 #[.pointer (some ⟨B, 0, none⟩)] w fun e w' => Told B s res w e w' := oneAt_all (s.size - a + 1) B s a w res (by omega) hb ha hs hr
end Go.Proofs.YtabofebepefbgaaDoor.Dat

/- The program's reader: a datum that lies in no other one; what ends a reading. -/
namespace Go.Proofs.YtabofebepefbgaaDoor.Dat
open Go.RowKit
open NumPlain (rightB)
set_option linter.unusedVariables false

set_option maxHeartbeats 2000000 in
set_option maxRecDepth 100000 in
theorem whole_bad (B : Nat) (s : ByteArray) (a : Nat) (w : World) (q : List UInt8) (hb : w.heap[B]? = some (Tx s a)) (ha : a ≤ s.size) (hs : s.size ≤ 65536) (hr : Rd .one (s.data.toList.drop a) (.bad q)) :
    Calls Tryd.prog 44 #[.pointer (some ⟨B, 0, none⟩)] w fun e w' => Told B s (.bad q) w e w' := by
  have hB : B < w.heap.size := (Array.getElem?_eq_some_iff.1 hb).1
  have hbA := block_on (box_below w Zero5) hb
  have HC := Lib.hid (datum_any B s a (w.alloc Zero5) _ hbA ha hs hr)
  obtain ⟨c0, c1, z1⟩ := tx_cells hb
  clear hb hbA hr
  go_enter Tryd.func44, Tryd.ntmps44
  go_wp2_with fail
  refine (HC.out).mono ?_
  intro e w3 ht
  obtain ⟨hk3, rfl⟩ := told_bad ht
  have HT := Lib.hid hk3; clear hk3 ht
  go_wp2_with fail
  exact ⟨rfl, (Keeps.of (box_below _ _)).trans HT.out, Or.inl ⟨q, rfl, rfl⟩⟩

set_option maxHeartbeats 2000000 in
set_option maxRecDepth 100000 in
theorem whole_deep (B : Nat) (s : ByteArray) (a : Nat) (w : World) (d : Dt) (q : List UInt8) (hb : w.heap[B]? = some (Tx s a)) (ha : a ≤ s.size) (hs : s.size ≤ 65536) (hr0 : Rd .one (s.data.toList.drop a) (.ok d q)) (hr : rightDt d = false) :
    Calls Tryd.prog 44 #[.pointer (some ⟨B, 0, none⟩)] w fun e w' => Told B s (.bad (s.data.toList.drop a)) w e w' := by
  have hB : B < w.heap.size := (Array.getElem?_eq_some_iff.1 hb).1
  have hbA := block_on (box_below w Zero5) hb
  have hzA := at_new w Zero5
  have HC := Lib.hid (datum_any B s a (w.alloc Zero5) _ hbA ha hs hr0)
  obtain ⟨c0, c1, z1⟩ := tx_cells hb
  have HZ := Lib.hid hzA
  clear hb hbA hr0 hzA
  go_enter Tryd.func44, Tryd.ntmps44
  go_wp2_with fail
  refine (HC.out).mono ?_
  intro e w3 ht
  obtain ⟨hk3, dk, dn, dd, ds, dp, dlen, dcap, b3, rfl, hat, hb3, hh3, hd3⟩ := told_ok ht
  have hz3 := keeps_block hk3 HZ.out (by omega)
  have hsz3 : w.heap.size < w3.heap.size := (Array.getElem?_eq_some_iff.1 hz3).1
  have C := fun W (h : Below w3.heap.size w3 W) => pRight d (.agg #[.int .i64 dk, .int .i64 dn, .int .i64 dd, .string ds, .slice dp dlen dcap]) W ((hat.on fun b o v hv => (off_cell.1 hv).2).below h)
  have HK3 := Lib.hid (And.intro hz3 (And.intro hk3 (And.intro hat (And.intro hh3 hd3)))); clear hz3 hk3 hat hh3 hd3 ht
  have hr' : d.right rightB nameB 0 = false := hr
  rw [hr'] at C
  have HC2 := Lib.hid C; clear C hr'
  have HR := Lib.hid hr; clear hr
  go_wp2_with fail
  refine (HC2.out _ (box_below _ _)).mono ?_
  rintro _ w5 ⟨rfl, hb5⟩
  have HB5 := Lib.hid hb5; clear hb5
  go_wp2_with fail
  refine ⟨rfl, (Keeps.of (box_below _ _)).trans (HK3.out.2.1.trans (Keeps.of (below_seq (box_below _ _) HB5.out))), Or.inl ⟨_, rfl, ?_⟩⟩
  rw [drop_len rfl ha]

set_option maxHeartbeats 2000000 in
set_option maxRecDepth 100000 in
theorem whole_ok (B : Nat) (s : ByteArray) (a : Nat) (w : World) (d : Dt) (q : List UInt8) (hb : w.heap[B]? = some (Tx s a)) (ha : a ≤ s.size) (hs : s.size ≤ 65536) (hr0 : Rd .one (s.data.toList.drop a) (.ok d q)) (hr : rightDt d = true) :
    Calls Tryd.prog 44 #[.pointer (some ⟨B, 0, none⟩)] w fun e w' => Told B s (.ok d q) w e w' := by
  have hB : B < w.heap.size := (Array.getElem?_eq_some_iff.1 hb).1
  have hbA := block_on (box_below w Zero5) hb
  have hzA := at_new w Zero5
  have HC := Lib.hid (datum_any B s a (w.alloc Zero5) _ hbA ha hs hr0)
  obtain ⟨c0, c1, z1⟩ := tx_cells hb
  have HZ := Lib.hid hzA
  clear hb hbA hr0 hzA
  go_enter Tryd.func44, Tryd.ntmps44
  go_wp2_with fail
  refine (HC.out).mono ?_
  intro e w3 ht
  obtain ⟨hk3, dk, dn, dd, ds, dp, dlen, dcap, b3, rfl, hat, hb3, hh3, hd3⟩ := told_ok ht
  have hz3 := keeps_block hk3 HZ.out (by omega)
  have hsz3 : w.heap.size < w3.heap.size := (Array.getElem?_eq_some_iff.1 hz3).1
  have C := fun W (h : Below w3.heap.size w3 W) => pRight d (.agg #[.int .i64 dk, .int .i64 dn, .int .i64 dd, .string ds, .slice dp dlen dcap]) W ((hat.on fun b o v hv => (off_cell.1 hv).2).below h)
  have HK3 := Lib.hid (And.intro hz3 (And.intro hk3 (And.intro hat (And.intro hh3 hd3)))); clear hz3 hk3 hat hh3 hd3 ht
  have hr' : d.right rightB nameB 0 = true := hr
  rw [hr'] at C
  have HC2 := Lib.hid C; clear C hr'
  have HR := Lib.hid hr; clear hr
  go_wp2_with fail
  refine (HC2.out _ (box_below _ _)).mono ?_
  rintro _ w5 ⟨rfl, hb5⟩
  have hz5 := block_on hb5 (block_on (box_below w3 (Five dk dn dd ds (.slice dp dlen dcap))) HK3.out.1)
  obtain ⟨x0, x1, x2, x3, x4⟩ := box_cells (block_on hb5 (at_new w3 (Five dk dn dd ds (.slice dp dlen dcap))))
  have y0 := box_frozen hz5 0
  have y1 := box_frozen hz5 1
  have y2 := box_frozen hz5 2
  have y3 := box_frozen hz5 3
  have y4 := box_frozen hz5 4
  obtain ⟨v0, v1, v2, v3, v4⟩ := box_cells hz5
  have hb35 := below_seq (box_below w3 (Five dk dn dd ds (.slice dp dlen dcap))) hb5
  have hfin := one_fin hB (Keeps.of (box_below w Zero5)) (by simp) (HK3.out.2.1.trans (Keeps.of hb35)) (HK3.out.2.2.1.on (off_later hb35)) hb3 (block_on hb35 HK3.out.2.2.2.1) HK3.out.2.2.2.2
  have HF := Lib.hid (And.intro hz5 hfin); clear hz5 hfin hb35 hb5
  go_wp2_with fail
  refine bodyPost_ret (results_cell_row rfl _ _ w.heap.size 24 _ (0, 0) _ rfl (set_five (b0 := .int .i64 dk) (b1 := .int .i64 dn) (b2 := .int .i64 dd) (b3 := .string ds) (b4 := .slice dp dlen dcap) HF.out.1) Tryd.underlying24 rfl Tryd.sizeDt) rfl ?_
  exact HF.out.2

set_option maxHeartbeats 1000000 in
set_option maxRecDepth 100000 in
/-- What is deferred, where the call has come to its end: nothing. -/
theorem idle_any (x y z : Addr) (w : World) :
    CallsD Tryd.prog 42 #[.pointer (some x), .pointer (some y), .pointer (some z)] .returning w fun e u' w' => e = .returned (.tuple #[]) ∧ u' = .returning ∧ w' = w := by
  have hnil : ∀ w : World, (binOp BinOp.eql 20 .nilIface .nilIface).run Tryd.prog w = .ok (.bool true) w := fun _ => by kernel_rfl
  refine callsD_of_wpS Tryd.func42 rfl fun c₀ cs hu => ?_
  apply wpS_seq
  apply wpS_region
  simp [wpOpsS, go_sem, recoverD, hu, Tryd.ntmps42, Exit.thenS]
  refine wpS_of_wp ?_
  change Code.wp _ _ _ { tmps := #[.pointer (some x), .pointer (some y), .pointer (some z), undef, undef, undef, .nilIface, undef, undef, undef, undef, undef, undef], defers := [] } _
  go_wp2
  cases c₀
  simp_all [bodyPostS, results, Tryd.results42]

set_option maxHeartbeats 1000000 in
set_option maxRecDepth 100000 in
/-- What is deferred, where a text is none: the results are laid. -/
theorem catch_any (x y z : Nat) (p : Nat) (v0 : Value) (n0 e0 : Int) (tl te ti : TypeId) (w : World) (hx : w.heap[x]? = some (.cells #[v0] tl (0, 0))) (hy : w.heap[y]? = some (.cells #[.int .i64 n0] ti (0, 0))) (hz : w.heap[z]? = some (.cells #[.int .i64 e0] te (0, 0))) (hxy : x ≠ y) (hxz : x ≠ z) (hyz : y ≠ z) :
    CallsD Tryd.prog 42 #[.pointer (some ⟨x, 0, none⟩), .pointer (some ⟨y, 0, none⟩), .pointer (some ⟨z, 0, none⟩)] (.panicking [{ v := .iface 57 (.int .i64 p), recovered := false }]) w fun e u' w' =>
      e = .returned (.tuple #[]) ∧ u' = .panicking [{ v := .iface 57 (.int .i64 p), recovered := true }] ∧ w' = ((w.setCell ⟨x, 0, none⟩ (.slice none 0 0)).setCell ⟨y, 0, none⟩ (.int .i64 p)).setCell ⟨z, 0, none⟩ (.int .i64 2) := by
  have hnil : ∀ w : World, (binOp BinOp.eql 20 (.iface 57 (.int .i64 p)) .nilIface).run Tryd.prog w = .ok (.bool false) w := fun _ => by kernel_rfl
  have hta : ∀ w : World, (Instr.typeAssert (.iface 57 (.int .i64 p)) 20 57 true).run Tryd.prog w = .ok (.tuple #[.int .i64 p, .bool true]) w := fun _ => by kernel_rfl
  have cx : w.cell? ⟨x, 0, none⟩ = some v0 := by simp [World.cell?, hx]
  have cy : w.cell? ⟨y, 0, none⟩ = some (.int .i64 n0) := by simp [World.cell?, hy]
  have cz : w.cell? ⟨z, 0, none⟩ = some (.int .i64 e0) := by simp [World.cell?, hz]
  have fx : w.frozen? ⟨x, 0, none⟩ = false := by simp [World.frozen?, hx]
  have fy : w.frozen? ⟨y, 0, none⟩ = false := by simp [World.frozen?, hy]
  have fz : w.frozen? ⟨z, 0, none⟩ = false := by simp [World.frozen?, hz]
  have hyx := Ne.symm hxy
  have hzx := Ne.symm hxz
  have hzy := Ne.symm hyz
  clear hx hy hz
  refine callsD_of_wpS Tryd.func42 rfl fun c₀ cs hu => ?_
  apply wpS_seq
  apply wpS_region
  simp [wpOpsS, go_sem, recoverD, hu, Tryd.ntmps42, Exit.thenS]
  refine wpS_of_wp ?_
  change Code.wp _ _ _ { tmps := #[.pointer (some ⟨x, 0, none⟩), .pointer (some ⟨y, 0, none⟩), .pointer (some ⟨z, 0, none⟩), undef, undef, undef, .iface 57 (.int .i64 p), undef, undef, undef, undef, undef, undef], defers := [] } _
  go_wp2
  cases c₀
  simp [bodyPostS, results, Tryd.results42]
end Go.Proofs.YtabofebepefbgaaDoor.Dat
