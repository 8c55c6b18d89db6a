/- The program's Read. -/
import Derived.Test.YtabofebepefbgaaDoorRdThree

namespace Go.Proofs.YtabofebepefbgaaDoor.Dat
open Go.RowKit
open NumPlain (rightB)
set_option linter.unusedVariables false

/-- What Read answers. -/
def ReadAns (s : ByteArray) (res : Res (List Dt)) (e : Ending) (w' : World) : Prop :=
  (∃ q, res = .bad q ∧ e = .returned (.tuple #[.slice none 0 0, .int .i64 (s.size - q.length : Nat), .int .i64 2])) ∨
    ∃ l q v, res = .ok l q ∧ e = .returned (.tuple #[v, .int .i64 s.size, .int .i64 0]) ∧ Dt.Slice w' l v

set_option maxHeartbeats 4000000 in
set_option maxRecDepth 100000 in
theorem read_long (s : ByteArray) (w : World) (hs : 65536 < s.size) (hm : s.size ≤ maxLen) :
    Calls Tryd.prog 21 #[.string s] w fun e w' => e = .returned (.tuple #[.slice none 0 0, .int .i64 65536, .int .i64 2]) ∧ Below w.heap.size w w' := by
  unfold maxLen at hm
  have h0 : (65536 : Int) < s.size := by omega
  have hmf : ∀ (fn : Fn) (first cap : Array Value) (w : World), (Instr.makeFunc fn first cap).run Tryd.prog w = .ok (.func fn first cap) w := fun _ _ _ _ => rfl
  go_enter_defers Tryd.func21, Tryd.ntmps21
  go_wp2_with fail
  refine ⟨.tuple #[.slice none 0 0, .int .i64 65536, .int .i64 2], ?_, rfl, (two_below _ _ _).alloc (by simp; omega) _⟩
  simp [results, Tryd.results21, go_sem]

theorem al (w : World) (o : Obj) (k : Nat) : (w.alloc o).heap[k]? = if k = w.heap.size then some o else w.heap[k]? := by
  show (w.heap.push o)[k]? = _
  rw [Array.getElem?_push]
theorem szA (w : World) (o : Obj) : (w.alloc o).heap.size = w.heap.size + 1 := by simp
theorem four_blocks (w : World) (a b c d : Obj) : ((((w.alloc a).alloc b).alloc c).alloc d).heap[w.heap.size]? = some a ∧ ((((w.alloc a).alloc b).alloc c).alloc d).heap[w.heap.size + 1]? = some b ∧
    ((((w.alloc a).alloc b).alloc c).alloc d).heap[w.heap.size + 2]? = some c ∧ ((((w.alloc a).alloc b).alloc c).alloc d).heap[w.heap.size + 3]? = some d := by
  refine ⟨?_, ?_, ?_, ?_⟩
  · rw [al, szA, szA, szA, if_neg (by omega), al, szA, szA, if_neg (by omega), al, szA, if_neg (by omega), al, if_pos rfl]
  · rw [al, szA, szA, szA, if_neg (by omega), al, szA, szA, if_neg (by omega), al, szA, if_pos rfl]
  · rw [al, szA, szA, szA, if_neg (by omega), al, szA, szA, if_pos (by omega)]
  · rw [al, szA, szA, szA, if_pos (by omega)]
theorem skip_again (l : List UInt8) : skipB false (skipB false l) = skipB false l := by
  cases h : skipB false l with
  | nil => rfl
  | cons c r => exact skip_stays h r
/-- Three cells written, one behind another. -/
theorem three_set {w : World} {x y z : Nat} {v0 v1 v2 u0 u1 u2 : Value} {tx ty tz : TypeId} (hx : w.heap[x]? = some (.cells #[v0] tx (0, 0))) (hy : w.heap[y]? = some (.cells #[v1] ty (0, 0))) (hz : w.heap[z]? = some (.cells #[v2] tz (0, 0))) (hxy : x ≠ y) (hxz : x ≠ z) (hyz : y ≠ z) :
    (((w.setCell ⟨x, 0, none⟩ u0).setCell ⟨y, 0, none⟩ u1).setCell ⟨z, 0, none⟩ u2).cell? ⟨x, 0, none⟩ = some u0 ∧ (((w.setCell ⟨x, 0, none⟩ u0).setCell ⟨y, 0, none⟩ u1).setCell ⟨z, 0, none⟩ u2).cell? ⟨y, 0, none⟩ = some u1 ∧ (((w.setCell ⟨x, 0, none⟩ u0).setCell ⟨y, 0, none⟩ u1).setCell ⟨z, 0, none⟩ u2).cell? ⟨z, 0, none⟩ = some u2 := by
  have h1 : (w.setCell ⟨x, 0, none⟩ u0).heap[x]? = some (.cells #[u0] tx (0, 0)) := (heap_setCell_same _ _ 0 _ tx _ hx).trans (by simp)
  have h2 : (w.setCell ⟨x, 0, none⟩ u0).heap[y]? = some (.cells #[v1] ty (0, 0)) := (Below.heap_setCell _ _ _ _ (show y ≠ x from hxy.symm)).trans hy
  have h3 : (w.setCell ⟨x, 0, none⟩ u0).heap[z]? = some (.cells #[v2] tz (0, 0)) := (Below.heap_setCell _ _ _ _ (show z ≠ x from hxz.symm)).trans hz
  have g1 : ((w.setCell ⟨x, 0, none⟩ u0).setCell ⟨y, 0, none⟩ u1).heap[x]? = some (.cells #[u0] tx (0, 0)) := (Below.heap_setCell _ _ _ _ (show x ≠ y from hxy)).trans h1
  have g2 : ((w.setCell ⟨x, 0, none⟩ u0).setCell ⟨y, 0, none⟩ u1).heap[y]? = some (.cells #[u1] ty (0, 0)) := (heap_setCell_same _ _ 0 _ ty _ h2).trans (by simp)
  have g3 : ((w.setCell ⟨x, 0, none⟩ u0).setCell ⟨y, 0, none⟩ u1).heap[z]? = some (.cells #[v2] tz (0, 0)) := (Below.heap_setCell _ _ _ _ (show z ≠ y from hyz.symm)).trans h3
  have k1 := (Below.heap_setCell ((w.setCell ⟨x, 0, none⟩ u0).setCell ⟨y, 0, none⟩ u1) ⟨z, 0, none⟩ u2 x (show x ≠ z from hxz)).trans g1
  have k2 := (Below.heap_setCell ((w.setCell ⟨x, 0, none⟩ u0).setCell ⟨y, 0, none⟩ u1) ⟨z, 0, none⟩ u2 y (show y ≠ z from hyz)).trans g2
  have k3 : (((w.setCell ⟨x, 0, none⟩ u0).setCell ⟨y, 0, none⟩ u1).setCell ⟨z, 0, none⟩ u2).heap[z]? = some (.cells #[u2] tz (0, 0)) := (heap_setCell_same _ _ 0 _ tz _ g3).trans (by simp)
  refine ⟨?_, ?_, ?_⟩
  · unfold World.cell?; simp [k1]
  · unfold World.cell?; simp [k2]
  · unfold World.cell?; simp [k3]
/-- A panic with a place is caught: the results are laid, and read. -/
theorem caught_any {R : Ending → World → Prop} {tmps : Array Value} {w : World} {x y z p : Nat} {v0 : Value} {n0 e0 : Int} {tl te ti : TypeId} (hx : w.heap[x]? = some (.cells #[v0] tl (0, 0))) (hy : w.heap[y]? = some (.cells #[.int .i64 n0] ti (0, 0))) (hz : w.heap[z]? = some (.cells #[.int .i64 e0] te (0, 0))) (hxy : x ≠ y) (hxz : x ≠ z) (hyz : y ≠ z)
    (t2 : tmps[2]?.getD undef = .pointer (some ⟨x, 0, none⟩)) (t3 : tmps[3]?.getD undef = .pointer (some ⟨y, 0, none⟩)) (t4 : tmps[4]?.getD undef = .pointer (some ⟨z, 0, none⟩))
    (h : R (.returned (.tuple #[.slice none 0 0, .int .i64 p, .int .i64 2])) (((w.setCell ⟨x, 0, none⟩ (.slice none 0 0)).setCell ⟨y, 0, none⟩ (.int .i64 p)).setCell ⟨z, 0, none⟩ (.int .i64 2))) :
    bodyPostD Tryd.prog Tryd.f21 R (.panic [{ v := .iface 57 (.int .i64 p), recovered := false }])
      { tmps := tmps, defers := [{ target := .fn (.func 42) #[.pointer (some ⟨x, 0, none⟩), .pointer (some ⟨y, 0, none⟩), .pointer (some ⟨z, 0, none⟩)], args := #[] }] } w := by
  obtain ⟨c0, c1, c2⟩ := three_set (u0 := .slice none 0 0) (u1 := .int .i64 p) (u2 := .int .i64 2) hx hy hz hxy hxz hyz
  refine leaves_cons (f := 42) (args := #[.pointer (some ⟨x, 0, none⟩), .pointer (some ⟨y, 0, none⟩), .pointer (some ⟨z, 0, none⟩)]) (by simp) (by simp [go_sem]) ?_
  refine (catch_any x y z p v0 n0 e0 tl te ti w hx hy hz hxy hxz hyz).mono ?_
  rintro e u' w'' ⟨rfl, rfl, rfl⟩
  refine ⟨.tuple #[.slice none 0 0, .int .i64 p, .int .i64 2], ?_, h⟩
  generalize ((w.setCell ⟨x, 0, none⟩ (.slice none 0 0)).setCell ⟨y, 0, none⟩ (.int .i64 p)).setCell ⟨z, 0, none⟩ (.int .i64 2) = W at c0 c1 c2
  simp [results, Tryd.results21, go_sem, t2, t3, t4, c0, c1, c2]
/-- The end is come to: nothing is caught, the results are read. -/
theorem idled_any {R : Ending → World → Prop} {tmps : Array Value} {w : World} {x y z : Nat} {v0 v1 v2 : Value} (c0 : w.cell? ⟨x, 0, none⟩ = some v0) (c1 : w.cell? ⟨y, 0, none⟩ = some v1) (c2 : w.cell? ⟨z, 0, none⟩ = some v2)
    (t2 : tmps[2]?.getD undef = .pointer (some ⟨x, 0, none⟩)) (t3 : tmps[3]?.getD undef = .pointer (some ⟨y, 0, none⟩)) (t4 : tmps[4]?.getD undef = .pointer (some ⟨z, 0, none⟩))
    (h : R (.returned (.tuple #[v0, v1, v2])) w) :
    bodyPostD Tryd.prog Tryd.f21 R .ret
      { tmps := tmps, defers := [{ target := .fn (.func 42) #[.pointer (some ⟨x, 0, none⟩), .pointer (some ⟨y, 0, none⟩), .pointer (some ⟨z, 0, none⟩)], args := #[] }] } w := by
  refine leaves_cons (f := 42) (args := #[.pointer (some ⟨x, 0, none⟩), .pointer (some ⟨y, 0, none⟩), .pointer (some ⟨z, 0, none⟩)]) (by simp) (by simp [go_sem]) ?_
  refine (idle_any ⟨x, 0, none⟩ ⟨y, 0, none⟩ ⟨z, 0, none⟩ w).mono ?_
  rintro e u' w'' ⟨rfl, rfl, rfl⟩
  refine ⟨.tuple #[v0, v1, v2], ?_, h⟩
  simp [results, Tryd.results21, go_sem, t2, t3, t4, c0, c1, c2]
/-- The results' boxes, the text, and a row of what has been read, in new memory. -/
structure Mid (s : ByteArray) (w : World) (acc : List Dt) (v : Value) (xs : List Value) (b : Nat) (wr : World) : Prop where
  below : Below w.heap.size w wr
  size : w.heap.size + 4 ≤ wr.heap.size
  lbox : wr.heap[w.heap.size]? = some (.cells #[v] 22 (0, 0))
  abox : wr.heap[w.heap.size + 1]? = some (.cells #[.int .i64 0] 3 (0, 0))
  ebox : wr.heap[w.heap.size + 2]? = some (.cells #[.int .i64 0] 33 (0, 0))
  text : wr.heap[w.heap.size + 3]? = some (Tx s b)
  own : wr.ownsRow (w.heap.size + 4) 24 5 v acc.length xs
  row : Dt.Row (off wr (Xo (w.heap.size + 4) v)) acc xs
theorem Mid.on {s : ByteArray} {w wr w1 : World} {acc : List Dt} {v : Value} {xs : List Value} {b c : Nat} (h : Mid s w acc v xs b wr) (hk : Keeps (w.heap.size + 3) wr w1) (ht : w1.heap[w.heap.size + 3]? = some (Tx s c)) : Mid s w acc v xs c w1 :=
  ⟨hk.below h.below (by omega), Nat.le_trans h.size hk.size, keeps_block hk h.lbox (by omega), keeps_block hk h.abox (by omega), keeps_block hk h.ebox (by omega), ht, own_keeps (w := w) h.own hk (by omega), h.row.on (off_keeps hk (by omega))⟩
theorem Mid.slice {s : ByteArray} {w wr : World} {acc : List Dt} {v : Value} {xs : List Value} {b : Nat} (h : Mid s w acc v xs b wr) : ∃ p cap, v = .slice p acc.length cap := by
  obtain ⟨hlen, hv⟩ := h.own
  rcases hv with ⟨rfl, h0⟩ | ⟨g, cap, cur, rfl, hB, hg, hn, hm, hs, ht⟩
  · exact ⟨none, 0, by rw [h0]⟩
  · exact ⟨_, cap, rfl⟩
theorem Mid.read {s : ByteArray} {w wr F : World} {acc : List Dt} {v : Value} {xs : List Value} {b : Nat} (h : Mid s w acc v xs b wr) (hF : ∀ k, w.heap.size + 4 ≤ k → F.heap[k]? = wr.heap[k]?) : Dt.Slice F acc v := by
  obtain ⟨hlen, hv⟩ := h.own
  rcases hv with ⟨rfl, h0⟩ | ⟨g, cap, cur, rfl, hB, hg, hn, hm, hs, ht⟩
  · exact ⟨none, 0, by rw [h0], Or.inl (List.eq_nil_of_length_eq_zero h0)⟩
  · refine ⟨_, cap, rfl, Or.inr ⟨g, 0, rfl, h.row.allAt (w' := F) (fun b o u hu => ?_) fun j u hj => ?_⟩⟩
    · obtain ⟨h0, hc⟩ := off_cell.1 hu
      rw [World.cell?_of_block (a := ⟨b, o, none⟩) (hF b (Xo_no.1 h0).1)]; exact hc
    · rw [← ht, List.getElem?_take] at hj
      split at hj
      · rw [cell_of_block ((hF g hB).trans hg)]; simpa using hj
      · cases hj
/-- What holds ahead of each round. -/
structure Rdg (s : ByteArray) (w : World) (res : Res (List Dt)) (acc : List Dt) (v : Value) (xs : List Value) (b : Nat) (wr : World) : Prop where
  mid : Mid s w acc v xs b wr
  top : Top acc (s.data.toList.drop b) res
  still : skipB false (s.data.toList.drop b) = s.data.toList.drop b
  len : acc.length ≤ b ∧ b ≤ s.size

theorem own_put {w : World} {n g m cap : Nat} {xs : List Value} {z0 z1 z2 z3 z4 : Value} (h : w.ownsRow n 24 5 (.slice (some ⟨g, 0, none⟩) (m + 1) cap) (m + 1) (xs ++ [z0, z1, z2, z3, z4])) :
    n ≤ g ∧ (w.cell? ⟨g, m * 5, none⟩ = some z0 ∧ w.cell? ⟨g, m * 5 + 1, none⟩ = some z1 ∧ w.cell? ⟨g, m * 5 + 2, none⟩ = some z2 ∧ w.cell? ⟨g, m * 5 + 3, none⟩ = some z3 ∧ w.cell? ⟨g, m * 5 + 4, none⟩ = some z4) ∧ (∀ i, w.frozen? ⟨g, i, none⟩ = false) ∧
      ∀ b0 b1 b2 b3 b4, (((((w.setCell ⟨g, m * 5, none⟩ b0).setCell ⟨g, m * 5 + 1, none⟩ b1).setCell ⟨g, m * 5 + 2, none⟩ b2).setCell ⟨g, m * 5 + 3, none⟩ b3).setCell ⟨g, m * 5 + 4, none⟩ b4).ownsRow n 24 5 (.slice (some ⟨g, 0, none⟩) (m + 1) cap) (m + 1) (xs ++ [b0, b1, b2, b3, b4]) := by
  obtain ⟨hlen, hv⟩ := h
  have hx : xs.length = m * 5 := by simp at hlen; omega
  rcases hv with ⟨hv, _⟩ | ⟨g', cap', cur, hv, hB, hg, hn, hm, hs, ht⟩
  · cases hv
  simp only [Value.slice.injEq, Option.some.injEq, Addr.mk.injEq, true_and, and_true] at hv
  obtain ⟨rfl, rfl⟩ := hv
  have hcur : ∀ j, j < (m + 1) * 5 → cur[j]? = (xs ++ [z0, z1, z2, z3, z4])[j]? := by
    intro j hj
    rw [← ht, List.getElem?_take, if_pos hj, Array.getElem?_toList]
  have hcz : ∀ i, i < 5 → cur[m * 5 + i]? = [z0, z1, z2, z3, z4][i]? := by
    intro i hi
    rw [hcur _ (by omega), List.getElem?_append_right (by omega)]
    congr 1; omega
  refine ⟨hB, ⟨?_, ?_, ?_, ?_, ?_⟩, fun i => box_frozen hg i, fun b0 b1 b2 b3 b4 => ⟨by simp; omega, Or.inr ⟨_, _, _, rfl, hB, set_five_at hg, hn, hm, by simpa using hs, ?_⟩⟩⟩
  · rw [cell_of_block hg]; exact hcz 0 (by omega)
  · rw [cell_of_block hg]; exact hcz 1 (by omega)
  · rw [cell_of_block hg]; exact hcz 2 (by omega)
  · rw [cell_of_block hg]; exact hcz 3 (by omega)
  · rw [cell_of_block hg]; exact hcz 4 (by omega)
  · have hsz : (m + 1) * 5 ≤ cur.size := by rw [hs]; exact Nat.mul_le_mul_right 5 hn
    apply List.ext_getElem?
    intro j
    rw [List.getElem?_take]
    by_cases hj : j < (m + 1) * 5
    · rw [if_pos hj, Array.getElem?_toList]
      simp only [Array.getElem?_setIfInBounds, Array.size_setIfInBounds]
      by_cases hl : j < m * 5
      · rw [if_neg (by omega), if_neg (by omega), if_neg (by omega), if_neg (by omega), if_neg (by omega), hcur j hj, List.getElem?_append_left (by omega), List.getElem?_append_left (by omega)]
      · obtain ⟨i, rfl⟩ : ∃ i, j = m * 5 + i := ⟨j - m * 5, by omega⟩
        rw [List.getElem?_append_right (by omega), show m * 5 + i - xs.length = i by omega]
        have hi : i = 0 ∨ i = 1 ∨ i = 2 ∨ i = 3 ∨ i = 4 := by omega
        rcases hi with rfl | rfl | rfl | rfl | rfl
        · simp; omega
        · simp; omega
        · simp; omega
        · simp; omega
        · simp; omega
    · rw [if_neg hj, List.getElem?_eq_none (by simp; omega)]
/-- What lies beside a row lies beside it when it has grown. -/
theorem grown_off {n : Nat} {W W' w4 : World} {m : Nat} {v v4 : Value} {xs : List Value} (own : W.ownsRow n 24 5 v m xs) (hb : Below W.heap.size W W') (hg : W'.grownBy w4 v.ownBlock) (ha : v4.ownBlock = v.ownBlock ∨ v4.ownBlock = some W'.heap.size) :
    (∀ (b o : Nat) (u : Value), (off W (Xo n v)).cell? ⟨b, o, none⟩ = some u → (off w4 (Xo n v4)).cell? ⟨b, o, none⟩ = some u) ∧ ∀ b, b < n → b < W.heap.size → w4.heap[b]? = W.heap[b]? := by
  have hlo : ∀ b, v.ownBlock = some b → n ≤ b := fun b hb => (own_lt own b hb).1
  have hsame : ∀ b, b < W.heap.size → v.ownBlock ≠ some b → w4.heap[b]? = W.heap[b]? := fun b hb' hn => (hg.block b (by have := hb.size; omega) (fun e => hn e.symm)).trans (hb.block b hb')
  refine ⟨fun b o u hu => off_on (fun b hb' hx => ?_) (fun b hb' hx => hsame b hb' (Xo_no.1 hx).2) b o u hu, fun b hb1 hb2 => hsame b hb2 (fun e => by have := hlo b e; omega)⟩
  obtain ⟨h1, h2⟩ := Xo_no.1 hx
  refine Xo_no.2 ⟨h1, ?_⟩
  rcases ha with e | e
  · rw [e]; exact h2
  · rw [e]; simp; have := hb.size; omega
theorem set_one {w : World} {B : Nat} {v u : Value} {t : TypeId} (h : w.heap[B]? = some (.cells #[v] t (0, 0))) : (w.setCell ⟨B, 0, none⟩ u).heap[B]? = some (.cells #[u] t (0, 0)) := (heap_setCell_same _ _ 0 _ t _ h).trans (by simp)

theorem set_comm (w : World) (b c o i : Nat) (x y : Value) (h : b ≠ c) : (w.setCell ⟨b, o, none⟩ x).setCell ⟨c, i, none⟩ y = (w.setCell ⟨c, i, none⟩ y).setCell ⟨b, o, none⟩ x := by
  unfold World.setCell
  simp only
  congr 1
  apply Array.ext_getElem?
  intro k
  simp only [Array.getElem?_modify]
  by_cases h1 : b = k
  · by_cases h2 : c = k
    · omega
    · simp [h1, h2]
  · by_cases h2 : c = k
    · simp [h1, h2]
    · simp [h1, h2]
theorem six_comm {w : World} {g c m : Nat} {u b0 b1 b2 b3 b4 : Value} (h : ¬ g = c) :
    (((((w.setCell ⟨c, 0, none⟩ u).setCell ⟨g, m, none⟩ b0).setCell ⟨g, m + 1, none⟩ b1).setCell ⟨g, m + 2, none⟩ b2).setCell ⟨g, m + 3, none⟩ b3).setCell ⟨g, m + 4, none⟩ b4 =
      (((((w.setCell ⟨g, m, none⟩ b0).setCell ⟨g, m + 1, none⟩ b1).setCell ⟨g, m + 2, none⟩ b2).setCell ⟨g, m + 3, none⟩ b3).setCell ⟨g, m + 4, none⟩ b4).setCell ⟨c, 0, none⟩ u := by
  have h' : c ≠ g := fun e => h e.symm
  rw [set_comm w c g _ _ _ _ h', set_comm _ c g _ _ _ _ h', set_comm _ c g _ _ _ _ h', set_comm _ c g _ _ _ _ h', set_comm _ c g _ _ _ _ h']
theorem xo_mid {s : ByteArray} {w wr w' : World} {acc : List Dt} {v : Value} {xs : List Value} {c : Nat} (h : Mid s w acc v xs c wr) (b o : Nat) (u : Value) (hu : (off w' (old wr.heap.size)).cell? ⟨b, o, none⟩ = some u) : (off w' (Xo (w.heap.size + 4) v)).cell? ⟨b, o, none⟩ = some u := by
  obtain ⟨h0, hc⟩ := off_cell.1 hu
  have h1 := of_decide_eq_false h0
  exact off_cell.2 ⟨Xo_no.2 ⟨by have := h.size; omega, fun e => by have := (own_lt h.own b e).2; omega⟩, hc⟩
/-- One datum more. -/
theorem Mid.put {s : ByteArray} {w W W' w4 F : World} {acc : List Dt} {v : Value} {xs : List Value} {b g cap : Nat} {d : Dt} {z0 z1 z2 z3 z4 b0 b1 b2 b3 b4 : Value} (h : Mid s w acc v xs b W) (hd : d.At (off W (Xo (w.heap.size + 4) v)) (.agg #[b0, b1, b2, b3, b4])) (hb : Below W.heap.size W W')
    (ho : w4.ownsRow (w.heap.size + 4) 24 5 (.slice (some ⟨g, 0, none⟩) (acc.length + 1) cap) (acc.length + 1) (xs ++ [z0, z1, z2, z3, z4])) (hg : W'.grownBy w4 v.ownBlock) (ha : v.ownBlock = some g ∨ g = W'.heap.size)
    (hF : F = (((((w4.setCell ⟨g, acc.length * 5, none⟩ b0).setCell ⟨g, acc.length * 5 + 1, none⟩ b1).setCell ⟨g, acc.length * 5 + 2, none⟩ b2).setCell ⟨g, acc.length * 5 + 3, none⟩ b3).setCell ⟨g, acc.length * 5 + 4, none⟩ b4).setCell ⟨w.heap.size, 0, none⟩ (.slice (some ⟨g, 0, none⟩) (acc.length + 1) cap)) :
    Mid s w (acc ++ [d]) (.slice (some ⟨g, 0, none⟩) (acc.length + 1) cap) (xs ++ [b0, b1, b2, b3, b4]) b F := by
  obtain ⟨p1, -, -, p4⟩ := own_put ho
  obtain ⟨g1, g2⟩ := grown_off (v4 := .slice (some ⟨g, 0, none⟩) (acc.length + 1) cap) h.own hb hg (ha.imp (fun e => e.symm) (fun e => by rw [e]; rfl))
  have hs := h.size
  have hbs := hb.size
  have hgs := hg.size
  have p5 := p4 b0 b1 b2 b3 b4
  generalize hV : ((((w4.setCell ⟨g, acc.length * 5, none⟩ b0).setCell ⟨g, acc.length * 5 + 1, none⟩ b1).setCell ⟨g, acc.length * 5 + 2, none⟩ b2).setCell ⟨g, acc.length * 5 + 3, none⟩ b3).setCell ⟨g, acc.length * 5 + 4, none⟩ b4 = V at hF p5
  have hVo : ∀ k, k ≠ g → V.heap[k]? = w4.heap[k]? := fun k hk => by rw [← hV]; exact set_five_at_other hk
  have hVs : V.heap.size = w4.heap.size := by rw [← hV]; simp only [World.setCell, Array.size_modify]
  have hlo : ∀ b, b < w.heap.size + 4 → V.heap[b]? = W.heap[b]? := fun b hb => (hVo b (by omega)).trans (g2 b hb (by omega))
  have hFo : ∀ k, k ≠ w.heap.size → F.heap[k]? = V.heap[k]? := fun k hk => by rw [hF]; exact Below.heap_setCell _ _ _ _ (show k ≠ w.heap.size from hk)
  have hbW : Below w.heap.size w w4 := (h.below.trans (hb.mono (by omega))).grown hg (by omega) (fun b hb => by have := (own_lt h.own b hb).1; omega)
  have hbV : Below w.heap.size w V := by rw [← hV]; exact ((((hbW.setCell (by show w.heap.size ≤ g; omega) _).setCell (by show w.heap.size ≤ g; omega) _).setCell (by show w.heap.size ≤ g; omega) _).setCell (by show w.heap.size ≤ g; omega) _).setCell (by show w.heap.size ≤ g; omega) _
  have hbF : Below w.heap.size w F := by rw [hF]; exact hbV.setCell (Nat.le_refl _) _
  have tr : ∀ (b o : Nat) (u : Value), (off W (Xo (w.heap.size + 4) v)).cell? ⟨b, o, none⟩ = some u → (off F (Xo (w.heap.size + 4) (.slice (some ⟨g, 0, none⟩) (acc.length + 1) cap))).cell? ⟨b, o, none⟩ = some u := fun b o u hu =>
    off_on (fun _ _ hx => hx) (fun k _ hx => by
      obtain ⟨x1, x2⟩ := Xo_no.1 hx
      exact (hFo k (by omega)).trans (hVo k (fun e => x2 (by rw [e]; rfl)))) b o u (g1 b o u hu)
  refine ⟨hbF, ?_, ?_, (hFo _ (by omega)).trans ((hlo _ (by omega)).trans h.abox), (hFo _ (by omega)).trans ((hlo _ (by omega)).trans h.ebox), (hFo _ (by omega)).trans ((hlo _ (by omega)).trans h.text), ?_, (h.row.on tr).snoc (hd.on tr)⟩
  · rw [hF]; simp only [World.setCell, Array.size_modify]; omega
  · rw [hF]; exact set_one ((hlo _ (by omega)).trans h.lbox)
  · rw [List.length_append, hF]
    exact ownsRow_setCell_below p5 (show w.heap.size < w.heap.size + 4 by omega) _

set_option maxHeartbeats 4000000 in
set_option maxRecDepth 100000 in
theorem read_any (s : ByteArray) (w : World) (res : Res (List Dt)) (hs : s.size ≤ 65536) (hr : Top [] s.data.toList res) :
    Calls Tryd.prog 21 #[.string s] w fun e w' => ReadAns s res e w' ∧ Below w.heap.size w w' := by
  have h0 : ¬ (65536 : Int) < s.size := by omega
  have hmf : ∀ (fn : Fn) (first cap : Array Value) (w : World), (Instr.makeFunc fn first cap).run Tryd.prog w = .ok (.func fn first cap) w := fun _ _ _ _ => rfl
  have HR := Lib.hid hr; clear hr
  go_enter_defers Tryd.func21, Tryd.ntmps21
  go_wp2_with fail
  obtain ⟨W0, hW0⟩ : ∃ W0, (((w.alloc (.cells #[.slice none 0 0] 22)).alloc (.cells #[.int .i64 0] 3)).alloc (.cells #[.int .i64 0] 33)).alloc (.cells #[.string s, .int .i64 0] 60) = W0 := ⟨_, rfl⟩
  obtain ⟨q0, q1, q2, q3⟩ := four_blocks w (.cells #[.slice none 0 0] 22 (0, 0)) (.cells #[.int .i64 0] 3 (0, 0)) (.cells #[.int .i64 0] 33 (0, 0)) (Tx s 0)
  replace q0 : W0.heap[w.heap.size]? = some (.cells #[.slice none 0 0] 22 (0, 0)) := by rw [← hW0]; exact q0
  replace q1 : W0.heap[w.heap.size + 1]? = some (.cells #[.int .i64 0] 3 (0, 0)) := by rw [← hW0]; exact q1
  replace q2 : W0.heap[w.heap.size + 2]? = some (.cells #[.int .i64 0] 33 (0, 0)) := by rw [← hW0]; exact q2
  replace q3 : W0.heap[w.heap.size + 3]? = some (Tx s 0) := by rw [← hW0]; exact q3
  have qs : W0.heap.size = w.heap.size + 4 := by rw [← hW0]; simp
  have qb : Below w.heap.size w W0 := by rw [← hW0]; exact below_seq (three_below _ _ _ _) (box_below _ _)
  have HQ := Lib.hid (And.intro q0 (And.intro q1 (And.intro q2 (And.intro q3 (And.intro qs qb)))))
  have HS := Lib.hid (skip_any (w.heap.size + 3) s 0 W0 q3 (Nat.zero_le _) hs)
  rw [hW0, show w.heap.size + 1 + 1 + 1 = w.heap.size + 3 from rfl]
  clear q0 q1 q2 q3 qs qb hW0
  refine (HS.out).mono ?_
  rintro _ w1 ⟨rfl, hk, b, hb, hh, hd⟩
  have hstart : Rdg s w res [] (.slice none 0 0) [] b w1 := by
    have hsz := hk.size
    have hs1 := HQ.out.2.2.2.2.1
    refine ⟨⟨hk.below HQ.out.2.2.2.2.2 (by omega), by omega, keeps_block hk HQ.out.1 (by omega), keeps_block hk HQ.out.2.1 (by omega), keeps_block hk HQ.out.2.2.1 (by omega), hh, ⟨rfl, Or.inl ⟨rfl, rfl⟩⟩, rfl⟩, top_skip HR.out ?_, ?_, by simp, hb⟩
    · rw [hd]; exact skip_again _
    · rw [hd]; exact skip_again _
  have HST := Lib.hid hstart; clear hstart hk hh hd
  go_wp2_with fail
  go_loopg [] s.size (fun g wr => ∃ (acc : List Dt) (v : Value) (xs : List Value) (b : Nat), s.size - b ≤ g ∧ Rdg s w res acc v xs b wr)
  case atStart => exact ⟨_, _, _, _, by omega, HST.out⟩
  case round =>
    obtain ⟨acc, v, xs, b, hg, hrdg⟩ := hrel
    obtain ⟨p, cap, rfl⟩ := hrdg.mid.slice
    obtain ⟨c0, c1, z1⟩ := tx_cells hrdg.mid.text
    have b0 : (0 : Int) ≤ b := by omega
    have HH := Lib.hid hrdg
    have hbs := hrdg.len.2
    have hal := hrdg.len.1
    have hsz0 : w.heap.size + 4 ≤ wr.heap.size := hrdg.mid.size
    have hsz1 : w.heap.size < wr.heap.size := by omega
    clear hrdg
    have lc : wr.cell? ⟨w.heap.size, 0, none⟩ = some (.slice p acc.length cap) := by simp [World.cell?, HH.out.mid.lbox]
    by_cases hlt : b < s.size
    · have b1 : (b : Int) < s.size := by omega
      have hst := HH.out.still
      have hdr := drop_cons s b hlt
      cases HH.out.top with
      | fin h => rw [h] at hst; rw [hdr] at hst; cases hst
      | @bad _ _ c r q h hrd =>
        rw [← h, hst] at hrd
        have C := fun W (h : W.heap[w.heap.size + 3]? = some (Tx s b)) => whole_bad (w.heap.size + 3) s b W q h hbs hs hrd
        have HC := Lib.hid C; clear C h hrd hst hdr
        go_wp2_with fail
        refine wp_region_any (by kernel_rfl) ?_
        change wpAny _ _ _ _ _ _ _ (World.drew _)
        refine wpAny_ready (rs := [0, 1, 4]) (by kernel_rfl) (by simp) ?_
        refine AllReady.cons rfl (fun K hK => ?_) ?_
        · go_simp
          refine hK _ _ ?_
          clear hK K
          refine wpAny_ready (rs := [1, 3, 4]) (by kernel_rfl) (by simp) ?_
          refine AllReady.cons rfl (fun K hK => ?_) ?_
          · go_simp
            refine hK _ _ ?_
            clear hK K
            refine wpAny_ready (rs := [2, 3, 4]) (by kernel_rfl) (by simp) ?_
            refine AllReady.cons rfl (fun K hK => ?_) ?_
            · go_simp
              go_wp2_with fail
              refine (HC.out _ (by first | exact HH.out.mid.text | exact (show (wr.alloc Zero5).heap[w.heap.size + 3]? = _ from block_on (box_below wr Zero5) HH.out.mid.text))).mono ?_
              intro e w3 ht
              obtain ⟨hk3, rfl⟩ := told_bad ht
              have hkw : Keeps (w.heap.size + 3) wr w3 := by first | exact ((Keeps.refl _ wr).drew).trans hk3 | exact ((Keeps.of (box_below wr Zero5)).drew).trans hk3
              have hbx := keeps_block hkw HH.out.mid.lbox (by omega)
              have hax := keeps_block hkw HH.out.mid.abox (by omega)
              have hex := keeps_block hkw HH.out.mid.ebox (by omega)
              exact caught_any hbx hax hex (by omega) (by omega) (by omega) rfl rfl rfl ⟨Or.inl ⟨_, rfl, rfl⟩, ((((hkw.below HH.out.mid.below (by omega)).setCell (Nat.le_refl _) _).setCell (Nat.le_succ _) _).setCell (by show w.heap.size ≤ w.heap.size + 2; omega) _)⟩
            refine AllReady.cons rfl (fun K hK => ?_) ?_
            · go_simp
              refine hK _ _ ?_
              clear hK K
              refine wpAny_ready (rs := [2, 4]) (by kernel_rfl) (by simp) ?_
              refine AllReady.cons rfl (fun K hK => ?_) ?_
              · go_simp
                go_wp2_with fail
                refine (HC.out _ (by first | exact HH.out.mid.text | exact (show (wr.alloc Zero5).heap[w.heap.size + 3]? = _ from block_on (box_below wr Zero5) HH.out.mid.text))).mono ?_
                intro e w3 ht
                obtain ⟨hk3, rfl⟩ := told_bad ht
                have hkw : Keeps (w.heap.size + 3) wr w3 := by first | exact ((Keeps.refl _ wr).drew).trans hk3 | exact ((Keeps.of (box_below wr Zero5)).drew).trans hk3
                have hbx := keeps_block hkw HH.out.mid.lbox (by omega)
                have hax := keeps_block hkw HH.out.mid.abox (by omega)
                have hex := keeps_block hkw HH.out.mid.ebox (by omega)
                exact caught_any hbx hax hex (by omega) (by omega) (by omega) rfl rfl rfl ⟨Or.inl ⟨_, rfl, rfl⟩, ((((hkw.below HH.out.mid.below (by omega)).setCell (Nat.le_refl _) _).setCell (Nat.le_succ _) _).setCell (by show w.heap.size ≤ w.heap.size + 2; omega) _)⟩
              refine AllReady.cons rfl (fun K hK => ?_) ?_
              · go_simp
                refine hK _ _ ?_
                clear hK K
                refine wpAny_ready (rs := [2]) (by kernel_rfl) (by simp) ?_
                refine AllReady.cons rfl (fun K hK => ?_) ?_
                · go_simp
                  go_wp2_with fail
                  refine (HC.out _ (by first | exact HH.out.mid.text | exact (show (wr.alloc Zero5).heap[w.heap.size + 3]? = _ from block_on (box_below wr Zero5) HH.out.mid.text))).mono ?_
                  intro e w3 ht
                  obtain ⟨hk3, rfl⟩ := told_bad ht
                  have hkw : Keeps (w.heap.size + 3) wr w3 := by first | exact ((Keeps.refl _ wr).drew).trans hk3 | exact ((Keeps.of (box_below wr Zero5)).drew).trans hk3
                  have hbx := keeps_block hkw HH.out.mid.lbox (by omega)
                  have hax := keeps_block hkw HH.out.mid.abox (by omega)
                  have hex := keeps_block hkw HH.out.mid.ebox (by omega)
                  exact caught_any hbx hax hex (by omega) (by omega) (by omega) rfl rfl rfl ⟨Or.inl ⟨_, rfl, rfl⟩, ((((hkw.below HH.out.mid.below (by omega)).setCell (Nat.le_refl _) _).setCell (Nat.le_succ _) _).setCell (by show w.heap.size ≤ w.heap.size + 2; omega) _)⟩
                exact AllReady.nil
              exact AllReady.nil
            refine AllReady.cons rfl (fun K hK => ?_) ?_
            · go_simp
              refine hK _ _ ?_
              clear hK K
              refine wpAny_ready (rs := [2, 3]) (by kernel_rfl) (by simp) ?_
              refine AllReady.cons rfl (fun K hK => ?_) ?_
              · go_simp
                go_wp2_with fail
                refine (HC.out _ (by first | exact HH.out.mid.text | exact (show (wr.alloc Zero5).heap[w.heap.size + 3]? = _ from block_on (box_below wr Zero5) HH.out.mid.text))).mono ?_
                intro e w3 ht
                obtain ⟨hk3, rfl⟩ := told_bad ht
                have hkw : Keeps (w.heap.size + 3) wr w3 := by first | exact ((Keeps.refl _ wr).drew).trans hk3 | exact ((Keeps.of (box_below wr Zero5)).drew).trans hk3
                have hbx := keeps_block hkw HH.out.mid.lbox (by omega)
                have hax := keeps_block hkw HH.out.mid.abox (by omega)
                have hex := keeps_block hkw HH.out.mid.ebox (by omega)
                exact caught_any hbx hax hex (by omega) (by omega) (by omega) rfl rfl rfl ⟨Or.inl ⟨_, rfl, rfl⟩, ((((hkw.below HH.out.mid.below (by omega)).setCell (Nat.le_refl _) _).setCell (Nat.le_succ _) _).setCell (by show w.heap.size ≤ w.heap.size + 2; omega) _)⟩
              refine AllReady.cons rfl (fun K hK => ?_) ?_
              · go_simp
                refine hK _ _ ?_
                clear hK K
                refine wpAny_ready (rs := [2]) (by kernel_rfl) (by simp) ?_
                refine AllReady.cons rfl (fun K hK => ?_) ?_
                · go_simp
                  go_wp2_with fail
                  refine (HC.out _ (by first | exact HH.out.mid.text | exact (show (wr.alloc Zero5).heap[w.heap.size + 3]? = _ from block_on (box_below wr Zero5) HH.out.mid.text))).mono ?_
                  intro e w3 ht
                  obtain ⟨hk3, rfl⟩ := told_bad ht
                  have hkw : Keeps (w.heap.size + 3) wr w3 := by first | exact ((Keeps.refl _ wr).drew).trans hk3 | exact ((Keeps.of (box_below wr Zero5)).drew).trans hk3
                  have hbx := keeps_block hkw HH.out.mid.lbox (by omega)
                  have hax := keeps_block hkw HH.out.mid.abox (by omega)
                  have hex := keeps_block hkw HH.out.mid.ebox (by omega)
                  exact caught_any hbx hax hex (by omega) (by omega) (by omega) rfl rfl rfl ⟨Or.inl ⟨_, rfl, rfl⟩, ((((hkw.below HH.out.mid.below (by omega)).setCell (Nat.le_refl _) _).setCell (Nat.le_succ _) _).setCell (by show w.heap.size ≤ w.heap.size + 2; omega) _)⟩
                exact AllReady.nil
              exact AllReady.nil
            exact AllReady.nil
          refine AllReady.cons rfl (fun K hK => ?_) ?_
          · go_simp
            refine hK _ _ ?_
            clear hK K
            refine wpAny_ready (rs := [1, 4]) (by kernel_rfl) (by simp) ?_
            refine AllReady.cons rfl (fun K hK => ?_) ?_
            · go_simp
              refine hK _ _ ?_
              clear hK K
              refine wpAny_ready (rs := [2, 4]) (by kernel_rfl) (by simp) ?_
              refine AllReady.cons rfl (fun K hK => ?_) ?_
              · go_simp
                go_wp2_with fail
                refine (HC.out _ (by first | exact HH.out.mid.text | exact (show (wr.alloc Zero5).heap[w.heap.size + 3]? = _ from block_on (box_below wr Zero5) HH.out.mid.text))).mono ?_
                intro e w3 ht
                obtain ⟨hk3, rfl⟩ := told_bad ht
                have hkw : Keeps (w.heap.size + 3) wr w3 := by first | exact ((Keeps.refl _ wr).drew).trans hk3 | exact ((Keeps.of (box_below wr Zero5)).drew).trans hk3
                have hbx := keeps_block hkw HH.out.mid.lbox (by omega)
                have hax := keeps_block hkw HH.out.mid.abox (by omega)
                have hex := keeps_block hkw HH.out.mid.ebox (by omega)
                exact caught_any hbx hax hex (by omega) (by omega) (by omega) rfl rfl rfl ⟨Or.inl ⟨_, rfl, rfl⟩, ((((hkw.below HH.out.mid.below (by omega)).setCell (Nat.le_refl _) _).setCell (Nat.le_succ _) _).setCell (by show w.heap.size ≤ w.heap.size + 2; omega) _)⟩
              refine AllReady.cons rfl (fun K hK => ?_) ?_
              · go_simp
                refine hK _ _ ?_
                clear hK K
                refine wpAny_ready (rs := [2]) (by kernel_rfl) (by simp) ?_
                refine AllReady.cons rfl (fun K hK => ?_) ?_
                · go_simp
                  go_wp2_with fail
                  refine (HC.out _ (by first | exact HH.out.mid.text | exact (show (wr.alloc Zero5).heap[w.heap.size + 3]? = _ from block_on (box_below wr Zero5) HH.out.mid.text))).mono ?_
                  intro e w3 ht
                  obtain ⟨hk3, rfl⟩ := told_bad ht
                  have hkw : Keeps (w.heap.size + 3) wr w3 := by first | exact ((Keeps.refl _ wr).drew).trans hk3 | exact ((Keeps.of (box_below wr Zero5)).drew).trans hk3
                  have hbx := keeps_block hkw HH.out.mid.lbox (by omega)
                  have hax := keeps_block hkw HH.out.mid.abox (by omega)
                  have hex := keeps_block hkw HH.out.mid.ebox (by omega)
                  exact caught_any hbx hax hex (by omega) (by omega) (by omega) rfl rfl rfl ⟨Or.inl ⟨_, rfl, rfl⟩, ((((hkw.below HH.out.mid.below (by omega)).setCell (Nat.le_refl _) _).setCell (Nat.le_succ _) _).setCell (by show w.heap.size ≤ w.heap.size + 2; omega) _)⟩
                exact AllReady.nil
              exact AllReady.nil
            refine AllReady.cons rfl (fun K hK => ?_) ?_
            · go_simp
              refine hK _ _ ?_
              clear hK K
              refine wpAny_ready (rs := [1]) (by kernel_rfl) (by simp) ?_
              refine AllReady.cons rfl (fun K hK => ?_) ?_
              · go_simp
                refine hK _ _ ?_
                clear hK K
                refine wpAny_ready (rs := [2]) (by kernel_rfl) (by simp) ?_
                refine AllReady.cons rfl (fun K hK => ?_) ?_
                · go_simp
                  go_wp2_with fail
                  refine (HC.out _ (by first | exact HH.out.mid.text | exact (show (wr.alloc Zero5).heap[w.heap.size + 3]? = _ from block_on (box_below wr Zero5) HH.out.mid.text))).mono ?_
                  intro e w3 ht
                  obtain ⟨hk3, rfl⟩ := told_bad ht
                  have hkw : Keeps (w.heap.size + 3) wr w3 := by first | exact ((Keeps.refl _ wr).drew).trans hk3 | exact ((Keeps.of (box_below wr Zero5)).drew).trans hk3
                  have hbx := keeps_block hkw HH.out.mid.lbox (by omega)
                  have hax := keeps_block hkw HH.out.mid.abox (by omega)
                  have hex := keeps_block hkw HH.out.mid.ebox (by omega)
                  exact caught_any hbx hax hex (by omega) (by omega) (by omega) rfl rfl rfl ⟨Or.inl ⟨_, rfl, rfl⟩, ((((hkw.below HH.out.mid.below (by omega)).setCell (Nat.le_refl _) _).setCell (Nat.le_succ _) _).setCell (by show w.heap.size ≤ w.heap.size + 2; omega) _)⟩
                exact AllReady.nil
              exact AllReady.nil
            exact AllReady.nil
          refine AllReady.cons rfl (fun K hK => ?_) ?_
          · go_simp
            refine hK _ _ ?_
            clear hK K
            refine wpAny_ready (rs := [1, 3]) (by kernel_rfl) (by simp) ?_
            refine AllReady.cons rfl (fun K hK => ?_) ?_
            · go_simp
              refine hK _ _ ?_
              clear hK K
              refine wpAny_ready (rs := [2, 3]) (by kernel_rfl) (by simp) ?_
              refine AllReady.cons rfl (fun K hK => ?_) ?_
              · go_simp
                go_wp2_with fail
                refine (HC.out _ (by first | exact HH.out.mid.text | exact (show (wr.alloc Zero5).heap[w.heap.size + 3]? = _ from block_on (box_below wr Zero5) HH.out.mid.text))).mono ?_
                intro e w3 ht
                obtain ⟨hk3, rfl⟩ := told_bad ht
                have hkw : Keeps (w.heap.size + 3) wr w3 := by first | exact ((Keeps.refl _ wr).drew).trans hk3 | exact ((Keeps.of (box_below wr Zero5)).drew).trans hk3
                have hbx := keeps_block hkw HH.out.mid.lbox (by omega)
                have hax := keeps_block hkw HH.out.mid.abox (by omega)
                have hex := keeps_block hkw HH.out.mid.ebox (by omega)
                exact caught_any hbx hax hex (by omega) (by omega) (by omega) rfl rfl rfl ⟨Or.inl ⟨_, rfl, rfl⟩, ((((hkw.below HH.out.mid.below (by omega)).setCell (Nat.le_refl _) _).setCell (Nat.le_succ _) _).setCell (by show w.heap.size ≤ w.heap.size + 2; omega) _)⟩
              refine AllReady.cons rfl (fun K hK => ?_) ?_
              · go_simp
                refine hK _ _ ?_
                clear hK K
                refine wpAny_ready (rs := [2]) (by kernel_rfl) (by simp) ?_
                refine AllReady.cons rfl (fun K hK => ?_) ?_
                · go_simp
                  go_wp2_with fail
                  refine (HC.out _ (by first | exact HH.out.mid.text | exact (show (wr.alloc Zero5).heap[w.heap.size + 3]? = _ from block_on (box_below wr Zero5) HH.out.mid.text))).mono ?_
                  intro e w3 ht
                  obtain ⟨hk3, rfl⟩ := told_bad ht
                  have hkw : Keeps (w.heap.size + 3) wr w3 := by first | exact ((Keeps.refl _ wr).drew).trans hk3 | exact ((Keeps.of (box_below wr Zero5)).drew).trans hk3
                  have hbx := keeps_block hkw HH.out.mid.lbox (by omega)
                  have hax := keeps_block hkw HH.out.mid.abox (by omega)
                  have hex := keeps_block hkw HH.out.mid.ebox (by omega)
                  exact caught_any hbx hax hex (by omega) (by omega) (by omega) rfl rfl rfl ⟨Or.inl ⟨_, rfl, rfl⟩, ((((hkw.below HH.out.mid.below (by omega)).setCell (Nat.le_refl _) _).setCell (Nat.le_succ _) _).setCell (by show w.heap.size ≤ w.heap.size + 2; omega) _)⟩
                exact AllReady.nil
              exact AllReady.nil
            refine AllReady.cons rfl (fun K hK => ?_) ?_
            · go_simp
              refine hK _ _ ?_
              clear hK K
              refine wpAny_ready (rs := [1]) (by kernel_rfl) (by simp) ?_
              refine AllReady.cons rfl (fun K hK => ?_) ?_
              · go_simp
                refine hK _ _ ?_
                clear hK K
                refine wpAny_ready (rs := [2]) (by kernel_rfl) (by simp) ?_
                refine AllReady.cons rfl (fun K hK => ?_) ?_
                · go_simp
                  go_wp2_with fail
                  refine (HC.out _ (by first | exact HH.out.mid.text | exact (show (wr.alloc Zero5).heap[w.heap.size + 3]? = _ from block_on (box_below wr Zero5) HH.out.mid.text))).mono ?_
                  intro e w3 ht
                  obtain ⟨hk3, rfl⟩ := told_bad ht
                  have hkw : Keeps (w.heap.size + 3) wr w3 := by first | exact ((Keeps.refl _ wr).drew).trans hk3 | exact ((Keeps.of (box_below wr Zero5)).drew).trans hk3
                  have hbx := keeps_block hkw HH.out.mid.lbox (by omega)
                  have hax := keeps_block hkw HH.out.mid.abox (by omega)
                  have hex := keeps_block hkw HH.out.mid.ebox (by omega)
                  exact caught_any hbx hax hex (by omega) (by omega) (by omega) rfl rfl rfl ⟨Or.inl ⟨_, rfl, rfl⟩, ((((hkw.below HH.out.mid.below (by omega)).setCell (Nat.le_refl _) _).setCell (Nat.le_succ _) _).setCell (by show w.heap.size ≤ w.heap.size + 2; omega) _)⟩
                exact AllReady.nil
              exact AllReady.nil
            exact AllReady.nil
          exact AllReady.nil
        refine AllReady.cons rfl (fun K hK => ?_) ?_
        · go_simp
          refine hK _ _ ?_
          clear hK K
          refine wpAny_ready (rs := [0, 2, 4]) (by kernel_rfl) (by simp) ?_
          refine AllReady.cons rfl (fun K hK => ?_) ?_
          · go_simp
            refine hK _ _ ?_
            clear hK K
            refine wpAny_ready (rs := [2, 3, 4]) (by kernel_rfl) (by simp) ?_
            refine AllReady.cons rfl (fun K hK => ?_) ?_
            · go_simp
              go_wp2_with fail
              refine (HC.out _ (by first | exact HH.out.mid.text | exact (show (wr.alloc Zero5).heap[w.heap.size + 3]? = _ from block_on (box_below wr Zero5) HH.out.mid.text))).mono ?_
              intro e w3 ht
              obtain ⟨hk3, rfl⟩ := told_bad ht
              have hkw : Keeps (w.heap.size + 3) wr w3 := by first | exact ((Keeps.refl _ wr).drew).trans hk3 | exact ((Keeps.of (box_below wr Zero5)).drew).trans hk3
              have hbx := keeps_block hkw HH.out.mid.lbox (by omega)
              have hax := keeps_block hkw HH.out.mid.abox (by omega)
              have hex := keeps_block hkw HH.out.mid.ebox (by omega)
              exact caught_any hbx hax hex (by omega) (by omega) (by omega) rfl rfl rfl ⟨Or.inl ⟨_, rfl, rfl⟩, ((((hkw.below HH.out.mid.below (by omega)).setCell (Nat.le_refl _) _).setCell (Nat.le_succ _) _).setCell (by show w.heap.size ≤ w.heap.size + 2; omega) _)⟩
            refine AllReady.cons rfl (fun K hK => ?_) ?_
            · go_simp
              refine hK _ _ ?_
              clear hK K
              refine wpAny_ready (rs := [2, 4]) (by kernel_rfl) (by simp) ?_
              refine AllReady.cons rfl (fun K hK => ?_) ?_
              · go_simp
                go_wp2_with fail
                refine (HC.out _ (by first | exact HH.out.mid.text | exact (show (wr.alloc Zero5).heap[w.heap.size + 3]? = _ from block_on (box_below wr Zero5) HH.out.mid.text))).mono ?_
                intro e w3 ht
                obtain ⟨hk3, rfl⟩ := told_bad ht
                have hkw : Keeps (w.heap.size + 3) wr w3 := by first | exact ((Keeps.refl _ wr).drew).trans hk3 | exact ((Keeps.of (box_below wr Zero5)).drew).trans hk3
                have hbx := keeps_block hkw HH.out.mid.lbox (by omega)
                have hax := keeps_block hkw HH.out.mid.abox (by omega)
                have hex := keeps_block hkw HH.out.mid.ebox (by omega)
                exact caught_any hbx hax hex (by omega) (by omega) (by omega) rfl rfl rfl ⟨Or.inl ⟨_, rfl, rfl⟩, ((((hkw.below HH.out.mid.below (by omega)).setCell (Nat.le_refl _) _).setCell (Nat.le_succ _) _).setCell (by show w.heap.size ≤ w.heap.size + 2; omega) _)⟩
              refine AllReady.cons rfl (fun K hK => ?_) ?_
              · go_simp
                refine hK _ _ ?_
                clear hK K
                refine wpAny_ready (rs := [2]) (by kernel_rfl) (by simp) ?_
                refine AllReady.cons rfl (fun K hK => ?_) ?_
                · go_simp
                  go_wp2_with fail
                  refine (HC.out _ (by first | exact HH.out.mid.text | exact (show (wr.alloc Zero5).heap[w.heap.size + 3]? = _ from block_on (box_below wr Zero5) HH.out.mid.text))).mono ?_
                  intro e w3 ht
                  obtain ⟨hk3, rfl⟩ := told_bad ht
                  have hkw : Keeps (w.heap.size + 3) wr w3 := by first | exact ((Keeps.refl _ wr).drew).trans hk3 | exact ((Keeps.of (box_below wr Zero5)).drew).trans hk3
                  have hbx := keeps_block hkw HH.out.mid.lbox (by omega)
                  have hax := keeps_block hkw HH.out.mid.abox (by omega)
                  have hex := keeps_block hkw HH.out.mid.ebox (by omega)
                  exact caught_any hbx hax hex (by omega) (by omega) (by omega) rfl rfl rfl ⟨Or.inl ⟨_, rfl, rfl⟩, ((((hkw.below HH.out.mid.below (by omega)).setCell (Nat.le_refl _) _).setCell (Nat.le_succ _) _).setCell (by show w.heap.size ≤ w.heap.size + 2; omega) _)⟩
                exact AllReady.nil
              exact AllReady.nil
            refine AllReady.cons rfl (fun K hK => ?_) ?_
            · go_simp
              refine hK _ _ ?_
              clear hK K
              refine wpAny_ready (rs := [2, 3]) (by kernel_rfl) (by simp) ?_
              refine AllReady.cons rfl (fun K hK => ?_) ?_
              · go_simp
                go_wp2_with fail
                refine (HC.out _ (by first | exact HH.out.mid.text | exact (show (wr.alloc Zero5).heap[w.heap.size + 3]? = _ from block_on (box_below wr Zero5) HH.out.mid.text))).mono ?_
                intro e w3 ht
                obtain ⟨hk3, rfl⟩ := told_bad ht
                have hkw : Keeps (w.heap.size + 3) wr w3 := by first | exact ((Keeps.refl _ wr).drew).trans hk3 | exact ((Keeps.of (box_below wr Zero5)).drew).trans hk3
                have hbx := keeps_block hkw HH.out.mid.lbox (by omega)
                have hax := keeps_block hkw HH.out.mid.abox (by omega)
                have hex := keeps_block hkw HH.out.mid.ebox (by omega)
                exact caught_any hbx hax hex (by omega) (by omega) (by omega) rfl rfl rfl ⟨Or.inl ⟨_, rfl, rfl⟩, ((((hkw.below HH.out.mid.below (by omega)).setCell (Nat.le_refl _) _).setCell (Nat.le_succ _) _).setCell (by show w.heap.size ≤ w.heap.size + 2; omega) _)⟩
              refine AllReady.cons rfl (fun K hK => ?_) ?_
              · go_simp
                refine hK _ _ ?_
                clear hK K
                refine wpAny_ready (rs := [2]) (by kernel_rfl) (by simp) ?_
                refine AllReady.cons rfl (fun K hK => ?_) ?_
                · go_simp
                  go_wp2_with fail
                  refine (HC.out _ (by first | exact HH.out.mid.text | exact (show (wr.alloc Zero5).heap[w.heap.size + 3]? = _ from block_on (box_below wr Zero5) HH.out.mid.text))).mono ?_
                  intro e w3 ht
                  obtain ⟨hk3, rfl⟩ := told_bad ht
                  have hkw : Keeps (w.heap.size + 3) wr w3 := by first | exact ((Keeps.refl _ wr).drew).trans hk3 | exact ((Keeps.of (box_below wr Zero5)).drew).trans hk3
                  have hbx := keeps_block hkw HH.out.mid.lbox (by omega)
                  have hax := keeps_block hkw HH.out.mid.abox (by omega)
                  have hex := keeps_block hkw HH.out.mid.ebox (by omega)
                  exact caught_any hbx hax hex (by omega) (by omega) (by omega) rfl rfl rfl ⟨Or.inl ⟨_, rfl, rfl⟩, ((((hkw.below HH.out.mid.below (by omega)).setCell (Nat.le_refl _) _).setCell (Nat.le_succ _) _).setCell (by show w.heap.size ≤ w.heap.size + 2; omega) _)⟩
                exact AllReady.nil
              exact AllReady.nil
            exact AllReady.nil
          refine AllReady.cons rfl (fun K hK => ?_) ?_
          · go_simp
            go_wp2_with fail
            refine (HC.out _ (by first | exact HH.out.mid.text | exact (show (wr.alloc Zero5).heap[w.heap.size + 3]? = _ from block_on (box_below wr Zero5) HH.out.mid.text))).mono ?_
            intro e w3 ht
            obtain ⟨hk3, rfl⟩ := told_bad ht
            have hkw : Keeps (w.heap.size + 3) wr w3 := by first | exact ((Keeps.refl _ wr).drew).trans hk3 | exact ((Keeps.of (box_below wr Zero5)).drew).trans hk3
            have hbx := keeps_block hkw HH.out.mid.lbox (by omega)
            have hax := keeps_block hkw HH.out.mid.abox (by omega)
            have hex := keeps_block hkw HH.out.mid.ebox (by omega)
            exact caught_any hbx hax hex (by omega) (by omega) (by omega) rfl rfl rfl ⟨Or.inl ⟨_, rfl, rfl⟩, ((((hkw.below HH.out.mid.below (by omega)).setCell (Nat.le_refl _) _).setCell (Nat.le_succ _) _).setCell (by show w.heap.size ≤ w.heap.size + 2; omega) _)⟩
          refine AllReady.cons rfl (fun K hK => ?_) ?_
          · go_simp
            refine hK _ _ ?_
            clear hK K
            refine wpAny_ready (rs := [0, 2]) (by kernel_rfl) (by simp) ?_
            refine AllReady.cons rfl (fun K hK => ?_) ?_
            · go_simp
              refine hK _ _ ?_
              clear hK K
              refine wpAny_ready (rs := [2, 3]) (by kernel_rfl) (by simp) ?_
              refine AllReady.cons rfl (fun K hK => ?_) ?_
              · go_simp
                go_wp2_with fail
                refine (HC.out _ (by first | exact HH.out.mid.text | exact (show (wr.alloc Zero5).heap[w.heap.size + 3]? = _ from block_on (box_below wr Zero5) HH.out.mid.text))).mono ?_
                intro e w3 ht
                obtain ⟨hk3, rfl⟩ := told_bad ht
                have hkw : Keeps (w.heap.size + 3) wr w3 := by first | exact ((Keeps.refl _ wr).drew).trans hk3 | exact ((Keeps.of (box_below wr Zero5)).drew).trans hk3
                have hbx := keeps_block hkw HH.out.mid.lbox (by omega)
                have hax := keeps_block hkw HH.out.mid.abox (by omega)
                have hex := keeps_block hkw HH.out.mid.ebox (by omega)
                exact caught_any hbx hax hex (by omega) (by omega) (by omega) rfl rfl rfl ⟨Or.inl ⟨_, rfl, rfl⟩, ((((hkw.below HH.out.mid.below (by omega)).setCell (Nat.le_refl _) _).setCell (Nat.le_succ _) _).setCell (by show w.heap.size ≤ w.heap.size + 2; omega) _)⟩
              refine AllReady.cons rfl (fun K hK => ?_) ?_
              · go_simp
                refine hK _ _ ?_
                clear hK K
                refine wpAny_ready (rs := [2]) (by kernel_rfl) (by simp) ?_
                refine AllReady.cons rfl (fun K hK => ?_) ?_
                · go_simp
                  go_wp2_with fail
                  refine (HC.out _ (by first | exact HH.out.mid.text | exact (show (wr.alloc Zero5).heap[w.heap.size + 3]? = _ from block_on (box_below wr Zero5) HH.out.mid.text))).mono ?_
                  intro e w3 ht
                  obtain ⟨hk3, rfl⟩ := told_bad ht
                  have hkw : Keeps (w.heap.size + 3) wr w3 := by first | exact ((Keeps.refl _ wr).drew).trans hk3 | exact ((Keeps.of (box_below wr Zero5)).drew).trans hk3
                  have hbx := keeps_block hkw HH.out.mid.lbox (by omega)
                  have hax := keeps_block hkw HH.out.mid.abox (by omega)
                  have hex := keeps_block hkw HH.out.mid.ebox (by omega)
                  exact caught_any hbx hax hex (by omega) (by omega) (by omega) rfl rfl rfl ⟨Or.inl ⟨_, rfl, rfl⟩, ((((hkw.below HH.out.mid.below (by omega)).setCell (Nat.le_refl _) _).setCell (Nat.le_succ _) _).setCell (by show w.heap.size ≤ w.heap.size + 2; omega) _)⟩
                exact AllReady.nil
              exact AllReady.nil
            refine AllReady.cons rfl (fun K hK => ?_) ?_
            · go_simp
              go_wp2_with fail
              refine (HC.out _ (by first | exact HH.out.mid.text | exact (show (wr.alloc Zero5).heap[w.heap.size + 3]? = _ from block_on (box_below wr Zero5) HH.out.mid.text))).mono ?_
              intro e w3 ht
              obtain ⟨hk3, rfl⟩ := told_bad ht
              have hkw : Keeps (w.heap.size + 3) wr w3 := by first | exact ((Keeps.refl _ wr).drew).trans hk3 | exact ((Keeps.of (box_below wr Zero5)).drew).trans hk3
              have hbx := keeps_block hkw HH.out.mid.lbox (by omega)
              have hax := keeps_block hkw HH.out.mid.abox (by omega)
              have hex := keeps_block hkw HH.out.mid.ebox (by omega)
              exact caught_any hbx hax hex (by omega) (by omega) (by omega) rfl rfl rfl ⟨Or.inl ⟨_, rfl, rfl⟩, ((((hkw.below HH.out.mid.below (by omega)).setCell (Nat.le_refl _) _).setCell (Nat.le_succ _) _).setCell (by show w.heap.size ≤ w.heap.size + 2; omega) _)⟩
            exact AllReady.nil
          exact AllReady.nil
        refine AllReady.cons rfl (fun K hK => ?_) ?_
        · go_simp
          refine hK _ _ ?_
          clear hK K
          refine wpAny_ready (rs := [0, 1]) (by kernel_rfl) (by simp) ?_
          refine AllReady.cons rfl (fun K hK => ?_) ?_
          · go_simp
            refine hK _ _ ?_
            clear hK K
            refine wpAny_ready (rs := [1, 3]) (by kernel_rfl) (by simp) ?_
            refine AllReady.cons rfl (fun K hK => ?_) ?_
            · go_simp
              refine hK _ _ ?_
              clear hK K
              refine wpAny_ready (rs := [2, 3]) (by kernel_rfl) (by simp) ?_
              refine AllReady.cons rfl (fun K hK => ?_) ?_
              · go_simp
                go_wp2_with fail
                refine (HC.out _ (by first | exact HH.out.mid.text | exact (show (wr.alloc Zero5).heap[w.heap.size + 3]? = _ from block_on (box_below wr Zero5) HH.out.mid.text))).mono ?_
                intro e w3 ht
                obtain ⟨hk3, rfl⟩ := told_bad ht
                have hkw : Keeps (w.heap.size + 3) wr w3 := by first | exact ((Keeps.refl _ wr).drew).trans hk3 | exact ((Keeps.of (box_below wr Zero5)).drew).trans hk3
                have hbx := keeps_block hkw HH.out.mid.lbox (by omega)
                have hax := keeps_block hkw HH.out.mid.abox (by omega)
                have hex := keeps_block hkw HH.out.mid.ebox (by omega)
                exact caught_any hbx hax hex (by omega) (by omega) (by omega) rfl rfl rfl ⟨Or.inl ⟨_, rfl, rfl⟩, ((((hkw.below HH.out.mid.below (by omega)).setCell (Nat.le_refl _) _).setCell (Nat.le_succ _) _).setCell (by show w.heap.size ≤ w.heap.size + 2; omega) _)⟩
              refine AllReady.cons rfl (fun K hK => ?_) ?_
              · go_simp
                refine hK _ _ ?_
                clear hK K
                refine wpAny_ready (rs := [2]) (by kernel_rfl) (by simp) ?_
                refine AllReady.cons rfl (fun K hK => ?_) ?_
                · go_simp
                  go_wp2_with fail
                  refine (HC.out _ (by first | exact HH.out.mid.text | exact (show (wr.alloc Zero5).heap[w.heap.size + 3]? = _ from block_on (box_below wr Zero5) HH.out.mid.text))).mono ?_
                  intro e w3 ht
                  obtain ⟨hk3, rfl⟩ := told_bad ht
                  have hkw : Keeps (w.heap.size + 3) wr w3 := by first | exact ((Keeps.refl _ wr).drew).trans hk3 | exact ((Keeps.of (box_below wr Zero5)).drew).trans hk3
                  have hbx := keeps_block hkw HH.out.mid.lbox (by omega)
                  have hax := keeps_block hkw HH.out.mid.abox (by omega)
                  have hex := keeps_block hkw HH.out.mid.ebox (by omega)
                  exact caught_any hbx hax hex (by omega) (by omega) (by omega) rfl rfl rfl ⟨Or.inl ⟨_, rfl, rfl⟩, ((((hkw.below HH.out.mid.below (by omega)).setCell (Nat.le_refl _) _).setCell (Nat.le_succ _) _).setCell (by show w.heap.size ≤ w.heap.size + 2; omega) _)⟩
                exact AllReady.nil
              exact AllReady.nil
            refine AllReady.cons rfl (fun K hK => ?_) ?_
            · go_simp
              refine hK _ _ ?_
              clear hK K
              refine wpAny_ready (rs := [1]) (by kernel_rfl) (by simp) ?_
              refine AllReady.cons rfl (fun K hK => ?_) ?_
              · go_simp
                refine hK _ _ ?_
                clear hK K
                refine wpAny_ready (rs := [2]) (by kernel_rfl) (by simp) ?_
                refine AllReady.cons rfl (fun K hK => ?_) ?_
                · go_simp
                  go_wp2_with fail
                  refine (HC.out _ (by first | exact HH.out.mid.text | exact (show (wr.alloc Zero5).heap[w.heap.size + 3]? = _ from block_on (box_below wr Zero5) HH.out.mid.text))).mono ?_
                  intro e w3 ht
                  obtain ⟨hk3, rfl⟩ := told_bad ht
                  have hkw : Keeps (w.heap.size + 3) wr w3 := by first | exact ((Keeps.refl _ wr).drew).trans hk3 | exact ((Keeps.of (box_below wr Zero5)).drew).trans hk3
                  have hbx := keeps_block hkw HH.out.mid.lbox (by omega)
                  have hax := keeps_block hkw HH.out.mid.abox (by omega)
                  have hex := keeps_block hkw HH.out.mid.ebox (by omega)
                  exact caught_any hbx hax hex (by omega) (by omega) (by omega) rfl rfl rfl ⟨Or.inl ⟨_, rfl, rfl⟩, ((((hkw.below HH.out.mid.below (by omega)).setCell (Nat.le_refl _) _).setCell (Nat.le_succ _) _).setCell (by show w.heap.size ≤ w.heap.size + 2; omega) _)⟩
                exact AllReady.nil
              exact AllReady.nil
            exact AllReady.nil
          refine AllReady.cons rfl (fun K hK => ?_) ?_
          · go_simp
            refine hK _ _ ?_
            clear hK K
            refine wpAny_ready (rs := [0, 2]) (by kernel_rfl) (by simp) ?_
            refine AllReady.cons rfl (fun K hK => ?_) ?_
            · go_simp
              refine hK _ _ ?_
              clear hK K
              refine wpAny_ready (rs := [2, 3]) (by kernel_rfl) (by simp) ?_
              refine AllReady.cons rfl (fun K hK => ?_) ?_
              · go_simp
                go_wp2_with fail
                refine (HC.out _ (by first | exact HH.out.mid.text | exact (show (wr.alloc Zero5).heap[w.heap.size + 3]? = _ from block_on (box_below wr Zero5) HH.out.mid.text))).mono ?_
                intro e w3 ht
                obtain ⟨hk3, rfl⟩ := told_bad ht
                have hkw : Keeps (w.heap.size + 3) wr w3 := by first | exact ((Keeps.refl _ wr).drew).trans hk3 | exact ((Keeps.of (box_below wr Zero5)).drew).trans hk3
                have hbx := keeps_block hkw HH.out.mid.lbox (by omega)
                have hax := keeps_block hkw HH.out.mid.abox (by omega)
                have hex := keeps_block hkw HH.out.mid.ebox (by omega)
                exact caught_any hbx hax hex (by omega) (by omega) (by omega) rfl rfl rfl ⟨Or.inl ⟨_, rfl, rfl⟩, ((((hkw.below HH.out.mid.below (by omega)).setCell (Nat.le_refl _) _).setCell (Nat.le_succ _) _).setCell (by show w.heap.size ≤ w.heap.size + 2; omega) _)⟩
              refine AllReady.cons rfl (fun K hK => ?_) ?_
              · go_simp
                refine hK _ _ ?_
                clear hK K
                refine wpAny_ready (rs := [2]) (by kernel_rfl) (by simp) ?_
                refine AllReady.cons rfl (fun K hK => ?_) ?_
                · go_simp
                  go_wp2_with fail
                  refine (HC.out _ (by first | exact HH.out.mid.text | exact (show (wr.alloc Zero5).heap[w.heap.size + 3]? = _ from block_on (box_below wr Zero5) HH.out.mid.text))).mono ?_
                  intro e w3 ht
                  obtain ⟨hk3, rfl⟩ := told_bad ht
                  have hkw : Keeps (w.heap.size + 3) wr w3 := by first | exact ((Keeps.refl _ wr).drew).trans hk3 | exact ((Keeps.of (box_below wr Zero5)).drew).trans hk3
                  have hbx := keeps_block hkw HH.out.mid.lbox (by omega)
                  have hax := keeps_block hkw HH.out.mid.abox (by omega)
                  have hex := keeps_block hkw HH.out.mid.ebox (by omega)
                  exact caught_any hbx hax hex (by omega) (by omega) (by omega) rfl rfl rfl ⟨Or.inl ⟨_, rfl, rfl⟩, ((((hkw.below HH.out.mid.below (by omega)).setCell (Nat.le_refl _) _).setCell (Nat.le_succ _) _).setCell (by show w.heap.size ≤ w.heap.size + 2; omega) _)⟩
                exact AllReady.nil
              exact AllReady.nil
            refine AllReady.cons rfl (fun K hK => ?_) ?_
            · go_simp
              go_wp2_with fail
              refine (HC.out _ (by first | exact HH.out.mid.text | exact (show (wr.alloc Zero5).heap[w.heap.size + 3]? = _ from block_on (box_below wr Zero5) HH.out.mid.text))).mono ?_
              intro e w3 ht
              obtain ⟨hk3, rfl⟩ := told_bad ht
              have hkw : Keeps (w.heap.size + 3) wr w3 := by first | exact ((Keeps.refl _ wr).drew).trans hk3 | exact ((Keeps.of (box_below wr Zero5)).drew).trans hk3
              have hbx := keeps_block hkw HH.out.mid.lbox (by omega)
              have hax := keeps_block hkw HH.out.mid.abox (by omega)
              have hex := keeps_block hkw HH.out.mid.ebox (by omega)
              exact caught_any hbx hax hex (by omega) (by omega) (by omega) rfl rfl rfl ⟨Or.inl ⟨_, rfl, rfl⟩, ((((hkw.below HH.out.mid.below (by omega)).setCell (Nat.le_refl _) _).setCell (Nat.le_succ _) _).setCell (by show w.heap.size ≤ w.heap.size + 2; omega) _)⟩
            exact AllReady.nil
          exact AllReady.nil
        exact AllReady.nil
      | @deep _ _ c r d q h hrd hr =>
        rw [← h, hst] at hrd
        have C := fun W (h : W.heap[w.heap.size + 3]? = some (Tx s b)) => whole_deep (w.heap.size + 3) s b W d q h hbs hs hrd hr
        have HREQ := Lib.hid (show c :: r = s.data.toList.drop b from h.symm.trans hst)
        have HC := Lib.hid C; clear C h hrd hst hdr hr
        go_wp2_with fail
        refine wp_region_any (by kernel_rfl) ?_
        change wpAny _ _ _ _ _ _ _ (World.drew _)
        refine wpAny_ready (rs := [0, 1, 4]) (by kernel_rfl) (by simp) ?_
        refine AllReady.cons rfl (fun K hK => ?_) ?_
        · go_simp
          refine hK _ _ ?_
          clear hK K
          refine wpAny_ready (rs := [1, 3, 4]) (by kernel_rfl) (by simp) ?_
          refine AllReady.cons rfl (fun K hK => ?_) ?_
          · go_simp
            refine hK _ _ ?_
            clear hK K
            refine wpAny_ready (rs := [2, 3, 4]) (by kernel_rfl) (by simp) ?_
            refine AllReady.cons rfl (fun K hK => ?_) ?_
            · go_simp
              go_wp2_with fail
              refine (HC.out _ (by first | exact HH.out.mid.text | exact (show (wr.alloc Zero5).heap[w.heap.size + 3]? = _ from block_on (box_below wr Zero5) HH.out.mid.text))).mono ?_
              intro e w3 ht
              obtain ⟨hk3, rfl⟩ := told_bad ht
              have hkw : Keeps (w.heap.size + 3) wr w3 := by first | exact ((Keeps.refl _ wr).drew).trans hk3 | exact ((Keeps.of (box_below wr Zero5)).drew).trans hk3
              have hbx := keeps_block hkw HH.out.mid.lbox (by omega)
              have hax := keeps_block hkw HH.out.mid.abox (by omega)
              have hex := keeps_block hkw HH.out.mid.ebox (by omega)
              exact caught_any hbx hax hex (by omega) (by omega) (by omega) rfl rfl rfl ⟨Or.inl ⟨_, congrArg Res.bad HREQ.out, rfl⟩, ((((hkw.below HH.out.mid.below (by omega)).setCell (Nat.le_refl _) _).setCell (Nat.le_succ _) _).setCell (by show w.heap.size ≤ w.heap.size + 2; omega) _)⟩
            refine AllReady.cons rfl (fun K hK => ?_) ?_
            · go_simp
              refine hK _ _ ?_
              clear hK K
              refine wpAny_ready (rs := [2, 4]) (by kernel_rfl) (by simp) ?_
              refine AllReady.cons rfl (fun K hK => ?_) ?_
              · go_simp
                go_wp2_with fail
                refine (HC.out _ (by first | exact HH.out.mid.text | exact (show (wr.alloc Zero5).heap[w.heap.size + 3]? = _ from block_on (box_below wr Zero5) HH.out.mid.text))).mono ?_
                intro e w3 ht
                obtain ⟨hk3, rfl⟩ := told_bad ht
                have hkw : Keeps (w.heap.size + 3) wr w3 := by first | exact ((Keeps.refl _ wr).drew).trans hk3 | exact ((Keeps.of (box_below wr Zero5)).drew).trans hk3
                have hbx := keeps_block hkw HH.out.mid.lbox (by omega)
                have hax := keeps_block hkw HH.out.mid.abox (by omega)
                have hex := keeps_block hkw HH.out.mid.ebox (by omega)
                exact caught_any hbx hax hex (by omega) (by omega) (by omega) rfl rfl rfl ⟨Or.inl ⟨_, congrArg Res.bad HREQ.out, rfl⟩, ((((hkw.below HH.out.mid.below (by omega)).setCell (Nat.le_refl _) _).setCell (Nat.le_succ _) _).setCell (by show w.heap.size ≤ w.heap.size + 2; omega) _)⟩
              refine AllReady.cons rfl (fun K hK => ?_) ?_
              · go_simp
                refine hK _ _ ?_
                clear hK K
                refine wpAny_ready (rs := [2]) (by kernel_rfl) (by simp) ?_
                refine AllReady.cons rfl (fun K hK => ?_) ?_
                · go_simp
                  go_wp2_with fail
                  refine (HC.out _ (by first | exact HH.out.mid.text | exact (show (wr.alloc Zero5).heap[w.heap.size + 3]? = _ from block_on (box_below wr Zero5) HH.out.mid.text))).mono ?_
                  intro e w3 ht
                  obtain ⟨hk3, rfl⟩ := told_bad ht
                  have hkw : Keeps (w.heap.size + 3) wr w3 := by first | exact ((Keeps.refl _ wr).drew).trans hk3 | exact ((Keeps.of (box_below wr Zero5)).drew).trans hk3
                  have hbx := keeps_block hkw HH.out.mid.lbox (by omega)
                  have hax := keeps_block hkw HH.out.mid.abox (by omega)
                  have hex := keeps_block hkw HH.out.mid.ebox (by omega)
                  exact caught_any hbx hax hex (by omega) (by omega) (by omega) rfl rfl rfl ⟨Or.inl ⟨_, congrArg Res.bad HREQ.out, rfl⟩, ((((hkw.below HH.out.mid.below (by omega)).setCell (Nat.le_refl _) _).setCell (Nat.le_succ _) _).setCell (by show w.heap.size ≤ w.heap.size + 2; omega) _)⟩
                exact AllReady.nil
              exact AllReady.nil
            refine AllReady.cons rfl (fun K hK => ?_) ?_
            · go_simp
              refine hK _ _ ?_
              clear hK K
              refine wpAny_ready (rs := [2, 3]) (by kernel_rfl) (by simp) ?_
              refine AllReady.cons rfl (fun K hK => ?_) ?_
              · go_simp
                go_wp2_with fail
                refine (HC.out _ (by first | exact HH.out.mid.text | exact (show (wr.alloc Zero5).heap[w.heap.size + 3]? = _ from block_on (box_below wr Zero5) HH.out.mid.text))).mono ?_
                intro e w3 ht
                obtain ⟨hk3, rfl⟩ := told_bad ht
                have hkw : Keeps (w.heap.size + 3) wr w3 := by first | exact ((Keeps.refl _ wr).drew).trans hk3 | exact ((Keeps.of (box_below wr Zero5)).drew).trans hk3
                have hbx := keeps_block hkw HH.out.mid.lbox (by omega)
                have hax := keeps_block hkw HH.out.mid.abox (by omega)
                have hex := keeps_block hkw HH.out.mid.ebox (by omega)
                exact caught_any hbx hax hex (by omega) (by omega) (by omega) rfl rfl rfl ⟨Or.inl ⟨_, congrArg Res.bad HREQ.out, rfl⟩, ((((hkw.below HH.out.mid.below (by omega)).setCell (Nat.le_refl _) _).setCell (Nat.le_succ _) _).setCell (by show w.heap.size ≤ w.heap.size + 2; omega) _)⟩
              refine AllReady.cons rfl (fun K hK => ?_) ?_
              · go_simp
                refine hK _ _ ?_
                clear hK K
                refine wpAny_ready (rs := [2]) (by kernel_rfl) (by simp) ?_
                refine AllReady.cons rfl (fun K hK => ?_) ?_
                · go_simp
                  go_wp2_with fail
                  refine (HC.out _ (by first | exact HH.out.mid.text | exact (show (wr.alloc Zero5).heap[w.heap.size + 3]? = _ from block_on (box_below wr Zero5) HH.out.mid.text))).mono ?_
                  intro e w3 ht
                  obtain ⟨hk3, rfl⟩ := told_bad ht
                  have hkw : Keeps (w.heap.size + 3) wr w3 := by first | exact ((Keeps.refl _ wr).drew).trans hk3 | exact ((Keeps.of (box_below wr Zero5)).drew).trans hk3
                  have hbx := keeps_block hkw HH.out.mid.lbox (by omega)
                  have hax := keeps_block hkw HH.out.mid.abox (by omega)
                  have hex := keeps_block hkw HH.out.mid.ebox (by omega)
                  exact caught_any hbx hax hex (by omega) (by omega) (by omega) rfl rfl rfl ⟨Or.inl ⟨_, congrArg Res.bad HREQ.out, rfl⟩, ((((hkw.below HH.out.mid.below (by omega)).setCell (Nat.le_refl _) _).setCell (Nat.le_succ _) _).setCell (by show w.heap.size ≤ w.heap.size + 2; omega) _)⟩
                exact AllReady.nil
              exact AllReady.nil
            exact AllReady.nil
          refine AllReady.cons rfl (fun K hK => ?_) ?_
          · go_simp
            refine hK _ _ ?_
            clear hK K
            refine wpAny_ready (rs := [1, 4]) (by kernel_rfl) (by simp) ?_
            refine AllReady.cons rfl (fun K hK => ?_) ?_
            · go_simp
              refine hK _ _ ?_
              clear hK K
              refine wpAny_ready (rs := [2, 4]) (by kernel_rfl) (by simp) ?_
              refine AllReady.cons rfl (fun K hK => ?_) ?_
              · go_simp
                go_wp2_with fail
                refine (HC.out _ (by first | exact HH.out.mid.text | exact (show (wr.alloc Zero5).heap[w.heap.size + 3]? = _ from block_on (box_below wr Zero5) HH.out.mid.text))).mono ?_
                intro e w3 ht
                obtain ⟨hk3, rfl⟩ := told_bad ht
                have hkw : Keeps (w.heap.size + 3) wr w3 := by first | exact ((Keeps.refl _ wr).drew).trans hk3 | exact ((Keeps.of (box_below wr Zero5)).drew).trans hk3
                have hbx := keeps_block hkw HH.out.mid.lbox (by omega)
                have hax := keeps_block hkw HH.out.mid.abox (by omega)
                have hex := keeps_block hkw HH.out.mid.ebox (by omega)
                exact caught_any hbx hax hex (by omega) (by omega) (by omega) rfl rfl rfl ⟨Or.inl ⟨_, congrArg Res.bad HREQ.out, rfl⟩, ((((hkw.below HH.out.mid.below (by omega)).setCell (Nat.le_refl _) _).setCell (Nat.le_succ _) _).setCell (by show w.heap.size ≤ w.heap.size + 2; omega) _)⟩
              refine AllReady.cons rfl (fun K hK => ?_) ?_
              · go_simp
                refine hK _ _ ?_
                clear hK K
                refine wpAny_ready (rs := [2]) (by kernel_rfl) (by simp) ?_
                refine AllReady.cons rfl (fun K hK => ?_) ?_
                · go_simp
                  go_wp2_with fail
                  refine (HC.out _ (by first | exact HH.out.mid.text | exact (show (wr.alloc Zero5).heap[w.heap.size + 3]? = _ from block_on (box_below wr Zero5) HH.out.mid.text))).mono ?_
                  intro e w3 ht
                  obtain ⟨hk3, rfl⟩ := told_bad ht
                  have hkw : Keeps (w.heap.size + 3) wr w3 := by first | exact ((Keeps.refl _ wr).drew).trans hk3 | exact ((Keeps.of (box_below wr Zero5)).drew).trans hk3
                  have hbx := keeps_block hkw HH.out.mid.lbox (by omega)
                  have hax := keeps_block hkw HH.out.mid.abox (by omega)
                  have hex := keeps_block hkw HH.out.mid.ebox (by omega)
                  exact caught_any hbx hax hex (by omega) (by omega) (by omega) rfl rfl rfl ⟨Or.inl ⟨_, congrArg Res.bad HREQ.out, rfl⟩, ((((hkw.below HH.out.mid.below (by omega)).setCell (Nat.le_refl _) _).setCell (Nat.le_succ _) _).setCell (by show w.heap.size ≤ w.heap.size + 2; omega) _)⟩
                exact AllReady.nil
              exact AllReady.nil
            refine AllReady.cons rfl (fun K hK => ?_) ?_
            · go_simp
              refine hK _ _ ?_
              clear hK K
              refine wpAny_ready (rs := [1]) (by kernel_rfl) (by simp) ?_
              refine AllReady.cons rfl (fun K hK => ?_) ?_
              · go_simp
                refine hK _ _ ?_
                clear hK K
                refine wpAny_ready (rs := [2]) (by kernel_rfl) (by simp) ?_
                refine AllReady.cons rfl (fun K hK => ?_) ?_
                · go_simp
                  go_wp2_with fail
                  refine (HC.out _ (by first | exact HH.out.mid.text | exact (show (wr.alloc Zero5).heap[w.heap.size + 3]? = _ from block_on (box_below wr Zero5) HH.out.mid.text))).mono ?_
                  intro e w3 ht
                  obtain ⟨hk3, rfl⟩ := told_bad ht
                  have hkw : Keeps (w.heap.size + 3) wr w3 := by first | exact ((Keeps.refl _ wr).drew).trans hk3 | exact ((Keeps.of (box_below wr Zero5)).drew).trans hk3
                  have hbx := keeps_block hkw HH.out.mid.lbox (by omega)
                  have hax := keeps_block hkw HH.out.mid.abox (by omega)
                  have hex := keeps_block hkw HH.out.mid.ebox (by omega)
                  exact caught_any hbx hax hex (by omega) (by omega) (by omega) rfl rfl rfl ⟨Or.inl ⟨_, congrArg Res.bad HREQ.out, rfl⟩, ((((hkw.below HH.out.mid.below (by omega)).setCell (Nat.le_refl _) _).setCell (Nat.le_succ _) _).setCell (by show w.heap.size ≤ w.heap.size + 2; omega) _)⟩
                exact AllReady.nil
              exact AllReady.nil
            exact AllReady.nil
          refine AllReady.cons rfl (fun K hK => ?_) ?_
          · go_simp
            refine hK _ _ ?_
            clear hK K
            refine wpAny_ready (rs := [1, 3]) (by kernel_rfl) (by simp) ?_
            refine AllReady.cons rfl (fun K hK => ?_) ?_
            · go_simp
              refine hK _ _ ?_
              clear hK K
              refine wpAny_ready (rs := [2, 3]) (by kernel_rfl) (by simp) ?_
              refine AllReady.cons rfl (fun K hK => ?_) ?_
              · go_simp
                go_wp2_with fail
                refine (HC.out _ (by first | exact HH.out.mid.text | exact (show (wr.alloc Zero5).heap[w.heap.size + 3]? = _ from block_on (box_below wr Zero5) HH.out.mid.text))).mono ?_
                intro e w3 ht
                obtain ⟨hk3, rfl⟩ := told_bad ht
                have hkw : Keeps (w.heap.size + 3) wr w3 := by first | exact ((Keeps.refl _ wr).drew).trans hk3 | exact ((Keeps.of (box_below wr Zero5)).drew).trans hk3
                have hbx := keeps_block hkw HH.out.mid.lbox (by omega)
                have hax := keeps_block hkw HH.out.mid.abox (by omega)
                have hex := keeps_block hkw HH.out.mid.ebox (by omega)
                exact caught_any hbx hax hex (by omega) (by omega) (by omega) rfl rfl rfl ⟨Or.inl ⟨_, congrArg Res.bad HREQ.out, rfl⟩, ((((hkw.below HH.out.mid.below (by omega)).setCell (Nat.le_refl _) _).setCell (Nat.le_succ _) _).setCell (by show w.heap.size ≤ w.heap.size + 2; omega) _)⟩
              refine AllReady.cons rfl (fun K hK => ?_) ?_
              · go_simp
                refine hK _ _ ?_
                clear hK K
                refine wpAny_ready (rs := [2]) (by kernel_rfl) (by simp) ?_
                refine AllReady.cons rfl (fun K hK => ?_) ?_
                · go_simp
                  go_wp2_with fail
                  refine (HC.out _ (by first | exact HH.out.mid.text | exact (show (wr.alloc Zero5).heap[w.heap.size + 3]? = _ from block_on (box_below wr Zero5) HH.out.mid.text))).mono ?_
                  intro e w3 ht
                  obtain ⟨hk3, rfl⟩ := told_bad ht
                  have hkw : Keeps (w.heap.size + 3) wr w3 := by first | exact ((Keeps.refl _ wr).drew).trans hk3 | exact ((Keeps.of (box_below wr Zero5)).drew).trans hk3
                  have hbx := keeps_block hkw HH.out.mid.lbox (by omega)
                  have hax := keeps_block hkw HH.out.mid.abox (by omega)
                  have hex := keeps_block hkw HH.out.mid.ebox (by omega)
                  exact caught_any hbx hax hex (by omega) (by omega) (by omega) rfl rfl rfl ⟨Or.inl ⟨_, congrArg Res.bad HREQ.out, rfl⟩, ((((hkw.below HH.out.mid.below (by omega)).setCell (Nat.le_refl _) _).setCell (Nat.le_succ _) _).setCell (by show w.heap.size ≤ w.heap.size + 2; omega) _)⟩
                exact AllReady.nil
              exact AllReady.nil
            refine AllReady.cons rfl (fun K hK => ?_) ?_
            · go_simp
              refine hK _ _ ?_
              clear hK K
              refine wpAny_ready (rs := [1]) (by kernel_rfl) (by simp) ?_
              refine AllReady.cons rfl (fun K hK => ?_) ?_
              · go_simp
                refine hK _ _ ?_
                clear hK K
                refine wpAny_ready (rs := [2]) (by kernel_rfl) (by simp) ?_
                refine AllReady.cons rfl (fun K hK => ?_) ?_
                · go_simp
                  go_wp2_with fail
                  refine (HC.out _ (by first | exact HH.out.mid.text | exact (show (wr.alloc Zero5).heap[w.heap.size + 3]? = _ from block_on (box_below wr Zero5) HH.out.mid.text))).mono ?_
                  intro e w3 ht
                  obtain ⟨hk3, rfl⟩ := told_bad ht
                  have hkw : Keeps (w.heap.size + 3) wr w3 := by first | exact ((Keeps.refl _ wr).drew).trans hk3 | exact ((Keeps.of (box_below wr Zero5)).drew).trans hk3
                  have hbx := keeps_block hkw HH.out.mid.lbox (by omega)
                  have hax := keeps_block hkw HH.out.mid.abox (by omega)
                  have hex := keeps_block hkw HH.out.mid.ebox (by omega)
                  exact caught_any hbx hax hex (by omega) (by omega) (by omega) rfl rfl rfl ⟨Or.inl ⟨_, congrArg Res.bad HREQ.out, rfl⟩, ((((hkw.below HH.out.mid.below (by omega)).setCell (Nat.le_refl _) _).setCell (Nat.le_succ _) _).setCell (by show w.heap.size ≤ w.heap.size + 2; omega) _)⟩
                exact AllReady.nil
              exact AllReady.nil
            exact AllReady.nil
          exact AllReady.nil
        refine AllReady.cons rfl (fun K hK => ?_) ?_
        · go_simp
          refine hK _ _ ?_
          clear hK K
          refine wpAny_ready (rs := [0, 2, 4]) (by kernel_rfl) (by simp) ?_
          refine AllReady.cons rfl (fun K hK => ?_) ?_
          · go_simp
            refine hK _ _ ?_
            clear hK K
            refine wpAny_ready (rs := [2, 3, 4]) (by kernel_rfl) (by simp) ?_
            refine AllReady.cons rfl (fun K hK => ?_) ?_
            · go_simp
              go_wp2_with fail
              refine (HC.out _ (by first | exact HH.out.mid.text | exact (show (wr.alloc Zero5).heap[w.heap.size + 3]? = _ from block_on (box_below wr Zero5) HH.out.mid.text))).mono ?_
              intro e w3 ht
              obtain ⟨hk3, rfl⟩ := told_bad ht
              have hkw : Keeps (w.heap.size + 3) wr w3 := by first | exact ((Keeps.refl _ wr).drew).trans hk3 | exact ((Keeps.of (box_below wr Zero5)).drew).trans hk3
              have hbx := keeps_block hkw HH.out.mid.lbox (by omega)
              have hax := keeps_block hkw HH.out.mid.abox (by omega)
              have hex := keeps_block hkw HH.out.mid.ebox (by omega)
              exact caught_any hbx hax hex (by omega) (by omega) (by omega) rfl rfl rfl ⟨Or.inl ⟨_, congrArg Res.bad HREQ.out, rfl⟩, ((((hkw.below HH.out.mid.below (by omega)).setCell (Nat.le_refl _) _).setCell (Nat.le_succ _) _).setCell (by show w.heap.size ≤ w.heap.size + 2; omega) _)⟩
            refine AllReady.cons rfl (fun K hK => ?_) ?_
            · go_simp
              refine hK _ _ ?_
              clear hK K
              refine wpAny_ready (rs := [2, 4]) (by kernel_rfl) (by simp) ?_
              refine AllReady.cons rfl (fun K hK => ?_) ?_
              · go_simp
                go_wp2_with fail
                refine (HC.out _ (by first | exact HH.out.mid.text | exact (show (wr.alloc Zero5).heap[w.heap.size + 3]? = _ from block_on (box_below wr Zero5) HH.out.mid.text))).mono ?_
                intro e w3 ht
                obtain ⟨hk3, rfl⟩ := told_bad ht
                have hkw : Keeps (w.heap.size + 3) wr w3 := by first | exact ((Keeps.refl _ wr).drew).trans hk3 | exact ((Keeps.of (box_below wr Zero5)).drew).trans hk3
                have hbx := keeps_block hkw HH.out.mid.lbox (by omega)
                have hax := keeps_block hkw HH.out.mid.abox (by omega)
                have hex := keeps_block hkw HH.out.mid.ebox (by omega)
                exact caught_any hbx hax hex (by omega) (by omega) (by omega) rfl rfl rfl ⟨Or.inl ⟨_, congrArg Res.bad HREQ.out, rfl⟩, ((((hkw.below HH.out.mid.below (by omega)).setCell (Nat.le_refl _) _).setCell (Nat.le_succ _) _).setCell (by show w.heap.size ≤ w.heap.size + 2; omega) _)⟩
              refine AllReady.cons rfl (fun K hK => ?_) ?_
              · go_simp
                refine hK _ _ ?_
                clear hK K
                refine wpAny_ready (rs := [2]) (by kernel_rfl) (by simp) ?_
                refine AllReady.cons rfl (fun K hK => ?_) ?_
                · go_simp
                  go_wp2_with fail
                  refine (HC.out _ (by first | exact HH.out.mid.text | exact (show (wr.alloc Zero5).heap[w.heap.size + 3]? = _ from block_on (box_below wr Zero5) HH.out.mid.text))).mono ?_
                  intro e w3 ht
                  obtain ⟨hk3, rfl⟩ := told_bad ht
                  have hkw : Keeps (w.heap.size + 3) wr w3 := by first | exact ((Keeps.refl _ wr).drew).trans hk3 | exact ((Keeps.of (box_below wr Zero5)).drew).trans hk3
                  have hbx := keeps_block hkw HH.out.mid.lbox (by omega)
                  have hax := keeps_block hkw HH.out.mid.abox (by omega)
                  have hex := keeps_block hkw HH.out.mid.ebox (by omega)
                  exact caught_any hbx hax hex (by omega) (by omega) (by omega) rfl rfl rfl ⟨Or.inl ⟨_, congrArg Res.bad HREQ.out, rfl⟩, ((((hkw.below HH.out.mid.below (by omega)).setCell (Nat.le_refl _) _).setCell (Nat.le_succ _) _).setCell (by show w.heap.size ≤ w.heap.size + 2; omega) _)⟩
                exact AllReady.nil
              exact AllReady.nil
            refine AllReady.cons rfl (fun K hK => ?_) ?_
            · go_simp
              refine hK _ _ ?_
              clear hK K
              refine wpAny_ready (rs := [2, 3]) (by kernel_rfl) (by simp) ?_
              refine AllReady.cons rfl (fun K hK => ?_) ?_
              · go_simp
                go_wp2_with fail
                refine (HC.out _ (by first | exact HH.out.mid.text | exact (show (wr.alloc Zero5).heap[w.heap.size + 3]? = _ from block_on (box_below wr Zero5) HH.out.mid.text))).mono ?_
                intro e w3 ht
                obtain ⟨hk3, rfl⟩ := told_bad ht
                have hkw : Keeps (w.heap.size + 3) wr w3 := by first | exact ((Keeps.refl _ wr).drew).trans hk3 | exact ((Keeps.of (box_below wr Zero5)).drew).trans hk3
                have hbx := keeps_block hkw HH.out.mid.lbox (by omega)
                have hax := keeps_block hkw HH.out.mid.abox (by omega)
                have hex := keeps_block hkw HH.out.mid.ebox (by omega)
                exact caught_any hbx hax hex (by omega) (by omega) (by omega) rfl rfl rfl ⟨Or.inl ⟨_, congrArg Res.bad HREQ.out, rfl⟩, ((((hkw.below HH.out.mid.below (by omega)).setCell (Nat.le_refl _) _).setCell (Nat.le_succ _) _).setCell (by show w.heap.size ≤ w.heap.size + 2; omega) _)⟩
              refine AllReady.cons rfl (fun K hK => ?_) ?_
              · go_simp
                refine hK _ _ ?_
                clear hK K
                refine wpAny_ready (rs := [2]) (by kernel_rfl) (by simp) ?_
                refine AllReady.cons rfl (fun K hK => ?_) ?_
                · go_simp
                  go_wp2_with fail
                  refine (HC.out _ (by first | exact HH.out.mid.text | exact (show (wr.alloc Zero5).heap[w.heap.size + 3]? = _ from block_on (box_below wr Zero5) HH.out.mid.text))).mono ?_
                  intro e w3 ht
                  obtain ⟨hk3, rfl⟩ := told_bad ht
                  have hkw : Keeps (w.heap.size + 3) wr w3 := by first | exact ((Keeps.refl _ wr).drew).trans hk3 | exact ((Keeps.of (box_below wr Zero5)).drew).trans hk3
                  have hbx := keeps_block hkw HH.out.mid.lbox (by omega)
                  have hax := keeps_block hkw HH.out.mid.abox (by omega)
                  have hex := keeps_block hkw HH.out.mid.ebox (by omega)
                  exact caught_any hbx hax hex (by omega) (by omega) (by omega) rfl rfl rfl ⟨Or.inl ⟨_, congrArg Res.bad HREQ.out, rfl⟩, ((((hkw.below HH.out.mid.below (by omega)).setCell (Nat.le_refl _) _).setCell (Nat.le_succ _) _).setCell (by show w.heap.size ≤ w.heap.size + 2; omega) _)⟩
                exact AllReady.nil
              exact AllReady.nil
            exact AllReady.nil
          refine AllReady.cons rfl (fun K hK => ?_) ?_
          · go_simp
            go_wp2_with fail
            refine (HC.out _ (by first | exact HH.out.mid.text | exact (show (wr.alloc Zero5).heap[w.heap.size + 3]? = _ from block_on (box_below wr Zero5) HH.out.mid.text))).mono ?_
            intro e w3 ht
            obtain ⟨hk3, rfl⟩ := told_bad ht
            have hkw : Keeps (w.heap.size + 3) wr w3 := by first | exact ((Keeps.refl _ wr).drew).trans hk3 | exact ((Keeps.of (box_below wr Zero5)).drew).trans hk3
            have hbx := keeps_block hkw HH.out.mid.lbox (by omega)
            have hax := keeps_block hkw HH.out.mid.abox (by omega)
            have hex := keeps_block hkw HH.out.mid.ebox (by omega)
            exact caught_any hbx hax hex (by omega) (by omega) (by omega) rfl rfl rfl ⟨Or.inl ⟨_, congrArg Res.bad HREQ.out, rfl⟩, ((((hkw.below HH.out.mid.below (by omega)).setCell (Nat.le_refl _) _).setCell (Nat.le_succ _) _).setCell (by show w.heap.size ≤ w.heap.size + 2; omega) _)⟩
          refine AllReady.cons rfl (fun K hK => ?_) ?_
          · go_simp
            refine hK _ _ ?_
            clear hK K
            refine wpAny_ready (rs := [0, 2]) (by kernel_rfl) (by simp) ?_
            refine AllReady.cons rfl (fun K hK => ?_) ?_
            · go_simp
              refine hK _ _ ?_
              clear hK K
              refine wpAny_ready (rs := [2, 3]) (by kernel_rfl) (by simp) ?_
              refine AllReady.cons rfl (fun K hK => ?_) ?_
              · go_simp
                go_wp2_with fail
                refine (HC.out _ (by first | exact HH.out.mid.text | exact (show (wr.alloc Zero5).heap[w.heap.size + 3]? = _ from block_on (box_below wr Zero5) HH.out.mid.text))).mono ?_
                intro e w3 ht
                obtain ⟨hk3, rfl⟩ := told_bad ht
                have hkw : Keeps (w.heap.size + 3) wr w3 := by first | exact ((Keeps.refl _ wr).drew).trans hk3 | exact ((Keeps.of (box_below wr Zero5)).drew).trans hk3
                have hbx := keeps_block hkw HH.out.mid.lbox (by omega)
                have hax := keeps_block hkw HH.out.mid.abox (by omega)
                have hex := keeps_block hkw HH.out.mid.ebox (by omega)
                exact caught_any hbx hax hex (by omega) (by omega) (by omega) rfl rfl rfl ⟨Or.inl ⟨_, congrArg Res.bad HREQ.out, rfl⟩, ((((hkw.below HH.out.mid.below (by omega)).setCell (Nat.le_refl _) _).setCell (Nat.le_succ _) _).setCell (by show w.heap.size ≤ w.heap.size + 2; omega) _)⟩
              refine AllReady.cons rfl (fun K hK => ?_) ?_
              · go_simp
                refine hK _ _ ?_
                clear hK K
                refine wpAny_ready (rs := [2]) (by kernel_rfl) (by simp) ?_
                refine AllReady.cons rfl (fun K hK => ?_) ?_
                · go_simp
                  go_wp2_with fail
                  refine (HC.out _ (by first | exact HH.out.mid.text | exact (show (wr.alloc Zero5).heap[w.heap.size + 3]? = _ from block_on (box_below wr Zero5) HH.out.mid.text))).mono ?_
                  intro e w3 ht
                  obtain ⟨hk3, rfl⟩ := told_bad ht
                  have hkw : Keeps (w.heap.size + 3) wr w3 := by first | exact ((Keeps.refl _ wr).drew).trans hk3 | exact ((Keeps.of (box_below wr Zero5)).drew).trans hk3
                  have hbx := keeps_block hkw HH.out.mid.lbox (by omega)
                  have hax := keeps_block hkw HH.out.mid.abox (by omega)
                  have hex := keeps_block hkw HH.out.mid.ebox (by omega)
                  exact caught_any hbx hax hex (by omega) (by omega) (by omega) rfl rfl rfl ⟨Or.inl ⟨_, congrArg Res.bad HREQ.out, rfl⟩, ((((hkw.below HH.out.mid.below (by omega)).setCell (Nat.le_refl _) _).setCell (Nat.le_succ _) _).setCell (by show w.heap.size ≤ w.heap.size + 2; omega) _)⟩
                exact AllReady.nil
              exact AllReady.nil
            refine AllReady.cons rfl (fun K hK => ?_) ?_
            · go_simp
              go_wp2_with fail
              refine (HC.out _ (by first | exact HH.out.mid.text | exact (show (wr.alloc Zero5).heap[w.heap.size + 3]? = _ from block_on (box_below wr Zero5) HH.out.mid.text))).mono ?_
              intro e w3 ht
              obtain ⟨hk3, rfl⟩ := told_bad ht
              have hkw : Keeps (w.heap.size + 3) wr w3 := by first | exact ((Keeps.refl _ wr).drew).trans hk3 | exact ((Keeps.of (box_below wr Zero5)).drew).trans hk3
              have hbx := keeps_block hkw HH.out.mid.lbox (by omega)
              have hax := keeps_block hkw HH.out.mid.abox (by omega)
              have hex := keeps_block hkw HH.out.mid.ebox (by omega)
              exact caught_any hbx hax hex (by omega) (by omega) (by omega) rfl rfl rfl ⟨Or.inl ⟨_, congrArg Res.bad HREQ.out, rfl⟩, ((((hkw.below HH.out.mid.below (by omega)).setCell (Nat.le_refl _) _).setCell (Nat.le_succ _) _).setCell (by show w.heap.size ≤ w.heap.size + 2; omega) _)⟩
            exact AllReady.nil
          exact AllReady.nil
        refine AllReady.cons rfl (fun K hK => ?_) ?_
        · go_simp
          refine hK _ _ ?_
          clear hK K
          refine wpAny_ready (rs := [0, 1]) (by kernel_rfl) (by simp) ?_
          refine AllReady.cons rfl (fun K hK => ?_) ?_
          · go_simp
            refine hK _ _ ?_
            clear hK K
            refine wpAny_ready (rs := [1, 3]) (by kernel_rfl) (by simp) ?_
            refine AllReady.cons rfl (fun K hK => ?_) ?_
            · go_simp
              refine hK _ _ ?_
              clear hK K
              refine wpAny_ready (rs := [2, 3]) (by kernel_rfl) (by simp) ?_
              refine AllReady.cons rfl (fun K hK => ?_) ?_
              · go_simp
                go_wp2_with fail
                refine (HC.out _ (by first | exact HH.out.mid.text | exact (show (wr.alloc Zero5).heap[w.heap.size + 3]? = _ from block_on (box_below wr Zero5) HH.out.mid.text))).mono ?_
                intro e w3 ht
                obtain ⟨hk3, rfl⟩ := told_bad ht
                have hkw : Keeps (w.heap.size + 3) wr w3 := by first | exact ((Keeps.refl _ wr).drew).trans hk3 | exact ((Keeps.of (box_below wr Zero5)).drew).trans hk3
                have hbx := keeps_block hkw HH.out.mid.lbox (by omega)
                have hax := keeps_block hkw HH.out.mid.abox (by omega)
                have hex := keeps_block hkw HH.out.mid.ebox (by omega)
                exact caught_any hbx hax hex (by omega) (by omega) (by omega) rfl rfl rfl ⟨Or.inl ⟨_, congrArg Res.bad HREQ.out, rfl⟩, ((((hkw.below HH.out.mid.below (by omega)).setCell (Nat.le_refl _) _).setCell (Nat.le_succ _) _).setCell (by show w.heap.size ≤ w.heap.size + 2; omega) _)⟩
              refine AllReady.cons rfl (fun K hK => ?_) ?_
              · go_simp
                refine hK _ _ ?_
                clear hK K
                refine wpAny_ready (rs := [2]) (by kernel_rfl) (by simp) ?_
                refine AllReady.cons rfl (fun K hK => ?_) ?_
                · go_simp
                  go_wp2_with fail
                  refine (HC.out _ (by first | exact HH.out.mid.text | exact (show (wr.alloc Zero5).heap[w.heap.size + 3]? = _ from block_on (box_below wr Zero5) HH.out.mid.text))).mono ?_
                  intro e w3 ht
                  obtain ⟨hk3, rfl⟩ := told_bad ht
                  have hkw : Keeps (w.heap.size + 3) wr w3 := by first | exact ((Keeps.refl _ wr).drew).trans hk3 | exact ((Keeps.of (box_below wr Zero5)).drew).trans hk3
                  have hbx := keeps_block hkw HH.out.mid.lbox (by omega)
                  have hax := keeps_block hkw HH.out.mid.abox (by omega)
                  have hex := keeps_block hkw HH.out.mid.ebox (by omega)
                  exact caught_any hbx hax hex (by omega) (by omega) (by omega) rfl rfl rfl ⟨Or.inl ⟨_, congrArg Res.bad HREQ.out, rfl⟩, ((((hkw.below HH.out.mid.below (by omega)).setCell (Nat.le_refl _) _).setCell (Nat.le_succ _) _).setCell (by show w.heap.size ≤ w.heap.size + 2; omega) _)⟩
                exact AllReady.nil
              exact AllReady.nil
            refine AllReady.cons rfl (fun K hK => ?_) ?_
            · go_simp
              refine hK _ _ ?_
              clear hK K
              refine wpAny_ready (rs := [1]) (by kernel_rfl) (by simp) ?_
              refine AllReady.cons rfl (fun K hK => ?_) ?_
              · go_simp
                refine hK _ _ ?_
                clear hK K
                refine wpAny_ready (rs := [2]) (by kernel_rfl) (by simp) ?_
                refine AllReady.cons rfl (fun K hK => ?_) ?_
                · go_simp
                  go_wp2_with fail
                  refine (HC.out _ (by first | exact HH.out.mid.text | exact (show (wr.alloc Zero5).heap[w.heap.size + 3]? = _ from block_on (box_below wr Zero5) HH.out.mid.text))).mono ?_
                  intro e w3 ht
                  obtain ⟨hk3, rfl⟩ := told_bad ht
                  have hkw : Keeps (w.heap.size + 3) wr w3 := by first | exact ((Keeps.refl _ wr).drew).trans hk3 | exact ((Keeps.of (box_below wr Zero5)).drew).trans hk3
                  have hbx := keeps_block hkw HH.out.mid.lbox (by omega)
                  have hax := keeps_block hkw HH.out.mid.abox (by omega)
                  have hex := keeps_block hkw HH.out.mid.ebox (by omega)
                  exact caught_any hbx hax hex (by omega) (by omega) (by omega) rfl rfl rfl ⟨Or.inl ⟨_, congrArg Res.bad HREQ.out, rfl⟩, ((((hkw.below HH.out.mid.below (by omega)).setCell (Nat.le_refl _) _).setCell (Nat.le_succ _) _).setCell (by show w.heap.size ≤ w.heap.size + 2; omega) _)⟩
                exact AllReady.nil
              exact AllReady.nil
            exact AllReady.nil
          refine AllReady.cons rfl (fun K hK => ?_) ?_
          · go_simp
            refine hK _ _ ?_
            clear hK K
            refine wpAny_ready (rs := [0, 2]) (by kernel_rfl) (by simp) ?_
            refine AllReady.cons rfl (fun K hK => ?_) ?_
            · go_simp
              refine hK _ _ ?_
              clear hK K
              refine wpAny_ready (rs := [2, 3]) (by kernel_rfl) (by simp) ?_
              refine AllReady.cons rfl (fun K hK => ?_) ?_
              · go_simp
                go_wp2_with fail
                refine (HC.out _ (by first | exact HH.out.mid.text | exact (show (wr.alloc Zero5).heap[w.heap.size + 3]? = _ from block_on (box_below wr Zero5) HH.out.mid.text))).mono ?_
                intro e w3 ht
                obtain ⟨hk3, rfl⟩ := told_bad ht
                have hkw : Keeps (w.heap.size + 3) wr w3 := by first | exact ((Keeps.refl _ wr).drew).trans hk3 | exact ((Keeps.of (box_below wr Zero5)).drew).trans hk3
                have hbx := keeps_block hkw HH.out.mid.lbox (by omega)
                have hax := keeps_block hkw HH.out.mid.abox (by omega)
                have hex := keeps_block hkw HH.out.mid.ebox (by omega)
                exact caught_any hbx hax hex (by omega) (by omega) (by omega) rfl rfl rfl ⟨Or.inl ⟨_, congrArg Res.bad HREQ.out, rfl⟩, ((((hkw.below HH.out.mid.below (by omega)).setCell (Nat.le_refl _) _).setCell (Nat.le_succ _) _).setCell (by show w.heap.size ≤ w.heap.size + 2; omega) _)⟩
              refine AllReady.cons rfl (fun K hK => ?_) ?_
              · go_simp
                refine hK _ _ ?_
                clear hK K
                refine wpAny_ready (rs := [2]) (by kernel_rfl) (by simp) ?_
                refine AllReady.cons rfl (fun K hK => ?_) ?_
                · go_simp
                  go_wp2_with fail
                  refine (HC.out _ (by first | exact HH.out.mid.text | exact (show (wr.alloc Zero5).heap[w.heap.size + 3]? = _ from block_on (box_below wr Zero5) HH.out.mid.text))).mono ?_
                  intro e w3 ht
                  obtain ⟨hk3, rfl⟩ := told_bad ht
                  have hkw : Keeps (w.heap.size + 3) wr w3 := by first | exact ((Keeps.refl _ wr).drew).trans hk3 | exact ((Keeps.of (box_below wr Zero5)).drew).trans hk3
                  have hbx := keeps_block hkw HH.out.mid.lbox (by omega)
                  have hax := keeps_block hkw HH.out.mid.abox (by omega)
                  have hex := keeps_block hkw HH.out.mid.ebox (by omega)
                  exact caught_any hbx hax hex (by omega) (by omega) (by omega) rfl rfl rfl ⟨Or.inl ⟨_, congrArg Res.bad HREQ.out, rfl⟩, ((((hkw.below HH.out.mid.below (by omega)).setCell (Nat.le_refl _) _).setCell (Nat.le_succ _) _).setCell (by show w.heap.size ≤ w.heap.size + 2; omega) _)⟩
                exact AllReady.nil
              exact AllReady.nil
            refine AllReady.cons rfl (fun K hK => ?_) ?_
            · go_simp
              go_wp2_with fail
              refine (HC.out _ (by first | exact HH.out.mid.text | exact (show (wr.alloc Zero5).heap[w.heap.size + 3]? = _ from block_on (box_below wr Zero5) HH.out.mid.text))).mono ?_
              intro e w3 ht
              obtain ⟨hk3, rfl⟩ := told_bad ht
              have hkw : Keeps (w.heap.size + 3) wr w3 := by first | exact ((Keeps.refl _ wr).drew).trans hk3 | exact ((Keeps.of (box_below wr Zero5)).drew).trans hk3
              have hbx := keeps_block hkw HH.out.mid.lbox (by omega)
              have hax := keeps_block hkw HH.out.mid.abox (by omega)
              have hex := keeps_block hkw HH.out.mid.ebox (by omega)
              exact caught_any hbx hax hex (by omega) (by omega) (by omega) rfl rfl rfl ⟨Or.inl ⟨_, congrArg Res.bad HREQ.out, rfl⟩, ((((hkw.below HH.out.mid.below (by omega)).setCell (Nat.le_refl _) _).setCell (Nat.le_succ _) _).setCell (by show w.heap.size ≤ w.heap.size + 2; omega) _)⟩
            exact AllReady.nil
          exact AllReady.nil
        exact AllReady.nil
      | @more _ _ c r d q _ h hrd hr hmore =>
        rw [← h, hst] at hrd
        have C := fun W (h : W.heap[w.heap.size + 3]? = some (Tx s b)) => whole_ok (w.heap.size + 3) s b W d q h hbs hs hrd hr
        have hqlen := rd_shorter hrd
        have HC := Lib.hid C
        have HMORE := Lib.hid (And.intro hmore hqlen)
        clear C h hrd hst hdr hr hmore hqlen
        obtain ⟨i0', hi, hz⟩ := Option.map_eq_some_iff.1 Tryd.infoDt
        simp only [Prod.mk.injEq] at hz
        obtain ⟨hz0, hz1, hz2⟩ := hz
        have HI0 := Lib.hid (And.intro hi (And.intro hz0 (And.intro hz1 hz2)))
        clear hi hz0 hz1 hz2
        go_wp2_with fail
        refine wp_region_noPanic ?_
        have hi0 : (0 : Int) ≤ acc.length := by omega
        have hi1 : (acc.length : Int) < ((acc.length + 1 : Nat) : Int) := by omega
        have hi2 : (acc.length : Int) < (acc.length : Int) + 1 := by omega
        have hneB : wr.heap.size ≠ w.heap.size + 3 := by omega
        go_region_law (first
          | (go_simp; go_at_call 44; refine (HC.out _ (by first | exact HH.out.mid.text | exact (show (wr.alloc Zero5).heap[w.heap.size + 3]? = _ from block_on (box_below wr Zero5) HH.out.mid.text))).mono ?_; intro e w3 ht
             obtain ⟨hk3, dk, dn, dd, ds, dp, dlen, dcap, b3, rfl, hat, hb3, hh3, hd3⟩ := told_ok ht
             have hkw : Keeps (w.heap.size + 3) wr w3 := by first | exact ((Keeps.refl _ wr).drew).trans hk3 | exact ((Keeps.of (box_below wr Zero5)).drew).trans hk3
             have hat2 : d.At (off w3 (old wr.heap.size)) (.agg #[.int .i64 dk, .int .i64 dn, .int .i64 dd, .string ds, .slice dp dlen dcap]) := by first | exact hat | exact hat.on (old_up (show wr.heap.size ≤ (wr.alloc Zero5).heap.size by simp))
             have hm3 := HH.out.mid.on hkw hh3
             have hatx := hat2.on (xo_mid HH.out.mid)
             have lc3 := cell_of_one hm3.lbox
             have hsz3 := hm3.size
             have hsz4 : w.heap.size < w3.heap.size := by omega
             have HM3 := Lib.hid (And.intro hm3 (And.intro hatx hd3))
             have hlen3 : acc.length + 1 ≤ b3 ∧ b < b3 := by
               have h1 := congrArg List.length hd3
               have h2 := HMORE.out.2
               simp at h1 h2
               omega
             (first | have hzb : w3.heap[wr.heap.size]? = some Zero5 := keeps_block hk3 (show (wr.alloc Zero5).heap[wr.heap.size]? = _ from at_new wr Zero5) hneB | skip)
             clear ht hat hat2 hh3 hd3 hm3 hatx hk3 hkw)
          | (refine step_append_lies _ rfl (.tmp 24) (.tmp 28) 22 (by rfl) (w.heap.size + 4) 24 i0' (.agg #[.int .i64 0, .int .i64 0, .int .i64 0, .string ⟨#[]⟩, .slice none 0 0]) 5 64 Tryd.underlying22 HI0.out.1 HI0.out.2.1 HI0.out.2.2.1 HI0.out.2.2.2 (by rfl) (by decide) _ _ _ (by rfl) (HM3.out.1.own.alloc _) ⟨w3.heap.size, 0, none⟩ 1 1 [.int .i64 0, .int .i64 0, .int .i64 0, .string ⟨#[]⟩, .slice none 0 0] (by rfl) (by rfl) (five_new _ _ _ _ _ _ _) (by intro u hu; simp at hu; rcases hu with rfl | rfl | rfl | rfl | rfl <;> rfl) (by omega) (by unfold maxLen; omega) (by omega) (by simp; omega) (w3.heap.size + 1) (by simp) ?_
             intro g4 cap4 w4 hown4 hgrow4 hat4 hlt4
             obtain ⟨p1, ⟨pz0, pz1, pz2, pz3, pz4⟩, pf, -⟩ := own_put hown4
             have pf0 := pf (acc.length * 5)
             have pf1 := pf (acc.length * 5 + 1)
             have pf2 := pf (acc.length * 5 + 2)
             have pf3 := pf (acc.length * 5 + 3)
             have pf4 := pf (acc.length * 5 + 4)
             have lb4 := ((grown_off (v4 := .slice (some ⟨g4, 0, none⟩) (acc.length + 1) cap4) HM3.out.1.own (box_below _ _) hgrow4 (hat4.imp (fun e => e.symm) (fun e => by rw [e]; simp [Value.ownBlock]))).2 w.heap.size (by omega) (by omega)).trans HM3.out.1.lbox
             have lc4 := cell_of_one lb4
             have lz4 := box_frozen lb4 0
             have hg4a : ¬ g4 = w.heap.size := by omega
             have hg4b : ¬ w.heap.size = g4 := by omega
             have HP := Lib.hid (And.intro (box_below w3 Zero5) (And.intro hown4 (And.intro hgrow4 (show (Value.slice p acc.length cap).ownBlock = some g4 ∨ g4 = (w3.alloc Zero5).heap.size from hat4.imp id (fun e => e.trans (by simp))))))
             clear hown4 hgrow4 hat4 lb4 pf)
          | (refine step_append_lies _ rfl (.tmp 24) (.tmp 28) 22 (by rfl) (w.heap.size + 4) 24 i0' (.agg #[.int .i64 0, .int .i64 0, .int .i64 0, .string ⟨#[]⟩, .slice none 0 0]) 5 64 Tryd.underlying22 HI0.out.1 HI0.out.2.1 HI0.out.2.2.1 HI0.out.2.2.2 (by rfl) (by decide) _ _ _ (by rfl) HM3.out.1.own ⟨wr.heap.size, 0, none⟩ 1 1 [.int .i64 0, .int .i64 0, .int .i64 0, .string ⟨#[]⟩, .slice none 0 0] (by rfl) (by rfl) (World.news_of_block hzb) (by intro u hu; simp at hu; rcases hu with rfl | rfl | rfl | rfl | rfl <;> rfl) (by omega) (by unfold maxLen; omega) (by omega) (by omega) w3.heap.size (by rfl) ?_
             intro g4 cap4 w4 hown4 hgrow4 hat4 hlt4
             obtain ⟨p1, ⟨pz0, pz1, pz2, pz3, pz4⟩, pf, -⟩ := own_put hown4
             have pf0 := pf (acc.length * 5)
             have pf1 := pf (acc.length * 5 + 1)
             have pf2 := pf (acc.length * 5 + 2)
             have pf3 := pf (acc.length * 5 + 3)
             have pf4 := pf (acc.length * 5 + 4)
             have lb4 := ((grown_off (v4 := .slice (some ⟨g4, 0, none⟩) (acc.length + 1) cap4) HM3.out.1.own (Below.refl _ _) hgrow4 (hat4.imp (fun e => e.symm) (fun e => by rw [e]; simp [Value.ownBlock]))).2 w.heap.size (by omega) (by omega)).trans HM3.out.1.lbox
             have lc4 := cell_of_one lb4
             have lz4 := box_frozen lb4 0
             have hg4a : ¬ g4 = w.heap.size := by omega
             have hg4b : ¬ w.heap.size = g4 := by omega
             have HP := Lib.hid (And.intro (Below.refl w3.heap.size w3) (And.intro hown4 (And.intro hgrow4 hat4)))
             clear hown4 hgrow4 hat4 lb4 pf))
        all_goals
          have hMA := HM3.out.1.put HM3.out.2.1 HP.out.1 HP.out.2.1 HP.out.2.2.1 HP.out.2.2.2 rfl
          have hMB := hMA
          rw [← six_comm hg4a] at hMB
          have HMA := Lib.hid hMA
          have HMB := Lib.hid hMB
          clear hMA hMB
          change Exit.inBlock 1 _ Exit.normal _ _
          go_wp2_with fail
          refine (skip_any (w.heap.size + 3) s b3 _ (by first | with_reducible exact HMA.out.text | with_reducible exact HMB.out.text) hb3 hs).mono ?_
          rintro _ w6 ⟨rfl, hk6, b6, hb6, hh6, hd6⟩
          have hM6 : Mid s w (acc ++ [d]) (.slice (some ⟨g4, 0, none⟩) (acc.length + 1) cap4) (xs ++ [.int .i64 dk, .int .i64 dn, .int .i64 dd, .string ds, .slice dp dlen dcap]) b6 w6 := by first | with_reducible exact HMA.out.on hk6 hh6 | with_reducible exact HMB.out.on hk6 hh6
          have hle : b3 ≤ b6 := by
            have h1 := congrArg List.length hd6
            have h2 := skip_len false (s.data.toList.drop b3)
            rw [← h1] at h2
            simp at h2; omega
          have HM6 := Lib.hid (And.intro hM6 hd6)
          clear hM6 hk6 hh6 hd6
          go_wp2_with fail
          go_roundg (s.size - b6)
          case measure => omega
          case rel =>
            refine ⟨acc ++ [d], _, _, b6, Nat.le_refl _, HM6.out.1, top_skip HMORE.out.1 ?_, ?_, by simp; omega, hb6⟩
            · rw [HM6.out.2, HM3.out.2.2]; exact skip_again _
            · rw [HM6.out.2]; exact skip_again _
    · have e1 : decide (b < s.size) = false := by rw [decide_eq_false_iff_not]; omega
      have hres : res = .ok acc [] := by
        have ht := HH.out.top
        rw [show b = s.size by omega, drop_end] at ht
        cases ht with
        | fin h => rfl
        | bad h hb => simp [skipB] at h
        | deep h hd hr => simp [skipB] at h
        | more h hd hr hm => simp [skipB] at h
      have HRES := Lib.hid hres; clear hres
      have lz : wr.frozen? ⟨w.heap.size, 0, none⟩ = false := by simp [World.frozen?, HH.out.mid.lbox]
      have az : wr.frozen? ⟨w.heap.size + 1, 0, none⟩ = false := by simp [World.frozen?, HH.out.mid.abox]
      have ac : wr.cell? ⟨w.heap.size + 1, 0, none⟩ = some (.int .i64 0) := by simp [World.cell?, HH.out.mid.abox]
      have ez : wr.frozen? ⟨w.heap.size + 2, 0, none⟩ = false := by simp [World.frozen?, HH.out.mid.ebox]
      have ec : wr.cell? ⟨w.heap.size + 2, 0, none⟩ = some (.int .i64 0) := by simp [World.cell?, HH.out.mid.ebox]
      go_wp2_with fail
      obtain ⟨r0, r1, r2⟩ := three_set (u0 := .slice p acc.length cap) (u1 := .int .i64 s.size) (u2 := .int .i64 0) HH.out.mid.lbox HH.out.mid.abox HH.out.mid.ebox (by omega) (by omega) (by omega)
      refine idled_any r0 r1 r2 rfl rfl rfl ⟨Or.inr ⟨acc, [], _, HRES.out, rfl, HH.out.mid.read fun k hk => ?_⟩, ((HH.out.mid.below.setCell (Nat.le_refl _) _).setCell (Nat.le_succ _) _).setCell (by show w.heap.size ≤ w.heap.size + 2; omega) _⟩
      exact (Below.heap_setCell _ _ _ _ (show k ≠ w.heap.size + 2 by omega)).trans ((Below.heap_setCell _ _ _ _ (show k ≠ w.heap.size + 1 by omega)).trans (Below.heap_setCell _ _ _ _ (show k ≠ w.heap.size by omega)))
end Go.Proofs.YtabofebepefbgaaDoor.Dat
