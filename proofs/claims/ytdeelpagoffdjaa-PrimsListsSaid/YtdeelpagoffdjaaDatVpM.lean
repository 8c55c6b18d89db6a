/- The program's own List. -/
import Derived.Test.YtdeelpagoffdjaaDatVoM
import Derived.Test.YtdeelpagoffdjaaDatPz
import Derived.Shelf.RegionOpen

namespace Go.Proofs.Ytdeelpagoffdjaa.Dat
open Go.RowKit Go.Shelf
set_option linter.unusedVariables false
attribute [local go_sem] Oper.semAt_some

theorem made_in (F : Fence) (n : Nat) (h45 : F.fn 36) (hro : F.round = none) (p : Option Addr) (len cap : Nat) (w : World) :
    CallsIn F n Try.prog 36 #[.slice p len cap] w fun e w' => e = .returned (.func (.func 73) #[] #[.pointer (some ⟨w.heap.size, 0, none⟩)]) ∧ w' = w.alloc (.cells #[.slice p len cap] 34) := by
  refine callsIn_of_wp Try.func36 rfl h45 ?_ hro
  simp only [Try.ntmps36, List.size_toArray, List.length_cons, List.length_nil, Nat.reduceAdd, Nat.reduceSub, Array.replicate_succ, Array.replicate_zero, List.push_toArray, List.append_toArray, List.nil_append, List.cons_append]
  gi_wp2
  go_ret
  exact ⟨rfl, rfl⟩
theorem cells_stay {W W' : World} {row : Option Nat} (hg : W.grownBy W' row) (hr : ∀ r, row = some r → ∃ o : Obj, W.heap[r]? = some o ∧ o.isCells = false) {k : Nat} {cs : Array Value} {t : TypeId} {fr : Nat × Nat} (h : W.heap[k]? = some (.cells cs t fr)) : W'.heap[k]? = some (.cells cs t fr) := by
  refine (hg.block k (lt_of_block h) (fun e => ?_)).trans h
  obtain ⟨o, ho, hc⟩ := hr k e.symm
  rw [h] at ho; cases ho; cases hc
theorem off_stay {W W' : World} {row : Option Nat} {X : Nat → Bool} (hg : W.grownBy W' row) (hr : ∀ r, row = some r → ∃ o : Obj, W.heap[r]? = some o ∧ o.isCells = false) (b o : Nat) (v : Value) (hv : (off W X).cell? ⟨b, o, none⟩ = some v) : (off W' X).cell? ⟨b, o, none⟩ = some v := by
  obtain ⟨h0, hc⟩ := off_cell.1 hv
  refine off_cell.2 ⟨h0, ?_⟩
  have hb : W'.heap[b]? = W.heap[b]? := by
    refine hg.block b (cell_lt hc) (fun e => ?_)
    obtain ⟨q, ho, hq⟩ := hr b e.symm
    unfold World.cell? at hc
    rw [ho] at hc
    cases q <;> simp [Obj.isCells] at hq hc
  rw [World.cell?_of_block hb]; exact hc
/-- The box holds the list so far. -/
def Listing (X : Nat → Bool) (w : World) (L : Dt) (W : World) : Prop :=
  W.heap[w.heap.size]? = some (.cells #[.int .i64 0, .int .i64 0, .int .i64 0, .string ⟨#[]⟩, .slice none 0 0] 37 (0, 0)) ∧
    ∃ (k n d : Int) (s : ByteArray) (p : Option Addr) (len cap : Nat), W.heap[w.heap.size + 1]? = some (.cells #[.int .i64 k, .int .i64 n, .int .i64 d, .string s, .slice p len cap] 37 (0, 0)) ∧ L.At (off W (more X w.heap.size)) (.agg #[.int .i64 k, .int .i64 n, .int .i64 d, .string s, .slice p len cap])
theorem listing_own {β : Type} {B : Nat} (X : Nat → Bool) (w : World) (f : β → Dt) : OwnFrom B (fun s W => Listing X w (f s) W) := by
  intro s W W' row ⟨h1, k, n, d, s', p, len, cap, h2, h3⟩ hg hr
  have hr' := fun r e => (hr r e).2
  exact ⟨cells_stay hg hr' h1, k, n, d, s', p, len, cap, cells_stay hg hr' h2, h3.on (off_stay hg hr')⟩
theorem Listing.later {X : Nat → Bool} {w W W' : World} {L : Dt} (h : Listing X w L W) (hb : Below W.heap.size W W') : Listing X w L W' := by
  obtain ⟨h1, k, n, d, s', p, len, cap, h2, h3⟩ := h
  exact ⟨block_on hb h1, k, n, d, s', p, len, cap, block_on hb h2, h3.on (off_later hb)⟩

theorem at_zero (w : World) (a b c : Obj) : (((w.alloc a).alloc b).alloc c).heap[w.heap.size]? = some a := by
  show (((w.heap.push a).push b).push c)[w.heap.size]? = _
  rw [Array.getElem?_push, if_neg (by simp; omega), Array.getElem?_push, if_neg (by simp), Array.getElem?_push, if_pos rfl]
theorem leaf4_at (w : World) : (Dt.list []).At w (.agg #[.int .i64 4, .int .i64 0, .int .i64 0, .string ⟨#[]⟩, .slice none 0 0]) := by
  show (Dt.node 4 0 0 nil8 []).At w _
  unfold Dt.At
  exact ⟨by unfold I64; omega, by unfold I64; omega, by unfold I64; omega, by unfold maxLen; decide, by simp, none, 0, rfl, Or.inl rfl⟩

/-- One more datum ahead of the list. -/
theorem list_step {X : Nat → Bool} {w W w2 : World} {L t : Dt} {k n d ku nu du : Int} {s su : ByteArray} {p pu : Option Addr} {len cap lenu capu : Nat} (hX : ∀ b, w.heap.size ≤ b → X b = false)
    (h1 : W.heap[w.heap.size]? = some (.cells #[.int .i64 0, .int .i64 0, .int .i64 0, .string ⟨#[]⟩, .slice none 0 0] 37 (0, 0)))
    (h2 : W.heap[w.heap.size + 1]? = some (.cells #[.int .i64 k, .int .i64 n, .int .i64 d, .string s, .slice p len cap] 37 (0, 0)))
    (h3 : L.At (off W (more X w.heap.size)) (.agg #[.int .i64 k, .int .i64 n, .int .i64 d, .string s, .slice p len cap])) (h4 : w.heap.size + 3 ≤ W.heap.size) (hB : Below w.heap.size w W) (hb2 : Below W.drew.heap.size W.drew w2)
    (hu : t.At (off w2 (more X w.heap.size)) (.agg #[.int .i64 ku, .int .i64 nu, .int .i64 du, .string su, .slice pu lenu capu])) (b0 : Nat) :
    KeepsFrom b0 W ((((((w2.setCell ⟨w.heap.size + 1, 0, none⟩ (.int .i64 6)).setCell ⟨w.heap.size + 1, 1, none⟩ (.int .i64 0)).setCell ⟨w.heap.size + 1, 2, none⟩ (.int .i64 0)).setCell ⟨w.heap.size + 1, 3, none⟩ (.string ⟨#[]⟩)).setCell ⟨w.heap.size + 1, 4, none⟩ (.slice (some ⟨w2.heap.size, 0, none⟩) 2 2)).alloc (.cells #[.int .i64 ku, .int .i64 nu, .int .i64 du, .string su, .slice pu lenu capu, .int .i64 k, .int .i64 n, .int .i64 d, .string s, .slice p len cap] 37)) ∧
    Ex (w.heap.size + 3) (w.heap.size + 1) W ((((((w2.setCell ⟨w.heap.size + 1, 0, none⟩ (.int .i64 6)).setCell ⟨w.heap.size + 1, 1, none⟩ (.int .i64 0)).setCell ⟨w.heap.size + 1, 2, none⟩ (.int .i64 0)).setCell ⟨w.heap.size + 1, 3, none⟩ (.string ⟨#[]⟩)).setCell ⟨w.heap.size + 1, 4, none⟩ (.slice (some ⟨w2.heap.size, 0, none⟩) 2 2)).alloc (.cells #[.int .i64 ku, .int .i64 nu, .int .i64 du, .string su, .slice pu lenu capu, .int .i64 k, .int .i64 n, .int .i64 d, .string s, .slice p len cap] 37)) ∧
    Listing X w (Dt.node 6 0 0 nil8 [t, L]) ((((((w2.setCell ⟨w.heap.size + 1, 0, none⟩ (.int .i64 6)).setCell ⟨w.heap.size + 1, 1, none⟩ (.int .i64 0)).setCell ⟨w.heap.size + 1, 2, none⟩ (.int .i64 0)).setCell ⟨w.heap.size + 1, 3, none⟩ (.string ⟨#[]⟩)).setCell ⟨w.heap.size + 1, 4, none⟩ (.slice (some ⟨w2.heap.size, 0, none⟩) 2 2)).alloc (.cells #[.int .i64 ku, .int .i64 nu, .int .i64 du, .string su, .slice pu lenu capu, .int .i64 k, .int .i64 n, .int .i64 d, .string s, .slice p len cap] 37)) ∧
    w.heap.size + 3 ≤ ((((((w2.setCell ⟨w.heap.size + 1, 0, none⟩ (.int .i64 6)).setCell ⟨w.heap.size + 1, 1, none⟩ (.int .i64 0)).setCell ⟨w.heap.size + 1, 2, none⟩ (.int .i64 0)).setCell ⟨w.heap.size + 1, 3, none⟩ (.string ⟨#[]⟩)).setCell ⟨w.heap.size + 1, 4, none⟩ (.slice (some ⟨w2.heap.size, 0, none⟩) 2 2)).alloc (.cells #[.int .i64 ku, .int .i64 nu, .int .i64 du, .string su, .slice pu lenu capu, .int .i64 k, .int .i64 n, .int .i64 d, .string s, .slice p len cap] 37)).heap.size ∧
    Below w.heap.size w ((((((w2.setCell ⟨w.heap.size + 1, 0, none⟩ (.int .i64 6)).setCell ⟨w.heap.size + 1, 1, none⟩ (.int .i64 0)).setCell ⟨w.heap.size + 1, 2, none⟩ (.int .i64 0)).setCell ⟨w.heap.size + 1, 3, none⟩ (.string ⟨#[]⟩)).setCell ⟨w.heap.size + 1, 4, none⟩ (.slice (some ⟨w2.heap.size, 0, none⟩) 2 2)).alloc (.cells #[.int .i64 ku, .int .i64 nu, .int .i64 du, .string su, .slice pu lenu capu, .int .i64 k, .int .i64 n, .int .i64 d, .string s, .slice p len cap] 37)) := by
  have hb : Below W.heap.size W w2 := below_drew hb2
  have hq := block_on hb h2
  have hs1 := hb.size
  obtain ⟨S, hS⟩ : ∃ S, (((((w2.setCell ⟨w.heap.size + 1, 0, none⟩ (.int .i64 6)).setCell ⟨w.heap.size + 1, 1, none⟩ (.int .i64 0)).setCell ⟨w.heap.size + 1, 2, none⟩ (.int .i64 0)).setCell ⟨w.heap.size + 1, 3, none⟩ (.string ⟨#[]⟩)).setCell ⟨w.heap.size + 1, 4, none⟩ (.slice (some ⟨w2.heap.size, 0, none⟩) 2 2)) = S := ⟨_, rfl⟩
  have s1 : S.heap.size = w2.heap.size := by rw [← hS]; exact set_five_size
  have s2 : S.heap[w.heap.size + 1]? = some (.cells #[.int .i64 6, .int .i64 0, .int .i64 0, .string ⟨#[]⟩, .slice (some ⟨w2.heap.size, 0, none⟩) 2 2] 37 (0, 0)) := by rw [← hS]; exact set_five hq
  have s3 : ∀ b, b ≠ w.heap.size + 1 → S.heap[b]? = w2.heap[b]? := fun b hb => by rw [← hS]; exact set_five_other hb
  have s4 : Below w.heap.size w S := by rw [← hS]; exact set_five_below (below_seq hB hb) (Nat.le_succ _)
  rw [hS]
  obtain ⟨O, hO⟩ : ∃ O, Obj.cells #[Value.int IntKind.i64 ku, Value.int IntKind.i64 nu, Value.int IntKind.i64 du, Value.string su, Value.slice pu lenu capu, Value.int IntKind.i64 k, Value.int IntKind.i64 n, Value.int IntKind.i64 d, Value.string s, Value.slice p len cap] 37 = O := ⟨_, rfl⟩
  rw [hO]
  have t0 : ∀ b, b < w2.heap.size → (S.alloc O).heap[b]? = S.heap[b]? := fun b hb => Below.heap_alloc S O b (by omega)
  have t1 : (S.alloc O).heap[w2.heap.size]? = some O := by rw [← s1]; exact at_new S O
  have t3 : (S.alloc O).heap.size = w2.heap.size + 1 := by rw [← s1]; show (S.heap.push O).size = _; simp
  have t4 : ∀ b, b < w2.heap.size → b ≠ w.heap.size + 1 → (S.alloc O).heap[b]? = w2.heap[b]? := fun b hb hn => (t0 b hb).trans (s3 b hn)
  have tu : ∀ (b o : Nat) (v : Value), (off w2 (more X w.heap.size)).cell? ⟨b, o, none⟩ = some v → (off (S.alloc O) (more X w.heap.size)).cell? ⟨b, o, none⟩ = some v := fun b o v hv => off_on (fun _ _ hx => hx) (fun b hb hx => t4 b hb (more_no.1 hx).2.2) b o v hv
  refine ⟨⟨by omega, fun i o _ hi ho => ?_⟩, fun i hi hn => (t4 i (by omega) hn).trans (hb.block i (by omega)), ?_, by omega, s4.alloc (by omega) O⟩
  · have hlt := lt_of_block hi
    refine ((t4 i (by omega) (fun e => ?_)).trans (hb.block i hlt)).trans hi
    rw [e, h2] at hi; cases hi; cases ho
  · refine ⟨(t4 _ (by omega) (by omega)).trans (block_on hb h1), 6, 0, 0, nil8, some ⟨w2.heap.size, 0, none⟩, 2, 2, (t0 _ (by omega)).trans s2, ?_⟩
    have tc : ∀ j v, #[Value.int IntKind.i64 ku, Value.int IntKind.i64 nu, Value.int IntKind.i64 du, Value.string su, Value.slice pu lenu capu, Value.int IntKind.i64 k, Value.int IntKind.i64 n, Value.int IntKind.i64 d, Value.string s, Value.slice p len cap][j]? = some v → (off (S.alloc O) (more X w.heap.size)).cell? ⟨w2.heap.size, j, none⟩ = some v := by
      intro j v hj
      exact off_cell.2 ⟨more_no.2 ⟨hX _ (by omega), by omega, by omega⟩, by rw [cell_of_block (t1.trans (congrArg some hO.symm))]; exact hj⟩
    unfold Dt.At
    refine ⟨by unfold I64; omega, by unfold I64; omega, by unfold I64; omega, by unfold maxLen; decide, by simp [maxLen], _, _, rfl, Or.inr ⟨_, _, rfl, ?_⟩⟩
    unfold Dt.AllAt
    refine ⟨⟨_, _, _, _, _, tc 0 _ rfl, tc 1 _ rfl, tc 2 _ rfl, tc 3 _ rfl, tc 4 _ rfl, hu.on tu⟩, ?_⟩
    unfold Dt.AllAt
    refine ⟨⟨_, _, _, _, _, tc 5 _ rfl, tc 6 _ rfl, tc 7 _ rfl, tc 8 _ rfl, tc 9 _ rfl, (h3.on (off_later hb)).on tu⟩, by unfold Dt.AllAt; trivial⟩

set_option maxHeartbeats 4000000 in
set_option maxRecDepth 100000 in
theorem ownList_any (X : Nat → Bool) (l : List Dt) (p : Option Addr) (cap : Nat) (w : World) (hX : ∀ b, w.heap.size ≤ b → X b = false) (hlm : l.length ≤ maxLen) (hsl : Dt.slimAll l) (hl : l = [] ∨ ∃ b o, p = some ⟨b, o, none⟩ ∧ Dt.AllAt (off w X) l b o) :
    Calls Try.prog 22 #[.slice p l.length cap] w fun e w' => (∃ k n d s p len cap, e = .returned (.agg #[.int .i64 k, .int .i64 n, .int .i64 d, .string s, .slice p len cap]) ∧ (Dt.list l).At (off w' X) (.agg #[.int .i64 k, .int .i64 n, .int .i64 d, .string s, .slice p len cap])) ∧ Below w.heap.size w w' := by
  refine (callsIn_wide (n := 3)).1 ?_
  refine callsIn_of_wp_marks Try.func22 rfl trivial ?_ rfl
  simp only [Try.ntmps22, List.size_toArray, List.length_cons, List.length_nil, Nat.reduceAdd, Nat.reduceSub, Array.replicate_succ, Array.replicate_zero, List.push_toArray, List.append_toArray, List.nil_append, List.cons_append]
  have HL := Lib.hid hl
  have HX := Lib.hid hX
  have HSL := Lib.hid hsl
  have HLM := Lib.hid hlm
  clear hl hX hsl
  unfold maxLen at hlm
  gi_wp2_with (refine ⟨trivial, ?_⟩; gi_at_call 36; refine (made_in Fence.wide 2 trivial rfl _ _ _ _).mono ?_; rintro e w' ⟨rfl, rfl⟩)
  have hb0 : Below w.heap.size w (((w.alloc (.cells #[.int .i64 0, .int .i64 0, .int .i64 0, .string ⟨#[]⟩, .slice none 0 0] 37)).alloc (.cells #[.int .i64 4, .int .i64 0, .int .i64 0, .string ⟨#[]⟩, .slice none 0 0] 37)).alloc (.cells #[.slice p l.length cap] 34)) := three_below _ _ _ _
  have q0 := at_zero w (.cells #[.int .i64 0, .int .i64 0, .int .i64 0, .string ⟨#[]⟩, .slice none 0 0] 37) (.cells #[.int .i64 4, .int .i64 0, .int .i64 0, .string ⟨#[]⟩, .slice none 0 0] 37) (.cells #[.slice p l.length cap] 34)
  have q1 := at_one w (.cells #[.int .i64 0, .int .i64 0, .int .i64 0, .string ⟨#[]⟩, .slice none 0 0] 37) (.cells #[.int .i64 4, .int .i64 0, .int .i64 0, .string ⟨#[]⟩, .slice none 0 0] 37) (.cells #[.slice p l.length cap] 34)
  have q2 := at_two w (.cells #[.int .i64 0, .int .i64 0, .int .i64 0, .string ⟨#[]⟩, .slice none 0 0] 37) (.cells #[.int .i64 4, .int .i64 0, .int .i64 0, .string ⟨#[]⟩, .slice none 0 0] 37) (.cells #[.slice p l.length cap] 34)
  have hsz : (((w.alloc (.cells #[.int .i64 0, .int .i64 0, .int .i64 0, .string ⟨#[]⟩, .slice none 0 0] 37)).alloc (.cells #[.int .i64 4, .int .i64 0, .int .i64 0, .string ⟨#[]⟩, .slice none 0 0] 37)).alloc (.cells #[.slice p l.length cap] 34)).heap.size = w.heap.size + 3 := by simp
  obtain ⟨W0, hW0⟩ : ∃ W0, ((w.alloc (.cells #[.int .i64 0, .int .i64 0, .int .i64 0, .string ⟨#[]⟩, .slice none 0 0] 37)).alloc (.cells #[.int .i64 4, .int .i64 0, .int .i64 0, .string ⟨#[]⟩, .slice none 0 0] 37)).alloc (.cells #[.slice p l.length cap] 34) = W0 := ⟨_, rfl⟩
  rw [hW0] at hb0 q0 q1 q2 hsz ⊢
  clear hW0
  have hst : SeqStopsK Fence.wide (3 - 1) Try.prog 73 #[.pointer (some ⟨w.heap.size + 1 + 1, 0, none⟩)] (Elt.enc (V := off w X)) (Ex (w.heap.size + 3) (w.heap.size + 1)) (fun xs => xs.map Elt.t = l.reverse) (fun _ => True) l.length W0 := fun lr J Jx W hW _ _ hY h0 =>
    back_in Fence.wide (3 - 1) trivial rfl (by omega) lr (w.heap.size + 1 + 1) (w.heap.size + 3) (w.heap.size + 1) (off w X) l p cap HLM.out HSL.out HL.out J Jx hY W
      (fun b o v hv => ⟨⟨by have := cell_lt (off_cell.1 hv).2; omega, by have := cell_lt (off_cell.1 hv).2; omega⟩, cell_on hW _ _ _ (cell_on hb0 _ _ _ (off_cell.1 hv).2)⟩) (cell_of_one (block_on hW q2)) ⟨by omega, by omega⟩ h0
  refine wpIn_rangeFunc_ownH (α := Elt (off w X)) rfl (by omega) (gf := 73) (lb := #[.pointer (some ⟨w.heap.size + 1 + 1, 0, none⟩)]) rfl trivial (enters_of Try.func73 (by kernel_rfl) rfl) hst (fun h k => h.trans k)
    (fun W lq o o' hlq _ _ _ k hk _ => World.putObj_heap_other (by omega)) (Below.refl _ _) (fun _ => rfl)
    (fun pre W => Listing X w (Dt.list (pre.map Elt.t).reverse) W ∧ (w.heap.size + 3 ≤ W.heap.size ∧ Below w.heap.size w W)) (fun _ _ _ => False)
    (OwnFrom.and (listing_own X w _) (OwnFrom.and (fun _ _ _ _ hs hg _ => Nat.le_trans hs hg.size) (ownFrom_below (Nat.le_refl _) (by omega)))) (fun _ _ _ _ _ hs _ _ => hs)
    ⟨⟨q0, 4, 0, 0, _, none, 0, 0, q1, leaf4_at _⟩, by omega, hb0⟩
    (fun x a' W => ∃ Bx, W.heap[Bx]? = some (.cells #[.int .i64 x.k, .int .i64 x.n, .int .i64 x.d, .string x.s, .slice x.p x.len x.cap] 37 (0, 0)) ∧ a' = { tmps := #[.slice p l.length cap, undef, .pointer (some ⟨w.heap.size, 0, none⟩), .pointer (some ⟨w.heap.size + 1, 0, none⟩), undef, .pointer (some ⟨Bx, 0, none⟩), .agg #[.int .i64 4, .int .i64 0, .int .i64 0, .string ⟨#[]⟩, .slice none 0 0], .slice p l.length cap, .func (.func 73) #[] #[.pointer (some ⟨w.heap.size + 1 + 1, 0, none⟩)], .int .i64 (x.i : Int), .agg #[.int .i64 x.k, .int .i64 x.n, .int .i64 x.d, .string x.s, .slice x.p x.len x.cap], undef, undef, undef, undef, undef, undef], defers := [] })
    (fun x a' _ A B row hs hg hr => by obtain ⟨Bx, h1, h2⟩ := hs; exact ⟨Bx, cells_stay hg (fun r e => (hr r e).2) h1, h2⟩)
    ?assign ?body ?done ?stop
  case assign =>
    rintro lr pre x W K ⟨hLi, h3, hB⟩ hK
    simp only [Elt.enc]
    gi_wp2
    exact hK _ _ ((KeepsOthers.alloc _ _).from _) (fun k hk _ => Below.heap_alloc _ _ _ (by omega)) ⟨hLi.later (box_below _ _), by simp; omega, below_seq hB (box_below _ _)⟩ ⟨W.heap.size, at_new _ _, rfl⟩
  case body =>
    rintro lr pre x a' W hlr ⟨r, hr⟩ ⟨⟨h1, k, n, d, s', p', len', cap', h2, h3⟩, h4, hB⟩ ⟨Bx, hbx, rfl⟩ hlt
    have C := copied_any x.t (more X w.heap.size) _ W.drew (fun b hb => more_no.2 ⟨HX.out b (by have : W.heap.size ≤ b := hb; omega), by have : W.heap.size ≤ b := hb; omega, by have : W.heap.size ≤ b := hb; omega⟩) (x.lies.on (old_off hB.drew)) x.slim
    have HC := Lib.hid C
    obtain ⟨a0, a1, a2, a3, a4⟩ := box_cells hbx
    obtain ⟨c0, c1, c2, c3, c4⟩ := box_cells h2
    have HBX := Lib.hid hbx
    have H1 := Lib.hid h1
    have H2 := Lib.hid h2
    have H3 := Lib.hid h3
    have H4 := Lib.hid h4
    have HB := Lib.hid hB
    have hmx : Try.prog.follows .mixedOrders = true := by kernel_rfl
    clear C h1 h2 h3 h4 hB hbx hb0 q0 q1 q2 hst hlm hsz hlt hr
    gi_wp2
    gi_region_with_o (refine ⟨trivial, ?_⟩; gi_at_call 37; refine (CallsIn.inRound lr (callsIn_wide.2 HC.out)).mono ?_; rintro _ w2 ⟨⟨ku, nu, du, su, pu, lenu, capu, rfl, hu⟩, hb2⟩
                      have e0 := cell_on hb2 _ _ _ c0
                      have e1 := cell_on hb2 _ _ _ c1
                      have e2 := cell_on hb2 _ _ _ c2
                      have e3 := cell_on hb2 _ _ _ c3
                      have e4 := cell_on hb2 _ _ _ c4
                      have hq := block_on hb2 H2.out
                      have z0 := box_frozen hq 0
                      have z1 := box_frozen hq 1
                      have z2 := box_frozen hq 2
                      have z3 := box_frozen hq 3
                      have z4 := box_frozen hq 4
                      have hlq := lt_of_block hq
                      have HQ := Lib.hid hq
                      have HU := Lib.hid hu
                      have HB2 := Lib.hid hb2
                      clear hq hu hb2)
    all_goals gi_wp2
    all_goals
      have hfin := list_step HX.out H1.out H2.out H3.out H4.out HB.out HB2.out HU.out (W0.heap.size)
      refine ⟨hfin.1, hfin.2.1, ?_, hfin.2.2.2.1, hfin.2.2.2.2⟩
      rw [show (Dt.list ((pre ++ [x]).map Elt.t).reverse) = Dt.node 6 0 0 nil8 [x.t, Dt.list (pre.map Elt.t).reverse] by rw [List.map_append, List.reverse_append]; rfl]
      exact hfin.2.2.1
  case done =>
    rintro D xs W hD hxs ⟨⟨h1, k, n, d, s', p', len', cap', h2, h3⟩, h4, hB⟩ hK
    obtain ⟨c0, c1, c2, c3, c4⟩ := box_cells h2
    have z0 := box_frozen h1 0
    have z1 := box_frozen h1 1
    have z2 := box_frozen h1 2
    have z3 := box_frozen h1 3
    have z4 := box_frozen h1 4
    obtain ⟨r0, r1, r2, r3, r4⟩ := box_cells h1
    have H1 := Lib.hid h1
    have H3 := Lib.hid h3
    have HB := Lib.hid hB
    have HK := Lib.hid hK
    have HXS := Lib.hid hxs
    clear h1 h2 h3 hB hK hxs hb0 q0 q1 q2 hst hlm
    gi_wp2
    have hDB : D ≠ w.heap.size := by omega
    have hK2 : (((((W.setCell ⟨w.heap.size, 0, none⟩ (.int .i64 k)).setCell ⟨w.heap.size, 1, none⟩ (.int .i64 n)).setCell ⟨w.heap.size, 2, none⟩ (.int .i64 d)).setCell ⟨w.heap.size, 3, none⟩ (.string s')).setCell ⟨w.heap.size, 4, none⟩ (.slice p' len' cap')).heap[D]? = some (.deferred (some [])) := (set_five_other hDB).trans HK.out
    have hr2 := set_five (b0 := .int .i64 k) (b1 := .int .i64 n) (b2 := .int .i64 d) (b3 := .string s') (b4 := .slice p' len' cap') H1.out
    have hoth : ∀ b, b ≠ w.heap.size → (((((W.setCell ⟨w.heap.size, 0, none⟩ (.int .i64 k)).setCell ⟨w.heap.size, 1, none⟩ (.int .i64 n)).setCell ⟨w.heap.size, 2, none⟩ (.int .i64 d)).setCell ⟨w.heap.size, 3, none⟩ (.string s')).setCell ⟨w.heap.size, 4, none⟩ (.slice p' len' cap')).heap[b]? = W.heap[b]? := fun b hb => set_five_other hb
    have hbl : Below w.heap.size w (((((W.setCell ⟨w.heap.size, 0, none⟩ (.int .i64 k)).setCell ⟨w.heap.size, 1, none⟩ (.int .i64 n)).setCell ⟨w.heap.size, 2, none⟩ (.int .i64 d)).setCell ⟨w.heap.size, 3, none⟩ (.string s')).setCell ⟨w.heap.size, 4, none⟩ (.slice p' len' cap')) := set_five_below HB.out (Nat.le_refl _)
    obtain ⟨Z, hZ⟩ : ∃ Z, (((((W.setCell ⟨w.heap.size, 0, none⟩ (.int .i64 k)).setCell ⟨w.heap.size, 1, none⟩ (.int .i64 n)).setCell ⟨w.heap.size, 2, none⟩ (.int .i64 d)).setCell ⟨w.heap.size, 3, none⟩ (.string s')).setCell ⟨w.heap.size, 4, none⟩ (.slice p' len' cap')) = Z := ⟨_, rfl⟩
    rw [hZ] at hK2 hr2 hoth hbl ⊢
    refine ⟨by simp, .inl ⟨_, _, rfl, run_takeDeferred hK2, ?_⟩⟩
    refine ⟨_, results_cell_row rfl _ _ w.heap.size 37 _ (0, 0) _ rfl ((World.putObj_heap_other (fun e => hDB e.symm)).trans hr2) Try.underlying37 rfl Try.cellDt, ⟨k, n, d, s', p', len', cap', rfl, ?_⟩, hbl.trans (belowK_b (w := w) (Nat.le_refl _) Z D _ _ (by omega) hK2 rfl rfl)⟩
    have hl : Dt.list (xs.map Elt.t).reverse = Dt.list l := by rw [HXS.out, List.reverse_reverse]
    rw [← hl]
    refine (H3.out).on fun b o v hv => ?_
    have h1 := off_on (w' := Z) (Y := more X w.heap.size) (fun _ _ hx => hx) (fun b _ hx => hoth b (more_no.1 hx).2.1) b o v hv
    exact off_up (fun b hx => (more_no.1 hx).1) b o v (off_stay (grownBy_putObj' Z D _) (fun r e => by cases e; exact ⟨_, hK2, rfl⟩) b o v h1)
  case stop =>
    rintro D c pre W _ _ h _
    exact h.elim
end Go.Proofs.Ytdeelpagoffdjaa.Dat
