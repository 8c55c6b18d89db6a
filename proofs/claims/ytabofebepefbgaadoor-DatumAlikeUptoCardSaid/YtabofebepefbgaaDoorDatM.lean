/- The reference's List. -/
import Derived.Test.YtabofebepefbgaaDoorDatI
import Derived.Test.YtabofebepefbgaaDoorDatU
namespace Go.Proofs.YtabofebepefbgaaDoor.Dat
open Go.RowKit
set_option linter.unusedVariables false

/-- The list of these data. -/
def Dt.list : List Dt → Dt
  | [] => .node 4 0 0 nil8 []
  | t :: r => .node 6 0 0 nil8 [t, Dt.list r]

/-- What holds in a round. -/
def Listed (X : Nat → Bool) (w : World) (l : List Dt) (j : Nat) (wr : World) (k n d : Int) (s : ByteArray) (l' : List Dt) (p : Option Addr) (cap : Nat) : Prop :=
  wr.heap[w.heap.size]? = some (.cells #[.int .i64 0, .int .i64 0, .int .i64 0, .string ⟨#[]⟩, .slice none 0 0] 24 (0, 0)) ∧ wr.heap[w.heap.size + 1]? = some (.cells #[.int .i64 k, .int .i64 n, .int .i64 d, .string s, .slice p l'.length cap] 24 (0, 0)) ∧
    Dt.list (l.drop j) = .node k n d s l' ∧ (Dt.node k n d s l').At (off wr (more X w.heap.size)) (.agg #[.int .i64 k, .int .i64 n, .int .i64 d, .string s, .slice p l'.length cap]) ∧ Below w.heap.size w wr

theorem Tryd.sizeDt : (Tryd.prog.info? 24).map (·.size) = some 5 := by kernel_rfl

set_option maxHeartbeats 2000000 in
set_option maxRecDepth 100000 in
theorem List_any (X : Nat → Bool) (l : List Dt) (p : Option Addr) (cap : Nat) (w : World) (hX : ∀ b, w.heap.size ≤ b → X b = false) (hlm : l.length ≤ maxLen) (hl : l = [] ∨ ∃ b o, p = some ⟨b, o, none⟩ ∧ Dt.AllAt (off w X) l b o) :
    Calls Tryd.prog 29 #[.slice p l.length cap] w fun e w' => (∃ u, e = .returned u ∧ (Dt.list l).At (off w' X) u) ∧ Below w.heap.size w w' := by
  unfold maxLen at hlm
  have HL := Lib.hid hl; clear hl
  have HX := Lib.hid hX; clear hX
  go_enter Tryd.func29, Tryd.ntmps29
  go_wp2_with fail
  go_loopw [4] (fun x wr => ∃ (j : Nat) (k n d : Int) (s : ByteArray) (l' : List Dt) (p' : Option Addr) (cap' : Nat), j ≤ l.length ∧ x = .int .i64 ((j : Int) - 1) ∧ w.heap.size + 1 < wr.heap.size ∧ Listed X w l j wr k n d s l' p' cap') (fun x _ => (intOf x + 1).toNat)
  case atStart =>
    refine ⟨l.length, 4, 0, 0, nil8, [], none, 0, Nat.le_refl _, rfl, by simp, ?_⟩
    unfold Listed
    refine ⟨?_, ?_, by rw [List.drop_length]; rfl, ?_, two_below _ _ _⟩
    · show ((w.heap.push _).push _)[w.heap.size]? = some _
      simp [Array.getElem?_push]
    · show ((w.heap.push _).push _)[w.heap.size + 1]? = some _
      rw [show w.heap.size + 1 = (w.heap.push (Obj.cells #[.int .i64 0, .int .i64 0, .int .i64 0, .string ⟨#[]⟩, .slice none 0 0] 24)).size by simp, Array.getElem?_push_size]
      rfl
    · unfold Dt.At
      exact ⟨by unfold I64; omega, by unfold I64; omega, by unfold I64; omega, by unfold maxLen; decide, by simp, none, 0, rfl, Or.inl rfl⟩
  case round =>
    obtain ⟨j, k, n, d, s, l', p', cap', hj, rfl, hsz, hm⟩ := hrel
    have HM := Lib.hid hm
    have hh := hm.2.1
    clear hm
    obtain ⟨c0, c1, c2, c3, c4⟩ := box_cells hh
    cases j with
    | zero =>
      have hr := HM.out.1
      have z0 := box_frozen hr 0
      have z1 := box_frozen hr 1
      have z2 := box_frozen hr 2
      have z3 := box_frozen hr 3
      have z4 := box_frozen hr 4
      obtain ⟨r0, r1, r2, r3, r4⟩ := box_cells hr
      clear hh
      go_wp2_with fail
      have hr2 := set_five (b0 := .int .i64 k) (b1 := .int .i64 n) (b2 := .int .i64 d) (b3 := .string s) (b4 := .slice p' l'.length cap') hr
      refine bodyPost_ret (results_cell_row rfl _ _ w.heap.size 24 _ (0, 0) _ rfl hr2 Tryd.underlying24 rfl Tryd.sizeDt) rfl ?_
      refine ⟨⟨_, rfl, ?_⟩, set_five_below (HM.out).2.2.2.2 (Nat.le_refl _)⟩
      have h1 := (HM.out).2.2.1
      rw [List.drop_zero] at h1
      rw [h1]
      refine (HM.out).2.2.2.1.on fun b o v hv => ?_
      refine off_on (fun b _ hx => (more_no.1 hx).1) (fun b _ hx => set_five_other (more_no.1 hx).2.1) b o v hv
    | succ i =>
      have hi : i < l.length := hj
      obtain ⟨t, ht⟩ : ∃ t, l[i]? = some t := ⟨l[i], by simp [hi]⟩
      rcases HL.out with he | ⟨b, o, rfl, hall⟩
      · rw [he] at hi; simp at hi
      obtain ⟨v0, v1, v2, v3, v4, d0, d1, d2, d3, d4, hta⟩ := (hall.on fun b o v h => cell_on (HM.out).2.2.2.2 b o v (off_cell.1 h).2).kid ht
      obtain ⟨w0, w1, w2, w3, w4, e0, e1, e2, e3, e4, hta0⟩ := hall.kid ht
      replace e0 := (off_cell.1 e0).2
      replace e1 := (off_cell.1 e1).2
      replace e2 := (off_cell.1 e2).2
      replace e3 := (off_cell.1 e3).2
      replace e4 := (off_cell.1 e4).2
      have f0 := cell_on (HM.out).2.2.2.2 _ _ _ e0
      have f1 := cell_on (HM.out).2.2.2.2 _ _ _ e1
      have f2 := cell_on (HM.out).2.2.2.2 _ _ _ e2
      have f3 := cell_on (HM.out).2.2.2.2 _ _ _ e3
      have f4 := cell_on (HM.out).2.2.2.2 _ _ _ e4
      rw [d0] at f0; rw [d1] at f1; rw [d2] at f2; rw [d3] at f3; rw [d4] at f4
      simp only [Option.some.injEq] at f0 f1 f2 f3 f4
      subst f0 f1 f2 f3 f4
      clear e0 e1 e2 e3 e4
      obtain ⟨kt, nt, dt, st, lt, pt, capt, hte, rfl, rfl, rfl, rfl, rfl, _, _⟩ := hta.open5
      have z0 := box_frozen hh 0
      have z1 := box_frozen hh 1
      have z2 := box_frozen hh 2
      have z3 := box_frozen hh 3
      have z4 := box_frozen hh 4
      have e : (((i + 1 : Nat) : Int) - 1) = (i : Int) := by omega
      have HALL := Lib.hid hta0
      have HT := Lib.hid ht
      have HTE := Lib.hid hte
      have HH := Lib.hid hh
      rw [e]
      clear hall hta hta0 hte hh ht e
      go_wp2_with fail
      go_still_tail 5, (by kernel_rfl)
      change wpList _ _ _ _ _ wr.drew
      go_wp2_with fail
      go_roundw
      case rel =>
        have hw0 := (HM.out).1
        have hbw := (HM.out).2.2.2.2
        have hat := (HM.out).2.2.2.1
        have hls := (HM.out).2.2.1
        obtain ⟨O, hO⟩ : ∃ O, Obj.cells #[Value.int IntKind.i64 kt, Value.int IntKind.i64 nt, Value.int IntKind.i64 dt, Value.string st, Value.slice pt lt.length capt, Value.int IntKind.i64 k, Value.int IntKind.i64 n, Value.int IntKind.i64 d, Value.string s, Value.slice p' l'.length cap'] 24 = O := ⟨_, rfl⟩
        obtain ⟨S, hS⟩ : ∃ S, (((((wr.setCell ⟨w.heap.size + 1, 0, none⟩ (.int .i64 6)).setCell ⟨w.heap.size + 1, 1, none⟩ (.int .i64 0)).setCell ⟨w.heap.size + 1, 2, none⟩ (.int .i64 0)).setCell ⟨w.heap.size + 1, 3, none⟩ (.string ⟨#[]⟩)).setCell ⟨w.heap.size + 1, 4, none⟩ (.slice (some ⟨wr.heap.size, 0, none⟩) 2 2)) = S := ⟨_, rfl⟩
        have s1 : S.heap.size = wr.heap.size := by rw [← hS]; exact set_five_size
        have s2 : S.heap[w.heap.size + 1]? = some (.cells #[.int .i64 6, .int .i64 0, .int .i64 0, .string ⟨#[]⟩, .slice (some ⟨wr.heap.size, 0, none⟩) 2 2] 24 (0, 0)) := by rw [← hS]; exact set_five HH.out
        have s3 : ∀ b, b ≠ w.heap.size + 1 → S.heap[b]? = wr.heap[b]? := fun b hb => by rw [← hS]; exact set_five_other hb
        have s4 : Below w.heap.size w S := by rw [← hS]; exact set_five_below hbw (Nat.le_succ _)
        rw [hS, hO]
        have t0 : ∀ b, b < wr.heap.size → (S.alloc O).drew.heap[b]? = S.heap[b]? := fun b hb => Below.heap_alloc S O b (by omega)
        have t1 : (S.alloc O).drew.heap[wr.heap.size]? = some O := by rw [← s1]; exact heap_alloc_new S O
        have t2 : Below w.heap.size w (S.alloc O).drew := (s4.alloc (by omega) O).drew
        have t3 : (S.alloc O).drew.heap.size = wr.heap.size + 1 := by rw [← s1]; show (S.heap.push O).size = _; simp
        refine ⟨i, 6, 0, 0, nil8, [t, Dt.list (l.drop (i + 1))], some ⟨wr.heap.size, 0, none⟩, 2, by omega, rfl, by omega, ?_⟩
        unfold Listed
        refine ⟨?_, ?_, by rw [Dt.drop_at HT.out]; rfl, ?_, t2⟩
        · rw [t0 _ (by omega), s3 _ (by omega)]; exact hw0
        · rw [t0 _ (by omega)]; exact s2
        · have tc : ∀ j v, #[Value.int IntKind.i64 kt, Value.int IntKind.i64 nt, Value.int IntKind.i64 dt, Value.string st, Value.slice pt lt.length capt, Value.int IntKind.i64 k, Value.int IntKind.i64 n, Value.int IntKind.i64 d, Value.string s, Value.slice p' l'.length cap'][j]? = some v → (off (S.alloc O).drew (more X w.heap.size)).cell? ⟨wr.heap.size, j, none⟩ = some v := by
            intro j v hj
            exact off_cell.2 ⟨more_no.2 ⟨HX.out _ (by omega), by omega, by omega⟩, by rw [heap_cell (t1.trans (congrArg some hO.symm))]; exact hj⟩
          unfold Dt.At
          refine ⟨by unfold I64; omega, by unfold I64; omega, by unfold I64; omega, by unfold maxLen; decide, by simp [maxLen], _, _, rfl, Or.inr ⟨_, _, rfl, ?_⟩⟩
          unfold Dt.AllAt
          refine ⟨⟨_, _, _, _, _, tc 0 _ rfl, tc 1 _ rfl, tc 2 _ rfl, tc 3 _ rfl, tc 4 _ rfl, (HALL.out).on (old_off t2)⟩, ?_⟩
          unfold Dt.AllAt
          refine ⟨⟨_, _, _, _, _, tc 5 _ rfl, tc 6 _ rfl, tc 7 _ rfl, tc 8 _ rfl, tc 9 _ rfl, ?_⟩, by unfold Dt.AllAt; trivial⟩
          rw [hls]
          exact hat.on (off_on (fun _ _ hx => hx) fun b hb hx => (t0 b hb).trans (s3 b (more_no.1 hx).2.2))
      case measure => simp [intOf]
end Go.Proofs.YtabofebepefbgaaDoor.Dat
