/- The program's copied: a datum in new memory. -/
import Derived.Test.YtdeelpagoffdjaaDatVy

namespace Go.Proofs.Ytdeelpagoffdjaa.Dat
open Go.RowKit
set_option linter.unusedVariables false

def CopyAt (t : Dt) : Prop := ∀ (X : Nat → Bool) (v : Value) (w : World), (∀ b, w.heap.size ≤ b → X b = false) → t.At (off w X) v → t.slim →
    Calls Try.prog 56 #[v] w fun e w' => (∃ k n d s p len cap, e = .returned (.agg #[.int .i64 k, .int .i64 n, .int .i64 d, .string s, .slice p len cap]) ∧ t.At (off w' X) (.agg #[.int .i64 k, .int .i64 n, .int .i64 d, .string s, .slice p len cap])) ∧ Below w.heap.size w w'
set_option maxHeartbeats 4000000 in
set_option maxRecDepth 100000 in
theorem pcopied_any (N : Nat) : ∀ t : Dt, t.size ≤ N → CopyAt t := by
  induction N with
  | zero => intro t h; have := t.size_pos; omega
  | succ N ih =>
    intro t hN X v w hX hat hslim
    obtain ⟨k, n, d, s, l⟩ := t
    unfold Dt.At at hat
    obtain ⟨hk, hn, hd, hs, hlm, p, cap, rfl, hl⟩ := hat
    unfold Dt.slim at hslim
    have hsl := Dt.slimAll_iff.1 hslim.2
    have hbt := two_below w (.cells #[.int .i64 k, .int .i64 n, .int .i64 d, .string s, .slice p l.length cap] 37) (.cells #[.int .i64 0, .int .i64 0, .int .i64 0, .string ⟨#[]⟩, .slice none 0 0] 37)
    have HX1 := Lib.hid (two_first w (.cells #[.int .i64 k, .int .i64 n, .int .i64 d, .string s, .slice p l.length cap] 37) (.cells #[.int .i64 0, .int .i64 0, .int .i64 0, .string ⟨#[]⟩, .slice none 0 0] 37))
    have HX2 := Lib.hid (two_second w (.cells #[.int .i64 k, .int .i64 n, .int .i64 d, .string s, .slice p l.length cap] 37) (.cells #[.int .i64 0, .int .i64 0, .int .i64 0, .string ⟨#[]⟩, .slice none 0 0] 37))
    have C := cloneL_any (off w X) l p cap _ hlm hslim.1 (fun b o v hv => cell_on hbt _ _ _ (off_cell.1 hv).2) hl
    have HC := Lib.hid C
    have HBT := Lib.hid hbt
    have HHEAD := Lib.hid (And.intro hk (And.intro hn (And.intro hd (And.intro hs hlm))))
    have IH := Lib.hid (show ∀ t, t ∈ l → CopyAt t from fun t ht => ih t (by obtain ⟨i, hi⟩ := List.mem_iff_getElem?.1 ht; have h1 := Dt.size_kid hi; unfold Dt.size at hN; omega))
    have HSL := Lib.hid hsl
    have HX := Lib.hid hX
    unfold maxLen at hlm
    clear C hbt hl hk hn hd hs ih hN hsl hslim hX
    go_enter Try.func56, Try.ntmps56
    go_wp2_with fail
    refine (HC.out).mono ?_
    rintro _ w1 ⟨⟨p', cap', rfl, hcp⟩, hb1⟩
    have h1 := block_on hb1 HX1.out
    have h2 := block_on hb1 HX2.out
    obtain ⟨c0, c1, c2, c3, c4⟩ := box_cells h1
    have z4 := box_frozen h1 4
    have HS1 := Lib.hid ((heap_setCell_same w1 w.heap.size 4 _ 37 (.slice p' l.length cap') h1).trans (show _ = some (Obj.cells #[.int .i64 k, .int .i64 n, .int .i64 d, .string s, .slice p' l.length cap'] 37 (0, 0)) by simp))
    have HS2 := Lib.hid ((heap_setCell_other w1 ⟨w.heap.size, 4, none⟩ (w.heap.size + 1) (.slice p' l.length cap') (by simp)).trans h2)
    have hB1 : Below w.heap.size w w1 := below_seq HBT.out hb1
    have HB2 := Lib.hid (hB1.setCell (p := ⟨w.heap.size, 4, none⟩) (Nat.le_refl _) (.slice p' l.length cap'))
    have HCP := Lib.hid (show Copy X w.heap.size p' l (w1.setCell ⟨w.heap.size, 4, none⟩ (.slice p' l.length cap')) from by
      rcases hcp with h | ⟨e, hg, cur, hgg, hcs, hrow⟩
      · exact Or.inl h
      · have hg2 : w.heap.size + 2 ≤ gOf p' := by
          have : ((w.alloc (.cells #[.int .i64 k, .int .i64 n, .int .i64 d, .string s, .slice p l.length cap] 37)).alloc (.cells #[.int .i64 0, .int .i64 0, .int .i64 0, .string ⟨#[]⟩, .slice none 0 0] 37)).heap.size = w.heap.size + 2 := by
            show ((w.heap.push _).push _).size = _; simp
          omega
        exact Or.inr ⟨e, hg2, cur, (heap_setCell_other w1 _ _ _ (by show gOf p' ≠ w.heap.size; omega)).trans hgg, hcs, hrow.on (plus_on HB2.out hg2)⟩)
    clear hcp hb1 h1 h2 hB1
    go_wp2_with fail
    go_loopw [12] (fun x wr => ∃ (i : Nat), i ≤ l.length ∧ x = .int .i64 i ∧ wr.heap[w.heap.size]? = some (.cells #[.int .i64 k, .int .i64 n, .int .i64 d, .string s, .slice p' l.length cap'] 37 (0, 0)) ∧
      wr.heap[w.heap.size + 1]? = some (.cells #[.int .i64 0, .int .i64 0, .int .i64 0, .string ⟨#[]⟩, .slice none 0 0] 37 (0, 0)) ∧ Copy X w.heap.size p' l wr ∧ Below w.heap.size w wr) (fun x _ => l.length - (intOf x).toNat)
    case atStart => exact ⟨0, by omega, rfl, HS1.out, HS2.out, HCP.out, HB2.out⟩
    case round =>
      obtain ⟨i, hi, rfl, q1, q2, qc, qb⟩ := hrel
      by_cases hlt : i < l.length
      · obtain ⟨t, ht⟩ : ∃ t, l[i]? = some t := ⟨l[i], by simp [hlt]⟩
        rcases qc with he | ⟨hp', hg2, cur, hgg, hcs, hrow⟩
        · rw [he] at hlt; simp at hlt
        obtain ⟨g, hg⟩ : ∃ g, gOf p' = g := ⟨_, rfl⟩
        rw [hg] at hp' hg2 hgg hrow
        subst hp'
        clear hg
        have hi0 : (0 : Int) ≤ (i : Int) := Int.natCast_nonneg _
        have hi1 : (i : Int) < (l.length : Int) := by omega
        obtain ⟨v0, v1, v2, v3, v4, e0, e1, e2, e3, e4, hta⟩ := hrow i t ht
        have hta0 := hta
        obtain ⟨kt, nt, dt, st, lt, pt, capt, hte, rfl, rfl, rfl, rfl, rfl, _, _⟩ := hta.open5
        have d0 := (cell_of_block hgg (j := i * 5)).trans e0
        have d1 := (cell_of_block hgg (j := i * 5 + 1)).trans e1
        have d2 := (cell_of_block hgg (j := i * 5 + 2)).trans e2
        have d3 := (cell_of_block hgg (j := i * 5 + 3)).trans e3
        have d4 := (cell_of_block hgg (j := i * 5 + 4)).trans e4
        have ltg := lt_of_block hgg
        have hbx := box_below wr (.cells #[.int .i64 kt, .int .i64 nt, .int .i64 dt, .string st, .slice pt lt.length capt] 37)
        have hY : ∀ b, (wr.alloc (.cells #[.int .i64 kt, .int .i64 nt, .int .i64 dt, .string st, .slice pt lt.length capt] 37)).drew.heap.size ≤ b → plus X w.heap.size g b = false := fun b hb => by
          have h1 : wr.heap.size ≤ b := Nat.le_trans hbx.size hb
          have h2 := qb.size
          have h3 := lt_of_block q2
          exact plus_no.2 ⟨HX.out b (by omega), by omega, by omega, by omega⟩
        have C := IH.out t (List.mem_of_getElem? ht) (plus X w.heap.size g) _ (wr.alloc (.cells #[.int .i64 kt, .int .i64 nt, .int .i64 dt, .string st, .slice pt lt.length capt] 37)).drew hY (hta0.on (off_later hbx.drew)) (HSL.out t (List.mem_of_getElem? ht))
        have HC2 := Lib.hid C
        obtain ⟨b0, b1, b2, b3, b4⟩ := box_cells (block_on hbx q1)
        have HG0 := Lib.hid hgg
        have HQ1 := Lib.hid q1
        have HQ2 := Lib.hid q2
        have HQB := Lib.hid qb
        have HROW := Lib.hid hrow
        have HT := Lib.hid ht
        have HCS := Lib.hid hcs
        have HBX := Lib.hid hbx
        have f0 := (show (wr.alloc (.cells #[.int .i64 kt, .int .i64 nt, .int .i64 dt, .string st, .slice pt lt.length capt] 37)).heap[wr.heap.size]? = _ from at_new _ _)
        obtain ⟨x0, x1, x2, x3, x4⟩ := box_cells f0
        clear C hta hta0 hte hY hrow hgg q1 q2 qb e0 e1 e2 e3 e4 ht hcs hbx f0 b0 b1 b2 b3
        go_wp2_with fail
        obtain ⟨W1, hW1⟩ : ∃ W1, wr.alloc (.cells #[.int .i64 kt, .int .i64 nt, .int .i64 dt, .string st, .slice pt lt.length capt] 37) = W1 := ⟨_, rfl⟩
        rw [hW1] at HC2 HBX b4 x0 x1 x2 x3 x4 ⊢
        clear hW1
        have n1 : w.heap.size ≠ g := by omega
        have n3 : wr.heap.size ≠ g := by omega
        go_region_held3 (fun w' => w'.cell? ⟨w.heap.size, 4, none⟩ = some (.slice (some ⟨g, 0, none⟩) l.length cap') ∧ w'.cell? ⟨wr.heap.size, 0, none⟩ = some (.int .i64 kt) ∧ w'.cell? ⟨wr.heap.size, 1, none⟩ = some (.int .i64 nt) ∧ w'.cell? ⟨wr.heap.size, 2, none⟩ = some (.int .i64 dt) ∧ w'.cell? ⟨wr.heap.size, 3, none⟩ = some (.string st) ∧ w'.cell? ⟨wr.heap.size, 4, none⟩ = some (.slice pt lt.length capt))
          (first | (refine ⟨?_, ?_, ?_, ?_, ?_, ?_⟩ <;> with_reducible assumption) | (refine ⟨?_, ?_, ?_, ?_, ?_, ?_⟩ <;> ((with_reducible refine (cell_set5 ?_).trans ?_) <;> with_reducible assumption)) | exact ⟨b4, x0, x1, x2, x3, x4⟩)
          ((go_at_call 56; refine (HC2.out).mono ?_; rintro _ w2 ⟨⟨ku, nu, du, su, pu, lenu, capu, rfl, hu⟩, hb2⟩
            have hbb : Below wr.heap.size wr w2 := below_seq HBX.out.drew hb2
            have hg3 := block_on hbb HG0.out
            have k0 : w2.cell? ⟨w.heap.size, 4, none⟩ = some (.slice (some ⟨g, 0, none⟩) l.length cap') := cell_on hb2 _ _ _ b4
            have k2 : w2.cell? ⟨wr.heap.size, 0, none⟩ = some (.int .i64 kt) := cell_on hb2 _ _ _ x0
            have k3 : w2.cell? ⟨wr.heap.size, 1, none⟩ = some (.int .i64 nt) := cell_on hb2 _ _ _ x1
            have k4 : w2.cell? ⟨wr.heap.size, 2, none⟩ = some (.int .i64 dt) := cell_on hb2 _ _ _ x2
            have k5 : w2.cell? ⟨wr.heap.size, 3, none⟩ = some (.string st) := cell_on hb2 _ _ _ x3
            have k6 : w2.cell? ⟨wr.heap.size, 4, none⟩ = some (.slice pt lt.length capt) := cell_on hb2 _ _ _ x4
            have y0 := cell_on hbb _ _ _ d0
            have y1 := cell_on hbb _ _ _ d1
            have y2 := cell_on hbb _ _ _ d2
            have y3 := cell_on hbb _ _ _ d3
            have y4 := cell_on hbb _ _ _ d4
            have z0 := box_frozen hg3 (i * 5)
            have z1 := box_frozen hg3 (i * 5 + 1)
            have z2 := box_frozen hg3 (i * 5 + 2)
            have z3 := box_frozen hg3 (i * 5 + 3)
            have z4 := box_frozen hg3 (i * 5 + 4)
            have HG3 := Lib.hid hg3
            have HBB := Lib.hid hbb
            have HU := Lib.hid hu
            clear hg3 hbb hu hb2))
        go_wp2_with fail
        go_roundw
        case rel =>
          have hq1 := block_on HBB.out HQ1.out
          have hq2 := block_on HBB.out HQ2.out
          have hqb := below_seq HQB.out HBB.out
          have hne1 : w.heap.size ≠ g := by omega
          have hne2 : w.heap.size + 1 ≠ g := by omega
          have hst : ∀ b, b ≠ g → (((((w2.setCell ⟨g, i * 5, none⟩ (.int .i64 ku)).setCell ⟨g, i * 5 + 1, none⟩ (.int .i64 nu)).setCell ⟨g, i * 5 + 2, none⟩ (.int .i64 du)).setCell ⟨g, i * 5 + 3, none⟩ (.string su)).setCell ⟨g, i * 5 + 4, none⟩ (.slice pu lenu capu)).heap[b]? = w2.heap[b]? := fun b hb => set_five_at_other hb
          have hoff := fun (b o : Nat) (v : Value) (hv : (off w2 (plus X w.heap.size g)).cell? ⟨b, o, none⟩ = some v) => off_on (w' := ((((w2.setCell ⟨g, i * 5, none⟩ (.int .i64 ku)).setCell ⟨g, i * 5 + 1, none⟩ (.int .i64 nu)).setCell ⟨g, i * 5 + 2, none⟩ (.int .i64 du)).setCell ⟨g, i * 5 + 3, none⟩ (.string su)).setCell ⟨g, i * 5 + 4, none⟩ (.slice pu lenu capu)) (X := plus X w.heap.size g) (Y := plus X w.heap.size g) (fun _ _ hx => hx) (fun b _ hx => hst b (plus_no.1 hx).2.2.2) b o v hv
          refine ⟨i + 1, by omega, by go_num, (hst _ hne1).trans hq1, (hst _ hne2).trans hq2, Or.inr ⟨rfl, hg2, _, set_five_at HG3.out, by simpa using HCS.out, ?_⟩, ?_⟩
          · exact ((HROW.out).on (off_later HBB.out) |>.on hoff).set HT.out HCS.out ((HU.out).on hoff)
          · exact ((((hqb.setCell (by show w.heap.size ≤ g; omega) _).setCell (by show w.heap.size ≤ g; omega) _).setCell (by show w.heap.size ≤ g; omega) _).setCell (by show w.heap.size ≤ g; omega) _).setCell (by show w.heap.size ≤ g; omega) _
        case measure => simp [intOf]; omega
      · obtain ⟨c0, c1, c2, c3, c4⟩ := box_cells q1
        have z0 := box_frozen q2 0
        have z1 := box_frozen q2 1
        have z2 := box_frozen q2 2
        have z3 := box_frozen q2 3
        have z4 := box_frozen q2 4
        obtain ⟨r0, r1, r2, r3, r4⟩ := box_cells q2
        have HQ2 := Lib.hid q2
        have HQC := Lib.hid qc
        have HQB := Lib.hid qb
        clear q1 q2 qc qb
        go_wp2_with fail
        have hr2 := set_five (b0 := .int .i64 k) (b1 := .int .i64 n) (b2 := .int .i64 d) (b3 := .string s) (b4 := .slice p' l.length cap') HQ2.out
        refine bodyPost_ret (results_cell_row rfl _ _ (w.heap.size + 1) 37 _ (0, 0) _ rfl hr2 Try.underlying37 rfl Try.cellDt) rfl ?_
        refine ⟨⟨k, n, d, s, p', l.length, cap', rfl, ?_⟩, set_five_below HQB.out (Nat.le_succ _)⟩
        unfold Dt.At
        refine ⟨HHEAD.out.1, HHEAD.out.2.1, HHEAD.out.2.2.1, HHEAD.out.2.2.2.1, HHEAD.out.2.2.2.2, p', cap', rfl, ?_⟩
        rcases HQC.out with h | ⟨e, hg2, cur, hgg, hcs, hrow⟩
        · exact Or.inl h
        · have hgX : X (gOf p') = false := HX.out _ (by omega)
          have hst : ∀ b, b ≠ w.heap.size + 1 → (((((wr.setCell ⟨w.heap.size + 1, 0, none⟩ (.int .i64 k)).setCell ⟨w.heap.size + 1, 1, none⟩ (.int .i64 n)).setCell ⟨w.heap.size + 1, 2, none⟩ (.int .i64 d)).setCell ⟨w.heap.size + 1, 3, none⟩ (.string s)).setCell ⟨w.heap.size + 1, 4, none⟩ (.slice p' l.length cap')).heap[b]? = wr.heap[b]? := fun b hb => set_five_other hb
          refine Or.inr ⟨gOf p', 0, e, RowIs.allAt (cur := cur) (fun j u hj => off_cell.2 ⟨hgX, ?_⟩) (hrow.on (off_on (fun b _ hx => (plus_no.1 hx).1) fun b _ hx => hst b (plus_no.1 hx).2.2.1))⟩
          rw [cell_of_block ((hst _ (by omega)).trans hgg)]
          exact hj
end Go.Proofs.Ytdeelpagoffdjaa.Dat
