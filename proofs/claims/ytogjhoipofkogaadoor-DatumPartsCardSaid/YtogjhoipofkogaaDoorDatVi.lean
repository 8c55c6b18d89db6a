/- The program's own copied. -/
import Derived.Test.YtogjhoipofkogaaDoorDatVh
namespace Go.Proofs.YtogjhoipofkogaaDoor.Dat
open Go.RowKit
set_option linter.unusedVariables false

set_option maxHeartbeats 2000000 in
set_option maxRecDepth 100000 in
/-- A copy of a datum is the datum. -/
theorem copied_any (t : Dt) (X : Nat → Bool) (v : Value) (w : World) (hX : ∀ b, w.heap.size ≤ b → X b = false) (hat : t.At (off w X) v) (hslim : t.slim) :
    Calls Tryd.prog 36 #[v] w fun e w' => (∃ k n d s p len cap, e = .returned (.agg #[.int .i64 k, .int .i64 n, .int .i64 d, .string s, .slice p len cap]) ∧ t.At (off w' X) (.agg #[.int .i64 k, .int .i64 n, .int .i64 d, .string s, .slice p len cap])) ∧ Below w.heap.size w w' := by
  have hmf : ∀ (fn : Fn) (first cap : Array Value) (w : World), (Instr.makeFunc fn first cap).run Tryd.prog w = .ok (.func fn first cap) w := fun _ _ _ _ => rfl
  have hatw : t.At w v := hat.on fun b o v hv => (off_cell.1 hv).2
  have C1 := fun w' (h : Below w.heap.size w w') => all58_any _ hold58 t v w' (hatw.below h)
  have C2 := fun w' (h : Below w.heap.size w w') (hsz : w.heap.size + 2 ≤ w'.heap.size) Ba ha => anew_any _ t (Nat.le_refl _) (more X w.heap.size) v w' Ba (fun b hb => more_no.2 ⟨hX b (Nat.le_trans h.size hb), by omega, by omega⟩) (hat.on (old_off h)) hslim ha
  have HAT := Lib.hid hat
  obtain ⟨r, hr⟩ : ∃ r, t.whole (fun _ => true) 0 = r := ⟨_, rfl⟩
  rw [hr] at C1
  have HC1 := Lib.hid C1
  have HC2 := Lib.hid C2
  clear C1 C2 hr hatw hX hslim
  obtain ⟨k, n, d, s, l⟩ := t
  unfold Dt.At at hat
  obtain ⟨hk, hn, hd, hs, hlm, p, cap, rfl, hl⟩ := hat
  clear hk hn hd hs hlm hl
  have HBT := Lib.hid (two_below w (.cells #[.int .i64 k, .int .i64 n, .int .i64 d, .string s, .slice p l.length cap] 24) (.cells #[.int .i64 0, .int .i64 0, .int .i64 0, .string ⟨#[]⟩, .slice none 0 0] 24))
  have HX1 := Lib.hid (two_first w (.cells #[.int .i64 k, .int .i64 n, .int .i64 d, .string s, .slice p l.length cap] 24) (.cells #[.int .i64 0, .int .i64 0, .int .i64 0, .string ⟨#[]⟩, .slice none 0 0] 24))
  have HX2 := Lib.hid (two_second w (.cells #[.int .i64 k, .int .i64 n, .int .i64 d, .string s, .slice p l.length cap] 24) (.cells #[.int .i64 0, .int .i64 0, .int .i64 0, .string ⟨#[]⟩, .slice none 0 0] 24))
  go_enter Tryd.func36, Tryd.ntmps36
  go_wp2_with fail
  refine (HC1.out _ HBT.out).mono ?_
  rintro _ w1 ⟨rfl, hb1⟩
  have h1 := block_on hb1 HX1.out
  have h2 := block_on hb1 HX2.out
  have HB1 := Lib.hid (below_seq HBT.out hb1); clear hb1
  cases r
  · obtain ⟨c0, c1, c2, c3, c4⟩ := box_cells h1
    have z0 := box_frozen h2 0
    have z1 := box_frozen h2 1
    have z2 := box_frozen h2 2
    have z3 := box_frozen h2 3
    have z4 := box_frozen h2 4
    obtain ⟨r0, r1, r2, r3, r4⟩ := box_cells h2
    have H2 := Lib.hid h2
    clear h1 h2
    go_wp2_with fail
    have hr2 := set_five (b0 := .int .i64 k) (b1 := .int .i64 n) (b2 := .int .i64 d) (b3 := .string s) (b4 := .slice p l.length cap) H2.out
    refine bodyPost_ret (results_cell_row rfl _ _ (w.heap.size + 1) 24 _ (0, 0) _ rfl hr2 Tryd.underlying24 rfl Tryd.cellDt) rfl ?_
    refine ⟨⟨k, n, d, s, p, l.length, cap, rfl, (HAT.out).on (off_later (set_five_below HB1.out (Nat.le_succ _)))⟩, set_five_below HB1.out (Nat.le_succ _)⟩
  · have hb2 := box_below w1 (.cells #[anewF w1.heap.size] 44)
    have h1' := block_on hb2 h1
    have h2' := block_on hb2 h2
    obtain ⟨c0, c1, c2, c3, c4⟩ := box_cells h1'
    have HB2 := Lib.hid (below_seq HB1.out hb2)
    have H2 := Lib.hid h2'
    have hnew := at_new w1 (.cells #[anewF w1.heap.size] 44)
    have HNEW := Lib.hid (cell_of_one hnew)
    have HSZ := Lib.hid (show w.heap.size + 2 ≤ (w1.alloc (.cells #[anewF w1.heap.size] 44)).heap.size from by have := lt_of_block h2'; omega)
    clear h1 h2 hb2 h1' h2' hnew
    go_wp2_with fail
    refine (HC2.out _ HB2.out HSZ.out w1.heap.size HNEW.out).mono ?_
    rintro _ w2 ⟨⟨ku, nu, du, su, pu, lenu, capu, rfl, hu⟩, hb3⟩
    have h2 := block_on hb3 H2.out
    have z0 := box_frozen h2 0
    have z1 := box_frozen h2 1
    have z2 := box_frozen h2 2
    have z3 := box_frozen h2 3
    have z4 := box_frozen h2 4
    obtain ⟨r0, r1, r2, r3, r4⟩ := box_cells h2
    have H3 := Lib.hid h2
    have HB3 := Lib.hid (below_seq HB2.out hb3)
    have HU := Lib.hid hu
    clear h2 hb3 hu c0 c1 c2 c3 c4
    go_wp2_with fail
    have hr2 := set_five (b0 := .int .i64 ku) (b1 := .int .i64 nu) (b2 := .int .i64 du) (b3 := .string su) (b4 := .slice pu lenu capu) H3.out
    refine bodyPost_ret (results_cell_row rfl _ _ (w.heap.size + 1) 24 _ (0, 0) _ rfl hr2 Tryd.underlying24 rfl Tryd.cellDt) rfl ?_
    refine ⟨⟨ku, nu, du, su, pu, lenu, capu, rfl, ?_⟩, set_five_below HB3.out (Nat.le_succ _)⟩
    exact (HU.out).on (off_on (fun b _ hx => (more_no.1 hx).1) fun b _ hx => set_five_other (more_no.1 hx).2.2)
end Go.Proofs.YtogjhoipofkogaaDoor.Dat
