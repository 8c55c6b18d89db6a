/- The law PrimsNames. -/
import Derived.Test.YtdeelpagoffdjaaPwAM

namespace Go.Proofs.Ytdeelpagoffdjaa.Dat
open Go.RowKit
set_option linter.unusedVariables false

set_option maxHeartbeats 4000000 in
set_option maxRecDepth 100000 in
theorem names_none (n m : Int) (hn : I64 n) (hm : I64 m) (h : factOf n = none) (w : World) : Calls Try.prog 5 #[.int .i64 n, .int .i64 m] w fun e w' => e = .returned (.bool true) ∧ Below w.heap.size w w' := by
  have F := fun W => Facts_any n hn W
  rw [h] at F
  unfold factV noF Fc.val at F
  have HF := Lib.hid F
  obtain ⟨gn, gl, gm, gp, gf, gi, hG⟩ : ∃ gn gl gm gp gf gi, ∀ W, Calls Try.prog 11 #[.int .i64 m] W fun e w' => e = .returned (.tuple #[.agg #[.string gn, .int .i64 gl, .int .i64 gm, .bool gp, .bool gf], .bool gi]) ∧ Below W.heap.size W w' := by
    cases hg : factOf m with
    | none => exact ⟨_, _, _, _, _, _, fun W => by have := Facts_any m hm W; rw [hg] at this; exact this⟩
    | some g =>
      obtain ⟨gn, gl, gm, gp, gf⟩ := g
      exact ⟨gn, gl, gm, gp, gf, true, fun W => by have := Facts_any m hm W; rw [hg] at this; exact this⟩
  have HG := Lib.hid hG
  have hc := factOf_none.1 h
  unfold I64 at hn
  clear F hG h hm
  rcases Decidable.em (n < 0) with h0 | h0
  all_goals
    try have h1 : 30 < n := by omega
    clear hc
    go_enter Try.func5, Try.ntmps5
    go_wp2_with fail
    refine (awake5_any _).mono ?_
    rintro _ w1 ⟨rfl, hb1⟩
    have HB1 := Lib.hid hb1; clear hb1
    go_wp2_with fail
    refine (HF.out _).mono ?_
    rintro _ w2 ⟨rfl, hb2⟩
    have HB2 := Lib.hid (below_seq HB1.out (below_seq hb2 (box_below w2 (Obj.cells #[.string ⟨#[]⟩, .int .i64 0, .int .i64 0, .bool false, .bool false] 24)))); clear hb2
    go_wp2_with fail
    refine (HG.out _).mono ?_
    rintro _ w3 ⟨rfl, hb3⟩
    have HB3 := Lib.hid (below_seq HB2.out (below_seq hb3 (box_below w3 (Obj.cells #[.string gn, .int .i64 gl, .int .i64 gm, .bool gp, .bool gf] 24)))); clear hb3
    go_wp2_with fail
    go_ret
    exact ⟨rfl, HB3.out⟩
end Go.Proofs.Ytdeelpagoffdjaa.Dat
