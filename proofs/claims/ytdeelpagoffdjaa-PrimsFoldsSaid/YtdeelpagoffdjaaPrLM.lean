/- The program's small calls: what they answer. -/
import Derived.Test.YtdeelpagoffdjaaPrK
import Derived.Test.YtdeelpagoffdjaaDatVx

namespace Go.Proofs.Ytdeelpagoffdjaa.Dat
open Go.RowKit
set_option linter.unusedVariables false

theorem Try.sizD : (Try.prog.info? 37).map (·.size) = some 5 := by kernel_rfl
/-- A datum without text and parts, as a value. -/
def leafV (k n d : Int) : Value := .agg #[.int .i64 k, .int .i64 n, .int .i64 d, .string ⟨#[]⟩, .slice none 0 0]

set_option maxRecDepth 100000 in
theorem bad_any (x : Int) (w : World) : Calls Try.prog 45 #[.int .i64 x] w fun e w' => e = .returned (.tuple #[leafV 0 0 0, .int .i64 x]) ∧ Below w.heap.size w w' := by
  go_enter Try.func45, Try.ntmps45
  go_wp2_with fail
  refine bodyPost_ret (results_row1 rfl _ _ w.heap.size 37 _ (0, 0) _ _ rfl rfl (at_new w _) Try.underlying37 rfl Try.sizD) rfl ?_
  exact ⟨rfl, box_below w _⟩

set_option maxRecDepth 100000 in
theorem truth_any (b : Bool) (w : World) : Calls Try.prog 52 #[.bool b] w fun e w' => e = .returned (.tuple #[leafV 1 (if b then 1 else 0) 0, .int .i64 0]) ∧ Below w.heap.size w w' := by
  cases b
  all_goals
    go_enter Try.func52, Try.ntmps52
    go_wp2_with fail
    refine bodyPost_ret (results_row1 rfl _ _ w.heap.size 37 _ (0, 0) _ _ rfl rfl (at_new w _) Try.underlying37 rfl Try.sizD) rfl ?_
    exact ⟨rfl, box_below w _⟩

theorem truth_bit (b : Bool) (x : Int) (hx : (if b = true then (1 : Int) else 0) = x) (w : World) : Calls Try.prog 52 #[.bool b] w fun e w' => e = .returned (.tuple #[.agg #[.int .i64 1, .int .i64 x, .int .i64 0, .string ⟨#[]⟩, .slice none 0 0], .int .i64 0]) ∧ Below w.heap.size w w' := by
  subst hx; exact truth_any b w

set_option maxRecDepth 100000 in
theorem whole_any (x : Int) (w : World) : Calls Try.prog 48 #[.int .i64 x] w fun e w' => e = .returned (leafV 0 x 1) ∧ Below w.heap.size w w' := by
  go_enter Try.func48, Try.ntmps48
  go_wp2_with fail
  refine bodyPost_ret (results_cell_row rfl _ _ w.heap.size 37 _ (0, 0) _ rfl (at_new w _) Try.underlying37 rfl Try.sizD) rfl ?_
  exact ⟨rfl, box_below w _⟩

/-- What num tells of a number, as a value. -/
def numV (x : Int × Int × Int) : Value := if x.2.2 = 0 then .tuple #[leafV 0 x.1 x.2.1, .int .i64 0] else .tuple #[leafV 0 0 0, .int .i64 x.2.2]
set_option maxRecDepth 100000 in
theorem number_any (n d e : Int) (w : World) : Calls Try.prog 58 #[.int .i64 n, .int .i64 d, .int .i64 e] w fun e' w' => e' = .returned (numV (n, d, e)) ∧ Below w.heap.size w w' := by
  by_cases h : e = 0
  · subst h
    go_enter Try.func58, Try.ntmps58
    go_wp2_with fail
    refine bodyPost_ret (results_row1 rfl _ _ w.heap.size 37 _ (0, 0) _ _ rfl rfl (at_new w _) Try.underlying37 rfl Try.sizD) rfl ?_
    exact ⟨rfl, box_below w _⟩
  · have HN := Lib.hid (show numV (n, d, e) = .tuple #[leafV 0 0 0, .int .i64 e] from by unfold numV; rw [if_neg h])
    go_enter Try.func58, Try.ntmps58
    go_wp2_with fail
    refine (bad_any e _).mono ?_
    rintro _ w' ⟨rfl, hb⟩
    have hbx := one_box hb
    have HB := Lib.hid (below_after hb); clear hb
    obtain ⟨c0, c1, c2, c3, c4⟩ := box_cells hbx
    have z0 := box_frozen hbx 0
    have z1 := box_frozen hbx 1
    have z2 := box_frozen hbx 2
    have z3 := box_frozen hbx 3
    have z4 := box_frozen hbx 4
    unfold leafV
    go_wp2_with fail
    refine bodyPost_ret (results_row1 rfl _ _ w.heap.size 37 _ (0, 0) _ _ rfl rfl (set_five hbx) Try.underlying37 rfl Try.sizD) rfl ?_
    exact ⟨by rw [HN.out]; rfl, set_five_below HB.out (Nat.le_refl _)⟩

def headSame (k n d k' n' d' : Int) (s s' : ByteArray) : Bool := decide (k = k') && decide (n = n') && decide (d = d') && decide (s = s')
set_option maxHeartbeats 1000000 in
set_option maxRecDepth 100000 in
theorem palike_any (k n d k' n' d' : Int) (s s' : ByteArray) (p p' : Option Addr) (len len' cap cap' : Nat) (w : World) (hk : I64 k) (hn : I64 n) (hd : I64 d) (hk' : I64 k') (hn' : I64 n') (hd' : I64 d') :
    Calls Try.prog 78 #[.agg #[.int .i64 k, .int .i64 n, .int .i64 d, .string s, .slice p len cap], .agg #[.int .i64 k', .int .i64 n', .int .i64 d', .string s', .slice p' len' cap']] w fun e w' => e = .returned (.bool (headSame k n d k' n' d' s s')) ∧ Below w.heap.size w w' := by
  unfold I64 at hk hn hd hk' hn' hd'
  by_cases h1 : k = k'
  · by_cases h2 : n = n'
    · by_cases h3 : d = d'
      · by_cases h4 : s = s'
        · subst h1 h2 h3 h4
          go_enter Try.func78, Try.ntmps78
          go_wp2_with fail
          go_ret
          exact ⟨ret_bool (by simp [headSame]), two_below w _ _⟩
        · subst h1 h2 h3
          go_enter Try.func78, Try.ntmps78
          go_wp2_with fail
          go_ret
          have q : ¬ s.toList = s'.toList := fun e => h4 (bytes_inj e)
          exact ⟨ret_bool (by simp [headSame, h4, q]), two_below w _ _⟩
      · subst h1 h2
        go_enter Try.func78, Try.ntmps78
        go_wp2_with fail
        go_ret
        exact ⟨ret_bool (by simp [headSame, h3]), two_below w _ _⟩
    · subst h1
      go_enter Try.func78, Try.ntmps78
      go_wp2_with fail
      go_ret
      exact ⟨ret_bool (by simp [headSame, h2]), two_below w _ _⟩
  · go_enter Try.func78, Try.ntmps78
    go_wp2_with fail
    go_ret
    exact ⟨ret_bool (by simp [headSame, h1]), two_below w _ _⟩

set_option maxRecDepth 100000 in
theorem notNum_any (k n d : Int) (s : ByteArray) (p : Option Addr) (len cap : Nat) (w : World) (hk : I64 k) :
    Calls Try.prog 77 #[.agg #[.int .i64 k, .int .i64 n, .int .i64 d, .string s, .slice p len cap]] w fun e w' => e = .returned (.bool (k != 0)) ∧ Below w.heap.size w w' := by
  go_enter Try.func77, Try.ntmps77
  go_wp2_with fail
  go_ret
  exact ⟨rfl, box_below w _⟩
end Go.Proofs.Ytdeelpagoffdjaa.Dat
