/- The program's kind, eq, at. -/
import Derived.Test.YtdeelpagoffdjaaPrLM
import Derived.Test.YtdeelpagoffdjaaPrBM
import Derived.Test.YtdeelpagoffdjaaPrCM
import Derived.StillTailTactics
import Derived.Deep.Cut
import Derived.Test.YtdeelpagoffdjaaDatVeM


namespace Go.Proofs.Ytdeelpagoffdjaa.Dat
open Go.RowKit
set_option linter.unusedVariables false

theorem kind9 (w : World) : Calls Try.prog 60 #[.int .i64 9] w fun e w' => e = .returned (.int .i64 (kindOf 9)) ∧ Below w.heap.size w w' := by
  go_enter Try.func60, Try.ntmps60
  go_wp2_with fail
  go_ret
  exact ⟨rfl, Below.refl _ _⟩
theorem kind10 (w : World) : Calls Try.prog 60 #[.int .i64 10] w fun e w' => e = .returned (.int .i64 (kindOf 10)) ∧ Below w.heap.size w w' := by
  go_enter Try.func60, Try.ntmps60
  go_wp2_with fail
  go_ret
  exact ⟨rfl, Below.refl _ _⟩
theorem kind11 (w : World) : Calls Try.prog 60 #[.int .i64 11] w fun e w' => e = .returned (.int .i64 (kindOf 11)) ∧ Below w.heap.size w w' := by
  go_enter Try.func60, Try.ntmps60
  go_wp2_with fail
  go_ret
  exact ⟨rfl, Below.refl _ _⟩
theorem kind12 (w : World) : Calls Try.prog 60 #[.int .i64 12] w fun e w' => e = .returned (.int .i64 (kindOf 12)) ∧ Below w.heap.size w w' := by
  go_enter Try.func60, Try.ntmps60
  go_wp2_with fail
  go_ret
  exact ⟨rfl, Below.refl _ _⟩
theorem kind13 (w : World) : Calls Try.prog 60 #[.int .i64 13] w fun e w' => e = .returned (.int .i64 (kindOf 13)) ∧ Below w.heap.size w w' := by
  go_enter Try.func60, Try.ntmps60
  go_wp2_with fail
  go_ret
  exact ⟨rfl, Below.refl _ _⟩
theorem kind14 (w : World) : Calls Try.prog 60 #[.int .i64 14] w fun e w' => e = .returned (.int .i64 (kindOf 14)) ∧ Below w.heap.size w w' := by
  go_enter Try.func60, Try.ntmps60
  go_wp2_with fail
  go_ret
  exact ⟨rfl, Below.refl _ _⟩
theorem kind15 (w : World) : Calls Try.prog 60 #[.int .i64 15] w fun e w' => e = .returned (.int .i64 (kindOf 15)) ∧ Below w.heap.size w w' := by
  go_enter Try.func60, Try.ntmps60
  go_wp2_with fail
  go_ret
  exact ⟨rfl, Below.refl _ _⟩

theorem eqB_at {k n d : Int} {s : ByteArray} {l : List Dt} {k' n' d' : Int} {s' : ByteArray} {l' : List Dt} : eqB (.node k n d s l) (.node k' n' d' s' l') = (decide (k ≠ 3 ∧ k ≠ 6 ∧ k ≠ 7) && headSame k n d k' n' d' s s') := rfl
set_option maxHeartbeats 1000000 in
set_option maxRecDepth 100000 in
theorem eq_in (K n d k' n' d' : Int) (s s' : ByteArray) (p p' : Option Addr) (len len' cap cap' : Nat) (w : World) (hK : K = 0 ∨ K = 1 ∨ K = 2 ∨ K = 4 ∨ K = 5) (hn : I64 n) (hd : I64 d) (hk' : I64 k') (hn' : I64 n') (hd' : I64 d') :
    Calls Try.prog 53 #[.agg #[.int .i64 K, .int .i64 n, .int .i64 d, .string s, .slice p len cap], .agg #[.int .i64 k', .int .i64 n', .int .i64 d', .string s', .slice p' len' cap']] w fun e w' => e = .returned (.bool (headSame K n d k' n' d' s s')) ∧ Below w.heap.size w w' := by
  have P := palike_any K n d k' n' d' s s' p p' len len' cap cap' ((w.alloc (Obj.cells #[.int .i64 K, .int .i64 n, .int .i64 d, .string s, .slice p len cap] 37)).alloc (Obj.cells #[.int .i64 k', .int .i64 n', .int .i64 d', .string s', .slice p' len' cap'] 37)) (by unfold I64; omega) hn hd hk' hn' hd'
  obtain ⟨r, hr⟩ : ∃ r, headSame K n d k' n' d' s s' = r := ⟨_, rfl⟩
  rw [hr] at P ⊢
  have hB := two_below w (Obj.cells #[.int .i64 K, .int .i64 n, .int .i64 d, .string s, .slice p len cap] 37) (Obj.cells #[.int .i64 k', .int .i64 n', .int .i64 d', .string s', .slice p' len' cap'] 37)
  rcases hK with rfl | rfl | rfl | rfl | rfl
  all_goals
    have HP := Lib.hid P
    have HB := Lib.hid hB
    clear hB P hr hn hd hk' hn' hd'
    go_enter Try.func53, Try.ntmps53
    go_wp2_with fail
    refine HP.out.mono ?_
    rintro _ w1 ⟨rfl, hb⟩
    have HB1 := Lib.hid (below_seq HB.out hb); clear hb
    go_wp2_with fail
    go_ret
    exact ⟨rfl, HB1.out⟩
set_option maxHeartbeats 1000000 in
set_option maxRecDepth 100000 in
theorem eq_out (K n d k' n' d' : Int) (s s' : ByteArray) (p p' : Option Addr) (len len' cap cap' : Nat) (w : World) (hK : K = 3 ∨ K = 6 ∨ K = 7) :
    Calls Try.prog 53 #[.agg #[.int .i64 K, .int .i64 n, .int .i64 d, .string s, .slice p len cap], .agg #[.int .i64 k', .int .i64 n', .int .i64 d', .string s', .slice p' len' cap']] w fun e w' => e = .returned (.bool false) ∧ Below w.heap.size w w' := by
  rcases hK with rfl | rfl | rfl
  all_goals
    go_enter Try.func53, Try.ntmps53
    go_wp2_with fail
    go_ret
    exact ⟨rfl, two_below w _ _⟩
theorem eq_any (t u : Dt) (v v' : Value) (w : World) (hk : 0 ≤ t.kd ∧ t.kd ≤ 7) (hat : t.At w v) (hat' : u.At w v') :
    Calls Try.prog 53 #[v, v'] w fun e w' => e = .returned (.bool (eqB t u)) ∧ Below w.heap.size w w' := by
  obtain ⟨k, n, d, s, l⟩ := t
  obtain ⟨k', n', d', s', l'⟩ := u
  unfold Dt.At at hat hat'
  obtain ⟨-, hn, hd, -, -, p, cap, rfl, -⟩ := hat
  obtain ⟨hk', hn', hd', -, -, p', cap', rfl, -⟩ := hat'
  rw [eqB_at]
  have hk2 : 0 ≤ k ∧ k ≤ 7 := hk
  by_cases h : k = 3 ∨ k = 6 ∨ k = 7
  · rw [show decide (k ≠ 3 ∧ k ≠ 6 ∧ k ≠ 7) = false from decide_eq_false (by omega), Bool.false_and]
    exact eq_out k n d k' n' d' s s' p p' _ _ cap cap' w h
  · rw [show decide (k ≠ 3 ∧ k ≠ 6 ∧ k ≠ 7) = true from decide_eq_true (by omega), Bool.true_and]
    exact eq_in k n d k' n' d' s s' p p' _ _ cap cap' w (by omega) hn hd hk' hn' hd'
/-- A datum in new memory, of whatever world. -/
theorem pcopied_at (t : Dt) (v : Value) (w : World) (hs : t.slim) (hat : t.At w v) :
    Calls Try.prog 56 #[v] w fun e w' => (∃ k n d s p len cap, e = .returned (.agg #[.int .i64 k, .int .i64 n, .int .i64 d, .string s, .slice p len cap]) ∧ t.At w' (.agg #[.int .i64 k, .int .i64 n, .int .i64 d, .string s, .slice p len cap])) ∧ Below w.heap.size w w' := by
  refine (pcopied_any t.size t (Nat.le_refl _) (fun _ => false) v w (fun _ _ => rfl) (hat.on fun b o x h => off_cell.2 ⟨rfl, h⟩) hs).mono fun e w' ⟨⟨k, n, d, s, p, len, cap, he, ht⟩, hb⟩ => ?_
  exact ⟨⟨k, n, d, s, p, len, cap, he, ht.on fun b o x h => (off_cell.1 h).2⟩, hb⟩
end Go.Proofs.Ytdeelpagoffdjaa.Dat

/- The program's at. -/
namespace Go.Proofs.Ytdeelpagoffdjaa.Dat
open Go.RowKit
set_option linter.unusedVariables false

/-- It answers this datum and this end. -/
def Gives (r : Dt × Int) (e : Ending) (w' : World) : Prop := ∃ k n d s p len cap, e = .returned (.tuple #[.agg #[.int .i64 k, .int .i64 n, .int .i64 d, .string s, .slice p len cap], .int .i64 r.2]) ∧ r.1.At w' (.agg #[.int .i64 k, .int .i64 n, .int .i64 d, .string s, .slice p len cap])
theorem leaf_at (w : World) (k n d : Int) (hk : I64 k) (hn : I64 n) (hd : I64 d) (p : Option Addr) (cap : Nat) : (Dt.node k n d ⟨#[]⟩ []).At w (.agg #[.int .i64 k, .int .i64 n, .int .i64 d, .string ⟨#[]⟩, .slice p 0 cap]) := by
  unfold Dt.At
  exact ⟨hk, hn, hd, by unfold maxLen; decide, by unfold maxLen; decide, p, cap, rfl, Or.inl rfl⟩
theorem gives_leaf {w : World} {k n d e : Int} (hk : I64 k) (hn : I64 n) (hd : I64 d) (p : Option Addr) (cap : Nat) {x : Ending} (hx : x = .returned (.tuple #[.agg #[.int .i64 k, .int .i64 n, .int .i64 d, .string ⟨#[]⟩, .slice p 0 cap], .int .i64 e])) : Gives (.node k n d ⟨#[]⟩ [], e) x w :=
  ⟨k, n, d, ⟨#[]⟩, p, 0, cap, hx, leaf_at w k n d hk hn hd p cap⟩
theorem i64_lit0 : I64 0 := by unfold I64; omega
theorem gives_zero {w : World} {e : Int} {x : Ending} (hx : x = .returned (.tuple #[.agg #[.int .i64 0, .int .i64 0, .int .i64 0, .string ⟨#[]⟩, .slice none 0 0], .int .i64 e])) : Gives (zeroD, e) x w := gives_leaf i64_lit0 i64_lit0 i64_lit0 none 0 hx
theorem two_blocks (w : World) (a b : Obj) {W : World} (hW : (w.alloc a).alloc b = W) : W.heap[w.heap.size]? = some a ∧ W.heap[w.heap.size + 1]? = some b ∧ Below w.heap.size w W := by
  subst hW; exact ⟨two_first w a b, two_second w a b, two_below w a b⟩
/-- A datum in new memory, while a block is kept off. -/
theorem pcopied_off (t : Dt) (v : Value) (W : World) (B : Nat) (hB : B < W.heap.size) (hs : t.slim) (hat : t.At (off W (just B)) v) :
    Calls Try.prog 56 #[v] W fun e w' => (∃ k n d s p len cap, e = .returned (.agg #[.int .i64 k, .int .i64 n, .int .i64 d, .string s, .slice p len cap]) ∧ t.At (off w' (just B)) (.agg #[.int .i64 k, .int .i64 n, .int .i64 d, .string s, .slice p len cap])) ∧ Below W.heap.size W w' :=
  pcopied_any t.size t (Nat.le_refl _) (just B) v W (fun b h => by simp only [just]; rw [beq_eq_false_iff_ne]; omega) hat hs
theorem at_five {t : Dt} {v : Value} {w : World} {B : Nat} {b0 b1 b2 b3 b4 : Value} (h : t.At (off w (just B)) v) : t.At (((((w.setCell ⟨B, 0, none⟩ b0).setCell ⟨B, 1, none⟩ b1).setCell ⟨B, 2, none⟩ b2).setCell ⟨B, 3, none⟩ b3).setCell ⟨B, 4, none⟩ b4) v :=
  h.on fun b o x h => (World.cell?_of_block (set_five_other (by have := (off_cell.1 h).1; simpa using this))).trans (off_cell.1 h).2
theorem below_off {w W : World} {B : Nat} (kb : Below w.heap.size w W) (hB : w.heap.size ≤ B) (b o : Nat) (x : Value) (h : w.cell? ⟨b, o, none⟩ = some x) : (off W (just B)).cell? ⟨b, o, none⟩ = some x :=
  off_cell.2 ⟨by have := cell_lt h; simp only [just]; rw [beq_eq_false_iff_ne]; omega, cell_on kb _ _ _ h⟩
set_option maxHeartbeats 2000000 in
set_option maxRecDepth 100000 in
theorem at_bad (l : List Dt) (p : Option Addr) (cap : Nat) (k n d : Int) (s : ByteArray) (q : Option Addr) (len cq : Nat) (w : World) (hlm : l.length ≤ maxLen) (hn : I64 n) (hd : I64 d) (h : d ≠ 1 ∨ n < 0 ∨ (l.length : Int) ≤ n) :
    Calls Try.prog 57 #[.slice p l.length cap, .agg #[.int .i64 k, .int .i64 n, .int .i64 d, .string s, .slice q len cq]] w fun e w' => e = .returned (.tuple #[leafV 0 0 0, .int .i64 3]) ∧ Below w.heap.size w w' := by
  unfold maxLen at hlm
  unfold I64 at hn hd
  have hcase : (d ≠ 1) ∨ (d = 1 ∧ n < 0) ∨ (d = 1 ∧ ¬ n < 0 ∧ (l.length : Int) ≤ n) := by omega
  clear h
  rcases hcase with h | ⟨rfl, h⟩ | ⟨rfl, h0, h⟩
  · have q1 : (d != 1) = true := by rw [bne_iff_ne]; exact h
    go_enter Try.func57, Try.ntmps57
    go_upto_region 1 with fail
    obtain ⟨W, hW⟩ : ∃ W, (w.alloc (Obj.cells #[.int .i64 k, .int .i64 n, .int .i64 d, .string s, .slice q len cq] 37)).alloc (Obj.cells #[.int .i64 0, .int .i64 0, .int .i64 0, .string ⟨#[]⟩, .slice none 0 0] 37) = W := ⟨_, rfl⟩
    obtain ⟨k0, k1, kb⟩ := two_blocks w _ _ hW
    rw [hW]
    obtain ⟨a0, a1, a2, a3, a4⟩ := box_cells k0
    have B := bad_any 3 W
    unfold leafV at B
    have HBD := Lib.hid B
    have HK := Lib.hid (And.intro k1 kb)
    clear k0 k1 kb hW B
    go_wp2_with fail
    refine HBD.out.mono ?_
    rintro _ w1 ⟨rfl, hb⟩
    have hbx := block_on hb HK.out.1
    have H1 := Lib.hid (And.intro hbx (below_seq HK.out.2 hb))
    obtain ⟨c0, c1, c2, c3, c4⟩ := box_cells hbx
    have z0 := box_frozen hbx 0
    have z1 := box_frozen hbx 1
    have z2 := box_frozen hbx 2
    have z3 := box_frozen hbx 3
    have z4 := box_frozen hbx 4
    clear hbx hb
    go_wp2_with fail
    refine bodyPost_ret (results_row1 rfl _ _ (w.heap.size + 1) 37 _ (0, 0) _ _ rfl rfl (set_five H1.out.1) Try.underlying37 rfl Try.sizD) rfl ?_
    exact ⟨rfl, set_five_below H1.out.2 (by omega)⟩
  · go_enter Try.func57, Try.ntmps57
    go_upto_region 1 with fail
    obtain ⟨W, hW⟩ : ∃ W, (w.alloc (Obj.cells #[.int .i64 k, .int .i64 n, .int .i64 1, .string s, .slice q len cq] 37)).alloc (Obj.cells #[.int .i64 0, .int .i64 0, .int .i64 0, .string ⟨#[]⟩, .slice none 0 0] 37) = W := ⟨_, rfl⟩
    obtain ⟨k0, k1, kb⟩ := two_blocks w _ _ hW
    rw [hW]
    obtain ⟨a0, a1, a2, a3, a4⟩ := box_cells k0
    have B := bad_any 3 W
    unfold leafV at B
    have HBD := Lib.hid B
    have HK := Lib.hid (And.intro k1 kb)
    clear k0 k1 kb hW B
    go_wp2_with fail
    refine HBD.out.mono ?_
    rintro _ w1 ⟨rfl, hb⟩
    have hbx := block_on hb HK.out.1
    have H1 := Lib.hid (And.intro hbx (below_seq HK.out.2 hb))
    obtain ⟨c0, c1, c2, c3, c4⟩ := box_cells hbx
    have z0 := box_frozen hbx 0
    have z1 := box_frozen hbx 1
    have z2 := box_frozen hbx 2
    have z3 := box_frozen hbx 3
    have z4 := box_frozen hbx 4
    clear hbx hb
    go_wp2_with fail
    refine bodyPost_ret (results_row1 rfl _ _ (w.heap.size + 1) 37 _ (0, 0) _ _ rfl rfl (set_five H1.out.1) Try.underlying37 rfl Try.sizD) rfl ?_
    exact ⟨rfl, set_five_below H1.out.2 (by omega)⟩
  · go_enter Try.func57, Try.ntmps57
    go_upto_region 1 with fail
    obtain ⟨W, hW⟩ : ∃ W, (w.alloc (Obj.cells #[.int .i64 k, .int .i64 n, .int .i64 1, .string s, .slice q len cq] 37)).alloc (Obj.cells #[.int .i64 0, .int .i64 0, .int .i64 0, .string ⟨#[]⟩, .slice none 0 0] 37) = W := ⟨_, rfl⟩
    obtain ⟨k0, k1, kb⟩ := two_blocks w _ _ hW
    rw [hW]
    obtain ⟨a0, a1, a2, a3, a4⟩ := box_cells k0
    have B := bad_any 3 W
    unfold leafV at B
    have HBD := Lib.hid B
    have HK := Lib.hid (And.intro k1 kb)
    clear k0 k1 kb hW B
    go_wp2_with fail
    refine HBD.out.mono ?_
    rintro _ w1 ⟨rfl, hb⟩
    have hbx := block_on hb HK.out.1
    have H1 := Lib.hid (And.intro hbx (below_seq HK.out.2 hb))
    obtain ⟨c0, c1, c2, c3, c4⟩ := box_cells hbx
    have z0 := box_frozen hbx 0
    have z1 := box_frozen hbx 1
    have z2 := box_frozen hbx 2
    have z3 := box_frozen hbx 3
    have z4 := box_frozen hbx 4
    clear hbx hb
    go_wp2_with fail
    refine bodyPost_ret (results_row1 rfl _ _ (w.heap.size + 1) 37 _ (0, 0) _ _ rfl rfl (set_five H1.out.1) Try.underlying37 rfl Try.sizD) rfl ?_
    exact ⟨rfl, set_five_below H1.out.2 (by omega)⟩
set_option maxHeartbeats 2000000 in
set_option maxRecDepth 100000 in
theorem at_good (l : List Dt) (b o : Nat) (cap : Nat) (k : Int) (i : Nat) (t : Dt) (s : ByteArray) (q : Option Addr) (len cq : Nat) (w : World) (hlm : l.length ≤ maxLen) (hi : l[i]? = some t) (hall : Dt.AllAt w l b o) (hs : t.slim) :
    Calls Try.prog 57 #[.slice (some ⟨b, o, none⟩) l.length cap, .agg #[.int .i64 k, .int .i64 (i : Int), .int .i64 1, .string s, .slice q len cq]] w fun e w' => Gives (t, 0) e w' ∧ Below w.heap.size w w' := by
  have hlt : i < l.length := (List.getElem?_eq_some_iff.1 hi).1
  unfold maxLen at hlm
  obtain ⟨v0, v1, v2, v3, v4, d0, d1, d2, d3, d4, hta⟩ := hall.kid hi
  have HTA := Lib.hid (And.intro hta hs)
  obtain ⟨kt, nt, dt, st, lt, pt, capt, hte, rfl, rfl, rfl, rfl, rfl, _, _⟩ := hta.open5
  have HD := Lib.hid (And.intro d0 (And.intro d1 (And.intro d2 (And.intro d3 d4))))
  have q0 : ¬ ((i : Int) < 0) := by omega
  have q1 : (0 : Int) ≤ (i : Int) := by omega
  have q2 : (i : Int) < (l.length : Int) := by omega
  clear hall d0 d1 d2 d3 d4 hta hs hte
  go_enter Try.func57, Try.ntmps57
  go_upto_region 1 with fail
  obtain ⟨W, hW⟩ : ∃ W, (w.alloc (Obj.cells #[.int .i64 k, .int .i64 (i : Int), .int .i64 1, .string s, .slice q len cq] 37)).alloc (Obj.cells #[.int .i64 0, .int .i64 0, .int .i64 0, .string ⟨#[]⟩, .slice none 0 0] 37) = W := ⟨_, rfl⟩
  obtain ⟨k0, k1, kb⟩ := two_blocks w _ _ hW
  rw [hW]
  obtain ⟨a0, a1, a2, a3, a4⟩ := box_cells k0
  have C := pcopied_off t _ W (w.heap.size + 1) (lt_of_block k1) HTA.out.2 (HTA.out.1.on (below_off kb (by omega)))
  have HC := Lib.hid C
  have d0 := cell_on kb _ _ _ HD.out.1
  have d1 := cell_on kb _ _ _ HD.out.2.1
  have d2 := cell_on kb _ _ _ HD.out.2.2.1
  have d3 := cell_on kb _ _ _ HD.out.2.2.2.1
  have d4 := cell_on kb _ _ _ HD.out.2.2.2.2
  have HK := Lib.hid (And.intro k1 kb)
  clear k0 k1 kb hW C
  go_wp2_with fail
  refine HC.out.mono ?_
  rintro _ w1 ⟨⟨ku, nu, du, su, pu, lenu, capu, rfl, hu⟩, hb⟩
  have hbx := block_on hb HK.out.1
  have H1 := Lib.hid (And.intro hbx (And.intro (below_seq HK.out.2 hb) hu))
  obtain ⟨c0, c1, c2, c3, c4⟩ := box_cells hbx
  have z0 := box_frozen hbx 0
  have z1 := box_frozen hbx 1
  have z2 := box_frozen hbx 2
  have z3 := box_frozen hbx 3
  have z4 := box_frozen hbx 4
  clear hbx hb hu
  go_wp2_with fail
  refine bodyPost_ret (results_row1 rfl _ _ (w.heap.size + 1) 37 _ (0, 0) _ _ rfl rfl (set_five H1.out.1) Try.underlying37 rfl Try.sizD) rfl ?_
  exact ⟨⟨_, _, _, _, _, _, _, rfl, at_five H1.out.2.2⟩, set_five_below H1.out.2.1 (by omega)⟩
end Go.Proofs.Ytdeelpagoffdjaa.Dat
