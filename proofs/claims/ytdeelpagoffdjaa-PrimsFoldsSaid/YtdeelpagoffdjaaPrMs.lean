/- The program's made: what is told ahead of all else. -/
import Derived.Test.YtdeelpagoffdjaaPrVM
import Derived.Test.YtdeelpagoffdjaaPrFs
import Derived.Test.YtdeelpagoffdjaaPrSs
import Derived.Test.YtdeelpagoffdjaaPrQs
import Derived.Test.YtdeelpagoffdjaaRat
import Derived.Deep.RegionHeld3


namespace Go.Proofs.Ytdeelpagoffdjaa.Dat
open Go.RowKit
open Go.Proofs.Ytdeelpagoffdjaa (addF subF mulF divF lessF add_any sub_any mul_any div_any less_any make_any)
open NumPlain
set_option linter.unusedVariables false

theorem takes_yes (n k : Int) (hn : I64 n) (hk : I64 k) (h : takesB n k = true) (w : World) : Calls Try.prog 15 #[.int .i64 n, .int .i64 k] w fun e w' => e = .returned (.bool true) ∧ Below w.heap.size w w' := by
  have := Takes_any n k hn hk w
  rwa [h] at this
theorem takes_no (n k : Int) (hn : I64 n) (hk : I64 k) (h : takesB n k = false) (w : World) : Calls Try.prog 15 #[.int .i64 n, .int .i64 k] w fun e w' => e = .returned (.bool false) ∧ Below w.heap.size w w' := by
  have := Takes_any n k hn hk w
  rwa [h] at this
/-- What fitting answers, in whatever world behind this one. -/
def Fit (n : Int) (v : Value) (r : Bool) (w : World) : Prop := ∀ w1, Below w.heap.size w w1 → Calls Try.prog 46 #[.int .i64 n, v] w1 fun e w' => e = .returned (.bool r) ∧ Below w1.heap.size w1 w'
theorem stepAdd : StepIs 25 addF := fun n d m e w hn hd hm he => (add_any n d m e _ rfl w hn hd hm he).mono fun x w' ⟨h, k, hk⟩ => ⟨h, hk ▸ drew_below w k⟩
theorem stepSub : StepIs 50 subF := fun n d m e w hn hd hm he => (sub_any n d m e _ rfl w hn hd hm he).mono fun x w' ⟨h, k, hk⟩ => ⟨h, hk ▸ drew_below w k⟩
theorem stepMul : StepIs 26 mulF := fun n d m e w hn hd hm he => (mul_any n d m e _ rfl w hn hd hm he).mono fun x w' ⟨h, k, hk⟩ => ⟨h, hk ▸ drew_below w k⟩
theorem stepDiv : StepIs 51 divF := fun n d m e w hn hd hm he => (div_any n d m e _ rfl w hn hd hm he).mono fun x w' ⟨h, k, hk⟩ => ⟨h, hk ▸ drew_below w k⟩
theorem okAdd : ∀ n d m e, okEnd (addF n d m e) := fun n d m e => step_okEnd 0 n d m e
theorem okSub : ∀ n d m e, okEnd (subF n d m e) := fun n d m e => step_okEnd 1 n d m e
theorem okMul : ∀ n d m e, okEnd (mulF n d m e) := fun n d m e => step_okEnd 2 n d m e
theorem okDiv : ∀ n d m e, okEnd (divF n d m e) := fun n d m e => step_okEnd 3 n d m e
theorem thr_zero (f : Int → Int → Int → Int → Int × Int × Int) : ∀ (l : List Dt) (a b : Int), (thr f a b l).2.2 ≠ 0 → (thr f a b l).1 = 0 ∧ (thr f a b l).2.1 = 0
  | [], a, b, h => absurd rfl h
  | t :: r, a, b, h => by
    unfold thr at h ⊢
    split
    · rename_i h0
      rw [if_pos h0] at h
      exact thr_zero f r _ _ h
    · exact ⟨rfl, rfl⟩
theorem gives_num {w : World} {x : Int × Int × Int} {e : Ending} (hz : x.2.2 ≠ 0 → x.1 = 0 ∧ x.2.1 = 0) (hk : okEnd x) (q : Option Addr) (c : Nat) (he : e = .returned (.tuple #[.agg #[.int .i64 0, .int .i64 x.1, .int .i64 x.2.1, .string ⟨#[]⟩, .slice q 0 c], .int .i64 x.2.2])) : Gives (numR x) e w := by
  obtain ⟨x1, x2, x3⟩ := x
  by_cases h : x3 = 0
  · subst h
    have hi := i64_end hk
    exact gives_leaf i64_lit0 hi.1 hi.2 q c he
  · obtain ⟨h1, h2⟩ := hz h
    have h1 : x1 = 0 := h1
    have h2 : x2 = 0 := h2
    subst h1 h2
    have : numR (0, 0, x3) = (zeroD, x3) := by unfold numR; rw [if_neg h]
    rw [this]
    exact gives_leaf i64_lit0 i64_lit0 i64_lit0 q c he
theorem num_shape {t : Dt} (hr : rightD t = true) (hk : t.kd = 0) : ∃ n d, t = .node 0 n d ⟨#[]⟩ [] ∧ rightB n d = true := by
  obtain ⟨k, n, d, s, l⟩ := t
  have hk' : k = 0 := hk
  subst hk'
  unfold rightD Dt.right headRight at hr
  simp only [Bool.and_eq_true, decide_eq_true_eq] at hr
  obtain ⟨⟨_, ⟨⟨⟨⟨_, h1⟩, _⟩, h2⟩, _⟩, h3⟩, _⟩ := hr
  have hl : l = [] := List.eq_nil_of_length_eq_zero (by simpa using h3)
  have hs : s = ⟨#[]⟩ := by
    have : s.size = 0 := by simpa using h2
    exact ByteArray.size_eq_zero_iff.1 this
  exact ⟨n, d, by rw [hl, hs], by simpa using h1⟩

set_option maxHeartbeats 2000000 in
set_option maxRecDepth 100000 in
theorem made_count (n : Int) (l : List Dt) (p : Option Addr) (cap : Nat) (w : World) (hn : I64 n) (hlm : l.length ≤ maxLen) (h : takesB n l.length = false) :
    Calls Try.prog 31 #[.int .i64 n, .slice p l.length cap] w fun e w' => Gives (zeroD, 2) e w' ∧ Below w.heap.size w w' := by
  unfold maxLen at hlm
  have HT := Lib.hid (fun W => takes_no n l.length hn (by unfold I64; omega) h W)
  clear h
  go_enter Try.func31, Try.ntmps31
  go_wp2_with fail
  refine (HT.out _).mono ?_
  rintro _ w1 ⟨rfl, hb1⟩
  have HB1 := Lib.hid (And.intro (one_box hb1) (below_after hb1)); clear hb1
  go_wp2_with fail
  refine (bad_any 2 _).mono ?_
  rintro _ w2 ⟨rfl, hb2⟩
  have hbx := block_on hb2 HB1.out.1
  have HB2 := Lib.hid (And.intro hbx (below_seq HB1.out.2 hb2)); clear hb2
  obtain ⟨c0, c1, c2, c3, c4⟩ := box_cells hbx
  have z0 := box_frozen hbx 0
  have z1 := box_frozen hbx 1
  have z2 := box_frozen hbx 2
  have z3 := box_frozen hbx 3
  have z4 := box_frozen hbx 4
  clear hbx
  unfold leafV
  go_wp2_with fail
  refine bodyPost_ret (results_row1 rfl _ _ w.heap.size 37 _ (0, 0) _ _ rfl rfl (set_five HB2.out.1) Try.underlying37 rfl Try.sizD) rfl ?_
  exact ⟨gives_zero rfl, set_five_below HB2.out.2 (Nat.le_refl _)⟩
set_option maxHeartbeats 2000000 in
set_option maxRecDepth 100000 in
theorem made_fit (n : Int) (l : List Dt) (p : Option Addr) (cap : Nat) (w : World) (hn : I64 n) (hlm : l.length ≤ maxLen) (h : takesB n l.length = true) (hfit : Fit n (.slice p l.length cap) false w) :
    Calls Try.prog 31 #[.int .i64 n, .slice p l.length cap] w fun e w' => Gives (zeroD, 1) e w' ∧ Below w.heap.size w w' := by
  unfold maxLen at hlm
  have HT := Lib.hid (fun W => takes_yes n l.length hn (by unfold I64; omega) h W)
  have HFI := Lib.hid hfit
  clear h hfit
  go_enter Try.func31, Try.ntmps31
  go_wp2_with fail
  refine (HT.out _).mono ?_
  rintro _ w1 ⟨rfl, hb1⟩
  have HB1 := Lib.hid (And.intro (one_box hb1) (below_after hb1)); clear hb1
  go_wp2_with fail
  refine (HFI.out w1 HB1.out.2).mono ?_
  rintro _ w2 ⟨rfl, hb2⟩
  have HB2 := Lib.hid (And.intro (block_on hb2 HB1.out.1) (below_seq HB1.out.2 hb2)); clear hb2
  go_wp2_with fail
  refine (bad_any 1 _).mono ?_
  rintro _ w3 ⟨rfl, hb3⟩
  have hbx := block_on hb3 HB2.out.1
  have HB3 := Lib.hid (And.intro hbx (below_seq HB2.out.2 hb3)); clear hb3
  obtain ⟨c0, c1, c2, c3, c4⟩ := box_cells hbx
  have z0 := box_frozen hbx 0
  have z1 := box_frozen hbx 1
  have z2 := box_frozen hbx 2
  have z3 := box_frozen hbx 3
  have z4 := box_frozen hbx 4
  clear hbx
  unfold leafV
  go_wp2_with fail
  refine bodyPost_ret (results_row1 rfl _ _ w.heap.size 37 _ (0, 0) _ _ rfl rfl (set_five HB3.out.1) Try.underlying37 rfl Try.sizD) rfl ?_
  exact ⟨gives_zero rfl, set_five_below HB3.out.2 (Nat.le_refl _)⟩
end Go.Proofs.Ytdeelpagoffdjaa.Dat

/- The program's made: sums, differences, products, quotients. -/
namespace Go.Proofs.Ytdeelpagoffdjaa.Dat
open Go.RowKit
open Go.Proofs.Ytdeelpagoffdjaa (addF subF mulF divF lessF add_any sub_any mul_any div_any less_any make_any)
open NumPlain
set_option linter.unusedVariables false

set_option maxHeartbeats 2000000 in
set_option maxRecDepth 100000 in
theorem made0 (l : List Dt) (p : Option Addr) (cap : Nat) (w : World) (hlm : l.length ≤ maxLen) (hl : l = [] ∨ ∃ b o, p = some ⟨b, o, none⟩ ∧ Dt.AllAt w l b o) (htk : takesB 0 l.length = true) (hfit : Fit 0 (.slice p l.length cap) true w) :
    Calls Try.prog 31 #[.int .i64 0, .slice p l.length cap] w fun e w' => Gives (numR (thr addF 0 1 l)) e w' ∧ Below w.heap.size w w' := by
  have HL := Lib.hid (And.intro hlm hl); clear hl
  unfold maxLen at hlm
  obtain ⟨x, hx⟩ : ∃ x, thr addF 0 1 l = x := ⟨_, rfl⟩
  have hxe := thr_okEnd 0 l 0 1 (Or.inr (by decide +kernel))
  have hxz := thr_zero addF l 0 1
  rw [show stepF 0 = addF from rfl, hx] at hxe
  rw [hx] at hxz
  rw [hx]
  have HX := Lib.hid (And.intro hx (And.intro hxz hxe)); clear hx hxz hxe
  have HT := Lib.hid (fun W => takes_yes 0 l.length (by unfold I64; omega) (by unfold I64; omega) htk W)
  have HFI := Lib.hid hfit
  clear htk hfit
  go_enter Try.func31, Try.ntmps31
  go_wp2_with fail
  refine (HT.out _).mono ?_
  rintro _ w1 ⟨rfl, hb1⟩
  have HB1 := Lib.hid (And.intro (one_box hb1) (below_after hb1)); clear hb1
  go_wp2_with fail
  refine (HFI.out w1 HB1.out.2).mono ?_
  rintro _ w2 ⟨rfl, hb2⟩
  have HB2 := Lib.hid (And.intro (block_on hb2 HB1.out.1) (below_seq HB1.out.2 hb2)); clear hb2
  go_wp2_with fail
  refine (whole_any 0 _).mono ?_
  rintro _ w3 ⟨rfl, hb3⟩
  have HB3 := Lib.hid (And.intro (block_on hb3 HB2.out.1) (below_seq HB2.out.2 hb3)); clear hb3
  have C := throughAdd_any addF stepAdd okAdd 0 1 (by unfold I64; omega) (by unfold I64; omega) none 0 l p cap w3 HL.out.1 (by
    rcases HL.out.2 with h | ⟨b, o, h1, h2⟩
    · exact Or.inl h
    · exact Or.inr ⟨b, o, h1, h2.on (cell_on HB3.out.2)⟩)
  rw [HX.out.1] at C
  unfold numAt at C
  have HC := Lib.hid C; clear C
  unfold leafV
  go_wp2_with fail
  refine HC.out.mono ?_
  rintro _ w4 ⟨q, c, rfl, hb4⟩
  have hbx := block_on hb4 HB3.out.1
  have HB4 := Lib.hid (And.intro hbx (below_seq HB3.out.2 hb4)); clear hb4
  obtain ⟨c0, c1, c2, c3, c4⟩ := box_cells hbx
  have z0 := box_frozen hbx 0
  have z1 := box_frozen hbx 1
  have z2 := box_frozen hbx 2
  have z3 := box_frozen hbx 3
  have z4 := box_frozen hbx 4
  clear hbx
  go_wp2_with fail
  refine bodyPost_ret (results_row1 rfl _ _ w.heap.size 37 _ (0, 0) _ _ rfl rfl (set_five HB4.out.1) Try.underlying37 rfl Try.sizD) rfl ?_
  exact ⟨gives_num HX.out.2.1 HX.out.2.2 q c rfl, set_five_below HB4.out.2 (Nat.le_refl _)⟩
set_option maxHeartbeats 2000000 in
set_option maxRecDepth 100000 in
theorem made1_one (t : Dt) (p : Option Addr) (cap : Nat) (w : World) (hl : [t] = [] ∨ ∃ b o, p = some ⟨b, o, none⟩ ∧ Dt.AllAt w [t] b o) (hfit : Fit 1 (.slice p 1 cap) true w) :
    Calls Try.prog 31 #[.int .i64 1, .slice p 1 cap] w fun e w' => Gives (numR (thr subF 0 1 [t])) e w' ∧ Below w.heap.size w w' := by
  have htk : takesB 1 1 = true := by decide +kernel
  have HL := Lib.hid hl; clear hl
  obtain ⟨x, hx⟩ : ∃ x, thr subF 0 1 [t] = x := ⟨_, rfl⟩
  have hxe := thr_okEnd 1 [t] 0 1 (Or.inr (by decide +kernel))
  have hxz := thr_zero subF [t] 0 1
  rw [show stepF 1 = subF from rfl, hx] at hxe
  rw [hx] at hxz
  rw [hx]
  have HX := Lib.hid (And.intro hx (And.intro hxz hxe)); clear hx hxz hxe
  have HT := Lib.hid (fun W => takes_yes 1 1 (by unfold I64; omega) (by unfold I64; omega) htk W)
  have HFI := Lib.hid hfit
  clear htk hfit
  go_enter Try.func31, Try.ntmps31
  go_wp2_with fail
  refine (HT.out _).mono ?_
  rintro _ w1 ⟨rfl, hb1⟩
  have HB1 := Lib.hid (And.intro (one_box hb1) (below_after hb1)); clear hb1
  go_wp2_with fail
  refine (HFI.out w1 HB1.out.2).mono ?_
  rintro _ w2 ⟨rfl, hb2⟩
  have HB2 := Lib.hid (And.intro (block_on hb2 HB1.out.1) (below_seq HB1.out.2 hb2)); clear hb2
  go_wp2_with fail
  refine (whole_any 0 _).mono ?_
  rintro _ w3 ⟨rfl, hb3⟩
  have HB3 := Lib.hid (And.intro (block_on hb3 HB2.out.1) (below_seq HB2.out.2 hb3)); clear hb3
  have C := lessSub_one subF stepSub okSub 0 1 (by unfold I64; omega) (by unfold I64; omega) none 0 t p cap w3 (by
    rcases HL.out with h | ⟨b, o, h1, h2⟩
    · exact Or.inl h
    · exact Or.inr ⟨b, o, h1, h2.on (cell_on HB3.out.2)⟩)
  rw [HX.out.1] at C
  unfold numAt at C
  have HC := Lib.hid C; clear C
  unfold leafV
  go_wp2_with fail
  refine HC.out.mono ?_
  rintro _ w4 ⟨q, c, rfl, hb4⟩
  have hbx := block_on hb4 HB3.out.1
  have HB4 := Lib.hid (And.intro hbx (below_seq HB3.out.2 hb4)); clear hb4
  obtain ⟨c0, c1, c2, c3, c4⟩ := box_cells hbx
  have z0 := box_frozen hbx 0
  have z1 := box_frozen hbx 1
  have z2 := box_frozen hbx 2
  have z3 := box_frozen hbx 3
  have z4 := box_frozen hbx 4
  clear hbx
  go_wp2_with fail
  refine bodyPost_ret (results_row1 rfl _ _ w.heap.size 37 _ (0, 0) _ _ rfl rfl (set_five HB4.out.1) Try.underlying37 rfl Try.sizD) rfl ?_
  exact ⟨gives_num HX.out.2.1 HX.out.2.2 q c rfl, set_five_below HB4.out.2 (Nat.le_refl _)⟩
set_option maxHeartbeats 2000000 in
set_option maxRecDepth 100000 in
theorem made1_more (n0 d0 : Int) (u : Dt) (r : List Dt) (p : Option Addr) (cap : Nat) (w : World) (hlm : (Dt.node 0 n0 d0 ⟨#[]⟩ [] :: u :: r).length ≤ maxLen) (hcap : (Dt.node 0 n0 d0 ⟨#[]⟩ [] :: u :: r).length ≤ cap) (hl : (Dt.node 0 n0 d0 ⟨#[]⟩ [] :: u :: r) = [] ∨ ∃ b o, p = some ⟨b, o, none⟩ ∧ Dt.AllAt w (Dt.node 0 n0 d0 ⟨#[]⟩ [] :: u :: r) b o)
    (htk : takesB 1 (Dt.node 0 n0 d0 ⟨#[]⟩ [] :: u :: r).length = true) (hfit : Fit 1 (.slice p (Dt.node 0 n0 d0 ⟨#[]⟩ [] :: u :: r).length cap) true w) :
    Calls Try.prog 31 #[.int .i64 1, .slice p (Dt.node 0 n0 d0 ⟨#[]⟩ [] :: u :: r).length cap] w fun e w' => Gives (numR (thr subF n0 d0 (u :: r))) e w' ∧ Below w.heap.size w w' := by
  have HL := Lib.hid (And.intro hlm (And.intro hcap hl)); clear hl hcap
  obtain ⟨x, hx⟩ : ∃ x, thr subF n0 d0 (u :: r) = x := ⟨_, rfl⟩
  have hxe := thr_okEnd 1 (u :: r) n0 d0 (Or.inl (by simp))
  have hxz := thr_zero subF (u :: r) n0 d0
  rw [show stepF 1 = subF from rfl, hx] at hxe
  rw [hx] at hxz
  rw [hx]
  have HX := Lib.hid (And.intro hx (And.intro hxz hxe)); clear hx hxz hxe
  obtain ⟨ln, hln⟩ : ∃ ln, (Dt.node 0 n0 d0 ⟨#[]⟩ [] :: u :: r).length = ln := ⟨_, rfl⟩
  have HLN := Lib.hid hln
  rw [hln] at hlm htk hfit ⊢
  unfold maxLen at hlm
  clear hln
  have HT := Lib.hid (fun W => takes_yes 1 ln (by unfold I64; omega) (by unfold I64; omega) htk W)
  have HFI := Lib.hid hfit
  clear htk hfit
  go_enter Try.func31, Try.ntmps31
  go_wp2_with fail
  refine (HT.out _).mono ?_
  rintro _ w1 ⟨rfl, hb1⟩
  have HB1 := Lib.hid (And.intro (one_box hb1) (below_after hb1)); clear hb1
  go_wp2_with fail
  refine (HFI.out w1 HB1.out.2).mono ?_
  rintro _ w2 ⟨rfl, hb2⟩
  have HB2 := Lib.hid (And.intro (block_on hb2 HB1.out.1) (below_seq HB1.out.2 hb2)); clear hb2
  go_wp2_with fail
  refine (whole_any 0 _).mono ?_
  rintro _ w3 ⟨rfl, hb3⟩
  have HB3 := Lib.hid (And.intro (block_on hb3 HB2.out.1) (below_seq HB2.out.2 hb3)); clear hb3
  have C := lessSub_more subF stepSub okSub 0 1 none 0 n0 d0 u r p cap w3 HL.out.1 HL.out.2.1 (by
    rcases HL.out.2.2 with h | ⟨b, o, h1, h2⟩
    · exact Or.inl h
    · exact Or.inr ⟨b, o, h1, h2.on (cell_on HB3.out.2)⟩)
  rw [HX.out.1, HLN.out] at C
  unfold numAt at C
  have HC := Lib.hid C; clear C
  unfold leafV
  go_wp2_with fail
  refine HC.out.mono ?_
  rintro _ w4 ⟨q, c, rfl, hb4⟩
  have hbx := block_on hb4 HB3.out.1
  have HB4 := Lib.hid (And.intro hbx (below_seq HB3.out.2 hb4)); clear hb4
  obtain ⟨c0, c1, c2, c3, c4⟩ := box_cells hbx
  have z0 := box_frozen hbx 0
  have z1 := box_frozen hbx 1
  have z2 := box_frozen hbx 2
  have z3 := box_frozen hbx 3
  have z4 := box_frozen hbx 4
  clear hbx
  go_wp2_with fail
  refine bodyPost_ret (results_row1 rfl _ _ w.heap.size 37 _ (0, 0) _ _ rfl rfl (set_five HB4.out.1) Try.underlying37 rfl Try.sizD) rfl ?_
  exact ⟨gives_num HX.out.2.1 HX.out.2.2 q c rfl, set_five_below HB4.out.2 (Nat.le_refl _)⟩
set_option maxHeartbeats 2000000 in
set_option maxRecDepth 100000 in
theorem made2 (l : List Dt) (p : Option Addr) (cap : Nat) (w : World) (hlm : l.length ≤ maxLen) (hl : l = [] ∨ ∃ b o, p = some ⟨b, o, none⟩ ∧ Dt.AllAt w l b o) (htk : takesB 2 l.length = true) (hfit : Fit 2 (.slice p l.length cap) true w) :
    Calls Try.prog 31 #[.int .i64 2, .slice p l.length cap] w fun e w' => Gives (numR (thr mulF 1 1 l)) e w' ∧ Below w.heap.size w w' := by
  have HL := Lib.hid (And.intro hlm hl); clear hl
  unfold maxLen at hlm
  obtain ⟨x, hx⟩ : ∃ x, thr mulF 1 1 l = x := ⟨_, rfl⟩
  have hxe := thr_okEnd 2 l 1 1 (Or.inr (by decide +kernel))
  have hxz := thr_zero mulF l 1 1
  rw [show stepF 2 = mulF from rfl, hx] at hxe
  rw [hx] at hxz
  rw [hx]
  have HX := Lib.hid (And.intro hx (And.intro hxz hxe)); clear hx hxz hxe
  have HT := Lib.hid (fun W => takes_yes 2 l.length (by unfold I64; omega) (by unfold I64; omega) htk W)
  have HFI := Lib.hid hfit
  clear htk hfit
  go_enter Try.func31, Try.ntmps31
  go_wp2_with fail
  refine (HT.out _).mono ?_
  rintro _ w1 ⟨rfl, hb1⟩
  have HB1 := Lib.hid (And.intro (one_box hb1) (below_after hb1)); clear hb1
  go_wp2_with fail
  refine (HFI.out w1 HB1.out.2).mono ?_
  rintro _ w2 ⟨rfl, hb2⟩
  have HB2 := Lib.hid (And.intro (block_on hb2 HB1.out.1) (below_seq HB1.out.2 hb2)); clear hb2
  go_wp2_with fail
  refine (whole_any 1 _).mono ?_
  rintro _ w3 ⟨rfl, hb3⟩
  have HB3 := Lib.hid (And.intro (block_on hb3 HB2.out.1) (below_seq HB2.out.2 hb3)); clear hb3
  have C := throughMul_any mulF stepMul okMul 1 1 (by unfold I64; omega) (by unfold I64; omega) none 0 l p cap w3 HL.out.1 (by
    rcases HL.out.2 with h | ⟨b, o, h1, h2⟩
    · exact Or.inl h
    · exact Or.inr ⟨b, o, h1, h2.on (cell_on HB3.out.2)⟩)
  rw [HX.out.1] at C
  unfold numAt at C
  have HC := Lib.hid C; clear C
  unfold leafV
  go_wp2_with fail
  refine HC.out.mono ?_
  rintro _ w4 ⟨q, c, rfl, hb4⟩
  have hbx := block_on hb4 HB3.out.1
  have HB4 := Lib.hid (And.intro hbx (below_seq HB3.out.2 hb4)); clear hb4
  obtain ⟨c0, c1, c2, c3, c4⟩ := box_cells hbx
  have z0 := box_frozen hbx 0
  have z1 := box_frozen hbx 1
  have z2 := box_frozen hbx 2
  have z3 := box_frozen hbx 3
  have z4 := box_frozen hbx 4
  clear hbx
  go_wp2_with fail
  refine bodyPost_ret (results_row1 rfl _ _ w.heap.size 37 _ (0, 0) _ _ rfl rfl (set_five HB4.out.1) Try.underlying37 rfl Try.sizD) rfl ?_
  exact ⟨gives_num HX.out.2.1 HX.out.2.2 q c rfl, set_five_below HB4.out.2 (Nat.le_refl _)⟩
set_option maxHeartbeats 2000000 in
set_option maxRecDepth 100000 in
theorem made3_one (t : Dt) (p : Option Addr) (cap : Nat) (w : World) (hl : [t] = [] ∨ ∃ b o, p = some ⟨b, o, none⟩ ∧ Dt.AllAt w [t] b o) (hfit : Fit 3 (.slice p 1 cap) true w) :
    Calls Try.prog 31 #[.int .i64 3, .slice p 1 cap] w fun e w' => Gives (numR (thr divF 1 1 [t])) e w' ∧ Below w.heap.size w w' := by
  have htk : takesB 3 1 = true := by decide +kernel
  have HL := Lib.hid hl; clear hl
  obtain ⟨x, hx⟩ : ∃ x, thr divF 1 1 [t] = x := ⟨_, rfl⟩
  have hxe := thr_okEnd 3 [t] 1 1 (Or.inr (by decide +kernel))
  have hxz := thr_zero divF [t] 1 1
  rw [show stepF 3 = divF from rfl, hx] at hxe
  rw [hx] at hxz
  rw [hx]
  have HX := Lib.hid (And.intro hx (And.intro hxz hxe)); clear hx hxz hxe
  have HT := Lib.hid (fun W => takes_yes 3 1 (by unfold I64; omega) (by unfold I64; omega) htk W)
  have HFI := Lib.hid hfit
  clear htk hfit
  go_enter Try.func31, Try.ntmps31
  go_wp2_with fail
  refine (HT.out _).mono ?_
  rintro _ w1 ⟨rfl, hb1⟩
  have HB1 := Lib.hid (And.intro (one_box hb1) (below_after hb1)); clear hb1
  go_wp2_with fail
  refine (HFI.out w1 HB1.out.2).mono ?_
  rintro _ w2 ⟨rfl, hb2⟩
  have HB2 := Lib.hid (And.intro (block_on hb2 HB1.out.1) (below_seq HB1.out.2 hb2)); clear hb2
  go_wp2_with fail
  refine (whole_any 1 _).mono ?_
  rintro _ w3 ⟨rfl, hb3⟩
  have HB3 := Lib.hid (And.intro (block_on hb3 HB2.out.1) (below_seq HB2.out.2 hb3)); clear hb3
  have C := lessDiv_one divF stepDiv okDiv 1 1 (by unfold I64; omega) (by unfold I64; omega) none 0 t p cap w3 (by
    rcases HL.out with h | ⟨b, o, h1, h2⟩
    · exact Or.inl h
    · exact Or.inr ⟨b, o, h1, h2.on (cell_on HB3.out.2)⟩)
  rw [HX.out.1] at C
  unfold numAt at C
  have HC := Lib.hid C; clear C
  unfold leafV
  go_wp2_with fail
  refine HC.out.mono ?_
  rintro _ w4 ⟨q, c, rfl, hb4⟩
  have hbx := block_on hb4 HB3.out.1
  have HB4 := Lib.hid (And.intro hbx (below_seq HB3.out.2 hb4)); clear hb4
  obtain ⟨c0, c1, c2, c3, c4⟩ := box_cells hbx
  have z0 := box_frozen hbx 0
  have z1 := box_frozen hbx 1
  have z2 := box_frozen hbx 2
  have z3 := box_frozen hbx 3
  have z4 := box_frozen hbx 4
  clear hbx
  go_wp2_with fail
  refine bodyPost_ret (results_row1 rfl _ _ w.heap.size 37 _ (0, 0) _ _ rfl rfl (set_five HB4.out.1) Try.underlying37 rfl Try.sizD) rfl ?_
  exact ⟨gives_num HX.out.2.1 HX.out.2.2 q c rfl, set_five_below HB4.out.2 (Nat.le_refl _)⟩
set_option maxHeartbeats 2000000 in
set_option maxRecDepth 100000 in
theorem made3_more (n0 d0 : Int) (u : Dt) (r : List Dt) (p : Option Addr) (cap : Nat) (w : World) (hlm : (Dt.node 0 n0 d0 ⟨#[]⟩ [] :: u :: r).length ≤ maxLen) (hcap : (Dt.node 0 n0 d0 ⟨#[]⟩ [] :: u :: r).length ≤ cap) (hl : (Dt.node 0 n0 d0 ⟨#[]⟩ [] :: u :: r) = [] ∨ ∃ b o, p = some ⟨b, o, none⟩ ∧ Dt.AllAt w (Dt.node 0 n0 d0 ⟨#[]⟩ [] :: u :: r) b o)
    (htk : takesB 3 (Dt.node 0 n0 d0 ⟨#[]⟩ [] :: u :: r).length = true) (hfit : Fit 3 (.slice p (Dt.node 0 n0 d0 ⟨#[]⟩ [] :: u :: r).length cap) true w) :
    Calls Try.prog 31 #[.int .i64 3, .slice p (Dt.node 0 n0 d0 ⟨#[]⟩ [] :: u :: r).length cap] w fun e w' => Gives (numR (thr divF n0 d0 (u :: r))) e w' ∧ Below w.heap.size w w' := by
  have HL := Lib.hid (And.intro hlm (And.intro hcap hl)); clear hl hcap
  obtain ⟨x, hx⟩ : ∃ x, thr divF n0 d0 (u :: r) = x := ⟨_, rfl⟩
  have hxe := thr_okEnd 3 (u :: r) n0 d0 (Or.inl (by simp))
  have hxz := thr_zero divF (u :: r) n0 d0
  rw [show stepF 3 = divF from rfl, hx] at hxe
  rw [hx] at hxz
  rw [hx]
  have HX := Lib.hid (And.intro hx (And.intro hxz hxe)); clear hx hxz hxe
  obtain ⟨ln, hln⟩ : ∃ ln, (Dt.node 0 n0 d0 ⟨#[]⟩ [] :: u :: r).length = ln := ⟨_, rfl⟩
  have HLN := Lib.hid hln
  rw [hln] at hlm htk hfit ⊢
  unfold maxLen at hlm
  clear hln
  have HT := Lib.hid (fun W => takes_yes 3 ln (by unfold I64; omega) (by unfold I64; omega) htk W)
  have HFI := Lib.hid hfit
  clear htk hfit
  go_enter Try.func31, Try.ntmps31
  go_wp2_with fail
  refine (HT.out _).mono ?_
  rintro _ w1 ⟨rfl, hb1⟩
  have HB1 := Lib.hid (And.intro (one_box hb1) (below_after hb1)); clear hb1
  go_wp2_with fail
  refine (HFI.out w1 HB1.out.2).mono ?_
  rintro _ w2 ⟨rfl, hb2⟩
  have HB2 := Lib.hid (And.intro (block_on hb2 HB1.out.1) (below_seq HB1.out.2 hb2)); clear hb2
  go_wp2_with fail
  refine (whole_any 1 _).mono ?_
  rintro _ w3 ⟨rfl, hb3⟩
  have HB3 := Lib.hid (And.intro (block_on hb3 HB2.out.1) (below_seq HB2.out.2 hb3)); clear hb3
  have C := lessDiv_more divF stepDiv okDiv 1 1 none 0 n0 d0 u r p cap w3 HL.out.1 HL.out.2.1 (by
    rcases HL.out.2.2 with h | ⟨b, o, h1, h2⟩
    · exact Or.inl h
    · exact Or.inr ⟨b, o, h1, h2.on (cell_on HB3.out.2)⟩)
  rw [HX.out.1, HLN.out] at C
  unfold numAt at C
  have HC := Lib.hid C; clear C
  unfold leafV
  go_wp2_with fail
  refine HC.out.mono ?_
  rintro _ w4 ⟨q, c, rfl, hb4⟩
  have hbx := block_on hb4 HB3.out.1
  have HB4 := Lib.hid (And.intro hbx (below_seq HB3.out.2 hb4)); clear hb4
  obtain ⟨c0, c1, c2, c3, c4⟩ := box_cells hbx
  have z0 := box_frozen hbx 0
  have z1 := box_frozen hbx 1
  have z2 := box_frozen hbx 2
  have z3 := box_frozen hbx 3
  have z4 := box_frozen hbx 4
  clear hbx
  go_wp2_with fail
  refine bodyPost_ret (results_row1 rfl _ _ w.heap.size 37 _ (0, 0) _ _ rfl rfl (set_five HB4.out.1) Try.underlying37 rfl Try.sizD) rfl ?_
  exact ⟨gives_num HX.out.2.1 HX.out.2.2 q c rfl, set_five_below HB4.out.2 (Nat.le_refl _)⟩
end Go.Proofs.Ytdeelpagoffdjaa.Dat

/- The program's made: what holds two data against one another. -/
namespace Go.Proofs.Ytdeelpagoffdjaa.Dat
open Go.RowKit
open Go.Proofs.Ytdeelpagoffdjaa (addF subF mulF divF lessF add_any sub_any mul_any div_any less_any make_any)
open NumPlain
set_option linter.unusedVariables false

theorem five_other {w : World} {B b j : Nat} {b0 b1 b2 b3 b4 x : Value} (h : b ≠ B) (hs : w.cell? ⟨b, j, none⟩ = some x) :
    (((((w.setCell ⟨B, 0, none⟩ b0).setCell ⟨B, 1, none⟩ b1).setCell ⟨B, 2, none⟩ b2).setCell ⟨B, 3, none⟩ b3).setCell ⟨B, 4, none⟩ b4).cell? ⟨b, j, none⟩ = some x :=
  (World.cell?_of_block (set_five_other h)).trans hs
theorem gives_bool {w : World} {r : Bool} {y : Int} {e : Ending} (hy : (if r = true then (1 : Int) else 0) = y) (he : e = .returned (.tuple #[.agg #[.int .i64 1, .int .i64 y, .int .i64 0, .string ⟨#[]⟩, .slice none 0 0], .int .i64 0])) : Gives (boolD r, 0) e w := by
  subst hy
  exact gives_leaf (by unfold I64; omega) (by unfold I64; split <;> omega) i64_lit0 none 0 he
theorem kd_right {t : Dt} (hr : rightD t = true) : 0 ≤ t.kd ∧ t.kd ≤ 7 := by
  obtain ⟨k, n, d, s, l⟩ := t
  unfold rightD Dt.right headRight at hr
  simp only [Bool.and_eq_true, decide_eq_true_eq] at hr
  exact hr.1.2.1.1.1.1.1
theorem at_drew' {w : World} {t : Dt} {v : Value} (h : t.At w v) : t.At w.drew v := h.drew

set_option maxHeartbeats 2000000 in
set_option maxRecDepth 100000 in
theorem made4 (t u : Dt) (p : Option Addr) (cap : Nat) (w : World) (hr : rightD t = true) (hl : [t, u] = [] ∨ ∃ b o, p = some ⟨b, o, none⟩ ∧ Dt.AllAt w [t, u] b o) (hfit : Fit 4 (.slice p 2 cap) true w) :
    Calls Try.prog 31 #[.int .i64 4, .slice p 2 cap] w fun e w' => Gives (boolD (eqB t u), 0) e w' ∧ Below w.heap.size w w' := by
  have htk : takesB 4 2 = true := by decide +kernel
  obtain ⟨r, hrr⟩ : ∃ r, eqB t u = r := ⟨_, rfl⟩
  obtain ⟨y, hy⟩ : ∃ y, (if r = true then (1 : Int) else 0) = y := ⟨_, rfl⟩
  rw [hrr]
  have HR := Lib.hid (And.intro hrr hr)
  have HY := Lib.hid hy
  clear hrr hy hr
  obtain ⟨b, o, k, n, d, s, l, q, c, k', n', d', s', l', q', c', rfl, rfl, rfl, ⟨hk, hn, hd, hlm⟩, ⟨hk', hn', hd', hlm'⟩, hat, hat', ⟨e0, e1, e2, e3, e4⟩, ⟨f0, f1, f2, f3, f4⟩⟩ := two_args hl
  have HE := Lib.hid (And.intro e0 (And.intro e1 (And.intro e2 (And.intro e3 e4))))
  have HF := Lib.hid (And.intro f0 (And.intro f1 (And.intro f2 (And.intro f3 f4))))
  have HA := Lib.hid (And.intro hat hat')
  have HI := Lib.hid (And.intro hk (And.intro hn (And.intro hd (And.intro hk' (And.intro hn' hd')))))
  have HLM := Lib.hid (And.intro hlm hlm')
  have HNE := Lib.hid (show b ≠ w.heap.size from by have := cell_lt e0; omega)
  clear e0 e1 e2 e3 e4 f0 f1 f2 f3 f4 hat hat' hk hn hd hk' hn' hd' hl hlm hlm'
  have HT := Lib.hid (fun W => takes_yes 4 2 (by unfold I64; omega) (by unfold I64; omega) htk W)
  have HFI := Lib.hid hfit
  clear htk hfit
  go_enter Try.func31, Try.ntmps31
  go_wp2_with fail
  refine (HT.out _).mono ?_
  rintro _ w1 ⟨rfl, hb1⟩
  have HB1 := Lib.hid (And.intro (one_box hb1) (below_after hb1)); clear hb1
  go_wp2_with fail
  refine (HFI.out w1 HB1.out.2).mono ?_
  rintro _ w2 ⟨rfl, hb2⟩
  have HB2 := Lib.hid (And.intro (block_on hb2 HB1.out.1) (below_seq HB1.out.2 hb2)); clear hb2
  have e0 := cell_on HB2.out.2 _ _ _ HE.out.1
  have e1 := cell_on HB2.out.2 _ _ _ HE.out.2.1
  have e2 := cell_on HB2.out.2 _ _ _ HE.out.2.2.1
  have e3 := cell_on HB2.out.2 _ _ _ HE.out.2.2.2.1
  have e4 := cell_on HB2.out.2 _ _ _ HE.out.2.2.2.2
  have f0 := cell_on HB2.out.2 _ _ _ HF.out.1
  have f1 := cell_on HB2.out.2 _ _ _ HF.out.2.1
  have f2 := cell_on HB2.out.2 _ _ _ HF.out.2.2.1
  have f3 := cell_on HB2.out.2 _ _ _ HF.out.2.2.2.1
  have f4 := cell_on HB2.out.2 _ _ _ HF.out.2.2.2.2
  have e0' : w2.drew.cell? ⟨b, o, none⟩ = some (.int .i64 k) := e0
  have e1' : w2.drew.cell? ⟨b, o + 1, none⟩ = some (.int .i64 n) := e1
  have e2' : w2.drew.cell? ⟨b, o + 2, none⟩ = some (.int .i64 d) := e2
  have e3' : w2.drew.cell? ⟨b, o + 3, none⟩ = some (.string s) := e3
  have e4' : w2.drew.cell? ⟨b, o + 4, none⟩ = some (.slice q l.length c) := e4
  have f0' : w2.drew.cell? ⟨b, o + 5, none⟩ = some (.int .i64 k') := f0
  have f1' : w2.drew.cell? ⟨b, o + 5 + 1, none⟩ = some (.int .i64 n') := f1
  have f2' : w2.drew.cell? ⟨b, o + 5 + 2, none⟩ = some (.int .i64 d') := f2
  have f3' : w2.drew.cell? ⟨b, o + 5 + 3, none⟩ = some (.string s') := f3
  have f4' : w2.drew.cell? ⟨b, o + 5 + 4, none⟩ = some (.slice q' l'.length c') := f4
  have C := eq_any _ _ _ _ w2.drew (kd_right HR.out.2) (at_drew' (HA.out.1.below HB2.out.2)) (at_drew' (HA.out.2.below HB2.out.2))
  rw [HR.out.1] at C
  have HEQ := Lib.hid C; clear C
  go_wp2_with fail
  go_region_held3 (fun w' => w'.cell? ⟨b, o, none⟩ = some (.int .i64 k) ∧ w'.cell? ⟨b, o + 1, none⟩ = some (.int .i64 n) ∧ w'.cell? ⟨b, o + 2, none⟩ = some (.int .i64 d) ∧ w'.cell? ⟨b, o + 3, none⟩ = some (.string s) ∧ w'.cell? ⟨b, o + 4, none⟩ = some (.slice q l.length c) ∧ w'.cell? ⟨b, o + 5, none⟩ = some (.int .i64 k') ∧ w'.cell? ⟨b, o + 5 + 1, none⟩ = some (.int .i64 n') ∧ w'.cell? ⟨b, o + 5 + 2, none⟩ = some (.int .i64 d') ∧ w'.cell? ⟨b, o + 5 + 3, none⟩ = some (.string s') ∧ w'.cell? ⟨b, o + 5 + 4, none⟩ = some (.slice q' l'.length c'))
    (with_reducible (first | (refine ⟨?_, ?_, ?_, ?_, ?_, ?_, ?_, ?_, ?_, ?_⟩ <;> assumption) | exact ⟨five_other HNE.out e0, five_other HNE.out e1, five_other HNE.out e2, five_other HNE.out e3, five_other HNE.out e4, five_other HNE.out f0, five_other HNE.out f1, five_other HNE.out f2, five_other HNE.out f3, five_other HNE.out f4⟩))
    (first
      | (go_at_call 53
         with_reducible refine Calls.mono HEQ.out ?_
         rintro _ w3 ⟨rfl, hb⟩
         have hb' := below_drew hb
         have HB3 := Lib.hid (And.intro (block_on hb' HB2.out.1) (below_seq HB2.out.2 hb'))
         replace e0 := cell_on hb' _ _ _ e0
         replace e1 := cell_on hb' _ _ _ e1
         replace e2 := cell_on hb' _ _ _ e2
         replace e3 := cell_on hb' _ _ _ e3
         replace e4 := cell_on hb' _ _ _ e4
         replace f0 := cell_on hb' _ _ _ f0
         replace f1 := cell_on hb' _ _ _ f1
         replace f2 := cell_on hb' _ _ _ f2
         replace f3 := cell_on hb' _ _ _ f3
         replace f4 := cell_on hb' _ _ _ f4
         clear hb hb')
      | (go_at_call 52
         with_reducible refine Calls.mono (truth_bit _ y HY.out w3) ?_
         rintro _ w4 ⟨rfl, hb⟩
         have hbx := block_on hb HB3.out.1
         have HB4 := Lib.hid (And.intro hbx (below_seq HB3.out.2 hb))
         replace e0 := cell_on hb _ _ _ e0
         replace e1 := cell_on hb _ _ _ e1
         replace e2 := cell_on hb _ _ _ e2
         replace e3 := cell_on hb _ _ _ e3
         replace e4 := cell_on hb _ _ _ e4
         replace f0 := cell_on hb _ _ _ f0
         replace f1 := cell_on hb _ _ _ f1
         replace f2 := cell_on hb _ _ _ f2
         replace f3 := cell_on hb _ _ _ f3
         replace f4 := cell_on hb _ _ _ f4
         obtain ⟨y0, y1, y2, y3, y4⟩ := box_cells hbx
         have z0 := box_frozen hbx 0
         have z1 := box_frozen hbx 1
         have z2 := box_frozen hbx 2
         have z3 := box_frozen hbx 3
         have z4 := box_frozen hbx 4
         clear hbx hb))
  go_wp2_with fail
  refine bodyPost_ret (results_row1 rfl _ _ w.heap.size 37 _ (0, 0) _ _ rfl rfl (set_five HB4.out.1) Try.underlying37 rfl Try.sizD) rfl ?_
  exact ⟨gives_bool HY.out rfl, set_five_below HB4.out.2 (Nat.le_refl _)⟩
set_option maxHeartbeats 2000000 in
set_option maxRecDepth 100000 in
theorem made6 (t u : Dt) (p : Option Addr) (cap : Nat) (w : World) (hr : rightD t = true) (hl : [t, u] = [] ∨ ∃ b o, p = some ⟨b, o, none⟩ ∧ Dt.AllAt w [t, u] b o) (hfit : Fit 6 (.slice p 2 cap) true w) :
    Calls Try.prog 31 #[.int .i64 6, .slice p 2 cap] w fun e w' => Gives (boolD (eqB t u), 0) e w' ∧ Below w.heap.size w w' := by
  have htk : takesB 6 2 = true := by decide +kernel
  obtain ⟨r, hrr⟩ : ∃ r, eqB t u = r := ⟨_, rfl⟩
  obtain ⟨y, hy⟩ : ∃ y, (if r = true then (1 : Int) else 0) = y := ⟨_, rfl⟩
  rw [hrr]
  have HR := Lib.hid (And.intro hrr hr)
  have HY := Lib.hid hy
  clear hrr hy hr
  obtain ⟨b, o, k, n, d, s, l, q, c, k', n', d', s', l', q', c', rfl, rfl, rfl, ⟨hk, hn, hd, hlm⟩, ⟨hk', hn', hd', hlm'⟩, hat, hat', ⟨e0, e1, e2, e3, e4⟩, ⟨f0, f1, f2, f3, f4⟩⟩ := two_args hl
  have HE := Lib.hid (And.intro e0 (And.intro e1 (And.intro e2 (And.intro e3 e4))))
  have HF := Lib.hid (And.intro f0 (And.intro f1 (And.intro f2 (And.intro f3 f4))))
  have HA := Lib.hid (And.intro hat hat')
  have HI := Lib.hid (And.intro hk (And.intro hn (And.intro hd (And.intro hk' (And.intro hn' hd')))))
  have HLM := Lib.hid (And.intro hlm hlm')
  have HNE := Lib.hid (show b ≠ w.heap.size from by have := cell_lt e0; omega)
  clear e0 e1 e2 e3 e4 f0 f1 f2 f3 f4 hat hat' hk hn hd hk' hn' hd' hl hlm hlm'
  have HT := Lib.hid (fun W => takes_yes 6 2 (by unfold I64; omega) (by unfold I64; omega) htk W)
  have HFI := Lib.hid hfit
  clear htk hfit
  go_enter Try.func31, Try.ntmps31
  go_wp2_with fail
  refine (HT.out _).mono ?_
  rintro _ w1 ⟨rfl, hb1⟩
  have HB1 := Lib.hid (And.intro (one_box hb1) (below_after hb1)); clear hb1
  go_wp2_with fail
  refine (HFI.out w1 HB1.out.2).mono ?_
  rintro _ w2 ⟨rfl, hb2⟩
  have HB2 := Lib.hid (And.intro (block_on hb2 HB1.out.1) (below_seq HB1.out.2 hb2)); clear hb2
  have e0 := cell_on HB2.out.2 _ _ _ HE.out.1
  have e1 := cell_on HB2.out.2 _ _ _ HE.out.2.1
  have e2 := cell_on HB2.out.2 _ _ _ HE.out.2.2.1
  have e3 := cell_on HB2.out.2 _ _ _ HE.out.2.2.2.1
  have e4 := cell_on HB2.out.2 _ _ _ HE.out.2.2.2.2
  have f0 := cell_on HB2.out.2 _ _ _ HF.out.1
  have f1 := cell_on HB2.out.2 _ _ _ HF.out.2.1
  have f2 := cell_on HB2.out.2 _ _ _ HF.out.2.2.1
  have f3 := cell_on HB2.out.2 _ _ _ HF.out.2.2.2.1
  have f4 := cell_on HB2.out.2 _ _ _ HF.out.2.2.2.2
  have e0' : w2.drew.cell? ⟨b, o, none⟩ = some (.int .i64 k) := e0
  have e1' : w2.drew.cell? ⟨b, o + 1, none⟩ = some (.int .i64 n) := e1
  have e2' : w2.drew.cell? ⟨b, o + 2, none⟩ = some (.int .i64 d) := e2
  have e3' : w2.drew.cell? ⟨b, o + 3, none⟩ = some (.string s) := e3
  have e4' : w2.drew.cell? ⟨b, o + 4, none⟩ = some (.slice q l.length c) := e4
  have f0' : w2.drew.cell? ⟨b, o + 5, none⟩ = some (.int .i64 k') := f0
  have f1' : w2.drew.cell? ⟨b, o + 5 + 1, none⟩ = some (.int .i64 n') := f1
  have f2' : w2.drew.cell? ⟨b, o + 5 + 2, none⟩ = some (.int .i64 d') := f2
  have f3' : w2.drew.cell? ⟨b, o + 5 + 3, none⟩ = some (.string s') := f3
  have f4' : w2.drew.cell? ⟨b, o + 5 + 4, none⟩ = some (.slice q' l'.length c') := f4
  have C := eq_any _ _ _ _ w2.drew (kd_right HR.out.2) (at_drew' (HA.out.1.below HB2.out.2)) (at_drew' (HA.out.2.below HB2.out.2))
  rw [HR.out.1] at C
  have HEQ := Lib.hid C; clear C
  go_wp2_with fail
  go_region_held3 (fun w' => w'.cell? ⟨b, o, none⟩ = some (.int .i64 k) ∧ w'.cell? ⟨b, o + 1, none⟩ = some (.int .i64 n) ∧ w'.cell? ⟨b, o + 2, none⟩ = some (.int .i64 d) ∧ w'.cell? ⟨b, o + 3, none⟩ = some (.string s) ∧ w'.cell? ⟨b, o + 4, none⟩ = some (.slice q l.length c) ∧ w'.cell? ⟨b, o + 5, none⟩ = some (.int .i64 k') ∧ w'.cell? ⟨b, o + 5 + 1, none⟩ = some (.int .i64 n') ∧ w'.cell? ⟨b, o + 5 + 2, none⟩ = some (.int .i64 d') ∧ w'.cell? ⟨b, o + 5 + 3, none⟩ = some (.string s') ∧ w'.cell? ⟨b, o + 5 + 4, none⟩ = some (.slice q' l'.length c'))
    (with_reducible (first | (refine ⟨?_, ?_, ?_, ?_, ?_, ?_, ?_, ?_, ?_, ?_⟩ <;> assumption) | exact ⟨five_other HNE.out e0, five_other HNE.out e1, five_other HNE.out e2, five_other HNE.out e3, five_other HNE.out e4, five_other HNE.out f0, five_other HNE.out f1, five_other HNE.out f2, five_other HNE.out f3, five_other HNE.out f4⟩))
    (first
      | (go_at_call 53
         with_reducible refine Calls.mono HEQ.out ?_
         rintro _ w3 ⟨rfl, hb⟩
         have hb' := below_drew hb
         have HB3 := Lib.hid (And.intro (block_on hb' HB2.out.1) (below_seq HB2.out.2 hb'))
         replace e0 := cell_on hb' _ _ _ e0
         replace e1 := cell_on hb' _ _ _ e1
         replace e2 := cell_on hb' _ _ _ e2
         replace e3 := cell_on hb' _ _ _ e3
         replace e4 := cell_on hb' _ _ _ e4
         replace f0 := cell_on hb' _ _ _ f0
         replace f1 := cell_on hb' _ _ _ f1
         replace f2 := cell_on hb' _ _ _ f2
         replace f3 := cell_on hb' _ _ _ f3
         replace f4 := cell_on hb' _ _ _ f4
         clear hb hb')
      | (go_at_call 52
         with_reducible refine Calls.mono (truth_bit _ y HY.out w3) ?_
         rintro _ w4 ⟨rfl, hb⟩
         have hbx := block_on hb HB3.out.1
         have HB4 := Lib.hid (And.intro hbx (below_seq HB3.out.2 hb))
         replace e0 := cell_on hb _ _ _ e0
         replace e1 := cell_on hb _ _ _ e1
         replace e2 := cell_on hb _ _ _ e2
         replace e3 := cell_on hb _ _ _ e3
         replace e4 := cell_on hb _ _ _ e4
         replace f0 := cell_on hb _ _ _ f0
         replace f1 := cell_on hb _ _ _ f1
         replace f2 := cell_on hb _ _ _ f2
         replace f3 := cell_on hb _ _ _ f3
         replace f4 := cell_on hb _ _ _ f4
         obtain ⟨y0, y1, y2, y3, y4⟩ := box_cells hbx
         have z0 := box_frozen hbx 0
         have z1 := box_frozen hbx 1
         have z2 := box_frozen hbx 2
         have z3 := box_frozen hbx 3
         have z4 := box_frozen hbx 4
         clear hbx hb))
  go_wp2_with fail
  refine bodyPost_ret (results_row1 rfl _ _ w.heap.size 37 _ (0, 0) _ _ rfl rfl (set_five HB4.out.1) Try.underlying37 rfl Try.sizD) rfl ?_
  exact ⟨gives_bool HY.out rfl, set_five_below HB4.out.2 (Nat.le_refl _)⟩
set_option maxHeartbeats 2000000 in
set_option maxRecDepth 100000 in
theorem made5 (t u : Dt) (p : Option Addr) (cap : Nat) (w : World) (hr : rightD t = true) (hl : [t, u] = [] ∨ ∃ b o, p = some ⟨b, o, none⟩ ∧ Dt.AllAt w [t, u] b o) (hfit : Fit 5 (.slice p 2 cap) true w) :
    Calls Try.prog 31 #[.int .i64 5, .slice p 2 cap] w fun e w' => Gives (boolD (lessF t.nm t.dn u.nm u.dn), 0) e w' ∧ Below w.heap.size w w' := by
  have htk : takesB 5 2 = true := by decide +kernel
  obtain ⟨r, hrr⟩ : ∃ r, lessF t.nm t.dn u.nm u.dn = r := ⟨_, rfl⟩
  obtain ⟨y, hy⟩ : ∃ y, (if r = true then (1 : Int) else 0) = y := ⟨_, rfl⟩
  rw [hrr]
  have HR := Lib.hid (And.intro hrr hr)
  have HY := Lib.hid hy
  clear hrr hy hr
  obtain ⟨b, o, k, n, d, s, l, q, c, k', n', d', s', l', q', c', rfl, rfl, rfl, ⟨hk, hn, hd, hlm⟩, ⟨hk', hn', hd', hlm'⟩, hat, hat', ⟨e0, e1, e2, e3, e4⟩, ⟨f0, f1, f2, f3, f4⟩⟩ := two_args hl
  have HE := Lib.hid (And.intro e0 (And.intro e1 (And.intro e2 (And.intro e3 e4))))
  have HF := Lib.hid (And.intro f0 (And.intro f1 (And.intro f2 (And.intro f3 f4))))
  have HA := Lib.hid (And.intro hat hat')
  have HI := Lib.hid (And.intro hk (And.intro hn (And.intro hd (And.intro hk' (And.intro hn' hd')))))
  have HLM := Lib.hid (And.intro hlm hlm')
  have HNE := Lib.hid (show b ≠ w.heap.size from by have := cell_lt e0; omega)
  clear e0 e1 e2 e3 e4 f0 f1 f2 f3 f4 hat hat' hk hn hd hk' hn' hd' hl hlm hlm'
  have HT := Lib.hid (fun W => takes_yes 5 2 (by unfold I64; omega) (by unfold I64; omega) htk W)
  have HFI := Lib.hid hfit
  clear htk hfit
  go_enter Try.func31, Try.ntmps31
  go_wp2_with fail
  refine (HT.out _).mono ?_
  rintro _ w1 ⟨rfl, hb1⟩
  have HB1 := Lib.hid (And.intro (one_box hb1) (below_after hb1)); clear hb1
  go_wp2_with fail
  refine (HFI.out w1 HB1.out.2).mono ?_
  rintro _ w2 ⟨rfl, hb2⟩
  have HB2 := Lib.hid (And.intro (block_on hb2 HB1.out.1) (below_seq HB1.out.2 hb2)); clear hb2
  have e1 := cell_on HB2.out.2 _ _ _ HE.out.2.1
  have e2 := cell_on HB2.out.2 _ _ _ HE.out.2.2.1
  have f1 := cell_on HB2.out.2 _ _ _ HF.out.2.1
  have f2 := cell_on HB2.out.2 _ _ _ HF.out.2.2.1
  have e1' : w2.drew.cell? ⟨b, o + 1, none⟩ = some (.int .i64 n) := e1
  have e2' : w2.drew.cell? ⟨b, o + 2, none⟩ = some (.int .i64 d) := e2
  have f1' : w2.drew.cell? ⟨b, o + 5 + 1, none⟩ = some (.int .i64 n') := f1
  have f2' : w2.drew.cell? ⟨b, o + 5 + 2, none⟩ = some (.int .i64 d') := f2
  have C := less_any n d n' d' _ HR.out.1 w2.drew HI.out.2.1 HI.out.2.2.1 HI.out.2.2.2.2.1 HI.out.2.2.2.2.2
  have C2 : Calls Try.prog 54 #[.int .i64 n, .int .i64 d, .int .i64 n', .int .i64 d'] w2.drew fun e w' => e = .returned (.bool r) ∧ Below w2.drew.heap.size w2.drew w' := C.mono fun x w' h => ⟨h.1, h.2 ▸ Below.refl _ _⟩
  have HEQ := Lib.hid C2; clear C C2
  go_wp2_with fail
  go_region_held3 (fun w' => w'.cell? ⟨b, o + 1, none⟩ = some (.int .i64 n) ∧ w'.cell? ⟨b, o + 2, none⟩ = some (.int .i64 d) ∧ w'.cell? ⟨b, o + 5 + 1, none⟩ = some (.int .i64 n') ∧ w'.cell? ⟨b, o + 5 + 2, none⟩ = some (.int .i64 d'))
    (with_reducible (first | (refine ⟨?_, ?_, ?_, ?_⟩ <;> assumption) | exact ⟨five_other HNE.out e1, five_other HNE.out e2, five_other HNE.out f1, five_other HNE.out f2⟩))
    (first
      | (go_at_call 54
         with_reducible refine Calls.mono HEQ.out ?_
         rintro _ w3 ⟨rfl, hb⟩
         have hb' := below_drew hb
         have HB3 := Lib.hid (And.intro (block_on hb' HB2.out.1) (below_seq HB2.out.2 hb'))
         replace e1 := cell_on hb' _ _ _ e1
         replace e2 := cell_on hb' _ _ _ e2
         replace f1 := cell_on hb' _ _ _ f1
         replace f2 := cell_on hb' _ _ _ f2
         clear hb hb')
      | (go_at_call 52
         with_reducible refine Calls.mono (truth_bit _ y HY.out w3) ?_
         rintro _ w4 ⟨rfl, hb⟩
         have hbx := block_on hb HB3.out.1
         have HB4 := Lib.hid (And.intro hbx (below_seq HB3.out.2 hb))
         replace e1 := cell_on hb _ _ _ e1
         replace e2 := cell_on hb _ _ _ e2
         replace f1 := cell_on hb _ _ _ f1
         replace f2 := cell_on hb _ _ _ f2
         obtain ⟨y0, y1, y2, y3, y4⟩ := box_cells hbx
         have z0 := box_frozen hbx 0
         have z1 := box_frozen hbx 1
         have z2 := box_frozen hbx 2
         have z3 := box_frozen hbx 3
         have z4 := box_frozen hbx 4
         clear hbx hb))
  go_wp2_with fail
  refine bodyPost_ret (results_row1 rfl _ _ w.heap.size 37 _ (0, 0) _ _ rfl rfl (set_five HB4.out.1) Try.underlying37 rfl Try.sizD) rfl ?_
  exact ⟨gives_bool HY.out rfl, set_five_below HB4.out.2 (Nat.le_refl _)⟩
end Go.Proofs.Ytdeelpagoffdjaa.Dat

/- The program's made: equal?, not, and what asks for a kind. -/
namespace Go.Proofs.Ytdeelpagoffdjaa.Dat
open Go.RowKit
open Go.Proofs.Ytdeelpagoffdjaa (addF subF mulF divF lessF add_any sub_any mul_any div_any less_any make_any)
open NumPlain
set_option linter.unusedVariables false

theorem equal_leaf (t u : Dt) : ∃ k n d e, equalR t u = (.node k n d ⟨#[]⟩ [], e) ∧ I64 k ∧ I64 n ∧ I64 d := by
  unfold equalR
  split
  · exact ⟨0, 0, 0, 3, rfl, i64_lit0, i64_lit0, i64_lit0⟩
  · cases (eqD t u 1000).1
    · exact ⟨1, 0, 0, 0, rfl, by unfold I64; omega, i64_lit0, i64_lit0⟩
    · exact ⟨1, 1, 0, 0, rfl, by unfold I64; omega, by unfold I64; omega, i64_lit0⟩

set_option maxHeartbeats 2000000 in
set_option maxRecDepth 100000 in
theorem made7 (t u : Dt) (p : Option Addr) (cap : Nat) (w : World) (hl : [t, u] = [] ∨ ∃ b o, p = some ⟨b, o, none⟩ ∧ Dt.AllAt w [t, u] b o) (hfit : Fit 7 (.slice p 2 cap) true w) :
    Calls Try.prog 31 #[.int .i64 7, .slice p 2 cap] w fun e w' => Gives (equalR t u) e w' ∧ Below w.heap.size w w' := by
  have htk : takesB 7 2 = true := by decide +kernel
  obtain ⟨xk, xn, xd, xe, hx, ik, jn, jd⟩ := equal_leaf t u
  rw [hx]
  have HX := Lib.hid (And.intro hx (And.intro ik (And.intro jn jd)))
  clear hx ik jn jd
  obtain ⟨b, o, k, n, d, s, l, q, c, k', n', d', s', l', q', c', rfl, rfl, rfl, ⟨hk, hn, hd, hlm⟩, ⟨hk', hn', hd', hlm'⟩, hat, hat', ⟨e0, e1, e2, e3, e4⟩, ⟨f0, f1, f2, f3, f4⟩⟩ := two_args hl
  have HE := Lib.hid (And.intro e0 (And.intro e1 (And.intro e2 (And.intro e3 e4))))
  have HF := Lib.hid (And.intro f0 (And.intro f1 (And.intro f2 (And.intro f3 f4))))
  have HA := Lib.hid (And.intro hat hat')
  have HI := Lib.hid (And.intro hk (And.intro hn (And.intro hd (And.intro hk' (And.intro hn' hd')))))
  have HLM := Lib.hid (And.intro hlm hlm')
  have HNE := Lib.hid (show b ≠ w.heap.size from by have := cell_lt e0; omega)
  clear e0 e1 e2 e3 e4 f0 f1 f2 f3 f4 hat hat' hk hn hd hk' hn' hd' hl hlm hlm'
  have HT := Lib.hid (fun W => takes_yes 7 2 (by unfold I64; omega) (by unfold I64; omega) htk W)
  have HFI := Lib.hid hfit
  clear htk hfit
  go_enter Try.func31, Try.ntmps31
  go_wp2_with fail
  refine (HT.out _).mono ?_
  rintro _ w1 ⟨rfl, hb1⟩
  have HB1 := Lib.hid (And.intro (one_box hb1) (below_after hb1)); clear hb1
  go_wp2_with fail
  refine (HFI.out w1 HB1.out.2).mono ?_
  rintro _ w2 ⟨rfl, hb2⟩
  have HB2 := Lib.hid (And.intro (block_on hb2 HB1.out.1) (below_seq HB1.out.2 hb2)); clear hb2
  have e0 := cell_on HB2.out.2 _ _ _ HE.out.1
  have e1 := cell_on HB2.out.2 _ _ _ HE.out.2.1
  have e2 := cell_on HB2.out.2 _ _ _ HE.out.2.2.1
  have e3 := cell_on HB2.out.2 _ _ _ HE.out.2.2.2.1
  have e4 := cell_on HB2.out.2 _ _ _ HE.out.2.2.2.2
  have f0 := cell_on HB2.out.2 _ _ _ HF.out.1
  have f1 := cell_on HB2.out.2 _ _ _ HF.out.2.1
  have f2 := cell_on HB2.out.2 _ _ _ HF.out.2.2.1
  have f3 := cell_on HB2.out.2 _ _ _ HF.out.2.2.2.1
  have f4 := cell_on HB2.out.2 _ _ _ HF.out.2.2.2.2
  have e0' : w2.drew.cell? ⟨b, o, none⟩ = some (.int .i64 k) := e0
  have e1' : w2.drew.cell? ⟨b, o + 1, none⟩ = some (.int .i64 n) := e1
  have e2' : w2.drew.cell? ⟨b, o + 2, none⟩ = some (.int .i64 d) := e2
  have e3' : w2.drew.cell? ⟨b, o + 3, none⟩ = some (.string s) := e3
  have e4' : w2.drew.cell? ⟨b, o + 4, none⟩ = some (.slice q l.length c) := e4
  have f0' : w2.drew.cell? ⟨b, o + 5, none⟩ = some (.int .i64 k') := f0
  have f1' : w2.drew.cell? ⟨b, o + 5 + 1, none⟩ = some (.int .i64 n') := f1
  have f2' : w2.drew.cell? ⟨b, o + 5 + 2, none⟩ = some (.int .i64 d') := f2
  have f3' : w2.drew.cell? ⟨b, o + 5 + 3, none⟩ = some (.string s') := f3
  have f4' : w2.drew.cell? ⟨b, o + 5 + 4, none⟩ = some (.slice q' l'.length c') := f4
  have C := equal_any _ _ _ _ w2.drew (at_drew' (HA.out.1.below HB2.out.2)) (at_drew' (HA.out.2.below HB2.out.2))
  rw [HX.out.1] at C
  have C2 : Calls Try.prog 55 #[.agg #[.int .i64 k, .int .i64 n, .int .i64 d, .string s, .slice q l.length c], .agg #[.int .i64 k', .int .i64 n', .int .i64 d', .string s', .slice q' l'.length c']] w2.drew fun e w' => e = .returned (.tuple #[.agg #[.int .i64 xk, .int .i64 xn, .int .i64 xd, .string ⟨#[]⟩, .slice none 0 0], .int .i64 xe]) ∧ Below w2.drew.heap.size w2.drew w' := C
  have HEQ := Lib.hid C2; clear C C2
  go_wp2_with fail
  go_region_held3 (fun w' => w'.cell? ⟨b, o, none⟩ = some (.int .i64 k) ∧ w'.cell? ⟨b, o + 1, none⟩ = some (.int .i64 n) ∧ w'.cell? ⟨b, o + 2, none⟩ = some (.int .i64 d) ∧ w'.cell? ⟨b, o + 3, none⟩ = some (.string s) ∧ w'.cell? ⟨b, o + 4, none⟩ = some (.slice q l.length c) ∧ w'.cell? ⟨b, o + 5, none⟩ = some (.int .i64 k') ∧ w'.cell? ⟨b, o + 5 + 1, none⟩ = some (.int .i64 n') ∧ w'.cell? ⟨b, o + 5 + 2, none⟩ = some (.int .i64 d') ∧ w'.cell? ⟨b, o + 5 + 3, none⟩ = some (.string s') ∧ w'.cell? ⟨b, o + 5 + 4, none⟩ = some (.slice q' l'.length c'))
    (with_reducible (first | (refine ⟨?_, ?_, ?_, ?_, ?_, ?_, ?_, ?_, ?_, ?_⟩ <;> assumption) | exact ⟨five_other HNE.out e0, five_other HNE.out e1, five_other HNE.out e2, five_other HNE.out e3, five_other HNE.out e4, five_other HNE.out f0, five_other HNE.out f1, five_other HNE.out f2, five_other HNE.out f3, five_other HNE.out f4⟩))
    (first
      | (go_at_call 55
         with_reducible refine Calls.mono HEQ.out ?_
         rintro _ w4 ⟨rfl, hb⟩
         have hb' := below_drew hb
         have hbx := block_on hb' HB2.out.1
         have HB4 := Lib.hid (And.intro hbx (below_seq HB2.out.2 hb'))
         replace e0 := cell_on hb' _ _ _ e0
         replace e1 := cell_on hb' _ _ _ e1
         replace e2 := cell_on hb' _ _ _ e2
         replace e3 := cell_on hb' _ _ _ e3
         replace e4 := cell_on hb' _ _ _ e4
         replace f0 := cell_on hb' _ _ _ f0
         replace f1 := cell_on hb' _ _ _ f1
         replace f2 := cell_on hb' _ _ _ f2
         replace f3 := cell_on hb' _ _ _ f3
         replace f4 := cell_on hb' _ _ _ f4
         obtain ⟨y0, y1, y2, y3, y4⟩ := box_cells hbx
         have z0 := box_frozen hbx 0
         have z1 := box_frozen hbx 1
         have z2 := box_frozen hbx 2
         have z3 := box_frozen hbx 3
         have z4 := box_frozen hbx 4
         clear hbx hb hb'))
  go_wp2_with fail
  refine bodyPost_ret (results_row1 rfl _ _ w.heap.size 37 _ (0, 0) _ _ rfl rfl (set_five HB4.out.1) Try.underlying37 rfl Try.sizD) rfl ?_
  exact ⟨gives_leaf HX.out.2.1 HX.out.2.2.1 HX.out.2.2.2 none 0 rfl, set_five_below HB4.out.2 (Nat.le_refl _)⟩
set_option maxHeartbeats 2000000 in
set_option maxRecDepth 100000 in
theorem made8 (t : Dt) (p : Option Addr) (cap : Nat) (w : World) (hl : [t] = [] ∨ ∃ b o, p = some ⟨b, o, none⟩ ∧ Dt.AllAt w [t] b o) (hfit : Fit 8 (.slice p 1 cap) true w) :
    Calls Try.prog 31 #[.int .i64 8, .slice p 1 cap] w fun e w' => Gives (boolD (decide (t.kd = 1) && decide (t.nm = 0)), 0) e w' ∧ Below w.heap.size w w' := by
  have htk : takesB 8 1 = true := by decide +kernel
  obtain ⟨b, o, k, n, d, s, l, q, c, rfl, rfl, hk, hn, hd, hlm, hat, e0, e1, e2, e3, e4⟩ := one_arg hl
  have HE := Lib.hid (And.intro e0 (And.intro e1 (And.intro e2 (And.intro e3 e4))))
  have HA := Lib.hid hat
  have HI := Lib.hid (And.intro hk (And.intro hn hd))
  have HLM := Lib.hid hlm
  have HNE := Lib.hid (show b ≠ w.heap.size from by have := cell_lt e0; omega)
  clear e0 e1 e2 e3 e4 hat hk hn hd hl hlm
  obtain ⟨r, hrr⟩ : ∃ r, (decide ((Dt.node k n d s l).kd = 1) && decide ((Dt.node k n d s l).nm = 0)) = r := ⟨_, rfl⟩
  obtain ⟨y, hy⟩ : ∃ y, (if r = true then (1 : Int) else 0) = y := ⟨_, rfl⟩
  rw [hrr]
  have hrr2 : (decide (k = 1) && decide (n = 0)) = r := hrr
  have hcase : (k = 1 ∧ n = 0 ∧ r = true) ∨ (k = 1 ∧ n ≠ 0 ∧ r = false) ∨ (k ≠ 1 ∧ r = false) := by
    subst hrr2
    by_cases h1 : k = 1 <;> by_cases h2 : n = 0 <;> simp [h1, h2]
  clear hrr hrr2
  have HT := Lib.hid (fun W => takes_yes 8 1 (by unfold I64; omega) (by unfold I64; omega) htk W)
  have HFI := Lib.hid hfit
  clear htk hfit
  go_enter Try.func31, Try.ntmps31
  go_wp2_with fail
  refine (HT.out _).mono ?_
  rintro _ w1 ⟨rfl, hb1⟩
  have HB1 := Lib.hid (And.intro (one_box hb1) (below_after hb1)); clear hb1
  go_wp2_with fail
  refine (HFI.out w1 HB1.out.2).mono ?_
  rintro _ w2 ⟨rfl, hb2⟩
  have HB2 := Lib.hid (And.intro (block_on hb2 HB1.out.1) (below_seq HB1.out.2 hb2)); clear hb2
  have e0 := cell_on HB2.out.2 _ _ _ HE.out.1
  have e1 := cell_on HB2.out.2 _ _ _ HE.out.2.1
  rcases hcase with ⟨rfl, rfl, hr⟩ | ⟨rfl, hq, hr⟩ | ⟨hq, hr⟩
  · have HY := Lib.hid (show (if (true : Bool) = true then (1 : Int) else 0) = y from hr ▸ hy)
    have HRR := Lib.hid hr
    clear hy hr
    go_wp2_with fail
    refine (truth_bit true y (by simpa using HY.out) _).mono ?_
    rintro _ w4 ⟨rfl, hb⟩
    have hbx := block_on hb HB2.out.1
    have HB4 := Lib.hid (And.intro hbx (below_seq HB2.out.2 hb))
    obtain ⟨c0, c1, c2, c3, c4⟩ := box_cells hbx
    have z0 := box_frozen hbx 0
    have z1 := box_frozen hbx 1
    have z2 := box_frozen hbx 2
    have z3 := box_frozen hbx 3
    have z4 := box_frozen hbx 4
    clear hbx hb
    go_wp2_with fail
    refine bodyPost_ret (results_row1 rfl _ _ w.heap.size 37 _ (0, 0) _ _ rfl rfl (set_five HB4.out.1) Try.underlying37 rfl Try.sizD) rfl ?_
    rw [HRR.out]
    exact ⟨gives_bool (by simpa using HY.out) rfl, set_five_below HB4.out.2 (Nat.le_refl _)⟩
  · have q0 : (n == 0) = false := by rw [beq_eq_false_iff_ne]; exact hq
    have HY := Lib.hid (show (if (false : Bool) = true then (1 : Int) else 0) = y from hr ▸ hy)
    have HRR := Lib.hid hr
    clear hy hr hq
    go_wp2_with fail
    refine (truth_bit false y (by simpa using HY.out) _).mono ?_
    rintro _ w4 ⟨rfl, hb⟩
    have hbx := block_on hb HB2.out.1
    have HB4 := Lib.hid (And.intro hbx (below_seq HB2.out.2 hb))
    obtain ⟨c0, c1, c2, c3, c4⟩ := box_cells hbx
    have z0 := box_frozen hbx 0
    have z1 := box_frozen hbx 1
    have z2 := box_frozen hbx 2
    have z3 := box_frozen hbx 3
    have z4 := box_frozen hbx 4
    clear hbx hb
    go_wp2_with fail
    refine bodyPost_ret (results_row1 rfl _ _ w.heap.size 37 _ (0, 0) _ _ rfl rfl (set_five HB4.out.1) Try.underlying37 rfl Try.sizD) rfl ?_
    rw [HRR.out]
    exact ⟨gives_bool (by simpa using HY.out) rfl, set_five_below HB4.out.2 (Nat.le_refl _)⟩
  · have q0 : (k == 1) = false := by rw [beq_eq_false_iff_ne]; exact hq
    have HY := Lib.hid (show (if (false : Bool) = true then (1 : Int) else 0) = y from hr ▸ hy)
    have HRR := Lib.hid hr
    clear hy hr hq
    go_wp2_with fail
    refine (truth_bit false y (by simpa using HY.out) _).mono ?_
    rintro _ w4 ⟨rfl, hb⟩
    have hbx := block_on hb HB2.out.1
    have HB4 := Lib.hid (And.intro hbx (below_seq HB2.out.2 hb))
    obtain ⟨c0, c1, c2, c3, c4⟩ := box_cells hbx
    have z0 := box_frozen hbx 0
    have z1 := box_frozen hbx 1
    have z2 := box_frozen hbx 2
    have z3 := box_frozen hbx 3
    have z4 := box_frozen hbx 4
    clear hbx hb
    go_wp2_with fail
    refine bodyPost_ret (results_row1 rfl _ _ w.heap.size 37 _ (0, 0) _ _ rfl rfl (set_five HB4.out.1) Try.underlying37 rfl Try.sizD) rfl ?_
    rw [HRR.out]
    exact ⟨gives_bool (by simpa using HY.out) rfl, set_five_below HB4.out.2 (Nat.le_refl _)⟩
set_option maxHeartbeats 2000000 in
set_option maxRecDepth 100000 in
theorem made9 (t : Dt) (p : Option Addr) (cap : Nat) (w : World) (hl : [t] = [] ∨ ∃ b o, p = some ⟨b, o, none⟩ ∧ Dt.AllAt w [t] b o) (hfit : Fit 9 (.slice p 1 cap) true w) :
    Calls Try.prog 31 #[.int .i64 9, .slice p 1 cap] w fun e w' => Gives (boolD (decide (t.kd = kindOf 9)), 0) e w' ∧ Below w.heap.size w w' := by
  have htk : takesB 9 1 = true := by decide +kernel
  obtain ⟨b, o, k, n, d, s, l, q, c, rfl, rfl, hk, hn, hd, hlm, hat, e0, e1, e2, e3, e4⟩ := one_arg hl
  have HE := Lib.hid (And.intro e0 (And.intro e1 (And.intro e2 (And.intro e3 e4))))
  have HA := Lib.hid hat
  have HI := Lib.hid (And.intro hk (And.intro hn hd))
  have HLM := Lib.hid hlm
  have HNE := Lib.hid (show b ≠ w.heap.size from by have := cell_lt e0; omega)
  clear e0 e1 e2 e3 e4 hat hk hn hd hl hlm
  obtain ⟨r, hrr⟩ : ∃ r, decide ((Dt.node k n d s l).kd = kindOf 9) = r := ⟨_, rfl⟩
  obtain ⟨y, hy⟩ : ∃ y, (if r = true then (1 : Int) else 0) = y := ⟨_, rfl⟩
  rw [hrr]
  have hr2 : (k == 4) = r := by rw [← hrr]; rfl
  have HY := Lib.hid hy
  clear hrr hy
  have HKD := Lib.hid (fun W => (show Calls Try.prog 60 #[.int .i64 9] W fun e w' => e = .returned (.int .i64 4) ∧ Below W.heap.size W w' from kind9 W))
  have HT := Lib.hid (fun W => takes_yes 9 1 (by unfold I64; omega) (by unfold I64; omega) htk W)
  have HFI := Lib.hid hfit
  clear htk hfit
  go_enter Try.func31, Try.ntmps31
  go_wp2_with fail
  refine (HT.out _).mono ?_
  rintro _ w1 ⟨rfl, hb1⟩
  have HB1 := Lib.hid (And.intro (one_box hb1) (below_after hb1)); clear hb1
  go_wp2_with fail
  refine (HFI.out w1 HB1.out.2).mono ?_
  rintro _ w2 ⟨rfl, hb2⟩
  have HB2 := Lib.hid (And.intro (block_on hb2 HB1.out.1) (below_seq HB1.out.2 hb2)); clear hb2
  have e0 := cell_on HB2.out.2 _ _ _ HE.out.1
  have e0' : w2.drew.cell? ⟨b, o, none⟩ = some (.int .i64 k) := e0
  go_wp2_with fail
  go_region_held3 (fun w' => w'.cell? ⟨b, o, none⟩ = some (.int .i64 k))
    (with_reducible (first | assumption | exact five_other HNE.out e0))
    (first
      | (go_at_call 60
         with_reducible refine Calls.mono (HKD.out w2.drew) ?_
         rintro _ w3 ⟨rfl, hb⟩
         have hb' := below_drew hb
         have HB3 := Lib.hid (And.intro (block_on hb' HB2.out.1) (below_seq HB2.out.2 hb'))
         replace e0 := cell_on hb' _ _ _ e0
         clear hb hb')
      | (go_at_call 52
         with_reducible refine Calls.mono (truth_bit _ y HY.out w3) ?_
         rintro _ w4 ⟨rfl, hb⟩
         have hbx := block_on hb HB3.out.1
         have HB4 := Lib.hid (And.intro hbx (below_seq HB3.out.2 hb))
         replace e0 := cell_on hb _ _ _ e0
         obtain ⟨y0, y1, y2, y3, y4⟩ := box_cells hbx
         have z0 := box_frozen hbx 0
         have z1 := box_frozen hbx 1
         have z2 := box_frozen hbx 2
         have z3 := box_frozen hbx 3
         have z4 := box_frozen hbx 4
         clear hbx hb))
  go_wp2_with fail
  refine bodyPost_ret (results_row1 rfl _ _ w.heap.size 37 _ (0, 0) _ _ rfl rfl (set_five HB4.out.1) Try.underlying37 rfl Try.sizD) rfl ?_
  exact ⟨gives_bool HY.out rfl, set_five_below HB4.out.2 (Nat.le_refl _)⟩
set_option maxHeartbeats 2000000 in
set_option maxRecDepth 100000 in
theorem made10 (t : Dt) (p : Option Addr) (cap : Nat) (w : World) (hl : [t] = [] ∨ ∃ b o, p = some ⟨b, o, none⟩ ∧ Dt.AllAt w [t] b o) (hfit : Fit 10 (.slice p 1 cap) true w) :
    Calls Try.prog 31 #[.int .i64 10, .slice p 1 cap] w fun e w' => Gives (boolD (decide (t.kd = kindOf 10)), 0) e w' ∧ Below w.heap.size w w' := by
  have htk : takesB 10 1 = true := by decide +kernel
  obtain ⟨b, o, k, n, d, s, l, q, c, rfl, rfl, hk, hn, hd, hlm, hat, e0, e1, e2, e3, e4⟩ := one_arg hl
  have HE := Lib.hid (And.intro e0 (And.intro e1 (And.intro e2 (And.intro e3 e4))))
  have HA := Lib.hid hat
  have HI := Lib.hid (And.intro hk (And.intro hn hd))
  have HLM := Lib.hid hlm
  have HNE := Lib.hid (show b ≠ w.heap.size from by have := cell_lt e0; omega)
  clear e0 e1 e2 e3 e4 hat hk hn hd hl hlm
  obtain ⟨r, hrr⟩ : ∃ r, decide ((Dt.node k n d s l).kd = kindOf 10) = r := ⟨_, rfl⟩
  obtain ⟨y, hy⟩ : ∃ y, (if r = true then (1 : Int) else 0) = y := ⟨_, rfl⟩
  rw [hrr]
  have hr2 : (k == 6) = r := by rw [← hrr]; rfl
  have HY := Lib.hid hy
  clear hrr hy
  have HKD := Lib.hid (fun W => (show Calls Try.prog 60 #[.int .i64 10] W fun e w' => e = .returned (.int .i64 6) ∧ Below W.heap.size W w' from kind10 W))
  have HT := Lib.hid (fun W => takes_yes 10 1 (by unfold I64; omega) (by unfold I64; omega) htk W)
  have HFI := Lib.hid hfit
  clear htk hfit
  go_enter Try.func31, Try.ntmps31
  go_wp2_with fail
  refine (HT.out _).mono ?_
  rintro _ w1 ⟨rfl, hb1⟩
  have HB1 := Lib.hid (And.intro (one_box hb1) (below_after hb1)); clear hb1
  go_wp2_with fail
  refine (HFI.out w1 HB1.out.2).mono ?_
  rintro _ w2 ⟨rfl, hb2⟩
  have HB2 := Lib.hid (And.intro (block_on hb2 HB1.out.1) (below_seq HB1.out.2 hb2)); clear hb2
  have e0 := cell_on HB2.out.2 _ _ _ HE.out.1
  have e0' : w2.drew.cell? ⟨b, o, none⟩ = some (.int .i64 k) := e0
  go_wp2_with fail
  go_region_held3 (fun w' => w'.cell? ⟨b, o, none⟩ = some (.int .i64 k))
    (with_reducible (first | assumption | exact five_other HNE.out e0))
    (first
      | (go_at_call 60
         with_reducible refine Calls.mono (HKD.out w2.drew) ?_
         rintro _ w3 ⟨rfl, hb⟩
         have hb' := below_drew hb
         have HB3 := Lib.hid (And.intro (block_on hb' HB2.out.1) (below_seq HB2.out.2 hb'))
         replace e0 := cell_on hb' _ _ _ e0
         clear hb hb')
      | (go_at_call 52
         with_reducible refine Calls.mono (truth_bit _ y HY.out w3) ?_
         rintro _ w4 ⟨rfl, hb⟩
         have hbx := block_on hb HB3.out.1
         have HB4 := Lib.hid (And.intro hbx (below_seq HB3.out.2 hb))
         replace e0 := cell_on hb _ _ _ e0
         obtain ⟨y0, y1, y2, y3, y4⟩ := box_cells hbx
         have z0 := box_frozen hbx 0
         have z1 := box_frozen hbx 1
         have z2 := box_frozen hbx 2
         have z3 := box_frozen hbx 3
         have z4 := box_frozen hbx 4
         clear hbx hb))
  go_wp2_with fail
  refine bodyPost_ret (results_row1 rfl _ _ w.heap.size 37 _ (0, 0) _ _ rfl rfl (set_five HB4.out.1) Try.underlying37 rfl Try.sizD) rfl ?_
  exact ⟨gives_bool HY.out rfl, set_five_below HB4.out.2 (Nat.le_refl _)⟩
set_option maxHeartbeats 2000000 in
set_option maxRecDepth 100000 in
theorem made11 (t : Dt) (p : Option Addr) (cap : Nat) (w : World) (hl : [t] = [] ∨ ∃ b o, p = some ⟨b, o, none⟩ ∧ Dt.AllAt w [t] b o) (hfit : Fit 11 (.slice p 1 cap) true w) :
    Calls Try.prog 31 #[.int .i64 11, .slice p 1 cap] w fun e w' => Gives (boolD (decide (t.kd = kindOf 11)), 0) e w' ∧ Below w.heap.size w w' := by
  have htk : takesB 11 1 = true := by decide +kernel
  obtain ⟨b, o, k, n, d, s, l, q, c, rfl, rfl, hk, hn, hd, hlm, hat, e0, e1, e2, e3, e4⟩ := one_arg hl
  have HE := Lib.hid (And.intro e0 (And.intro e1 (And.intro e2 (And.intro e3 e4))))
  have HA := Lib.hid hat
  have HI := Lib.hid (And.intro hk (And.intro hn hd))
  have HLM := Lib.hid hlm
  have HNE := Lib.hid (show b ≠ w.heap.size from by have := cell_lt e0; omega)
  clear e0 e1 e2 e3 e4 hat hk hn hd hl hlm
  obtain ⟨r, hrr⟩ : ∃ r, decide ((Dt.node k n d s l).kd = kindOf 11) = r := ⟨_, rfl⟩
  obtain ⟨y, hy⟩ : ∃ y, (if r = true then (1 : Int) else 0) = y := ⟨_, rfl⟩
  rw [hrr]
  have hr2 : (k == 0) = r := by rw [← hrr]; rfl
  have HY := Lib.hid hy
  clear hrr hy
  have HKD := Lib.hid (fun W => (show Calls Try.prog 60 #[.int .i64 11] W fun e w' => e = .returned (.int .i64 0) ∧ Below W.heap.size W w' from kind11 W))
  have HT := Lib.hid (fun W => takes_yes 11 1 (by unfold I64; omega) (by unfold I64; omega) htk W)
  have HFI := Lib.hid hfit
  clear htk hfit
  go_enter Try.func31, Try.ntmps31
  go_wp2_with fail
  refine (HT.out _).mono ?_
  rintro _ w1 ⟨rfl, hb1⟩
  have HB1 := Lib.hid (And.intro (one_box hb1) (below_after hb1)); clear hb1
  go_wp2_with fail
  refine (HFI.out w1 HB1.out.2).mono ?_
  rintro _ w2 ⟨rfl, hb2⟩
  have HB2 := Lib.hid (And.intro (block_on hb2 HB1.out.1) (below_seq HB1.out.2 hb2)); clear hb2
  have e0 := cell_on HB2.out.2 _ _ _ HE.out.1
  have e0' : w2.drew.cell? ⟨b, o, none⟩ = some (.int .i64 k) := e0
  go_wp2_with fail
  go_region_held3 (fun w' => w'.cell? ⟨b, o, none⟩ = some (.int .i64 k))
    (with_reducible (first | assumption | exact five_other HNE.out e0))
    (first
      | (go_at_call 60
         with_reducible refine Calls.mono (HKD.out w2.drew) ?_
         rintro _ w3 ⟨rfl, hb⟩
         have hb' := below_drew hb
         have HB3 := Lib.hid (And.intro (block_on hb' HB2.out.1) (below_seq HB2.out.2 hb'))
         replace e0 := cell_on hb' _ _ _ e0
         clear hb hb')
      | (go_at_call 52
         with_reducible refine Calls.mono (truth_bit _ y HY.out w3) ?_
         rintro _ w4 ⟨rfl, hb⟩
         have hbx := block_on hb HB3.out.1
         have HB4 := Lib.hid (And.intro hbx (below_seq HB3.out.2 hb))
         replace e0 := cell_on hb _ _ _ e0
         obtain ⟨y0, y1, y2, y3, y4⟩ := box_cells hbx
         have z0 := box_frozen hbx 0
         have z1 := box_frozen hbx 1
         have z2 := box_frozen hbx 2
         have z3 := box_frozen hbx 3
         have z4 := box_frozen hbx 4
         clear hbx hb))
  go_wp2_with fail
  refine bodyPost_ret (results_row1 rfl _ _ w.heap.size 37 _ (0, 0) _ _ rfl rfl (set_five HB4.out.1) Try.underlying37 rfl Try.sizD) rfl ?_
  exact ⟨gives_bool HY.out rfl, set_five_below HB4.out.2 (Nat.le_refl _)⟩
set_option maxHeartbeats 2000000 in
set_option maxRecDepth 100000 in
theorem made12 (t : Dt) (p : Option Addr) (cap : Nat) (w : World) (hl : [t] = [] ∨ ∃ b o, p = some ⟨b, o, none⟩ ∧ Dt.AllAt w [t] b o) (hfit : Fit 12 (.slice p 1 cap) true w) :
    Calls Try.prog 31 #[.int .i64 12, .slice p 1 cap] w fun e w' => Gives (boolD (decide (t.kd = kindOf 12)), 0) e w' ∧ Below w.heap.size w w' := by
  have htk : takesB 12 1 = true := by decide +kernel
  obtain ⟨b, o, k, n, d, s, l, q, c, rfl, rfl, hk, hn, hd, hlm, hat, e0, e1, e2, e3, e4⟩ := one_arg hl
  have HE := Lib.hid (And.intro e0 (And.intro e1 (And.intro e2 (And.intro e3 e4))))
  have HA := Lib.hid hat
  have HI := Lib.hid (And.intro hk (And.intro hn hd))
  have HLM := Lib.hid hlm
  have HNE := Lib.hid (show b ≠ w.heap.size from by have := cell_lt e0; omega)
  clear e0 e1 e2 e3 e4 hat hk hn hd hl hlm
  obtain ⟨r, hrr⟩ : ∃ r, decide ((Dt.node k n d s l).kd = kindOf 12) = r := ⟨_, rfl⟩
  obtain ⟨y, hy⟩ : ∃ y, (if r = true then (1 : Int) else 0) = y := ⟨_, rfl⟩
  rw [hrr]
  have hr2 : (k == 2) = r := by rw [← hrr]; rfl
  have HY := Lib.hid hy
  clear hrr hy
  have HKD := Lib.hid (fun W => (show Calls Try.prog 60 #[.int .i64 12] W fun e w' => e = .returned (.int .i64 2) ∧ Below W.heap.size W w' from kind12 W))
  have HT := Lib.hid (fun W => takes_yes 12 1 (by unfold I64; omega) (by unfold I64; omega) htk W)
  have HFI := Lib.hid hfit
  clear htk hfit
  go_enter Try.func31, Try.ntmps31
  go_wp2_with fail
  refine (HT.out _).mono ?_
  rintro _ w1 ⟨rfl, hb1⟩
  have HB1 := Lib.hid (And.intro (one_box hb1) (below_after hb1)); clear hb1
  go_wp2_with fail
  refine (HFI.out w1 HB1.out.2).mono ?_
  rintro _ w2 ⟨rfl, hb2⟩
  have HB2 := Lib.hid (And.intro (block_on hb2 HB1.out.1) (below_seq HB1.out.2 hb2)); clear hb2
  have e0 := cell_on HB2.out.2 _ _ _ HE.out.1
  have e0' : w2.drew.cell? ⟨b, o, none⟩ = some (.int .i64 k) := e0
  go_wp2_with fail
  go_region_held3 (fun w' => w'.cell? ⟨b, o, none⟩ = some (.int .i64 k))
    (with_reducible (first | assumption | exact five_other HNE.out e0))
    (first
      | (go_at_call 60
         with_reducible refine Calls.mono (HKD.out w2.drew) ?_
         rintro _ w3 ⟨rfl, hb⟩
         have hb' := below_drew hb
         have HB3 := Lib.hid (And.intro (block_on hb' HB2.out.1) (below_seq HB2.out.2 hb'))
         replace e0 := cell_on hb' _ _ _ e0
         clear hb hb')
      | (go_at_call 52
         with_reducible refine Calls.mono (truth_bit _ y HY.out w3) ?_
         rintro _ w4 ⟨rfl, hb⟩
         have hbx := block_on hb HB3.out.1
         have HB4 := Lib.hid (And.intro hbx (below_seq HB3.out.2 hb))
         replace e0 := cell_on hb _ _ _ e0
         obtain ⟨y0, y1, y2, y3, y4⟩ := box_cells hbx
         have z0 := box_frozen hbx 0
         have z1 := box_frozen hbx 1
         have z2 := box_frozen hbx 2
         have z3 := box_frozen hbx 3
         have z4 := box_frozen hbx 4
         clear hbx hb))
  go_wp2_with fail
  refine bodyPost_ret (results_row1 rfl _ _ w.heap.size 37 _ (0, 0) _ _ rfl rfl (set_five HB4.out.1) Try.underlying37 rfl Try.sizD) rfl ?_
  exact ⟨gives_bool HY.out rfl, set_five_below HB4.out.2 (Nat.le_refl _)⟩
set_option maxHeartbeats 2000000 in
set_option maxRecDepth 100000 in
theorem made13 (t : Dt) (p : Option Addr) (cap : Nat) (w : World) (hl : [t] = [] ∨ ∃ b o, p = some ⟨b, o, none⟩ ∧ Dt.AllAt w [t] b o) (hfit : Fit 13 (.slice p 1 cap) true w) :
    Calls Try.prog 31 #[.int .i64 13, .slice p 1 cap] w fun e w' => Gives (boolD (decide (t.kd = kindOf 13)), 0) e w' ∧ Below w.heap.size w w' := by
  have htk : takesB 13 1 = true := by decide +kernel
  obtain ⟨b, o, k, n, d, s, l, q, c, rfl, rfl, hk, hn, hd, hlm, hat, e0, e1, e2, e3, e4⟩ := one_arg hl
  have HE := Lib.hid (And.intro e0 (And.intro e1 (And.intro e2 (And.intro e3 e4))))
  have HA := Lib.hid hat
  have HI := Lib.hid (And.intro hk (And.intro hn hd))
  have HLM := Lib.hid hlm
  have HNE := Lib.hid (show b ≠ w.heap.size from by have := cell_lt e0; omega)
  clear e0 e1 e2 e3 e4 hat hk hn hd hl hlm
  obtain ⟨r, hrr⟩ : ∃ r, decide ((Dt.node k n d s l).kd = kindOf 13) = r := ⟨_, rfl⟩
  obtain ⟨y, hy⟩ : ∃ y, (if r = true then (1 : Int) else 0) = y := ⟨_, rfl⟩
  rw [hrr]
  have hr2 : (k == 1) = r := by rw [← hrr]; rfl
  have HY := Lib.hid hy
  clear hrr hy
  have HKD := Lib.hid (fun W => (show Calls Try.prog 60 #[.int .i64 13] W fun e w' => e = .returned (.int .i64 1) ∧ Below W.heap.size W w' from kind13 W))
  have HT := Lib.hid (fun W => takes_yes 13 1 (by unfold I64; omega) (by unfold I64; omega) htk W)
  have HFI := Lib.hid hfit
  clear htk hfit
  go_enter Try.func31, Try.ntmps31
  go_wp2_with fail
  refine (HT.out _).mono ?_
  rintro _ w1 ⟨rfl, hb1⟩
  have HB1 := Lib.hid (And.intro (one_box hb1) (below_after hb1)); clear hb1
  go_wp2_with fail
  refine (HFI.out w1 HB1.out.2).mono ?_
  rintro _ w2 ⟨rfl, hb2⟩
  have HB2 := Lib.hid (And.intro (block_on hb2 HB1.out.1) (below_seq HB1.out.2 hb2)); clear hb2
  have e0 := cell_on HB2.out.2 _ _ _ HE.out.1
  have e0' : w2.drew.cell? ⟨b, o, none⟩ = some (.int .i64 k) := e0
  go_wp2_with fail
  go_region_held3 (fun w' => w'.cell? ⟨b, o, none⟩ = some (.int .i64 k))
    (with_reducible (first | assumption | exact five_other HNE.out e0))
    (first
      | (go_at_call 60
         with_reducible refine Calls.mono (HKD.out w2.drew) ?_
         rintro _ w3 ⟨rfl, hb⟩
         have hb' := below_drew hb
         have HB3 := Lib.hid (And.intro (block_on hb' HB2.out.1) (below_seq HB2.out.2 hb'))
         replace e0 := cell_on hb' _ _ _ e0
         clear hb hb')
      | (go_at_call 52
         with_reducible refine Calls.mono (truth_bit _ y HY.out w3) ?_
         rintro _ w4 ⟨rfl, hb⟩
         have hbx := block_on hb HB3.out.1
         have HB4 := Lib.hid (And.intro hbx (below_seq HB3.out.2 hb))
         replace e0 := cell_on hb _ _ _ e0
         obtain ⟨y0, y1, y2, y3, y4⟩ := box_cells hbx
         have z0 := box_frozen hbx 0
         have z1 := box_frozen hbx 1
         have z2 := box_frozen hbx 2
         have z3 := box_frozen hbx 3
         have z4 := box_frozen hbx 4
         clear hbx hb))
  go_wp2_with fail
  refine bodyPost_ret (results_row1 rfl _ _ w.heap.size 37 _ (0, 0) _ _ rfl rfl (set_five HB4.out.1) Try.underlying37 rfl Try.sizD) rfl ?_
  exact ⟨gives_bool HY.out rfl, set_five_below HB4.out.2 (Nat.le_refl _)⟩
set_option maxHeartbeats 2000000 in
set_option maxRecDepth 100000 in
theorem made14 (t : Dt) (p : Option Addr) (cap : Nat) (w : World) (hl : [t] = [] ∨ ∃ b o, p = some ⟨b, o, none⟩ ∧ Dt.AllAt w [t] b o) (hfit : Fit 14 (.slice p 1 cap) true w) :
    Calls Try.prog 31 #[.int .i64 14, .slice p 1 cap] w fun e w' => Gives (boolD (decide (t.kd = kindOf 14)), 0) e w' ∧ Below w.heap.size w w' := by
  have htk : takesB 14 1 = true := by decide +kernel
  obtain ⟨b, o, k, n, d, s, l, q, c, rfl, rfl, hk, hn, hd, hlm, hat, e0, e1, e2, e3, e4⟩ := one_arg hl
  have HE := Lib.hid (And.intro e0 (And.intro e1 (And.intro e2 (And.intro e3 e4))))
  have HA := Lib.hid hat
  have HI := Lib.hid (And.intro hk (And.intro hn hd))
  have HLM := Lib.hid hlm
  have HNE := Lib.hid (show b ≠ w.heap.size from by have := cell_lt e0; omega)
  clear e0 e1 e2 e3 e4 hat hk hn hd hl hlm
  obtain ⟨r, hrr⟩ : ∃ r, decide ((Dt.node k n d s l).kd = kindOf 14) = r := ⟨_, rfl⟩
  obtain ⟨y, hy⟩ : ∃ y, (if r = true then (1 : Int) else 0) = y := ⟨_, rfl⟩
  rw [hrr]
  have hr2 : (k == 3) = r := by rw [← hrr]; rfl
  have HY := Lib.hid hy
  clear hrr hy
  have HKD := Lib.hid (fun W => (show Calls Try.prog 60 #[.int .i64 14] W fun e w' => e = .returned (.int .i64 3) ∧ Below W.heap.size W w' from kind14 W))
  have HT := Lib.hid (fun W => takes_yes 14 1 (by unfold I64; omega) (by unfold I64; omega) htk W)
  have HFI := Lib.hid hfit
  clear htk hfit
  go_enter Try.func31, Try.ntmps31
  go_wp2_with fail
  refine (HT.out _).mono ?_
  rintro _ w1 ⟨rfl, hb1⟩
  have HB1 := Lib.hid (And.intro (one_box hb1) (below_after hb1)); clear hb1
  go_wp2_with fail
  refine (HFI.out w1 HB1.out.2).mono ?_
  rintro _ w2 ⟨rfl, hb2⟩
  have HB2 := Lib.hid (And.intro (block_on hb2 HB1.out.1) (below_seq HB1.out.2 hb2)); clear hb2
  have e0 := cell_on HB2.out.2 _ _ _ HE.out.1
  have e0' : w2.drew.cell? ⟨b, o, none⟩ = some (.int .i64 k) := e0
  go_wp2_with fail
  go_region_held3 (fun w' => w'.cell? ⟨b, o, none⟩ = some (.int .i64 k))
    (with_reducible (first | assumption | exact five_other HNE.out e0))
    (first
      | (go_at_call 60
         with_reducible refine Calls.mono (HKD.out w2.drew) ?_
         rintro _ w3 ⟨rfl, hb⟩
         have hb' := below_drew hb
         have HB3 := Lib.hid (And.intro (block_on hb' HB2.out.1) (below_seq HB2.out.2 hb'))
         replace e0 := cell_on hb' _ _ _ e0
         clear hb hb')
      | (go_at_call 52
         with_reducible refine Calls.mono (truth_bit _ y HY.out w3) ?_
         rintro _ w4 ⟨rfl, hb⟩
         have hbx := block_on hb HB3.out.1
         have HB4 := Lib.hid (And.intro hbx (below_seq HB3.out.2 hb))
         replace e0 := cell_on hb _ _ _ e0
         obtain ⟨y0, y1, y2, y3, y4⟩ := box_cells hbx
         have z0 := box_frozen hbx 0
         have z1 := box_frozen hbx 1
         have z2 := box_frozen hbx 2
         have z3 := box_frozen hbx 3
         have z4 := box_frozen hbx 4
         clear hbx hb))
  go_wp2_with fail
  refine bodyPost_ret (results_row1 rfl _ _ w.heap.size 37 _ (0, 0) _ _ rfl rfl (set_five HB4.out.1) Try.underlying37 rfl Try.sizD) rfl ?_
  exact ⟨gives_bool HY.out rfl, set_five_below HB4.out.2 (Nat.le_refl _)⟩
set_option maxHeartbeats 2000000 in
set_option maxRecDepth 100000 in
theorem made15 (t : Dt) (p : Option Addr) (cap : Nat) (w : World) (hl : [t] = [] ∨ ∃ b o, p = some ⟨b, o, none⟩ ∧ Dt.AllAt w [t] b o) (hfit : Fit 15 (.slice p 1 cap) true w) :
    Calls Try.prog 31 #[.int .i64 15, .slice p 1 cap] w fun e w' => Gives (boolD (decide (t.kd = kindOf 15)), 0) e w' ∧ Below w.heap.size w w' := by
  have htk : takesB 15 1 = true := by decide +kernel
  obtain ⟨b, o, k, n, d, s, l, q, c, rfl, rfl, hk, hn, hd, hlm, hat, e0, e1, e2, e3, e4⟩ := one_arg hl
  have HE := Lib.hid (And.intro e0 (And.intro e1 (And.intro e2 (And.intro e3 e4))))
  have HA := Lib.hid hat
  have HI := Lib.hid (And.intro hk (And.intro hn hd))
  have HLM := Lib.hid hlm
  have HNE := Lib.hid (show b ≠ w.heap.size from by have := cell_lt e0; omega)
  clear e0 e1 e2 e3 e4 hat hk hn hd hl hlm
  obtain ⟨r, hrr⟩ : ∃ r, decide ((Dt.node k n d s l).kd = kindOf 15) = r := ⟨_, rfl⟩
  obtain ⟨y, hy⟩ : ∃ y, (if r = true then (1 : Int) else 0) = y := ⟨_, rfl⟩
  rw [hrr]
  have hr2 : (k == 7) = r := by rw [← hrr]; rfl
  have HY := Lib.hid hy
  clear hrr hy
  have HKD := Lib.hid (fun W => (show Calls Try.prog 60 #[.int .i64 15] W fun e w' => e = .returned (.int .i64 7) ∧ Below W.heap.size W w' from kind15 W))
  have HT := Lib.hid (fun W => takes_yes 15 1 (by unfold I64; omega) (by unfold I64; omega) htk W)
  have HFI := Lib.hid hfit
  clear htk hfit
  go_enter Try.func31, Try.ntmps31
  go_wp2_with fail
  refine (HT.out _).mono ?_
  rintro _ w1 ⟨rfl, hb1⟩
  have HB1 := Lib.hid (And.intro (one_box hb1) (below_after hb1)); clear hb1
  go_wp2_with fail
  refine (HFI.out w1 HB1.out.2).mono ?_
  rintro _ w2 ⟨rfl, hb2⟩
  have HB2 := Lib.hid (And.intro (block_on hb2 HB1.out.1) (below_seq HB1.out.2 hb2)); clear hb2
  have e0 := cell_on HB2.out.2 _ _ _ HE.out.1
  have e0' : w2.drew.cell? ⟨b, o, none⟩ = some (.int .i64 k) := e0
  go_wp2_with fail
  go_region_held3 (fun w' => w'.cell? ⟨b, o, none⟩ = some (.int .i64 k))
    (with_reducible (first | assumption | exact five_other HNE.out e0))
    (first
      | (go_at_call 60
         with_reducible refine Calls.mono (HKD.out w2.drew) ?_
         rintro _ w3 ⟨rfl, hb⟩
         have hb' := below_drew hb
         have HB3 := Lib.hid (And.intro (block_on hb' HB2.out.1) (below_seq HB2.out.2 hb'))
         replace e0 := cell_on hb' _ _ _ e0
         clear hb hb')
      | (go_at_call 52
         with_reducible refine Calls.mono (truth_bit _ y HY.out w3) ?_
         rintro _ w4 ⟨rfl, hb⟩
         have hbx := block_on hb HB3.out.1
         have HB4 := Lib.hid (And.intro hbx (below_seq HB3.out.2 hb))
         replace e0 := cell_on hb _ _ _ e0
         obtain ⟨y0, y1, y2, y3, y4⟩ := box_cells hbx
         have z0 := box_frozen hbx 0
         have z1 := box_frozen hbx 1
         have z2 := box_frozen hbx 2
         have z3 := box_frozen hbx 3
         have z4 := box_frozen hbx 4
         clear hbx hb))
  go_wp2_with fail
  refine bodyPost_ret (results_row1 rfl _ _ w.heap.size 37 _ (0, 0) _ _ rfl rfl (set_five HB4.out.1) Try.underlying37 rfl Try.sizD) rfl ?_
  exact ⟨gives_bool HY.out rfl, set_five_below HB4.out.2 (Nat.le_refl _)⟩
set_option maxHeartbeats 2000000 in
set_option maxRecDepth 100000 in
theorem made16 (t : Dt) (p : Option Addr) (cap : Nat) (w : World) (hfit : Fit 16 (.slice p 1 cap) true w) :
    Calls Try.prog 31 #[.int .i64 16, .slice p 1 cap] w fun e w' => Gives (boolD false, 0) e w' ∧ Below w.heap.size w w' := by
  have htk : takesB 16 1 = true := by decide +kernel
  have HY := Lib.hid (show (if false = true then (1 : Int) else 0) = 0 from rfl)
  have HT := Lib.hid (fun W => takes_yes 16 1 (by unfold I64; omega) (by unfold I64; omega) htk W)
  have HFI := Lib.hid hfit
  clear htk hfit
  go_enter Try.func31, Try.ntmps31
  go_wp2_with fail
  refine (HT.out _).mono ?_
  rintro _ w1 ⟨rfl, hb1⟩
  have HB1 := Lib.hid (And.intro (one_box hb1) (below_after hb1)); clear hb1
  go_wp2_with fail
  refine (HFI.out w1 HB1.out.2).mono ?_
  rintro _ w2 ⟨rfl, hb2⟩
  have HB2 := Lib.hid (And.intro (block_on hb2 HB1.out.1) (below_seq HB1.out.2 hb2)); clear hb2
  go_wp2_with fail
  refine (truth_bit _ 0 HY.out _).mono ?_
  rintro _ w4 ⟨rfl, hb⟩
  have hbx := block_on hb HB2.out.1
  have HB4 := Lib.hid (And.intro hbx (below_seq HB2.out.2 hb))
  obtain ⟨c0, c1, c2, c3, c4⟩ := box_cells hbx
  have z0 := box_frozen hbx 0
  have z1 := box_frozen hbx 1
  have z2 := box_frozen hbx 2
  have z3 := box_frozen hbx 3
  have z4 := box_frozen hbx 4
  clear hbx hb
  go_wp2_with fail
  refine bodyPost_ret (results_row1 rfl _ _ w.heap.size 37 _ (0, 0) _ _ rfl rfl (set_five HB4.out.1) Try.underlying37 rfl Try.sizD) rfl ?_
  exact ⟨gives_bool HY.out rfl, set_five_below HB4.out.2 (Nat.le_refl _)⟩
set_option maxHeartbeats 2000000 in
set_option maxRecDepth 100000 in
theorem made25 (p : Option Addr) (cap : Nat) (w : World) (hfit : Fit 25 (.slice p 0 cap) true w) :
    Calls Try.prog 31 #[.int .i64 25, .slice p 0 cap] w fun e w' => Gives (voidD, 0) e w' ∧ Below w.heap.size w w' := by
  have htk : takesB 25 0 = true := by decide +kernel
  have HT := Lib.hid (fun W => takes_yes 25 0 (by unfold I64; omega) (by unfold I64; omega) htk W)
  have HFI := Lib.hid hfit
  clear htk hfit
  go_enter Try.func31, Try.ntmps31
  go_wp2_with fail
  refine (HT.out _).mono ?_
  rintro _ w1 ⟨rfl, hb1⟩
  have HB1 := Lib.hid (And.intro (one_box hb1) (below_after hb1)); clear hb1
  go_wp2_with fail
  refine (HFI.out w1 HB1.out.2).mono ?_
  rintro _ w2 ⟨rfl, hb2⟩
  have HB2 := Lib.hid (And.intro (block_on hb2 HB1.out.1) (below_seq HB1.out.2 hb2)); clear hb2
  have hbx := HB2.out.1
  obtain ⟨c0, c1, c2, c3, c4⟩ := box_cells hbx
  have z0 := box_frozen hbx 0
  have z1 := box_frozen hbx 1
  have z2 := box_frozen hbx 2
  have z3 := box_frozen hbx 3
  have z4 := box_frozen hbx 4
  clear hbx
  go_wp2_with fail
  refine bodyPost_ret (results_row1 rfl _ _ w.heap.size 37 _ (0, 0) _ _ rfl rfl (set_five HB2.out.1) Try.underlying37 rfl Try.sizD) rfl ?_
  exact ⟨gives_leaf (by unfold I64; omega) i64_lit0 i64_lit0 none 0 rfl, set_five_below HB2.out.2 (Nat.le_refl _)⟩
end Go.Proofs.Ytdeelpagoffdjaa.Dat

/- The program's made: parts, and how many there are. -/
namespace Go.Proofs.Ytdeelpagoffdjaa.Dat
open Go.RowKit
open Go.Proofs.Ytdeelpagoffdjaa (addF subF mulF divF lessF add_any sub_any mul_any div_any less_any make_any)
open NumPlain
set_option linter.unusedVariables false

theorem slim_part {t x : Dt} (hs : t.slim) {i : Nat} (hx : t.ls[i]? = some x) : x.slim := by
  obtain ⟨k, n, d, s, l⟩ := t
  unfold Dt.slim at hs
  exact Dt.slimAll_iff.1 hs.2 x (List.mem_of_getElem? hx)
theorem pair_parts {t : Dt} (hr : rightD t = true) (hk : t.kd = 6) : ∃ x y, t.ls = [x, y] := by
  have := pair_len hr hk
  match h : t.ls with
  | [x, y] => exact ⟨x, y, rfl⟩
  | [] => rw [h] at this; simp at this
  | [x] => rw [h] at this; simp at this
  | x :: y :: z :: r => rw [h] at this; simp at this

set_option maxHeartbeats 2000000 in
set_option maxRecDepth 100000 in
theorem made18 (k n d : Int) (s : ByteArray) (x y : Dt) (p : Option Addr) (cap : Nat) (w : World) (hs : (Dt.node k n d s [x, y]).slim) (hl : [Dt.node k n d s [x, y]] = [] ∨ ∃ b o, p = some ⟨b, o, none⟩ ∧ Dt.AllAt w [Dt.node k n d s [x, y]] b o) (hfit : Fit 18 (.slice p 1 cap) true w) :
    Calls Try.prog 31 #[.int .i64 18, .slice p 1 cap] w fun e w' => Gives (x, 0) e w' ∧ Below w.heap.size w w' := by
  have htk : takesB 18 1 = true := by decide +kernel
  obtain ⟨b, o, k2, n2, d2, s2, l2, q, c, rfl, ht, hk, hn, hd, hlm, hat, e0, e1, e2, e3, e4⟩ := one_arg hl
  obtain ⟨rfl, rfl, rfl, rfl, rfl⟩ := Dt.node.inj ht
  unfold Dt.At at hat
  obtain ⟨-, -, -, -, -, q2, c2, hv, hpl⟩ := hat
  simp only [Value.agg.injEq, Array.mk.injEq, List.cons.injEq, and_true, Value.slice.injEq, true_and] at hv
  obtain ⟨rfl, rfl⟩ := hv
  obtain ⟨b2, o2, ku, nu, du, su, lu, qu, cu, k', n', d', s', l', q', c', rfl, hxe, hye, -, -, hxat, hyat, ⟨g0, g1, g2, g3, g4⟩, ⟨j0, j1, j2, j3, j4⟩⟩ := two_args hpl
  have HE := Lib.hid e4
  have HG := Lib.hid (And.intro g0 (And.intro g1 (And.intro g2 (And.intro g3 g4))))
  have HJ := Lib.hid (And.intro j0 (And.intro j1 (And.intro j2 (And.intro j3 j4))))
  have HA := Lib.hid (And.intro hxat hyat)
  have HS := Lib.hid (And.intro (slim_part hs (i := 0) (x := x) rfl) (slim_part hs (i := 1) (x := y) rfl))
  clear e0 e1 e2 e3 e4 g0 g1 g2 g3 g4 j0 j1 j2 j3 j4 hxat hyat hs hl hpl hxe hye ht hk hn hd hlm
  have HT := Lib.hid (fun W => takes_yes 18 1 (by unfold I64; omega) (by unfold I64; omega) htk W)
  have HFI := Lib.hid hfit
  clear htk hfit
  go_enter Try.func31, Try.ntmps31
  go_wp2_with fail
  refine (HT.out _).mono ?_
  rintro _ w1 ⟨rfl, hb1⟩
  have HB1 := Lib.hid (And.intro (one_box hb1) (below_after hb1)); clear hb1
  go_wp2_with fail
  refine (HFI.out w1 HB1.out.2).mono ?_
  rintro _ w2 ⟨rfl, hb2⟩
  have HB2 := Lib.hid (And.intro (block_on hb2 HB1.out.1) (below_seq HB1.out.2 hb2)); clear hb2
  have e4 : w2.cell? ⟨b, o + 4, none⟩ = some (.slice (some ⟨b2, o2, none⟩) 2 c) := cell_on HB2.out.2 _ _ _ HE.out
  have m0 := cell_on HB2.out.2 _ _ _ HG.out.1
  have m1 := cell_on HB2.out.2 _ _ _ HG.out.2.1
  have m2 := cell_on HB2.out.2 _ _ _ HG.out.2.2.1
  have m3 := cell_on HB2.out.2 _ _ _ HG.out.2.2.2.1
  have m4 := cell_on HB2.out.2 _ _ _ HG.out.2.2.2.2
  have C := pcopied_off x _ w2 w.heap.size (lt_of_block HB2.out.1) HS.out.1 (HA.out.1.on (below_off HB2.out.2 (Nat.le_refl _)))
  have HC := Lib.hid C; clear C
  go_wp2_with fail
  refine HC.out.mono ?_
  rintro _ w4 ⟨⟨ka, na, da, sa, pa, lena, capa, rfl, hu⟩, hb⟩
  have hbx := block_on hb HB2.out.1
  have HB4 := Lib.hid (And.intro hbx (And.intro (below_seq HB2.out.2 hb) hu))
  obtain ⟨c0, c1, c2, c3, c4⟩ := box_cells hbx
  have z0 := box_frozen hbx 0
  have z1 := box_frozen hbx 1
  have z2 := box_frozen hbx 2
  have z3 := box_frozen hbx 3
  have z4 := box_frozen hbx 4
  clear hbx hb hu
  go_wp2_with fail
  refine bodyPost_ret (results_row1 rfl _ _ w.heap.size 37 _ (0, 0) _ _ rfl rfl (set_five HB4.out.1) Try.underlying37 rfl Try.sizD) rfl ?_
  exact ⟨⟨_, _, _, _, _, _, _, rfl, at_five HB4.out.2.2⟩, set_five_below HB4.out.2.1 (Nat.le_refl _)⟩
set_option maxHeartbeats 2000000 in
set_option maxRecDepth 100000 in
theorem made19 (k n d : Int) (s : ByteArray) (x y : Dt) (p : Option Addr) (cap : Nat) (w : World) (hs : (Dt.node k n d s [x, y]).slim) (hl : [Dt.node k n d s [x, y]] = [] ∨ ∃ b o, p = some ⟨b, o, none⟩ ∧ Dt.AllAt w [Dt.node k n d s [x, y]] b o) (hfit : Fit 19 (.slice p 1 cap) true w) :
    Calls Try.prog 31 #[.int .i64 19, .slice p 1 cap] w fun e w' => Gives (y, 0) e w' ∧ Below w.heap.size w w' := by
  have htk : takesB 19 1 = true := by decide +kernel
  obtain ⟨b, o, k2, n2, d2, s2, l2, q, c, rfl, ht, hk, hn, hd, hlm, hat, e0, e1, e2, e3, e4⟩ := one_arg hl
  obtain ⟨rfl, rfl, rfl, rfl, rfl⟩ := Dt.node.inj ht
  unfold Dt.At at hat
  obtain ⟨-, -, -, -, -, q2, c2, hv, hpl⟩ := hat
  simp only [Value.agg.injEq, Array.mk.injEq, List.cons.injEq, and_true, Value.slice.injEq, true_and] at hv
  obtain ⟨rfl, rfl⟩ := hv
  obtain ⟨b2, o2, ku, nu, du, su, lu, qu, cu, k', n', d', s', l', q', c', rfl, hxe, hye, -, -, hxat, hyat, ⟨g0, g1, g2, g3, g4⟩, ⟨j0, j1, j2, j3, j4⟩⟩ := two_args hpl
  have HE := Lib.hid e4
  have HG := Lib.hid (And.intro g0 (And.intro g1 (And.intro g2 (And.intro g3 g4))))
  have HJ := Lib.hid (And.intro j0 (And.intro j1 (And.intro j2 (And.intro j3 j4))))
  have HA := Lib.hid (And.intro hxat hyat)
  have HS := Lib.hid (And.intro (slim_part hs (i := 0) (x := x) rfl) (slim_part hs (i := 1) (x := y) rfl))
  clear e0 e1 e2 e3 e4 g0 g1 g2 g3 g4 j0 j1 j2 j3 j4 hxat hyat hs hl hpl hxe hye ht hk hn hd hlm
  have HT := Lib.hid (fun W => takes_yes 19 1 (by unfold I64; omega) (by unfold I64; omega) htk W)
  have HFI := Lib.hid hfit
  clear htk hfit
  go_enter Try.func31, Try.ntmps31
  go_wp2_with fail
  refine (HT.out _).mono ?_
  rintro _ w1 ⟨rfl, hb1⟩
  have HB1 := Lib.hid (And.intro (one_box hb1) (below_after hb1)); clear hb1
  go_wp2_with fail
  refine (HFI.out w1 HB1.out.2).mono ?_
  rintro _ w2 ⟨rfl, hb2⟩
  have HB2 := Lib.hid (And.intro (block_on hb2 HB1.out.1) (below_seq HB1.out.2 hb2)); clear hb2
  have e4 : w2.cell? ⟨b, o + 4, none⟩ = some (.slice (some ⟨b2, o2, none⟩) 2 c) := cell_on HB2.out.2 _ _ _ HE.out
  have m0 := cell_on HB2.out.2 _ _ _ HJ.out.1
  have m1 := cell_on HB2.out.2 _ _ _ HJ.out.2.1
  have m2 := cell_on HB2.out.2 _ _ _ HJ.out.2.2.1
  have m3 := cell_on HB2.out.2 _ _ _ HJ.out.2.2.2.1
  have m4 := cell_on HB2.out.2 _ _ _ HJ.out.2.2.2.2
  have C := pcopied_off y _ w2 w.heap.size (lt_of_block HB2.out.1) HS.out.2 (HA.out.2.on (below_off HB2.out.2 (Nat.le_refl _)))
  have HC := Lib.hid C; clear C
  go_wp2_with fail
  refine HC.out.mono ?_
  rintro _ w4 ⟨⟨ka, na, da, sa, pa, lena, capa, rfl, hu⟩, hb⟩
  have hbx := block_on hb HB2.out.1
  have HB4 := Lib.hid (And.intro hbx (And.intro (below_seq HB2.out.2 hb) hu))
  obtain ⟨c0, c1, c2, c3, c4⟩ := box_cells hbx
  have z0 := box_frozen hbx 0
  have z1 := box_frozen hbx 1
  have z2 := box_frozen hbx 2
  have z3 := box_frozen hbx 3
  have z4 := box_frozen hbx 4
  clear hbx hb hu
  go_wp2_with fail
  refine bodyPost_ret (results_row1 rfl _ _ w.heap.size 37 _ (0, 0) _ _ rfl rfl (set_five HB4.out.1) Try.underlying37 rfl Try.sizD) rfl ?_
  exact ⟨⟨_, _, _, _, _, _, _, rfl, at_five HB4.out.2.2⟩, set_five_below HB4.out.2.1 (Nat.le_refl _)⟩
end Go.Proofs.Ytdeelpagoffdjaa.Dat

/- The program's made: vector-ref, vector-length, length. -/
namespace Go.Proofs.Ytdeelpagoffdjaa.Dat
open Go.RowKit
open Go.Proofs.Ytdeelpagoffdjaa (addF subF mulF divF lessF add_any sub_any mul_any div_any less_any make_any)
open NumPlain
set_option linter.unusedVariables false

set_option maxHeartbeats 2000000 in
set_option maxRecDepth 100000 in
theorem at_keep (Y : Nat → Bool) (l : List Dt) (b o : Nat) (cap : Nat) (k : Int) (i : Nat) (t : Dt) (s : ByteArray) (q : Option Addr) (len cq : Nat) (w : World) (hlm : l.length ≤ maxLen) (hi : l[i]? = some t) (hY : ∀ b, w.heap.size ≤ b → Y b = false) (hall : Dt.AllAt (off w Y) l b o) (hs : t.slim) :
    Calls Try.prog 57 #[.slice (some ⟨b, o, none⟩) l.length cap, .agg #[.int .i64 k, .int .i64 (i : Int), .int .i64 1, .string s, .slice q len cq]] w fun e w' => (∃ k n d s p len cap, e = .returned (.tuple #[.agg #[.int .i64 k, .int .i64 n, .int .i64 d, .string s, .slice p len cap], .int .i64 0]) ∧ t.At (off w' Y) (.agg #[.int .i64 k, .int .i64 n, .int .i64 d, .string s, .slice p len cap])) ∧ Below w.heap.size w w' := by
  have hlt : i < l.length := (List.getElem?_eq_some_iff.1 hi).1
  unfold maxLen at hlm
  obtain ⟨v0, v1, v2, v3, v4, d0, d1, d2, d3, d4, hta⟩ := hall.kid hi
  have HTA := Lib.hid (And.intro hta hs)
  obtain ⟨kt, nt, dt, st, lt, pt, capt, hte, rfl, rfl, rfl, rfl, rfl, _, _⟩ := hta.open5
  replace d0 := (off_cell.1 d0).2
  replace d1 := (off_cell.1 d1).2
  replace d2 := (off_cell.1 d2).2
  replace d3 := (off_cell.1 d3).2
  replace d4 := (off_cell.1 d4).2
  have HYY := Lib.hid hY
  have HD := Lib.hid (And.intro d0 (And.intro d1 (And.intro d2 (And.intro d3 d4))))
  have q0 : ¬ ((i : Int) < 0) := by omega
  have q1 : (0 : Int) ≤ (i : Int) := by omega
  have q2 : (i : Int) < (l.length : Int) := by omega
  clear hall d0 d1 d2 d3 d4 hta hs hte hY
  go_enter Try.func57, Try.ntmps57
  go_upto_region 1 with fail
  obtain ⟨W, hW⟩ : ∃ W, (w.alloc (Obj.cells #[.int .i64 k, .int .i64 (i : Int), .int .i64 1, .string s, .slice q len cq] 37)).alloc (Obj.cells #[.int .i64 0, .int .i64 0, .int .i64 0, .string ⟨#[]⟩, .slice none 0 0] 37) = W := ⟨_, rfl⟩
  obtain ⟨k0, k1, kb⟩ := two_blocks w _ _ hW
  rw [hW]
  obtain ⟨a0, a1, a2, a3, a4⟩ := box_cells k0
  have C := pcopied_any t.size t (Nat.le_refl _) (fun b => Y b || b == w.heap.size + 1) _ W (fun b h => by have h1 := lt_of_block k1; rw [HYY.out b (by omega), Bool.false_or, beq_eq_false_iff_ne]; omega) (HTA.out.1.on fun b o x h => off_cell.2 ⟨by have h1 := off_cell.1 h; have h2 := cell_lt h1.2; rw [h1.1, Bool.false_or, beq_eq_false_iff_ne]; omega, cell_on kb _ _ _ (off_cell.1 h).2⟩) HTA.out.2
  have HC := Lib.hid C
  have d0 := cell_on kb _ _ _ HD.out.1
  have d1 := cell_on kb _ _ _ HD.out.2.1
  have d2 := cell_on kb _ _ _ HD.out.2.2.1
  have d3 := cell_on kb _ _ _ HD.out.2.2.2.1
  have d4 := cell_on kb _ _ _ HD.out.2.2.2.2
  have HK := Lib.hid (And.intro k1 kb)
  clear k0 k1 kb hW C
  go_wp2_with fail
  refine HC.out.mono ?_
  rintro _ w1 ⟨⟨ku, nu, du, su, pu, lenu, capu, rfl, hu⟩, hb⟩
  have hbx := block_on hb HK.out.1
  have H1 := Lib.hid (And.intro hbx (And.intro (below_seq HK.out.2 hb) hu))
  obtain ⟨c0, c1, c2, c3, c4⟩ := box_cells hbx
  have z0 := box_frozen hbx 0
  have z1 := box_frozen hbx 1
  have z2 := box_frozen hbx 2
  have z3 := box_frozen hbx 3
  have z4 := box_frozen hbx 4
  clear hbx hb hu
  go_wp2_with fail
  refine bodyPost_ret (results_row1 rfl _ _ (w.heap.size + 1) 37 _ (0, 0) _ _ rfl rfl (set_five H1.out.1) Try.underlying37 rfl Try.sizD) rfl ?_
  refine ⟨⟨_, _, _, _, _, _, _, rfl, H1.out.2.2.on fun b o x h => ?_⟩, set_five_below H1.out.2.1 (by omega)⟩
  have h1 := off_cell.1 h
  simp only [Bool.or_eq_false_iff, beq_eq_false_iff_ne] at h1
  exact off_cell.2 ⟨h1.1.1, (World.cell?_of_block (set_five_other h1.1.2)).trans h1.2⟩
theorem mk_len {n : Nat} (h : n ≤ 100000) : mk (n : Int) 1 = ((n : Int), 1, 0) := by
  obtain ⟨hf, hn, hd, -⟩ := right_num (len_right h)
  unfold mk
  rw [if_neg (by omega), fin_yes hf, hn, hd]
theorem make_len (n : Nat) (h : n ≤ 100000) (w : World) : Calls Try.prog 24 #[.int .i64 (n : Int), .int .i64 1] w fun e w' => e = .returned (.tuple #[.int .i64 (n : Int), .int .i64 1, .int .i64 0]) ∧ Below w.heap.size w w' :=
  (make_any (n : Int) 1 _ (mk_len h) w (by omega) (by omega) (by omega) (by omega)).mono fun e w' ⟨h1, k, h2⟩ => ⟨h1, h2 ▸ drew_below w k⟩
set_option maxHeartbeats 2000000 in
set_option maxRecDepth 100000 in
theorem made22_bad (t u : Dt) (p : Option Addr) (cap : Nat) (w : World) (h : u.dn ≠ 1 ∨ u.nm < 0 ∨ (t.ls.length : Int) ≤ u.nm) (hl : [t, u] = [] ∨ ∃ b o, p = some ⟨b, o, none⟩ ∧ Dt.AllAt w [t, u] b o) (hfit : Fit 22 (.slice p 2 cap) true w) :
    Calls Try.prog 31 #[.int .i64 22, .slice p 2 cap] w fun e w' => Gives (zeroD, 3) e w' ∧ Below w.heap.size w w' := by
  have htk : takesB 22 2 = true := by decide +kernel
  obtain ⟨b, o, k, n, d, s, l, q, c, k', n', d', s', l', q', c', rfl, rfl, rfl, ⟨hk, hn, hd, hlm⟩, ⟨hk', hn', hd', hlm'⟩, hat, hat', ⟨e0, e1, e2, e3, e4⟩, ⟨f0, f1, f2, f3, f4⟩⟩ := two_args hl
  have HE := Lib.hid (And.intro e0 (And.intro e1 (And.intro e2 (And.intro e3 e4))))
  have HF := Lib.hid (And.intro f0 (And.intro f1 (And.intro f2 (And.intro f3 f4))))
  have HA := Lib.hid (And.intro hat hat')
  have HI := Lib.hid (And.intro hk (And.intro hn (And.intro hd (And.intro hk' (And.intro hn' hd')))))
  have HLM := Lib.hid (And.intro hlm hlm')
  have HNE := Lib.hid (show b ≠ w.heap.size from by have := cell_lt e0; omega)
  clear e0 e1 e2 e3 e4 f0 f1 f2 f3 f4 hat hat' hk hn hd hk' hn' hd' hl hlm hlm'
  have HH := Lib.hid (show d' ≠ 1 ∨ n' < 0 ∨ (l.length : Int) ≤ n' from h)
  clear h
  have HT := Lib.hid (fun W => takes_yes 22 2 (by unfold I64; omega) (by unfold I64; omega) htk W)
  have HFI := Lib.hid hfit
  clear htk hfit
  go_enter Try.func31, Try.ntmps31
  go_wp2_with fail
  refine (HT.out _).mono ?_
  rintro _ w1 ⟨rfl, hb1⟩
  have HB1 := Lib.hid (And.intro (one_box hb1) (below_after hb1)); clear hb1
  go_wp2_with fail
  refine (HFI.out w1 HB1.out.2).mono ?_
  rintro _ w2 ⟨rfl, hb2⟩
  have HB2 := Lib.hid (And.intro (block_on hb2 HB1.out.1) (below_seq HB1.out.2 hb2)); clear hb2
  have e4 := cell_on HB2.out.2 _ _ _ HE.out.2.2.2.2
  have f0 := cell_on HB2.out.2 _ _ _ HF.out.1
  have f1 := cell_on HB2.out.2 _ _ _ HF.out.2.1
  have f2 := cell_on HB2.out.2 _ _ _ HF.out.2.2.1
  have f3 := cell_on HB2.out.2 _ _ _ HF.out.2.2.2.1
  have f4 := cell_on HB2.out.2 _ _ _ HF.out.2.2.2.2
  have e4' : w2.drew.cell? ⟨b, o + 4, none⟩ = some (.slice q l.length c) := e4
  have f0' : w2.drew.cell? ⟨b, o + 5, none⟩ = some (.int .i64 k') := f0
  have f1' : w2.drew.cell? ⟨b, o + 5 + 1, none⟩ = some (.int .i64 n') := f1
  have f2' : w2.drew.cell? ⟨b, o + 5 + 2, none⟩ = some (.int .i64 d') := f2
  have f3' : w2.drew.cell? ⟨b, o + 5 + 3, none⟩ = some (.string s') := f3
  have f4' : w2.drew.cell? ⟨b, o + 5 + 4, none⟩ = some (.slice q' l'.length c') := f4
  have C := at_bad l q c k' n' d' s' q' l'.length c' w2.drew HLM.out.1 HI.out.2.2.2.2.1 HI.out.2.2.2.2.2 HH.out
  unfold leafV at C
  have HEQ := Lib.hid C; clear C
  go_wp2_with fail
  go_region_held3 (fun w' => w'.cell? ⟨b, o + 4, none⟩ = some (.slice q l.length c) ∧ w'.cell? ⟨b, o + 5, none⟩ = some (.int .i64 k') ∧ w'.cell? ⟨b, o + 5 + 1, none⟩ = some (.int .i64 n') ∧ w'.cell? ⟨b, o + 5 + 2, none⟩ = some (.int .i64 d') ∧ w'.cell? ⟨b, o + 5 + 3, none⟩ = some (.string s') ∧ w'.cell? ⟨b, o + 5 + 4, none⟩ = some (.slice q' l'.length c'))
    (with_reducible (first | (refine ⟨?_, ?_, ?_, ?_, ?_, ?_⟩ <;> assumption) | exact ⟨five_other HNE.out e4, five_other HNE.out f0, five_other HNE.out f1, five_other HNE.out f2, five_other HNE.out f3, five_other HNE.out f4⟩))
    (first
      | (go_at_call 57
         with_reducible refine Calls.mono HEQ.out ?_
         rintro _ w4 ⟨rfl, hb⟩
         have hb' := below_drew hb
         have hbx := block_on hb' HB2.out.1
         have HB4 := Lib.hid (And.intro hbx (And.intro (below_seq HB2.out.2 hb') True.intro))
         replace e4 := cell_on hb' _ _ _ e4
         replace f0 := cell_on hb' _ _ _ f0
         replace f1 := cell_on hb' _ _ _ f1
         replace f2 := cell_on hb' _ _ _ f2
         replace f3 := cell_on hb' _ _ _ f3
         replace f4 := cell_on hb' _ _ _ f4
         obtain ⟨y0, y1, y2, y3, y4⟩ := box_cells hbx
         have z0 := box_frozen hbx 0
         have z1 := box_frozen hbx 1
         have z2 := box_frozen hbx 2
         have z3 := box_frozen hbx 3
         have z4 := box_frozen hbx 4
         clear hbx hb hb'))
  go_wp2_with fail
  refine bodyPost_ret (results_row1 rfl _ _ w.heap.size 37 _ (0, 0) _ _ rfl rfl (set_five HB4.out.1) Try.underlying37 rfl Try.sizD) rfl ?_
  exact ⟨gives_zero rfl, set_five_below HB4.out.2.1 (Nat.le_refl _)⟩
set_option maxHeartbeats 2000000 in
set_option maxRecDepth 100000 in
theorem made22_good (t u : Dt) (p : Option Addr) (cap : Nat) (w : World) (i : Nat) (x : Dt) (h1 : u.dn = 1) (h2 : u.nm = (i : Int)) (hx : t.ls[i]? = some x) (hs : t.slim) (hl : [t, u] = [] ∨ ∃ b o, p = some ⟨b, o, none⟩ ∧ Dt.AllAt w [t, u] b o) (hfit : Fit 22 (.slice p 2 cap) true w) :
    Calls Try.prog 31 #[.int .i64 22, .slice p 2 cap] w fun e w' => Gives (x, 0) e w' ∧ Below w.heap.size w w' := by
  have htk : takesB 22 2 = true := by decide +kernel
  obtain ⟨b, o, k, n, d, s, l, q, c, k', n', d', s', l', q', c', rfl, rfl, rfl, ⟨hk, hn, hd, hlm⟩, ⟨hk', hn', hd', hlm'⟩, hat, hat', ⟨e0, e1, e2, e3, e4⟩, ⟨f0, f1, f2, f3, f4⟩⟩ := two_args hl
  have HE := Lib.hid (And.intro e0 (And.intro e1 (And.intro e2 (And.intro e3 e4))))
  have HF := Lib.hid (And.intro f0 (And.intro f1 (And.intro f2 (And.intro f3 f4))))
  have HA := Lib.hid (And.intro hat hat')
  have HI := Lib.hid (And.intro hk (And.intro hn (And.intro hd (And.intro hk' (And.intro hn' hd')))))
  have HLM := Lib.hid (And.intro hlm hlm')
  have HNE := Lib.hid (show b ≠ w.heap.size from by have := cell_lt e0; omega)
  clear e0 e1 e2 e3 e4 f0 f1 f2 f3 f4 hat hat' hk hn hd hk' hn' hd' hl hlm hlm'
  have HH := Lib.hid (And.intro (show l[i]? = some x from hx) (And.intro (slim_part hs hx) (And.intro (show d' = 1 from h1) (show n' = (i : Int) from h2))))
  clear hx hs h1 h2
  have HT := Lib.hid (fun W => takes_yes 22 2 (by unfold I64; omega) (by unfold I64; omega) htk W)
  have HFI := Lib.hid hfit
  clear htk hfit
  go_enter Try.func31, Try.ntmps31
  go_wp2_with fail
  refine (HT.out _).mono ?_
  rintro _ w1 ⟨rfl, hb1⟩
  have HB1 := Lib.hid (And.intro (one_box hb1) (below_after hb1)); clear hb1
  go_wp2_with fail
  refine (HFI.out w1 HB1.out.2).mono ?_
  rintro _ w2 ⟨rfl, hb2⟩
  have HB2 := Lib.hid (And.intro (block_on hb2 HB1.out.1) (below_seq HB1.out.2 hb2)); clear hb2
  have e4 := cell_on HB2.out.2 _ _ _ HE.out.2.2.2.2
  have f0 := cell_on HB2.out.2 _ _ _ HF.out.1
  have f1 := cell_on HB2.out.2 _ _ _ HF.out.2.1
  have f2 := cell_on HB2.out.2 _ _ _ HF.out.2.2.1
  have f3 := cell_on HB2.out.2 _ _ _ HF.out.2.2.2.1
  have f4 := cell_on HB2.out.2 _ _ _ HF.out.2.2.2.2
  have e4' : w2.drew.cell? ⟨b, o + 4, none⟩ = some (.slice q l.length c) := e4
  have f0' : w2.drew.cell? ⟨b, o + 5, none⟩ = some (.int .i64 k') := f0
  have f1' : w2.drew.cell? ⟨b, o + 5 + 1, none⟩ = some (.int .i64 n') := f1
  have f2' : w2.drew.cell? ⟨b, o + 5 + 2, none⟩ = some (.int .i64 d') := f2
  have f3' : w2.drew.cell? ⟨b, o + 5 + 3, none⟩ = some (.string s') := f3
  have f4' : w2.drew.cell? ⟨b, o + 5 + 4, none⟩ = some (.slice q' l'.length c') := f4
  have hlq : ∃ b2 o2, q = some ⟨b2, o2, none⟩ ∧ Dt.AllAt w l b2 o2 := by
    have ha := HA.out.1
    unfold Dt.At at ha
    obtain ⟨-, -, -, -, -, q3, c3, hv, hpl⟩ := ha
    simp only [Value.agg.injEq, Array.mk.injEq, List.cons.injEq, and_true, Value.slice.injEq, true_and] at hv
    obtain ⟨rfl, rfl⟩ := hv
    rcases hpl with h | h
    · have := HH.out.1; rw [h] at this; simp at this
    · exact h
  obtain ⟨b2, o2, hq2, hall⟩ := hlq
  have C := at_keep (just w.heap.size) l b2 o2 c k' i x s' q' l'.length c' w2.drew HLM.out.1 HH.out.1 (fun b h => by have := lt_of_block HB2.out.1; simp only [just]; rw [beq_eq_false_iff_ne]; have h' : w2.heap.size ≤ b := h; omega) (hall.on fun b o y h => below_off (w := w) (W := w2.drew) HB2.out.2.drew (Nat.le_refl _) b o y h) HH.out.2.1
  rw [← hq2, ← HH.out.2.2.2, ← HH.out.2.2.1] at C
  clear hall hq2
  have HEQ := Lib.hid C; clear C
  go_wp2_with fail
  go_region_held3 (fun w' => w'.cell? ⟨b, o + 4, none⟩ = some (.slice q l.length c) ∧ w'.cell? ⟨b, o + 5, none⟩ = some (.int .i64 k') ∧ w'.cell? ⟨b, o + 5 + 1, none⟩ = some (.int .i64 n') ∧ w'.cell? ⟨b, o + 5 + 2, none⟩ = some (.int .i64 d') ∧ w'.cell? ⟨b, o + 5 + 3, none⟩ = some (.string s') ∧ w'.cell? ⟨b, o + 5 + 4, none⟩ = some (.slice q' l'.length c'))
    (with_reducible (first | (refine ⟨?_, ?_, ?_, ?_, ?_, ?_⟩ <;> assumption) | exact ⟨five_other HNE.out e4, five_other HNE.out f0, five_other HNE.out f1, five_other HNE.out f2, five_other HNE.out f3, five_other HNE.out f4⟩))
    (first
      | (go_at_call 57
         with_reducible refine Calls.mono HEQ.out ?_
         rintro _ w4 ⟨⟨ka, na, da, sa, pa, lena, capa, rfl, hu⟩, hb⟩
         have hb' := below_drew hb
         have hbx := block_on hb' HB2.out.1
         have HB4 := Lib.hid (And.intro hbx (And.intro (below_seq HB2.out.2 hb') hu))
         replace e4 := cell_on hb' _ _ _ e4
         replace f0 := cell_on hb' _ _ _ f0
         replace f1 := cell_on hb' _ _ _ f1
         replace f2 := cell_on hb' _ _ _ f2
         replace f3 := cell_on hb' _ _ _ f3
         replace f4 := cell_on hb' _ _ _ f4
         obtain ⟨y0, y1, y2, y3, y4⟩ := box_cells hbx
         have z0 := box_frozen hbx 0
         have z1 := box_frozen hbx 1
         have z2 := box_frozen hbx 2
         have z3 := box_frozen hbx 3
         have z4 := box_frozen hbx 4
         clear hbx hb hb'))
  go_wp2_with fail
  refine bodyPost_ret (results_row1 rfl _ _ w.heap.size 37 _ (0, 0) _ _ rfl rfl (set_five HB4.out.1) Try.underlying37 rfl Try.sizD) rfl ?_
  exact ⟨⟨_, _, _, _, _, _, _, rfl, at_five HB4.out.2.2⟩, set_five_below HB4.out.2.1 (Nat.le_refl _)⟩
set_option maxHeartbeats 2000000 in
set_option maxRecDepth 100000 in
theorem made23 (t : Dt) (p : Option Addr) (cap : Nat) (w : World) (hb : t.ls.length ≤ 100000) (hl : [t] = [] ∨ ∃ b o, p = some ⟨b, o, none⟩ ∧ Dt.AllAt w [t] b o) (hfit : Fit 23 (.slice p 1 cap) true w) :
    Calls Try.prog 31 #[.int .i64 23, .slice p 1 cap] w fun e w' => Gives (numD t.ls.length 1, 0) e w' ∧ Below w.heap.size w w' := by
  have htk : takesB 23 1 = true := by decide +kernel
  obtain ⟨b, o, k, n, d, s, l, q, c, rfl, rfl, hk, hn, hd, hlm, hat, e0, e1, e2, e3, e4⟩ := one_arg hl
  have HE := Lib.hid (And.intro e0 (And.intro e1 (And.intro e2 (And.intro e3 e4))))
  have HA := Lib.hid hat
  have HI := Lib.hid (And.intro hk (And.intro hn hd))
  have HLM := Lib.hid hlm
  have HNE := Lib.hid (show b ≠ w.heap.size from by have := cell_lt e0; omega)
  have HMK := Lib.hid (fun W => make_len l.length hb W)
  have HNU := Lib.hid (fun W => (show Calls Try.prog 58 #[.int .i64 (l.length : Int), .int .i64 1, .int .i64 0] W fun e' w' => e' = .returned (.tuple #[.agg #[.int .i64 0, .int .i64 (l.length : Int), .int .i64 1, .string ⟨#[]⟩, .slice none 0 0], .int .i64 0]) ∧ Below W.heap.size W w' from number_yes (l.length : Int) 1 W))
  have HBB := Lib.hid (show l.length ≤ 100000 from hb)
  clear hb e0 e1 e2 e3 e4 hat hk hn hd hl hlm
  have HT := Lib.hid (fun W => takes_yes 23 1 (by unfold I64; omega) (by unfold I64; omega) htk W)
  have HFI := Lib.hid hfit
  clear htk hfit
  go_enter Try.func31, Try.ntmps31
  go_wp2_with fail
  refine (HT.out _).mono ?_
  rintro _ w1 ⟨rfl, hb1⟩
  have HB1 := Lib.hid (And.intro (one_box hb1) (below_after hb1)); clear hb1
  go_wp2_with fail
  refine (HFI.out w1 HB1.out.2).mono ?_
  rintro _ w2 ⟨rfl, hb2⟩
  have HB2 := Lib.hid (And.intro (block_on hb2 HB1.out.1) (below_seq HB1.out.2 hb2)); clear hb2
  have e4 := cell_on HB2.out.2 _ _ _ HE.out.2.2.2.2
  have hll : l.length ≤ 100000 := HBB.out
  go_wp2_with fail
  refine (HMK.out _).mono ?_
  rintro _ w3 ⟨rfl, hb⟩
  have HB3 := Lib.hid (And.intro (block_on hb HB2.out.1) (below_seq HB2.out.2 hb)); clear hb
  go_wp2_with fail
  refine (HNU.out _).mono ?_
  rintro _ w4 ⟨rfl, hb⟩
  have hbx := block_on hb HB3.out.1
  have HB4 := Lib.hid (And.intro hbx (below_seq HB3.out.2 hb))
  obtain ⟨c0, c1, c2, c3, c4⟩ := box_cells hbx
  have z0 := box_frozen hbx 0
  have z1 := box_frozen hbx 1
  have z2 := box_frozen hbx 2
  have z3 := box_frozen hbx 3
  have z4 := box_frozen hbx 4
  clear hbx hb
  go_wp2_with fail
  refine bodyPost_ret (results_row1 rfl _ _ w.heap.size 37 _ (0, 0) _ _ rfl rfl (set_five HB4.out.1) Try.underlying37 rfl Try.sizD) rfl ?_
  exact ⟨gives_leaf i64_lit0 (by show I64 (l.length : Int); have := HBB.out; unfold I64; omega) (by unfold I64; omega) none 0 rfl, set_five_below HB4.out.2 (Nat.le_refl _)⟩
set_option maxHeartbeats 2000000 in
set_option maxRecDepth 100000 in
theorem made24 (t : Dt) (L : List Dt) (p : Option Addr) (cap : Nat) (w : World) (hL : t.items = some L) (hr : rightD t = true) (hsz : t.size ≤ 100000) (hb : L.length ≤ 100000) (hl : [t] = [] ∨ ∃ b o, p = some ⟨b, o, none⟩ ∧ Dt.AllAt w [t] b o) (hfit : Fit 24 (.slice p 1 cap) true w) :
    Calls Try.prog 31 #[.int .i64 24, .slice p 1 cap] w fun e w' => Gives (numD L.length 1, 0) e w' ∧ Below w.heap.size w w' := by
  have htk : takesB 24 1 = true := by decide +kernel
  have HIT := Lib.hid (And.intro hL (And.intro hr hsz))
  clear hL hr hsz
  obtain ⟨b, o, k, n, d, s, l, q, c, rfl, ht, -, -, -, -, hat, e0, e1, e2, e3, e4⟩ := one_arg hl
  have HE := Lib.hid (And.intro e0 (And.intro e1 (And.intro e2 (And.intro e3 e4))))
  have HA := Lib.hid hat
  have HMK := Lib.hid (fun W => make_len L.length hb W)
  have HNU := Lib.hid (fun W => (show Calls Try.prog 58 #[.int .i64 (L.length : Int), .int .i64 1, .int .i64 0] W fun e' w' => e' = .returned (.tuple #[.agg #[.int .i64 0, .int .i64 (L.length : Int), .int .i64 1, .string ⟨#[]⟩, .slice none 0 0], .int .i64 0]) ∧ Below W.heap.size W w' from number_yes (L.length : Int) 1 W))
  have HBB := Lib.hid hb
  clear hb e0 e1 e2 e3 e4 hat hl ht
  have HT := Lib.hid (fun W => takes_yes 24 1 (by unfold I64; omega) (by unfold I64; omega) htk W)
  have HFI := Lib.hid hfit
  clear htk hfit
  go_enter Try.func31, Try.ntmps31
  go_wp2_with fail
  refine (HT.out _).mono ?_
  rintro _ w1 ⟨rfl, hb1⟩
  have HB1 := Lib.hid (And.intro (one_box hb1) (below_after hb1)); clear hb1
  go_wp2_with fail
  refine (HFI.out w1 HB1.out.2).mono ?_
  rintro _ w2 ⟨rfl, hb2⟩
  have HB2 := Lib.hid (And.intro (block_on hb2 HB1.out.1) (below_seq HB1.out.2 hb2)); clear hb2
  have e0 := cell_on HB2.out.2 _ _ _ HE.out.1
  have e1 := cell_on HB2.out.2 _ _ _ HE.out.2.1
  have e2 := cell_on HB2.out.2 _ _ _ HE.out.2.2.1
  have e3 := cell_on HB2.out.2 _ _ _ HE.out.2.2.2.1
  have e4 := cell_on HB2.out.2 _ _ _ HE.out.2.2.2.2
  have C : Calls Try.prog 59 #[.agg #[.int .i64 k, .int .i64 n, .int .i64 d, .string s, .slice q l.length c]] w2 fun e w' => (∃ p' cap', e = .returned (.tuple #[.slice p' L.length cap', .bool true])) ∧ Below w2.heap.size w2 w' := (ownItems_any (R := rightB) (Nm := nameB) pRight t _ w2 HIT.out.2.2 (HA.out.below HB2.out.2)).mono (fun e w' h => ⟨by
    rcases h.1 with ⟨h1, h2⟩ | ⟨h1, l2, v, h2, h3, h4⟩
    · rcases h1 with h1 | h1
      · rw [show t.right rightB nameB 0 = true from HIT.out.2.1] at h1; cases h1
      · rw [HIT.out.1] at h1; cases h1
    · rw [HIT.out.1] at h2
      cases h2
      obtain ⟨p', cap', rfl, _⟩ := h4
      exact ⟨p', cap', h3⟩, h.2⟩)
  have HC := Lib.hid C; clear C
  go_wp2_with fail
  refine HC.out.mono ?_
  rintro _ w5 ⟨⟨p', cap', rfl⟩, hb⟩
  have HB5 := Lib.hid (And.intro (block_on hb HB2.out.1) (below_seq HB2.out.2 hb)); clear hb
  have hll : L.length ≤ 100000 := HBB.out
  clear e0 e1 e2 e3 e4
  go_wp2_with fail
  refine (HMK.out _).mono ?_
  rintro _ w3 ⟨rfl, hb⟩
  have HB3 := Lib.hid (And.intro (block_on hb HB5.out.1) (below_seq HB5.out.2 hb)); clear hb
  go_wp2_with fail
  refine (HNU.out _).mono ?_
  rintro _ w4 ⟨rfl, hb⟩
  have hbx := block_on hb HB3.out.1
  have HB4 := Lib.hid (And.intro hbx (below_seq HB3.out.2 hb))
  obtain ⟨c0, c1, c2, c3, c4⟩ := box_cells hbx
  have z0 := box_frozen hbx 0
  have z1 := box_frozen hbx 1
  have z2 := box_frozen hbx 2
  have z3 := box_frozen hbx 3
  have z4 := box_frozen hbx 4
  clear hbx hb
  go_wp2_with fail
  refine bodyPost_ret (results_row1 rfl _ _ w.heap.size 37 _ (0, 0) _ _ rfl rfl (set_five HB4.out.1) Try.underlying37 rfl Try.sizD) rfl ?_
  exact ⟨gives_leaf i64_lit0 (by show I64 (L.length : Int); have := HBB.out; unfold I64; omega) (by unfold I64; omega) none 0 rfl, set_five_below HB4.out.2 (Nat.le_refl _)⟩
end Go.Proofs.Ytdeelpagoffdjaa.Dat

/- The program's made, of every primitive that folds; its Fold. -/
namespace Go.Proofs.Ytdeelpagoffdjaa.Dat
open Go.RowKit
open Go.Proofs.Ytdeelpagoffdjaa (addF subF mulF divF lessF)
open NumPlain
set_option linter.unusedVariables false

mutual
theorem items_len : ∀ (t : Dt) {L : List Dt}, t.items = some L → L.length < t.size
  | .node k n d s l, L, h => by
    unfold Dt.items at h
    unfold Dt.size
    split at h
    · have := itemsL_len l h; omega
    · split at h
      · cases h; simp
      · cases h
theorem itemsL_len : ∀ (l : List Dt) {L : List Dt}, Dt.itemsL l = some L → L.length ≤ Dt.sizes l
  | [], L, h => by unfold Dt.itemsL at h; cases h
  | a :: r, L, h => by
    unfold Dt.itemsL at h
    obtain ⟨M, hM, rfl⟩ := Option.map_eq_some_iff.1 h
    have h1 := itemsR_len r hM
    have h2 := a.size_pos
    unfold Dt.sizes
    simp only [List.length_cons]
    omega
theorem itemsR_len : ∀ (r : List Dt) {M : List Dt}, Dt.itemsR r = some M → M.length ≤ Dt.sizes r
  | [], M, h => by unfold Dt.itemsR at h; cases h
  | b :: q, M, h => by
    unfold Dt.itemsR at h
    have := items_len b h
    unfold Dt.sizes; omega
end
theorem does_count {n : Int} {l : List Dt} (h : takesB n l.length = false) : doesB n l = (zeroD, 2) := by unfold doesB; rw [if_pos h]
theorem does_fit {n : Int} {l : List Dt} (h : takesB n l.length = true) (h2 : fitB n l = false) : doesB n l = (zeroD, 1) := by unfold doesB; rw [if_neg (by rw [h]; simp), if_pos h2]
theorem does_made {n : Int} {l : List Dt} (h : takesB n l.length = true) (h2 : fitB n l = true) : doesB n l = madeB n l := by unfold doesB; rw [if_neg (by rw [h]; simp), if_neg (by rw [h2]; simp)]
theorem made_sum {n : Int} {l : List Dt} (h : n ≤ 3) : madeB n l = numR (sumB n l) := by unfold madeB; rw [if_pos h]
theorem len_zero {l : List Dt} (h : (l.length : Int) ≤ 0) : l = [] := List.eq_nil_of_length_eq_zero (by omega)
theorem len_one {l : List Dt} (h1 : (1 : Int) ≤ l.length) (h2 : (l.length : Int) ≤ 1) : ∃ t, l = [t] := by
  match l with
  | [] => simp at h1
  | [t] => exact ⟨t, rfl⟩
  | t :: u :: r => simp at h2; omega
theorem len_two {l : List Dt} (h1 : (2 : Int) ≤ l.length) (h2 : (l.length : Int) ≤ 2) : ∃ t u, l = [t, u] := by
  match l with
  | [] => simp at h1
  | [t] => simp at h1
  | [t, u] => exact ⟨t, u, rfl⟩
  | t :: u :: v :: r => simp at h2; omega
/-- The data lie in this slice. -/
def Lies (w : World) (l : List Dt) (p : Option Addr) : Prop := l = [] ∨ ∃ b o, p = some ⟨b, o, none⟩ ∧ Dt.AllAt w l b o
theorem Lies.below {w w' : World} {l : List Dt} {p : Option Addr} (h : Lies w l p) (hb : Below w.heap.size w w') : Lies w' l p := by
  rcases h with h | ⟨b, o, h1, h2⟩
  · exact Or.inl h
  · exact Or.inr ⟨b, o, h1, h2.on (cell_on hb)⟩
/-- What made answers: it is this one's. -/
def MadeIs (n : Int) : Prop := ∀ (l : List Dt) (p : Option Addr) (cap : Nat) (w : World), l.length ≤ maxLen → Dt.sizes l ≤ 90000 → l.length ≤ cap → Lies w l p → Dt.rightAll rightB nameB l 0 = true →
    Calls Try.prog 31 #[.int .i64 n, .slice p l.length cap] w fun e w' => Gives (doesB n l) e w' ∧ Below w.heap.size w w'
set_option maxRecDepth 100000 in
theorem madeIs0 : MadeIs 0 := by
  intro l p cap w hlm hsz hcap hl hr
  cases htk : takesB 0 l.length
  · rw [does_count htk]
    exact made_count 0 l p cap w (by unfold I64; omega) hlm htk
  have hfit : Fit 0 (.slice p (l : List Dt).length cap) (fitB 0 l) w := fun w1 hb => fit0 l p cap w1 hlm (hl.below hb)
  cases hf : fitB 0 l
  · rw [does_fit htk hf]
    rw [hf] at hfit
    exact made_fit 0 l p cap w (by unfold I64; omega) hlm htk hfit
  rw [does_made htk hf]
  rw [hf] at hfit
  exact made0 l p cap w hlm hl htk hfit
set_option maxRecDepth 100000 in
theorem madeIs2 : MadeIs 2 := by
  intro l p cap w hlm hsz hcap hl hr
  cases htk : takesB 2 l.length
  · rw [does_count htk]
    exact made_count 2 l p cap w (by unfold I64; omega) hlm htk
  have hfit : Fit 2 (.slice p (l : List Dt).length cap) (fitB 2 l) w := fun w1 hb => fit2 l p cap w1 hlm (hl.below hb)
  cases hf : fitB 2 l
  · rw [does_fit htk hf]
    rw [hf] at hfit
    exact made_fit 2 l p cap w (by unfold I64; omega) hlm htk hfit
  rw [does_made htk hf]
  rw [hf] at hfit
  exact made2 l p cap w hlm hl htk hfit
set_option maxRecDepth 100000 in
theorem madeIs1 : MadeIs 1 := by
  intro l p cap w hlm hsz hcap hl hr
  cases htk : takesB 1 l.length
  · rw [does_count htk]
    exact made_count 1 l p cap w (by unfold I64; omega) hlm htk
  have hfit : Fit 1 (.slice p (l : List Dt).length cap) (fitB 1 l) w := fun w1 hb => fit1 l p cap w1 hlm (hl.below hb)
  cases hf : fitB 1 l
  · rw [does_fit htk hf]
    rw [hf] at hfit
    exact made_fit 1 l p cap w (by unfold I64; omega) hlm htk hfit
  rw [does_made htk hf]
  rw [hf] at hfit
  rw [made_sum (by omega)]
  rcases l with _ | ⟨t, _ | ⟨u, r⟩⟩
  · have h0 : takesB 1 0 = true := htk
    exact absurd h0 (by decide +kernel)
  · have he : sumB 1 [t] = thr subF 0 1 [t] := by unfold sumB; rw [if_pos (by omega)]; rfl
    rw [he]
    exact made1_one t p cap w hl hfit
  · have hrt : rightD t = true := mem_right hr (i := 0) rfl
    have hkt : t.kd = 0 := by
      have h1 : (isNum t && (u :: r).all isNum) = true := hf
      exact of_decide_eq_true (Bool.and_eq_true_iff.1 h1).1
    obtain ⟨n0, d0, rfl, _⟩ := num_shape hrt hkt
    have he : sumB 1 (.node 0 n0 d0 ⟨#[]⟩ [] :: u :: r) = thr subF n0 d0 (u :: r) := by unfold sumB; rw [if_pos (by omega)]; rfl
    rw [he]
    exact made1_more n0 d0 u r p cap w hlm hcap hl htk hfit
set_option maxRecDepth 100000 in
theorem madeIs3 : MadeIs 3 := by
  intro l p cap w hlm hsz hcap hl hr
  cases htk : takesB 3 l.length
  · rw [does_count htk]
    exact made_count 3 l p cap w (by unfold I64; omega) hlm htk
  have hfit : Fit 3 (.slice p (l : List Dt).length cap) (fitB 3 l) w := fun w1 hb => fit3 l p cap w1 hlm (hl.below hb)
  cases hf : fitB 3 l
  · rw [does_fit htk hf]
    rw [hf] at hfit
    exact made_fit 3 l p cap w (by unfold I64; omega) hlm htk hfit
  rw [does_made htk hf]
  rw [hf] at hfit
  rw [made_sum (by omega)]
  rcases l with _ | ⟨t, _ | ⟨u, r⟩⟩
  · have h0 : takesB 3 0 = true := htk
    exact absurd h0 (by decide +kernel)
  · have he : sumB 3 [t] = thr divF 1 1 [t] := by unfold sumB; rw [if_pos (by omega)]; rfl
    rw [he]
    exact made3_one t p cap w hl hfit
  · have hrt : rightD t = true := mem_right hr (i := 0) rfl
    have hkt : t.kd = 0 := by
      have h1 : (isNum t && (u :: r).all isNum) = true := hf
      exact of_decide_eq_true (Bool.and_eq_true_iff.1 h1).1
    obtain ⟨n0, d0, rfl, _⟩ := num_shape hrt hkt
    have he : sumB 3 (.node 0 n0 d0 ⟨#[]⟩ [] :: u :: r) = thr divF n0 d0 (u :: r) := by unfold sumB; rw [if_pos (by omega)]; rfl
    rw [he]
    exact made3_more n0 d0 u r p cap w hlm hcap hl htk hfit
set_option maxRecDepth 100000 in
theorem madeIs4 : MadeIs 4 := by
  intro l p cap w hlm hsz hcap hl hr
  cases htk : takesB 4 l.length
  · rw [does_count htk]
    exact made_count 4 l p cap w (by unfold I64; omega) hlm htk
  have hk : (decide ((2 : Int) ≤ (l.length : Int)) && (decide ((l.length : Int) ≤ 2) || decide ((2 : Int) = -1))) = true := htk
  simp only [Bool.and_eq_true, Bool.or_eq_true, decide_eq_true_eq] at hk
  obtain ⟨t, u, rfl⟩ := len_two hk.1 (by omega)
  have hrt : rightD t = true := mem_right hr (i := 0) rfl
  have hru : rightD u = true := mem_right hr (i := 1) rfl
  have hts : t.size ≤ 90000 := by unfold Dt.sizes at hsz; omega
  have hfit : Fit 4 (.slice p ([t, u] : List Dt).length cap) (fitB 4 [t, u]) w := fun w1 hb => fit4 [t, u] p cap w1 hlm (hl.below hb)
  cases hf : fitB 4 [t, u]
  · rw [does_fit htk hf]
    rw [hf] at hfit
    exact made_fit 4 [t, u] p cap w (by unfold I64; omega) hlm htk hfit
  rw [does_made htk hf]
  rw [hf] at hfit
  exact made4 t u p cap w hrt hl hfit
set_option maxRecDepth 100000 in
theorem madeIs5 : MadeIs 5 := by
  intro l p cap w hlm hsz hcap hl hr
  cases htk : takesB 5 l.length
  · rw [does_count htk]
    exact made_count 5 l p cap w (by unfold I64; omega) hlm htk
  have hk : (decide ((2 : Int) ≤ (l.length : Int)) && (decide ((l.length : Int) ≤ 2) || decide ((2 : Int) = -1))) = true := htk
  simp only [Bool.and_eq_true, Bool.or_eq_true, decide_eq_true_eq] at hk
  obtain ⟨t, u, rfl⟩ := len_two hk.1 (by omega)
  have hrt : rightD t = true := mem_right hr (i := 0) rfl
  have hru : rightD u = true := mem_right hr (i := 1) rfl
  have hts : t.size ≤ 90000 := by unfold Dt.sizes at hsz; omega
  have hfit : Fit 5 (.slice p ([t, u] : List Dt).length cap) (fitB 5 [t, u]) w := fun w1 hb => fit5 [t, u] p cap w1 hlm (hl.below hb)
  cases hf : fitB 5 [t, u]
  · rw [does_fit htk hf]
    rw [hf] at hfit
    exact made_fit 5 [t, u] p cap w (by unfold I64; omega) hlm htk hfit
  rw [does_made htk hf]
  rw [hf] at hfit
  exact made5 t u p cap w hrt hl hfit
set_option maxRecDepth 100000 in
theorem madeIs6 : MadeIs 6 := by
  intro l p cap w hlm hsz hcap hl hr
  cases htk : takesB 6 l.length
  · rw [does_count htk]
    exact made_count 6 l p cap w (by unfold I64; omega) hlm htk
  have hk : (decide ((2 : Int) ≤ (l.length : Int)) && (decide ((l.length : Int) ≤ 2) || decide ((2 : Int) = -1))) = true := htk
  simp only [Bool.and_eq_true, Bool.or_eq_true, decide_eq_true_eq] at hk
  obtain ⟨t, u, rfl⟩ := len_two hk.1 (by omega)
  have hrt : rightD t = true := mem_right hr (i := 0) rfl
  have hru : rightD u = true := mem_right hr (i := 1) rfl
  have hts : t.size ≤ 90000 := by unfold Dt.sizes at hsz; omega
  have hfit : Fit 6 (.slice p ([t, u] : List Dt).length cap) (fitB 6 [t, u]) w := fun w1 hb => fit6 [t, u] p cap w1
  cases hf : fitB 6 [t, u]
  · rw [does_fit htk hf]
    rw [hf] at hfit
    exact made_fit 6 [t, u] p cap w (by unfold I64; omega) hlm htk hfit
  rw [does_made htk hf]
  rw [hf] at hfit
  exact made6 t u p cap w hrt hl hfit
set_option maxRecDepth 100000 in
theorem madeIs7 : MadeIs 7 := by
  intro l p cap w hlm hsz hcap hl hr
  cases htk : takesB 7 l.length
  · rw [does_count htk]
    exact made_count 7 l p cap w (by unfold I64; omega) hlm htk
  have hk : (decide ((2 : Int) ≤ (l.length : Int)) && (decide ((l.length : Int) ≤ 2) || decide ((2 : Int) = -1))) = true := htk
  simp only [Bool.and_eq_true, Bool.or_eq_true, decide_eq_true_eq] at hk
  obtain ⟨t, u, rfl⟩ := len_two hk.1 (by omega)
  have hrt : rightD t = true := mem_right hr (i := 0) rfl
  have hru : rightD u = true := mem_right hr (i := 1) rfl
  have hts : t.size ≤ 90000 := by unfold Dt.sizes at hsz; omega
  have hfit : Fit 7 (.slice p ([t, u] : List Dt).length cap) (fitB 7 [t, u]) w := fun w1 hb => fit7 [t, u] p cap w1
  cases hf : fitB 7 [t, u]
  · rw [does_fit htk hf]
    rw [hf] at hfit
    exact made_fit 7 [t, u] p cap w (by unfold I64; omega) hlm htk hfit
  rw [does_made htk hf]
  rw [hf] at hfit
  exact made7 t u p cap w hl hfit
set_option maxRecDepth 100000 in
theorem madeIs8 : MadeIs 8 := by
  intro l p cap w hlm hsz hcap hl hr
  cases htk : takesB 8 l.length
  · rw [does_count htk]
    exact made_count 8 l p cap w (by unfold I64; omega) hlm htk
  have hk : (decide ((1 : Int) ≤ (l.length : Int)) && (decide ((l.length : Int) ≤ 1) || decide ((1 : Int) = -1))) = true := htk
  simp only [Bool.and_eq_true, Bool.or_eq_true, decide_eq_true_eq] at hk
  obtain ⟨t, rfl⟩ := len_one hk.1 (by omega)
  have hrt : rightD t = true := mem_right hr (i := 0) rfl
  have hts : t.size ≤ 90000 := by unfold Dt.sizes at hsz; omega
  have hfit : Fit 8 (.slice p ([t] : List Dt).length cap) (fitB 8 [t]) w := fun w1 hb => fit8 [t] p cap w1
  cases hf : fitB 8 [t]
  · rw [does_fit htk hf]
    rw [hf] at hfit
    exact made_fit 8 [t] p cap w (by unfold I64; omega) hlm htk hfit
  rw [does_made htk hf]
  rw [hf] at hfit
  exact made8 t p cap w hl hfit
set_option maxRecDepth 100000 in
theorem madeIs9 : MadeIs 9 := by
  intro l p cap w hlm hsz hcap hl hr
  cases htk : takesB 9 l.length
  · rw [does_count htk]
    exact made_count 9 l p cap w (by unfold I64; omega) hlm htk
  have hk : (decide ((1 : Int) ≤ (l.length : Int)) && (decide ((l.length : Int) ≤ 1) || decide ((1 : Int) = -1))) = true := htk
  simp only [Bool.and_eq_true, Bool.or_eq_true, decide_eq_true_eq] at hk
  obtain ⟨t, rfl⟩ := len_one hk.1 (by omega)
  have hrt : rightD t = true := mem_right hr (i := 0) rfl
  have hts : t.size ≤ 90000 := by unfold Dt.sizes at hsz; omega
  have hfit : Fit 9 (.slice p ([t] : List Dt).length cap) (fitB 9 [t]) w := fun w1 hb => fit9 [t] p cap w1
  cases hf : fitB 9 [t]
  · rw [does_fit htk hf]
    rw [hf] at hfit
    exact made_fit 9 [t] p cap w (by unfold I64; omega) hlm htk hfit
  rw [does_made htk hf]
  rw [hf] at hfit
  exact made9 t p cap w hl hfit
set_option maxRecDepth 100000 in
theorem madeIs10 : MadeIs 10 := by
  intro l p cap w hlm hsz hcap hl hr
  cases htk : takesB 10 l.length
  · rw [does_count htk]
    exact made_count 10 l p cap w (by unfold I64; omega) hlm htk
  have hk : (decide ((1 : Int) ≤ (l.length : Int)) && (decide ((l.length : Int) ≤ 1) || decide ((1 : Int) = -1))) = true := htk
  simp only [Bool.and_eq_true, Bool.or_eq_true, decide_eq_true_eq] at hk
  obtain ⟨t, rfl⟩ := len_one hk.1 (by omega)
  have hrt : rightD t = true := mem_right hr (i := 0) rfl
  have hts : t.size ≤ 90000 := by unfold Dt.sizes at hsz; omega
  have hfit : Fit 10 (.slice p ([t] : List Dt).length cap) (fitB 10 [t]) w := fun w1 hb => fit10 [t] p cap w1
  cases hf : fitB 10 [t]
  · rw [does_fit htk hf]
    rw [hf] at hfit
    exact made_fit 10 [t] p cap w (by unfold I64; omega) hlm htk hfit
  rw [does_made htk hf]
  rw [hf] at hfit
  exact made10 t p cap w hl hfit
set_option maxRecDepth 100000 in
theorem madeIs11 : MadeIs 11 := by
  intro l p cap w hlm hsz hcap hl hr
  cases htk : takesB 11 l.length
  · rw [does_count htk]
    exact made_count 11 l p cap w (by unfold I64; omega) hlm htk
  have hk : (decide ((1 : Int) ≤ (l.length : Int)) && (decide ((l.length : Int) ≤ 1) || decide ((1 : Int) = -1))) = true := htk
  simp only [Bool.and_eq_true, Bool.or_eq_true, decide_eq_true_eq] at hk
  obtain ⟨t, rfl⟩ := len_one hk.1 (by omega)
  have hrt : rightD t = true := mem_right hr (i := 0) rfl
  have hts : t.size ≤ 90000 := by unfold Dt.sizes at hsz; omega
  have hfit : Fit 11 (.slice p ([t] : List Dt).length cap) (fitB 11 [t]) w := fun w1 hb => fit11 [t] p cap w1
  cases hf : fitB 11 [t]
  · rw [does_fit htk hf]
    rw [hf] at hfit
    exact made_fit 11 [t] p cap w (by unfold I64; omega) hlm htk hfit
  rw [does_made htk hf]
  rw [hf] at hfit
  exact made11 t p cap w hl hfit
set_option maxRecDepth 100000 in
theorem madeIs12 : MadeIs 12 := by
  intro l p cap w hlm hsz hcap hl hr
  cases htk : takesB 12 l.length
  · rw [does_count htk]
    exact made_count 12 l p cap w (by unfold I64; omega) hlm htk
  have hk : (decide ((1 : Int) ≤ (l.length : Int)) && (decide ((l.length : Int) ≤ 1) || decide ((1 : Int) = -1))) = true := htk
  simp only [Bool.and_eq_true, Bool.or_eq_true, decide_eq_true_eq] at hk
  obtain ⟨t, rfl⟩ := len_one hk.1 (by omega)
  have hrt : rightD t = true := mem_right hr (i := 0) rfl
  have hts : t.size ≤ 90000 := by unfold Dt.sizes at hsz; omega
  have hfit : Fit 12 (.slice p ([t] : List Dt).length cap) (fitB 12 [t]) w := fun w1 hb => fit12 [t] p cap w1
  cases hf : fitB 12 [t]
  · rw [does_fit htk hf]
    rw [hf] at hfit
    exact made_fit 12 [t] p cap w (by unfold I64; omega) hlm htk hfit
  rw [does_made htk hf]
  rw [hf] at hfit
  exact made12 t p cap w hl hfit
set_option maxRecDepth 100000 in
theorem madeIs13 : MadeIs 13 := by
  intro l p cap w hlm hsz hcap hl hr
  cases htk : takesB 13 l.length
  · rw [does_count htk]
    exact made_count 13 l p cap w (by unfold I64; omega) hlm htk
  have hk : (decide ((1 : Int) ≤ (l.length : Int)) && (decide ((l.length : Int) ≤ 1) || decide ((1 : Int) = -1))) = true := htk
  simp only [Bool.and_eq_true, Bool.or_eq_true, decide_eq_true_eq] at hk
  obtain ⟨t, rfl⟩ := len_one hk.1 (by omega)
  have hrt : rightD t = true := mem_right hr (i := 0) rfl
  have hts : t.size ≤ 90000 := by unfold Dt.sizes at hsz; omega
  have hfit : Fit 13 (.slice p ([t] : List Dt).length cap) (fitB 13 [t]) w := fun w1 hb => fit13 [t] p cap w1
  cases hf : fitB 13 [t]
  · rw [does_fit htk hf]
    rw [hf] at hfit
    exact made_fit 13 [t] p cap w (by unfold I64; omega) hlm htk hfit
  rw [does_made htk hf]
  rw [hf] at hfit
  exact made13 t p cap w hl hfit
set_option maxRecDepth 100000 in
theorem madeIs14 : MadeIs 14 := by
  intro l p cap w hlm hsz hcap hl hr
  cases htk : takesB 14 l.length
  · rw [does_count htk]
    exact made_count 14 l p cap w (by unfold I64; omega) hlm htk
  have hk : (decide ((1 : Int) ≤ (l.length : Int)) && (decide ((l.length : Int) ≤ 1) || decide ((1 : Int) = -1))) = true := htk
  simp only [Bool.and_eq_true, Bool.or_eq_true, decide_eq_true_eq] at hk
  obtain ⟨t, rfl⟩ := len_one hk.1 (by omega)
  have hrt : rightD t = true := mem_right hr (i := 0) rfl
  have hts : t.size ≤ 90000 := by unfold Dt.sizes at hsz; omega
  have hfit : Fit 14 (.slice p ([t] : List Dt).length cap) (fitB 14 [t]) w := fun w1 hb => fit14 [t] p cap w1
  cases hf : fitB 14 [t]
  · rw [does_fit htk hf]
    rw [hf] at hfit
    exact made_fit 14 [t] p cap w (by unfold I64; omega) hlm htk hfit
  rw [does_made htk hf]
  rw [hf] at hfit
  exact made14 t p cap w hl hfit
set_option maxRecDepth 100000 in
theorem madeIs15 : MadeIs 15 := by
  intro l p cap w hlm hsz hcap hl hr
  cases htk : takesB 15 l.length
  · rw [does_count htk]
    exact made_count 15 l p cap w (by unfold I64; omega) hlm htk
  have hk : (decide ((1 : Int) ≤ (l.length : Int)) && (decide ((l.length : Int) ≤ 1) || decide ((1 : Int) = -1))) = true := htk
  simp only [Bool.and_eq_true, Bool.or_eq_true, decide_eq_true_eq] at hk
  obtain ⟨t, rfl⟩ := len_one hk.1 (by omega)
  have hrt : rightD t = true := mem_right hr (i := 0) rfl
  have hts : t.size ≤ 90000 := by unfold Dt.sizes at hsz; omega
  have hfit : Fit 15 (.slice p ([t] : List Dt).length cap) (fitB 15 [t]) w := fun w1 hb => fit15 [t] p cap w1
  cases hf : fitB 15 [t]
  · rw [does_fit htk hf]
    rw [hf] at hfit
    exact made_fit 15 [t] p cap w (by unfold I64; omega) hlm htk hfit
  rw [does_made htk hf]
  rw [hf] at hfit
  exact made15 t p cap w hl hfit
set_option maxRecDepth 100000 in
theorem madeIs16 : MadeIs 16 := by
  intro l p cap w hlm hsz hcap hl hr
  cases htk : takesB 16 l.length
  · rw [does_count htk]
    exact made_count 16 l p cap w (by unfold I64; omega) hlm htk
  have hk : (decide ((1 : Int) ≤ (l.length : Int)) && (decide ((l.length : Int) ≤ 1) || decide ((1 : Int) = -1))) = true := htk
  simp only [Bool.and_eq_true, Bool.or_eq_true, decide_eq_true_eq] at hk
  obtain ⟨t, rfl⟩ := len_one hk.1 (by omega)
  have hrt : rightD t = true := mem_right hr (i := 0) rfl
  have hts : t.size ≤ 90000 := by unfold Dt.sizes at hsz; omega
  have hfit : Fit 16 (.slice p ([t] : List Dt).length cap) (fitB 16 [t]) w := fun w1 hb => fit16 [t] p cap w1
  cases hf : fitB 16 [t]
  · rw [does_fit htk hf]
    rw [hf] at hfit
    exact made_fit 16 [t] p cap w (by unfold I64; omega) hlm htk hfit
  rw [does_made htk hf]
  rw [hf] at hfit
  have hk : decide (t.kd = -1) = false := decide_eq_false (by have := kd_right hrt; omega)
  show Calls _ _ _ _ fun e w' => Gives (boolD (decide (t.kd = -1)), 0) e w' ∧ _
  rw [hk]
  exact made16 t p cap w hfit
set_option maxRecDepth 100000 in
theorem madeIs18 : MadeIs 18 := by
  intro l p cap w hlm hsz hcap hl hr
  cases htk : takesB 18 l.length
  · rw [does_count htk]
    exact made_count 18 l p cap w (by unfold I64; omega) hlm htk
  have hk : (decide ((1 : Int) ≤ (l.length : Int)) && (decide ((l.length : Int) ≤ 1) || decide ((1 : Int) = -1))) = true := htk
  simp only [Bool.and_eq_true, Bool.or_eq_true, decide_eq_true_eq] at hk
  obtain ⟨t, rfl⟩ := len_one hk.1 (by omega)
  have hrt : rightD t = true := mem_right hr (i := 0) rfl
  have hts : t.size ≤ 90000 := by unfold Dt.sizes at hsz; omega
  have hfit : Fit 18 (.slice p ([t] : List Dt).length cap) (fitB 18 [t]) w := fun w1 hb => fit18 t p cap w1 (hl.below hb)
  cases hf : fitB 18 [t]
  · rw [does_fit htk hf]
    rw [hf] at hfit
    exact made_fit 18 [t] p cap w (by unfold I64; omega) hlm htk hfit
  rw [does_made htk hf]
  rw [hf] at hfit
  have hkt : t.kd = 6 := of_decide_eq_true hf
  obtain ⟨x, y, hxy⟩ := pair_parts hrt hkt
  obtain ⟨k, n, d, s, ls⟩ := t
  have hxy : ls = [x, y] := hxy
  subst hxy
  exact made18 k n d s x y p cap w (Dt.slim_size _ (by omega)) hl hfit
set_option maxRecDepth 100000 in
theorem madeIs19 : MadeIs 19 := by
  intro l p cap w hlm hsz hcap hl hr
  cases htk : takesB 19 l.length
  · rw [does_count htk]
    exact made_count 19 l p cap w (by unfold I64; omega) hlm htk
  have hk : (decide ((1 : Int) ≤ (l.length : Int)) && (decide ((l.length : Int) ≤ 1) || decide ((1 : Int) = -1))) = true := htk
  simp only [Bool.and_eq_true, Bool.or_eq_true, decide_eq_true_eq] at hk
  obtain ⟨t, rfl⟩ := len_one hk.1 (by omega)
  have hrt : rightD t = true := mem_right hr (i := 0) rfl
  have hts : t.size ≤ 90000 := by unfold Dt.sizes at hsz; omega
  have hfit : Fit 19 (.slice p ([t] : List Dt).length cap) (fitB 19 [t]) w := fun w1 hb => fit19 t p cap w1 (hl.below hb)
  cases hf : fitB 19 [t]
  · rw [does_fit htk hf]
    rw [hf] at hfit
    exact made_fit 19 [t] p cap w (by unfold I64; omega) hlm htk hfit
  rw [does_made htk hf]
  rw [hf] at hfit
  have hkt : t.kd = 6 := of_decide_eq_true hf
  obtain ⟨x, y, hxy⟩ := pair_parts hrt hkt
  obtain ⟨k, n, d, s, ls⟩ := t
  have hxy : ls = [x, y] := hxy
  subst hxy
  exact made19 k n d s x y p cap w (Dt.slim_size _ (by omega)) hl hfit
set_option maxRecDepth 100000 in
theorem madeIs22 : MadeIs 22 := by
  intro l p cap w hlm hsz hcap hl hr
  cases htk : takesB 22 l.length
  · rw [does_count htk]
    exact made_count 22 l p cap w (by unfold I64; omega) hlm htk
  have hk : (decide ((2 : Int) ≤ (l.length : Int)) && (decide ((l.length : Int) ≤ 2) || decide ((2 : Int) = -1))) = true := htk
  simp only [Bool.and_eq_true, Bool.or_eq_true, decide_eq_true_eq] at hk
  obtain ⟨t, u, rfl⟩ := len_two hk.1 (by omega)
  have hrt : rightD t = true := mem_right hr (i := 0) rfl
  have hru : rightD u = true := mem_right hr (i := 1) rfl
  have hts : t.size ≤ 90000 := by unfold Dt.sizes at hsz; omega
  have hfit : Fit 22 (.slice p ([t, u] : List Dt).length cap) (fitB 22 [t, u]) w := fun w1 hb => fit22 t u p cap w1 (hl.below hb)
  cases hf : fitB 22 [t, u]
  · rw [does_fit htk hf]
    rw [hf] at hfit
    exact made_fit 22 [t, u] p cap w (by unfold I64; omega) hlm htk hfit
  rw [does_made htk hf]
  rw [hf] at hfit
  show Calls _ _ _ _ fun e w' => Gives (atB t.ls u) e w' ∧ _
  unfold atB
  by_cases h : u.dn ≠ 1 ∨ u.nm < 0 ∨ (t.ls.length : Int) ≤ u.nm
  · rw [if_pos h]
    exact made22_bad t u p cap w h hl hfit
  · rw [if_neg h]
    have hlt : u.nm.toNat < t.ls.length := by omega
    obtain ⟨x, hx⟩ : ∃ x, t.ls[u.nm.toNat]? = some x := ⟨_, List.getElem?_eq_getElem hlt⟩
    rw [hx]
    exact made22_good t u p cap w u.nm.toNat x (by omega) (by omega) hx (Dt.slim_size _ (by omega)) hl hfit
set_option maxRecDepth 100000 in
theorem madeIs23 : MadeIs 23 := by
  intro l p cap w hlm hsz hcap hl hr
  cases htk : takesB 23 l.length
  · rw [does_count htk]
    exact made_count 23 l p cap w (by unfold I64; omega) hlm htk
  have hk : (decide ((1 : Int) ≤ (l.length : Int)) && (decide ((l.length : Int) ≤ 1) || decide ((1 : Int) = -1))) = true := htk
  simp only [Bool.and_eq_true, Bool.or_eq_true, decide_eq_true_eq] at hk
  obtain ⟨t, rfl⟩ := len_one hk.1 (by omega)
  have hrt : rightD t = true := mem_right hr (i := 0) rfl
  have hts : t.size ≤ 90000 := by unfold Dt.sizes at hsz; omega
  have hfit : Fit 23 (.slice p ([t] : List Dt).length cap) (fitB 23 [t]) w := fun w1 hb => fit23 t p cap w1 (hl.below hb)
  cases hf : fitB 23 [t]
  · rw [does_fit htk hf]
    rw [hf] at hfit
    exact made_fit 23 [t] p cap w (by unfold I64; omega) hlm htk hfit
  rw [does_made htk hf]
  rw [hf] at hfit
  have hlen : t.ls.length ≤ 100000 := by
    obtain ⟨k, n, d, s, ls⟩ := t
    have := Dt.sizes_len ls
    unfold Dt.size at hts
    show ls.length ≤ 100000
    omega
  exact made23 t p cap w hlen hl hfit
set_option maxRecDepth 100000 in
theorem madeIs24 : MadeIs 24 := by
  intro l p cap w hlm hsz hcap hl hr
  cases htk : takesB 24 l.length
  · rw [does_count htk]
    exact made_count 24 l p cap w (by unfold I64; omega) hlm htk
  have hk : (decide ((1 : Int) ≤ (l.length : Int)) && (decide ((l.length : Int) ≤ 1) || decide ((1 : Int) = -1))) = true := htk
  simp only [Bool.and_eq_true, Bool.or_eq_true, decide_eq_true_eq] at hk
  obtain ⟨t, rfl⟩ := len_one hk.1 (by omega)
  have hrt : rightD t = true := mem_right hr (i := 0) rfl
  have hts : t.size ≤ 90000 := by unfold Dt.sizes at hsz; omega
  have hfit : Fit 24 (.slice p ([t] : List Dt).length cap) (fitB 24 [t]) w := fun w1 hb => fit24 t p cap w1 (by omega) hrt (hl.below hb)
  cases hf : fitB 24 [t]
  · rw [does_fit htk hf]
    rw [hf] at hfit
    exact made_fit 24 [t] p cap w (by unfold I64; omega) hlm htk hfit
  rw [does_made htk hf]
  rw [hf] at hfit
  have hs : t.items.isSome = true := hf
  obtain ⟨L, hL⟩ := Option.isSome_iff_exists.1 hs
  have hlen := items_len t hL
  have hm : madeB 24 [t] = (numD (L.length : Nat) 1, 0) := by
    show (numD ((t.items.getD []).length : Nat) 1, 0) = _
    rw [hL]; rfl
  rw [hm]
  exact made24 t L p cap w hL hrt (by omega) (by omega) hl hfit
set_option maxRecDepth 100000 in
theorem madeIs25 : MadeIs 25 := by
  intro l p cap w hlm hsz hcap hl hr
  cases htk : takesB 25 l.length
  · rw [does_count htk]
    exact made_count 25 l p cap w (by unfold I64; omega) hlm htk
  have hk : (decide ((0 : Int) ≤ (l.length : Int)) && (decide ((l.length : Int) ≤ 0) || decide ((0 : Int) = -1))) = true := htk
  simp only [Bool.and_eq_true, Bool.or_eq_true, decide_eq_true_eq] at hk
  obtain rfl := len_zero (l := l) (by omega)
  have hfit : Fit 25 (.slice p ([] : List Dt).length cap) (fitB 25 []) w := fun w1 hb => fit25 [] p cap w1
  cases hf : fitB 25 []
  · rw [does_fit htk hf]
    rw [hf] at hfit
    exact made_fit 25 [] p cap w (by unfold I64; omega) hlm htk hfit
  rw [does_made htk hf]
  rw [hf] at hfit
  exact made25 p cap w hfit

theorem folds_cases {n : Int} (h : foldsB n = true) : n = 0 ∨ n = 1 ∨ n = 2 ∨ n = 3 ∨ n = 4 ∨ n = 5 ∨ n = 6 ∨ n = 7 ∨ n = 8 ∨ n = 9 ∨ n = 10 ∨ n = 11 ∨ n = 12 ∨ n = 13 ∨ n = 14 ∨ n = 15 ∨ n = 16 ∨ n = 18 ∨ n = 19 ∨ n = 22 ∨ n = 23 ∨ n = 24 ∨ n = 25 := by
  unfold foldsB at h
  cases hf : factOf n with
  | none => rw [hf] at h; cases h
  | some f =>
    rw [hf] at h
    obtain ⟨i, hi, rfl, ht⟩ := factOf_some hf
    have all : ∀ i : Fin 31, (match table[i.1]? with | none => false | some f => f.folds) = true → i.1 = 0 ∨ i.1 = 1 ∨ i.1 = 2 ∨ i.1 = 3 ∨ i.1 = 4 ∨ i.1 = 5 ∨ i.1 = 6 ∨ i.1 = 7 ∨ i.1 = 8 ∨ i.1 = 9 ∨ i.1 = 10 ∨ i.1 = 11 ∨ i.1 = 12 ∨ i.1 = 13 ∨ i.1 = 14 ∨ i.1 = 15 ∨ i.1 = 16 ∨ i.1 = 18 ∨ i.1 = 19 ∨ i.1 = 22 ∨ i.1 = 23 ∨ i.1 = 24 ∨ i.1 = 25 := by decide +kernel
    have := all ⟨i, hi⟩ (by rw [ht]; exact h)
    simp only at this
    omega
theorem made_any (n : Int) (h : foldsB n = true) : MadeIs n := by
  rcases folds_cases h with rfl | rfl | rfl | rfl | rfl | rfl | rfl | rfl | rfl | rfl | rfl | rfl | rfl | rfl | rfl | rfl | rfl | rfl | rfl | rfl | rfl | rfl | rfl
  · exact madeIs0
  · exact madeIs1
  · exact madeIs2
  · exact madeIs3
  · exact madeIs4
  · exact madeIs5
  · exact madeIs6
  · exact madeIs7
  · exact madeIs8
  · exact madeIs9
  · exact madeIs10
  · exact madeIs11
  · exact madeIs12
  · exact madeIs13
  · exact madeIs14
  · exact madeIs15
  · exact madeIs16
  · exact madeIs18
  · exact madeIs19
  · exact madeIs22
  · exact madeIs23
  · exact madeIs24
  · exact madeIs25
end Go.Proofs.Ytdeelpagoffdjaa.Dat

/- The program's made: what is told lies beside what is kept off. -/
namespace Go.Proofs.Ytdeelpagoffdjaa.Dat
open Go.RowKit
open Go.Proofs.Ytdeelpagoffdjaa (addF subF mulF divF lessF add_any sub_any mul_any div_any less_any make_any)
open NumPlain
set_option linter.unusedVariables false

/-- It answers this datum and this end; the datum lies beside these blocks. -/
def GivesX (X : Nat → Bool) (r : Dt × Int) (e : Ending) (w' : World) : Prop := ∃ k n d s p len cap, e = .returned (.tuple #[.agg #[.int .i64 k, .int .i64 n, .int .i64 d, .string s, .slice p len cap], .int .i64 r.2]) ∧ r.1.At (off w' X) (.agg #[.int .i64 k, .int .i64 n, .int .i64 d, .string s, .slice p len cap])
theorem Gives.keep {r : Dt × Int} {e : Ending} {w' : World} (h : Gives r e w') (hl : r.1.ls = []) (X : Nat → Bool) : GivesX X r e w' := by
  obtain ⟨k, n, d, s, p, len, cap, he, ht⟩ := h
  refine ⟨k, n, d, s, p, len, cap, he, ?_⟩
  obtain ⟨⟨k', n', d', s', l'⟩, x⟩ := r
  have hl : l' = [] := hl
  subst hl
  unfold Dt.At at ht ⊢
  obtain ⟨h1, h2, h3, h4, h5, q, c, hv, _⟩ := ht
  exact ⟨h1, h2, h3, h4, h5, q, c, hv, Or.inl rfl⟩
theorem off_lies {w : World} {X : Nat → Bool} {l : List Dt} {p : Option Addr} (h : Lies (off w X) l p) : Lies w l p := by
  rcases h with h | ⟨b, o, h1, h2⟩
  · exact Or.inl h
  · exact Or.inr ⟨b, o, h1, h2.on fun b o x h => (off_cell.1 h).2⟩

set_option maxHeartbeats 2000000 in
set_option maxRecDepth 100000 in
theorem made18x (X : Nat → Bool) (k n d : Int) (s : ByteArray) (x y : Dt) (p : Option Addr) (cap : Nat) (w : World) (hs : (Dt.node k n d s [x, y]).slim) (hX : ∀ b, w.heap.size ≤ b → X b = false) (hl : [Dt.node k n d s [x, y]] = [] ∨ ∃ b o, p = some ⟨b, o, none⟩ ∧ Dt.AllAt (off w X) [Dt.node k n d s [x, y]] b o) (hfit : Fit 18 (.slice p 1 cap) true w) :
    Calls Try.prog 31 #[.int .i64 18, .slice p 1 cap] w fun e w' => GivesX X (x, 0) e w' ∧ Below w.heap.size w w' := by
  have htk : takesB 18 1 = true := by decide +kernel
  obtain ⟨b, o, k2, n2, d2, s2, l2, q, c, rfl, ht, hk, hn, hd, hlm, hat, e0, e1, e2, e3, e4⟩ := one_arg hl
  obtain ⟨rfl, rfl, rfl, rfl, rfl⟩ := Dt.node.inj ht
  unfold Dt.At at hat
  obtain ⟨-, -, -, -, -, q2, c2, hv, hpl⟩ := hat
  simp only [Value.agg.injEq, Array.mk.injEq, List.cons.injEq, and_true, Value.slice.injEq, true_and] at hv
  obtain ⟨rfl, rfl⟩ := hv
  obtain ⟨b2, o2, ku, nu, du, su, lu, qu, cu, k', n', d', s', l', q', c', rfl, hxe, hye, -, -, hxat, hyat, ⟨g0, g1, g2, g3, g4⟩, ⟨j0, j1, j2, j3, j4⟩⟩ := two_args hpl
  replace e4 := (off_cell.1 e4).2
  replace g0 := (off_cell.1 g0).2
  replace g1 := (off_cell.1 g1).2
  replace g2 := (off_cell.1 g2).2
  replace g3 := (off_cell.1 g3).2
  replace g4 := (off_cell.1 g4).2
  replace j0 := (off_cell.1 j0).2
  replace j1 := (off_cell.1 j1).2
  replace j2 := (off_cell.1 j2).2
  replace j3 := (off_cell.1 j3).2
  replace j4 := (off_cell.1 j4).2
  have HXX := Lib.hid hX
  have HE := Lib.hid e4
  have HG := Lib.hid (And.intro g0 (And.intro g1 (And.intro g2 (And.intro g3 g4))))
  have HJ := Lib.hid (And.intro j0 (And.intro j1 (And.intro j2 (And.intro j3 j4))))
  have HA := Lib.hid (And.intro hxat hyat)
  have HS := Lib.hid (And.intro (slim_part hs (i := 0) (x := x) rfl) (slim_part hs (i := 1) (x := y) rfl))
  clear e0 e1 e2 e3 e4 g0 g1 g2 g3 g4 j0 j1 j2 j3 j4 hxat hyat hs hl hpl hxe hye ht hk hn hd hlm hX
  have HT := Lib.hid (fun W => takes_yes 18 1 (by unfold I64; omega) (by unfold I64; omega) htk W)
  have HFI := Lib.hid hfit
  clear htk hfit
  go_enter Try.func31, Try.ntmps31
  go_wp2_with fail
  refine (HT.out _).mono ?_
  rintro _ w1 ⟨rfl, hb1⟩
  have HB1 := Lib.hid (And.intro (one_box hb1) (below_after hb1)); clear hb1
  go_wp2_with fail
  refine (HFI.out w1 HB1.out.2).mono ?_
  rintro _ w2 ⟨rfl, hb2⟩
  have HB2 := Lib.hid (And.intro (block_on hb2 HB1.out.1) (below_seq HB1.out.2 hb2)); clear hb2
  have e4 : w2.cell? ⟨b, o + 4, none⟩ = some (.slice (some ⟨b2, o2, none⟩) 2 c) := cell_on HB2.out.2 _ _ _ HE.out
  have m0 := cell_on HB2.out.2 _ _ _ HG.out.1
  have m1 := cell_on HB2.out.2 _ _ _ HG.out.2.1
  have m2 := cell_on HB2.out.2 _ _ _ HG.out.2.2.1
  have m3 := cell_on HB2.out.2 _ _ _ HG.out.2.2.2.1
  have m4 := cell_on HB2.out.2 _ _ _ HG.out.2.2.2.2
  have C := pcopied_any x.size x (Nat.le_refl _) (fun b => X b || b == w.heap.size) _ w2 (fun b h => by have h1 := lt_of_block HB2.out.1; rw [HXX.out b (by omega), Bool.false_or, beq_eq_false_iff_ne]; omega) (HA.out.1.on fun b o x h => off_cell.2 ⟨by have h1 := off_cell.1 h; have h2 := cell_lt h1.2; rw [h1.1, Bool.false_or, beq_eq_false_iff_ne]; omega, cell_on HB2.out.2 _ _ _ (off_cell.1 h).2⟩) HS.out.1
  have HC := Lib.hid C; clear C
  go_wp2_with fail
  refine HC.out.mono ?_
  rintro _ w4 ⟨⟨ka, na, da, sa, pa, lena, capa, rfl, hu⟩, hb⟩
  have hbx := block_on hb HB2.out.1
  have HB4 := Lib.hid (And.intro hbx (And.intro (below_seq HB2.out.2 hb) hu))
  obtain ⟨c0, c1, c2, c3, c4⟩ := box_cells hbx
  have z0 := box_frozen hbx 0
  have z1 := box_frozen hbx 1
  have z2 := box_frozen hbx 2
  have z3 := box_frozen hbx 3
  have z4 := box_frozen hbx 4
  clear hbx hb hu
  go_wp2_with fail
  refine bodyPost_ret (results_row1 rfl _ _ w.heap.size 37 _ (0, 0) _ _ rfl rfl (set_five HB4.out.1) Try.underlying37 rfl Try.sizD) rfl ?_
  refine ⟨⟨_, _, _, _, _, _, _, rfl, HB4.out.2.2.on fun b o x h => ?_⟩, set_five_below HB4.out.2.1 (Nat.le_refl _)⟩
  have h1 := off_cell.1 h
  simp only [Bool.or_eq_false_iff, beq_eq_false_iff_ne] at h1
  exact off_cell.2 ⟨h1.1.1, (World.cell?_of_block (set_five_other h1.1.2)).trans h1.2⟩
set_option maxHeartbeats 2000000 in
set_option maxRecDepth 100000 in
theorem made19x (X : Nat → Bool) (k n d : Int) (s : ByteArray) (x y : Dt) (p : Option Addr) (cap : Nat) (w : World) (hs : (Dt.node k n d s [x, y]).slim) (hX : ∀ b, w.heap.size ≤ b → X b = false) (hl : [Dt.node k n d s [x, y]] = [] ∨ ∃ b o, p = some ⟨b, o, none⟩ ∧ Dt.AllAt (off w X) [Dt.node k n d s [x, y]] b o) (hfit : Fit 19 (.slice p 1 cap) true w) :
    Calls Try.prog 31 #[.int .i64 19, .slice p 1 cap] w fun e w' => GivesX X (y, 0) e w' ∧ Below w.heap.size w w' := by
  have htk : takesB 19 1 = true := by decide +kernel
  obtain ⟨b, o, k2, n2, d2, s2, l2, q, c, rfl, ht, hk, hn, hd, hlm, hat, e0, e1, e2, e3, e4⟩ := one_arg hl
  obtain ⟨rfl, rfl, rfl, rfl, rfl⟩ := Dt.node.inj ht
  unfold Dt.At at hat
  obtain ⟨-, -, -, -, -, q2, c2, hv, hpl⟩ := hat
  simp only [Value.agg.injEq, Array.mk.injEq, List.cons.injEq, and_true, Value.slice.injEq, true_and] at hv
  obtain ⟨rfl, rfl⟩ := hv
  obtain ⟨b2, o2, ku, nu, du, su, lu, qu, cu, k', n', d', s', l', q', c', rfl, hxe, hye, -, -, hxat, hyat, ⟨g0, g1, g2, g3, g4⟩, ⟨j0, j1, j2, j3, j4⟩⟩ := two_args hpl
  replace e4 := (off_cell.1 e4).2
  replace g0 := (off_cell.1 g0).2
  replace g1 := (off_cell.1 g1).2
  replace g2 := (off_cell.1 g2).2
  replace g3 := (off_cell.1 g3).2
  replace g4 := (off_cell.1 g4).2
  replace j0 := (off_cell.1 j0).2
  replace j1 := (off_cell.1 j1).2
  replace j2 := (off_cell.1 j2).2
  replace j3 := (off_cell.1 j3).2
  replace j4 := (off_cell.1 j4).2
  have HXX := Lib.hid hX
  have HE := Lib.hid e4
  have HG := Lib.hid (And.intro g0 (And.intro g1 (And.intro g2 (And.intro g3 g4))))
  have HJ := Lib.hid (And.intro j0 (And.intro j1 (And.intro j2 (And.intro j3 j4))))
  have HA := Lib.hid (And.intro hxat hyat)
  have HS := Lib.hid (And.intro (slim_part hs (i := 0) (x := x) rfl) (slim_part hs (i := 1) (x := y) rfl))
  clear e0 e1 e2 e3 e4 g0 g1 g2 g3 g4 j0 j1 j2 j3 j4 hxat hyat hs hl hpl hxe hye ht hk hn hd hlm hX
  have HT := Lib.hid (fun W => takes_yes 19 1 (by unfold I64; omega) (by unfold I64; omega) htk W)
  have HFI := Lib.hid hfit
  clear htk hfit
  go_enter Try.func31, Try.ntmps31
  go_wp2_with fail
  refine (HT.out _).mono ?_
  rintro _ w1 ⟨rfl, hb1⟩
  have HB1 := Lib.hid (And.intro (one_box hb1) (below_after hb1)); clear hb1
  go_wp2_with fail
  refine (HFI.out w1 HB1.out.2).mono ?_
  rintro _ w2 ⟨rfl, hb2⟩
  have HB2 := Lib.hid (And.intro (block_on hb2 HB1.out.1) (below_seq HB1.out.2 hb2)); clear hb2
  have e4 : w2.cell? ⟨b, o + 4, none⟩ = some (.slice (some ⟨b2, o2, none⟩) 2 c) := cell_on HB2.out.2 _ _ _ HE.out
  have m0 := cell_on HB2.out.2 _ _ _ HJ.out.1
  have m1 := cell_on HB2.out.2 _ _ _ HJ.out.2.1
  have m2 := cell_on HB2.out.2 _ _ _ HJ.out.2.2.1
  have m3 := cell_on HB2.out.2 _ _ _ HJ.out.2.2.2.1
  have m4 := cell_on HB2.out.2 _ _ _ HJ.out.2.2.2.2
  have C := pcopied_any y.size y (Nat.le_refl _) (fun b => X b || b == w.heap.size) _ w2 (fun b h => by have h1 := lt_of_block HB2.out.1; rw [HXX.out b (by omega), Bool.false_or, beq_eq_false_iff_ne]; omega) (HA.out.2.on fun b o x h => off_cell.2 ⟨by have h1 := off_cell.1 h; have h2 := cell_lt h1.2; rw [h1.1, Bool.false_or, beq_eq_false_iff_ne]; omega, cell_on HB2.out.2 _ _ _ (off_cell.1 h).2⟩) HS.out.2
  have HC := Lib.hid C; clear C
  go_wp2_with fail
  refine HC.out.mono ?_
  rintro _ w4 ⟨⟨ka, na, da, sa, pa, lena, capa, rfl, hu⟩, hb⟩
  have hbx := block_on hb HB2.out.1
  have HB4 := Lib.hid (And.intro hbx (And.intro (below_seq HB2.out.2 hb) hu))
  obtain ⟨c0, c1, c2, c3, c4⟩ := box_cells hbx
  have z0 := box_frozen hbx 0
  have z1 := box_frozen hbx 1
  have z2 := box_frozen hbx 2
  have z3 := box_frozen hbx 3
  have z4 := box_frozen hbx 4
  clear hbx hb hu
  go_wp2_with fail
  refine bodyPost_ret (results_row1 rfl _ _ w.heap.size 37 _ (0, 0) _ _ rfl rfl (set_five HB4.out.1) Try.underlying37 rfl Try.sizD) rfl ?_
  refine ⟨⟨_, _, _, _, _, _, _, rfl, HB4.out.2.2.on fun b o x h => ?_⟩, set_five_below HB4.out.2.1 (Nat.le_refl _)⟩
  have h1 := off_cell.1 h
  simp only [Bool.or_eq_false_iff, beq_eq_false_iff_ne] at h1
  exact off_cell.2 ⟨h1.1.1, (World.cell?_of_block (set_five_other h1.1.2)).trans h1.2⟩
set_option maxHeartbeats 2000000 in
set_option maxRecDepth 100000 in
theorem made22x (X : Nat → Bool) (t u : Dt) (p : Option Addr) (cap : Nat) (w : World) (i : Nat) (x : Dt) (h1 : u.dn = 1) (h2 : u.nm = (i : Int)) (hx : t.ls[i]? = some x) (hs : t.slim) (hX : ∀ b, w.heap.size ≤ b → X b = false) (hlx : [t, u] = [] ∨ ∃ b o, p = some ⟨b, o, none⟩ ∧ Dt.AllAt (off w X) [t, u] b o) (hfit : Fit 22 (.slice p 2 cap) true w) :
    Calls Try.prog 31 #[.int .i64 22, .slice p 2 cap] w fun e w' => GivesX X (x, 0) e w' ∧ Below w.heap.size w w' := by
  have htk : takesB 22 2 = true := by decide +kernel
  have hl := off_lies hlx
  have HLX := Lib.hid (And.intro hX hlx)
  clear hX hlx
  obtain ⟨b, o, k, n, d, s, l, q, c, k', n', d', s', l', q', c', rfl, rfl, rfl, ⟨hk, hn, hd, hlm⟩, ⟨hk', hn', hd', hlm'⟩, hat, hat', ⟨e0, e1, e2, e3, e4⟩, ⟨f0, f1, f2, f3, f4⟩⟩ := two_args hl
  have HE := Lib.hid (And.intro e0 (And.intro e1 (And.intro e2 (And.intro e3 e4))))
  have HF := Lib.hid (And.intro f0 (And.intro f1 (And.intro f2 (And.intro f3 f4))))
  have HA := Lib.hid (And.intro hat hat')
  have HI := Lib.hid (And.intro hk (And.intro hn (And.intro hd (And.intro hk' (And.intro hn' hd')))))
  have HLM := Lib.hid (And.intro hlm hlm')
  have HNE := Lib.hid (show b ≠ w.heap.size from by have := cell_lt e0; omega)
  clear e0 e1 e2 e3 e4 f0 f1 f2 f3 f4 hat hat' hk hn hd hk' hn' hd' hl hlm hlm'
  have HH := Lib.hid (And.intro (show l[i]? = some x from hx) (And.intro (slim_part hs hx) (And.intro (show d' = 1 from h1) (show n' = (i : Int) from h2))))
  clear hx hs h1 h2
  have HT := Lib.hid (fun W => takes_yes 22 2 (by unfold I64; omega) (by unfold I64; omega) htk W)
  have HFI := Lib.hid hfit
  clear htk hfit
  go_enter Try.func31, Try.ntmps31
  go_wp2_with fail
  refine (HT.out _).mono ?_
  rintro _ w1 ⟨rfl, hb1⟩
  have HB1 := Lib.hid (And.intro (one_box hb1) (below_after hb1)); clear hb1
  go_wp2_with fail
  refine (HFI.out w1 HB1.out.2).mono ?_
  rintro _ w2 ⟨rfl, hb2⟩
  have HB2 := Lib.hid (And.intro (block_on hb2 HB1.out.1) (below_seq HB1.out.2 hb2)); clear hb2
  have e4 := cell_on HB2.out.2 _ _ _ HE.out.2.2.2.2
  have f0 := cell_on HB2.out.2 _ _ _ HF.out.1
  have f1 := cell_on HB2.out.2 _ _ _ HF.out.2.1
  have f2 := cell_on HB2.out.2 _ _ _ HF.out.2.2.1
  have f3 := cell_on HB2.out.2 _ _ _ HF.out.2.2.2.1
  have f4 := cell_on HB2.out.2 _ _ _ HF.out.2.2.2.2
  have e4' : w2.drew.cell? ⟨b, o + 4, none⟩ = some (.slice q l.length c) := e4
  have f0' : w2.drew.cell? ⟨b, o + 5, none⟩ = some (.int .i64 k') := f0
  have f1' : w2.drew.cell? ⟨b, o + 5 + 1, none⟩ = some (.int .i64 n') := f1
  have f2' : w2.drew.cell? ⟨b, o + 5 + 2, none⟩ = some (.int .i64 d') := f2
  have f3' : w2.drew.cell? ⟨b, o + 5 + 3, none⟩ = some (.string s') := f3
  have f4' : w2.drew.cell? ⟨b, o + 5 + 4, none⟩ = some (.slice q' l'.length c') := f4
  have hlq : ∃ b2 o2, q = some ⟨b2, o2, none⟩ ∧ Dt.AllAt (off w X) l b2 o2 := by
    rcases HLX.out.2 with h | ⟨b4, o4, h1, h2⟩
    · cases h
    cases h1
    unfold Dt.AllAt at h2
    obtain ⟨⟨v0, v1, v2, v3, v4, r0, r1, r2, r3, r4, ha⟩, -⟩ := h2
    have hc := (off_cell.1 r4).2
    rw [HE.out.2.2.2.2] at hc
    cases hc
    unfold Dt.At at ha
    obtain ⟨-, -, -, -, -, q3, c3, hv, hpl⟩ := ha
    simp only [Value.agg.injEq, Array.mk.injEq, List.cons.injEq, and_true, Value.slice.injEq, true_and] at hv
    obtain ⟨_, _, _, _, rfl, rfl⟩ := hv
    rcases hpl with h | h
    · have := HH.out.1; rw [h] at this; simp at this
    · exact h
  obtain ⟨b2, o2, hq2, hall⟩ := hlq
  have C := at_keep (fun b => X b || b == w.heap.size) l b2 o2 c k' i x s' q' l'.length c' w2.drew HLM.out.1 HH.out.1 (fun b h => by have h1 := lt_of_block HB2.out.1; have h' : w2.heap.size ≤ b := h; rw [HLX.out.1 b (by omega), Bool.false_or, beq_eq_false_iff_ne]; omega) (hall.on fun b o x h => off_cell.2 ⟨by have h1 := off_cell.1 h; have h2 := cell_lt h1.2; rw [h1.1, Bool.false_or, beq_eq_false_iff_ne]; omega, cell_on HB2.out.2.drew _ _ _ (off_cell.1 h).2⟩) HH.out.2.1
  rw [← hq2, ← HH.out.2.2.2, ← HH.out.2.2.1] at C
  clear hall hq2
  have HEQ := Lib.hid C; clear C
  go_wp2_with fail
  go_region_held3 (fun w' => w'.cell? ⟨b, o + 4, none⟩ = some (.slice q l.length c) ∧ w'.cell? ⟨b, o + 5, none⟩ = some (.int .i64 k') ∧ w'.cell? ⟨b, o + 5 + 1, none⟩ = some (.int .i64 n') ∧ w'.cell? ⟨b, o + 5 + 2, none⟩ = some (.int .i64 d') ∧ w'.cell? ⟨b, o + 5 + 3, none⟩ = some (.string s') ∧ w'.cell? ⟨b, o + 5 + 4, none⟩ = some (.slice q' l'.length c'))
    (with_reducible (first | (refine ⟨?_, ?_, ?_, ?_, ?_, ?_⟩ <;> assumption) | exact ⟨five_other HNE.out e4, five_other HNE.out f0, five_other HNE.out f1, five_other HNE.out f2, five_other HNE.out f3, five_other HNE.out f4⟩))
    (first
      | (go_at_call 57
         with_reducible refine Calls.mono HEQ.out ?_
         rintro _ w4 ⟨⟨ka, na, da, sa, pa, lena, capa, rfl, hu⟩, hb⟩
         have hb' := below_drew hb
         have hbx := block_on hb' HB2.out.1
         have HB4 := Lib.hid (And.intro hbx (And.intro (below_seq HB2.out.2 hb') hu))
         replace e4 := cell_on hb' _ _ _ e4
         replace f0 := cell_on hb' _ _ _ f0
         replace f1 := cell_on hb' _ _ _ f1
         replace f2 := cell_on hb' _ _ _ f2
         replace f3 := cell_on hb' _ _ _ f3
         replace f4 := cell_on hb' _ _ _ f4
         obtain ⟨y0, y1, y2, y3, y4⟩ := box_cells hbx
         have z0 := box_frozen hbx 0
         have z1 := box_frozen hbx 1
         have z2 := box_frozen hbx 2
         have z3 := box_frozen hbx 3
         have z4 := box_frozen hbx 4
         clear hbx hb hb'))
  go_wp2_with fail
  refine bodyPost_ret (results_row1 rfl _ _ w.heap.size 37 _ (0, 0) _ _ rfl rfl (set_five HB4.out.1) Try.underlying37 rfl Try.sizD) rfl ?_
  refine ⟨⟨_, _, _, _, _, _, _, rfl, HB4.out.2.2.on fun b o x h => ?_⟩, set_five_below HB4.out.2.1 (Nat.le_refl _)⟩
  have h1 := off_cell.1 h
  simp only [Bool.or_eq_false_iff, beq_eq_false_iff_ne] at h1
  exact off_cell.2 ⟨h1.1.1, (World.cell?_of_block (set_five_other h1.1.2)).trans h1.2⟩
end Go.Proofs.Ytdeelpagoffdjaa.Dat

/- The program's made, beside what is kept off; its Fold. -/
namespace Go.Proofs.Ytdeelpagoffdjaa.Dat
open Go.RowKit
open NumPlain
set_option linter.unusedVariables false

theorem num_ls (x : Int × Int × Int) : (numR x).1.ls = [] := by
  unfold numR
  split
  · rfl
  · rfl
theorem equal_ls (t u : Dt) : (equalR t u).1.ls = [] := by
  unfold equalR
  split
  · rfl
  · rfl
theorem made_ls {n : Int} {l : List Dt} (h1 : n ≠ 18) (h2 : n ≠ 19) (h3 : n ≠ 22) : (madeB n l).1.ls = [] := by
  unfold madeB
  by_cases c1 : n ≤ 3
  · rw [if_pos c1]; exact num_ls _
  rw [if_neg c1]
  by_cases c2 : n = 4
  · rw [if_pos c2]; rfl
  rw [if_neg c2]
  by_cases c3 : n = 5
  · rw [if_pos c3]; rfl
  rw [if_neg c3]
  by_cases c4 : n = 6
  · rw [if_pos c4]; rfl
  rw [if_neg c4]
  by_cases c5 : n = 7
  · rw [if_pos c5]; exact equal_ls _ _
  rw [if_neg c5]
  by_cases c6 : n = 8
  · rw [if_pos c6]; rfl
  rw [if_neg c6]
  by_cases c7 : n ≤ 16
  · rw [if_pos c7]; rfl
  rw [if_neg c7, if_neg h1, if_neg h2, if_neg h3]
  by_cases c8 : n = 23
  · rw [if_pos c8]; rfl
  rw [if_neg c8]
  by_cases c9 : n = 24
  · rw [if_pos c9]; rfl
  rw [if_neg c9]; rfl
theorem does_ls {n : Int} {l : List Dt} (h1 : n ≠ 18) (h2 : n ≠ 19) (h3 : n ≠ 22) : (doesB n l).1.ls = [] := by
  unfold doesB
  split
  · rfl
  · split
    · rfl
    · exact made_ls h1 h2 h3
/-- What made answers, beside these blocks. -/
def MadeX (n : Int) : Prop := ∀ (X : Nat → Bool) (l : List Dt) (p : Option Addr) (cap : Nat) (w : World), l.length ≤ maxLen → Dt.sizes l ≤ 90000 → l.length ≤ cap → (∀ b, w.heap.size ≤ b → X b = false) → Lies (off w X) l p → Dt.rightAll rightB nameB l 0 = true →
    Calls Try.prog 31 #[.int .i64 n, .slice p l.length cap] w fun e w' => GivesX X (doesB n l) e w' ∧ Below w.heap.size w w'
theorem madeX_else {n : Int} (hn : foldsB n = true) (h1 : n ≠ 18) (h2 : n ≠ 19) (h3 : n ≠ 22) : MadeX n := by
  intro X l p cap w hlm hsz hcap hX hl hr
  exact (made_any n hn l p cap w hlm hsz hcap (off_lies hl) hr).mono fun e w' h => ⟨h.1.keep (does_ls h1 h2 h3) X, h.2⟩
set_option maxRecDepth 100000 in
theorem madeX_part (n : Int) (hn : n = 18 ∨ n = 19) : MadeX n := by
  intro X l p cap w hlm hsz hcap hX hl hr
  have hw := off_lies hl
  cases htk : takesB n l.length
  · rw [does_count htk]
    exact (made_count n l p cap w (by unfold I64; omega) hlm htk).mono fun e w' h => ⟨h.1.keep rfl X, h.2⟩
  have hk : (decide ((1 : Int) ≤ (l.length : Int)) && (decide ((l.length : Int) ≤ 1) || decide ((1 : Int) = -1))) = true := by
    rcases hn with rfl | rfl
    · exact htk
    · exact htk
  simp only [Bool.and_eq_true, Bool.or_eq_true, decide_eq_true_eq] at hk
  obtain ⟨t, rfl⟩ := len_one hk.1 (by omega)
  have hrt : rightD t = true := mem_right hr (i := 0) rfl
  have hts : t.size ≤ 90000 := by unfold Dt.sizes at hsz; omega
  have hfit : Fit n (.slice p ([t] : List Dt).length cap) (fitB n [t]) w := fun w1 hb => by
    rcases hn with rfl | rfl
    · exact fit18 t p cap w1 (hw.below hb)
    · exact fit19 t p cap w1 (hw.below hb)
  cases hf : fitB n [t]
  · rw [does_fit htk hf]
    rw [hf] at hfit
    exact (made_fit n [t] p cap w (by unfold I64; omega) hlm htk hfit).mono fun e w' h => ⟨h.1.keep rfl X, h.2⟩
  rw [does_made htk hf]
  rw [hf] at hfit
  have hkt : t.kd = 6 := by
    rcases hn with rfl | rfl
    · exact of_decide_eq_true hf
    · exact of_decide_eq_true hf
  obtain ⟨x, y, hxy⟩ := pair_parts hrt hkt
  obtain ⟨k, n0, d, s, ls⟩ := t
  have hxy : ls = [x, y] := hxy
  subst hxy
  rcases hn with rfl | rfl
  · exact made18x X k n0 d s x y p cap w (Dt.slim_size _ (by omega)) hX hl hfit
  · exact made19x X k n0 d s x y p cap w (Dt.slim_size _ (by omega)) hX hl hfit
set_option maxRecDepth 100000 in
theorem madeX_ref : MadeX 22 := by
  intro X l p cap w hlm hsz hcap hX hl hr
  have hw := off_lies hl
  cases htk : takesB 22 l.length
  · rw [does_count htk]
    exact (made_count 22 l p cap w (by unfold I64; omega) hlm htk).mono fun e w' h => ⟨h.1.keep rfl X, h.2⟩
  have hk : (decide ((2 : Int) ≤ (l.length : Int)) && (decide ((l.length : Int) ≤ 2) || decide ((2 : Int) = -1))) = true := htk
  simp only [Bool.and_eq_true, Bool.or_eq_true, decide_eq_true_eq] at hk
  obtain ⟨t, u, rfl⟩ := len_two hk.1 (by omega)
  have hts : t.size ≤ 90000 := by unfold Dt.sizes at hsz; omega
  have hfit : Fit 22 (.slice p ([t, u] : List Dt).length cap) (fitB 22 [t, u]) w := fun w1 hb => fit22 t u p cap w1 (hw.below hb)
  cases hf : fitB 22 [t, u]
  · rw [does_fit htk hf]
    rw [hf] at hfit
    exact (made_fit 22 [t, u] p cap w (by unfold I64; omega) hlm htk hfit).mono fun e w' h => ⟨h.1.keep rfl X, h.2⟩
  rw [does_made htk hf]
  rw [hf] at hfit
  show Calls _ _ _ _ fun e w' => GivesX X (atB t.ls u) e w' ∧ _
  unfold atB
  by_cases h : u.dn ≠ 1 ∨ u.nm < 0 ∨ (t.ls.length : Int) ≤ u.nm
  · rw [if_pos h]
    exact (made22_bad t u p cap w h hw hfit).mono fun e w' h => ⟨h.1.keep rfl X, h.2⟩
  · rw [if_neg h]
    have hlt : u.nm.toNat < t.ls.length := by omega
    obtain ⟨x, hx⟩ : ∃ x, t.ls[u.nm.toNat]? = some x := ⟨_, List.getElem?_eq_getElem hlt⟩
    rw [hx]
    exact made22x X t u p cap w u.nm.toNat x (by omega) (by omega) hx (Dt.slim_size _ (by omega)) hX hl hfit
theorem madeX_any (n : Int) (h : foldsB n = true) : MadeX n := by
  by_cases h1 : n = 18 ∨ n = 19
  · exact madeX_part n h1
  by_cases h2 : n = 22
  · subst h2; exact madeX_ref
  · exact madeX_else h (by omega) (by omega) h2

end Go.Proofs.Ytdeelpagoffdjaa.Dat

/- The program's Fold. -/
namespace Go.Proofs.Ytdeelpagoffdjaa.Dat
open Go.RowKit
open NumPlain
set_option linter.unusedVariables false

/-! ### Fold -/
/-- It answers this datum, this end, and whether. -/
def FoldX (X : Nat → Bool) (r : Dt × Int × Bool) (e : Ending) (w' : World) : Prop := ∃ k n d s p len cap, e = .returned (.tuple #[.agg #[.int .i64 k, .int .i64 n, .int .i64 d, .string s, .slice p len cap], .int .i64 r.2.1, .bool r.2.2]) ∧ r.1.At (off w' X) (.agg #[.int .i64 k, .int .i64 n, .int .i64 d, .string s, .slice p len cap])
theorem fold_zero {X : Nat → Bool} {w : World} {x : Ending} (hx : x = .returned (.tuple #[.agg #[.int .i64 0, .int .i64 0, .int .i64 0, .string ⟨#[]⟩, .slice none 0 0], .int .i64 0, .bool false])) : FoldX X (zeroD, 0, false) x w :=
  ⟨0, 0, 0, ⟨#[]⟩, none, 0, 0, hx, leaf_at _ 0 0 0 i64_lit0 i64_lit0 i64_lit0 none 0⟩
theorem any_right : ∀ (l : List Dt), l.any (fun t => !t.right rightB nameB 0) = !Dt.rightAll rightB nameB l 0
  | [] => rfl
  | t :: r => by
    have e : Dt.rightAll rightB nameB (t :: r) 0 = (t.right rightB nameB 0 && Dt.rightAll rightB nameB r 0) := by conv => lhs; unfold Dt.rightAll
    rw [List.any_cons, any_right r, e, Bool.not_and]
set_option maxHeartbeats 2000000 in
set_option maxRecDepth 100000 in
theorem fold_none (n : Int) (l : List Dt) (p : Option Addr) (cap : Nat) (w : World) (X : Nat → Bool) (hn : I64 n) (h : factOf n = none) :
    Calls Try.prog 18 #[.int .i64 n, .slice p l.length cap] w fun e w' => FoldX X (zeroD, 0, false) e w' ∧ Below w.heap.size w w' := by
  have F := fun W => Facts_any n hn W
  rw [h] at F
  unfold factV noF Fc.val at F
  have HF := Lib.hid F; clear F h hn
  go_enter Try.func18, Try.ntmps18
  go_wp2_with fail
  refine (HF.out _).mono ?_
  rintro _ w1 ⟨rfl, hb⟩
  have HB1 := Lib.hid (And.intro (one_box hb) (below_after hb)); clear hb
  go_upto_region 3 with fail
  obtain ⟨W, hW⟩ : ∃ W, w1.alloc (Obj.cells #[.string ⟨#[]⟩, .int .i64 0, .int .i64 0, .bool false, .bool false] 24) = W := ⟨_, rfl⟩
  have hbw : Below w1.heap.size w1 W := hW ▸ box_below w1 _
  rw [hW]
  have hbx := block_on hbw HB1.out.1
  have HB2 := Lib.hid (And.intro hbx (below_seq HB1.out.2 hbw))
  obtain ⟨c0, c1, c2, c3, c4⟩ := box_cells hbx
  have z0 := box_frozen hbx 0
  have z1 := box_frozen hbx 1
  have z2 := box_frozen hbx 2
  have z3 := box_frozen hbx 3
  have z4 := box_frozen hbx 4
  clear hbx hbw hW
  go_wp2_with fail
  refine bodyPost_ret (results_row2 rfl _ _ w.heap.size 37 _ (0, 0) _ _ _ rfl rfl rfl (set_five HB2.out.1) Try.underlying37 rfl Try.sizD) rfl ?_
  exact ⟨fold_zero rfl, set_five_below HB2.out.2 (Nat.le_refl _)⟩
set_option maxHeartbeats 2000000 in
set_option maxRecDepth 100000 in
theorem fold_not (n : Int) (l : List Dt) (p : Option Addr) (cap : Nat) (w : World) (X : Nat → Bool) (hn : I64 n) (fn : ByteArray) (fl fm : Int) (fp : Bool) (h : factOf n = some ⟨fn, fl, fm, fp, false⟩) :
    Calls Try.prog 18 #[.int .i64 n, .slice p l.length cap] w fun e w' => FoldX X (zeroD, 0, false) e w' ∧ Below w.heap.size w w' := by
  have F := fun W => Facts_any n hn W
  rw [h] at F
  unfold factV Fc.val at F
  have HF := Lib.hid F; clear F h hn
  go_enter Try.func18, Try.ntmps18
  go_wp2_with fail
  refine (HF.out _).mono ?_
  rintro _ w1 ⟨rfl, hb⟩
  have HB1 := Lib.hid (And.intro (one_box hb) (below_after hb)); clear hb
  go_upto_region 3 with fail
  obtain ⟨W, hW⟩ : ∃ W, w1.alloc (Obj.cells #[.string fn, .int .i64 fl, .int .i64 fm, .bool fp, .bool false] 24) = W := ⟨_, rfl⟩
  have hbw : Below w1.heap.size w1 W := hW ▸ box_below w1 _
  rw [hW]
  have hbx := block_on hbw HB1.out.1
  have HB2 := Lib.hid (And.intro hbx (below_seq HB1.out.2 hbw))
  obtain ⟨c0, c1, c2, c3, c4⟩ := box_cells hbx
  have z0 := box_frozen hbx 0
  have z1 := box_frozen hbx 1
  have z2 := box_frozen hbx 2
  have z3 := box_frozen hbx 3
  have z4 := box_frozen hbx 4
  clear hbx hbw hW
  go_wp2_with fail
  refine bodyPost_ret (results_row2 rfl _ _ w.heap.size 37 _ (0, 0) _ _ _ rfl rfl rfl (set_five HB2.out.1) Try.underlying37 rfl Try.sizD) rfl ?_
  exact ⟨fold_zero rfl, set_five_below HB2.out.2 (Nat.le_refl _)⟩
set_option maxHeartbeats 2000000 in
set_option maxRecDepth 100000 in
theorem fold_wrong (n : Int) (l : List Dt) (p : Option Addr) (cap : Nat) (w : World) (X : Nat → Bool) (hn : I64 n) (fn : ByteArray) (fl fm : Int) (fp : Bool) (h : factOf n = some ⟨fn, fl, fm, fp, true⟩) (hlm : l.length ≤ maxLen) (hl : Lies w l p) (hr : Dt.rightAll rightB nameB l 0 = false) :
    Calls Try.prog 18 #[.int .i64 n, .slice p l.length cap] w fun e w' => FoldX X (zeroD, 0, false) e w' ∧ Below w.heap.size w w' := by
  have F := fun W => Facts_any n hn W
  rw [h] at F
  unfold factV Fc.val at F
  have HF := Lib.hid F; clear F h hn
  have HL := Lib.hid (And.intro hlm (And.intro hl hr)); clear hl hr
  unfold maxLen at hlm
  go_enter Try.func18, Try.ntmps18
  go_wp2_with fail
  refine (HF.out _).mono ?_
  rintro _ w1 ⟨rfl, hb⟩
  have HB1 := Lib.hid (And.intro (one_box hb) (below_after hb)); clear hb
  go_upto_region 2 with fail
  obtain ⟨W0, hW0⟩ : ∃ W, w1.alloc (Obj.cells #[.string fn, .int .i64 fl, .int .i64 fm, .bool fp, .bool true] 24) = W := ⟨_, rfl⟩
  have hbw0 : Below w1.heap.size w1 W0 := hW0 ▸ box_below w1 _
  have hfx := hW0 ▸ at_new w1 (Obj.cells #[.string fn, .int .i64 fl, .int .i64 fm, .bool fp, .bool true] 24)
  rw [hW0]
  obtain ⟨g0, g1, g2, g3, g4⟩ := box_cells hfx
  have hbelow0 := below_seq HB1.out.2 hbw0
  have C := containsW_any _ (wrong_holds (fun t => t.right rightB nameB 0) pRight) l p cap W0 HL.out.1 (HL.out.2.1.below hbelow0)
  rw [any_right, HL.out.2.2] at C
  have HC := Lib.hid C
  have HB2 := Lib.hid (And.intro (block_on hbw0 HB1.out.1) hbelow0)
  clear C hfx hbw0 hbelow0 hW0
  go_wp2_with fail
  refine HC.out.mono ?_
  rintro _ w2 ⟨rfl, hb⟩
  have HB3 := Lib.hid (And.intro (block_on hb HB2.out.1) (below_seq HB2.out.2 hb)); clear hb g0 g1 g2 g3 g4
  have hbx := HB3.out.1
  obtain ⟨c0, c1, c2, c3, c4⟩ := box_cells hbx
  have z0 := box_frozen hbx 0
  have z1 := box_frozen hbx 1
  have z2 := box_frozen hbx 2
  have z3 := box_frozen hbx 3
  have z4 := box_frozen hbx 4
  clear hbx
  go_wp2_with fail
  refine bodyPost_ret (results_row2 rfl _ _ w.heap.size 37 _ (0, 0) _ _ _ rfl rfl rfl (set_five HB3.out.1) Try.underlying37 rfl Try.sizD) rfl ?_
  exact ⟨fold_zero rfl, set_five_below HB3.out.2 (Nat.le_refl _)⟩
set_option maxHeartbeats 2000000 in
set_option maxRecDepth 100000 in
theorem fold_made (n : Int) (l : List Dt) (p : Option Addr) (cap : Nat) (w : World) (X : Nat → Bool) (hn : I64 n) (fn : ByteArray) (fl fm : Int) (fp : Bool) (h : factOf n = some ⟨fn, fl, fm, fp, true⟩) (hlm : l.length ≤ maxLen) (hsz : Dt.sizes l ≤ 90000) (hcap : l.length ≤ cap) (hX : ∀ b, w.heap.size ≤ b → X b = false) (hlx : Lies (off w X) l p) (hr : Dt.rightAll rightB nameB l 0 = true) :
    Calls Try.prog 18 #[.int .i64 n, .slice p l.length cap] w fun e w' => FoldX X ((doesB n l).1, (doesB n l).2, true) e w' ∧ Below w.heap.size w w' := by
  have hfo : foldsB n = true := by unfold foldsB; rw [h]
  have F := fun W => Facts_any n hn W
  rw [h] at F
  unfold factV Fc.val at F
  have HF := Lib.hid F; clear F h hn
  have HL := Lib.hid (And.intro hlm (And.intro (off_lies hlx) hr))
  have HX := Lib.hid (And.intro hfo (And.intro hsz (And.intro hcap (And.intro hX hlx)))); clear hlx hr hfo hsz hcap hX
  unfold maxLen at hlm
  go_enter Try.func18, Try.ntmps18
  go_wp2_with fail
  refine (HF.out _).mono ?_
  rintro _ w1 ⟨rfl, hb⟩
  have HB1 := Lib.hid (And.intro (one_box hb) (below_after hb)); clear hb
  go_upto_region 2 with fail
  obtain ⟨W0, hW0⟩ : ∃ W, w1.alloc (Obj.cells #[.string fn, .int .i64 fl, .int .i64 fm, .bool fp, .bool true] 24) = W := ⟨_, rfl⟩
  have hbw0 : Below w1.heap.size w1 W0 := hW0 ▸ box_below w1 _
  have hfx := hW0 ▸ at_new w1 (Obj.cells #[.string fn, .int .i64 fl, .int .i64 fm, .bool fp, .bool true] 24)
  rw [hW0]
  obtain ⟨g0, g1, g2, g3, g4⟩ := box_cells hfx
  have hbelow0 := below_seq HB1.out.2 hbw0
  have C := containsW_any _ (wrong_holds (fun t => t.right rightB nameB 0) pRight) l p cap W0 HL.out.1 (HL.out.2.1.below hbelow0)
  rw [any_right, HL.out.2.2] at C
  have HC := Lib.hid C
  have HB2 := Lib.hid (And.intro (block_on hbw0 HB1.out.1) hbelow0)
  clear C hfx hbw0 hbelow0 hW0
  go_wp2_with fail
  refine HC.out.mono ?_
  rintro _ w2 ⟨rfl, hb⟩
  have HB3 := Lib.hid (And.intro (block_on hb HB2.out.1) (below_seq HB2.out.2 hb)); clear hb g0 g1 g2 g3 g4
  have C := madeX_any n HX.out.1 (fun b => X b || b == w.heap.size) l p cap w2 HL.out.1 HX.out.2.1 HX.out.2.2.1 (fun b h => by have h1 := lt_of_block HB3.out.1; rw [HX.out.2.2.2.1 b (by omega), Bool.false_or, beq_eq_false_iff_ne]; omega) (by
    rcases HX.out.2.2.2.2 with h | ⟨b, o, h1, h2⟩
    · exact Or.inl h
    · exact Or.inr ⟨b, o, h1, h2.on fun b o x h => off_cell.2 ⟨by have h1 := off_cell.1 h; have h2 := cell_lt h1.2; rw [h1.1, Bool.false_or, beq_eq_false_iff_ne]; omega, cell_on HB3.out.2 _ _ _ (off_cell.1 h).2⟩⟩) HL.out.2.2
  have HM := Lib.hid C; clear C
  go_wp2_with fail
  refine HM.out.mono ?_
  rintro _ w3 ⟨⟨ka, na, da, sa, pa, lena, capa, rfl, hu⟩, hb⟩
  have HB4 := Lib.hid (And.intro (block_on hb HB3.out.1) (And.intro (below_seq HB3.out.2 hb) hu)); clear hb hu
  go_upto_region 5 with fail
  obtain ⟨W, hW⟩ : ∃ W, w3.alloc (Obj.cells #[.int .i64 ka, .int .i64 na, .int .i64 da, .string sa, .slice pa lena capa] 37) = W := ⟨_, rfl⟩
  have hbw : Below w3.heap.size w3 W := hW ▸ box_below w3 _
  have hnx := hW ▸ at_new w3 (Obj.cells #[.int .i64 ka, .int .i64 na, .int .i64 da, .string sa, .slice pa lena capa] 37)
  rw [hW]
  obtain ⟨a0, a1, a2, a3, a4⟩ := box_cells hnx
  have hbx := block_on hbw HB4.out.1
  have HB5 := Lib.hid (And.intro hbx (And.intro (below_seq HB4.out.2.1 hbw) hbw))
  obtain ⟨c0, c1, c2, c3, c4⟩ := box_cells hbx
  have z0 := box_frozen hbx 0
  have z1 := box_frozen hbx 1
  have z2 := box_frozen hbx 2
  have z3 := box_frozen hbx 3
  have z4 := box_frozen hbx 4
  clear hbx hbw hW hnx
  go_wp2_with fail
  refine bodyPost_ret (results_row2 rfl _ _ w.heap.size 37 _ (0, 0) _ _ _ rfl rfl rfl (set_five HB5.out.1) Try.underlying37 rfl Try.sizD) rfl ?_
  refine ⟨⟨_, _, _, _, _, _, _, rfl, HB4.out.2.2.on fun b o x h => ?_⟩, set_five_below HB5.out.2.1 (Nat.le_refl _)⟩
  have h1 := off_cell.1 h
  simp only [Bool.or_eq_false_iff, beq_eq_false_iff_ne] at h1
  exact off_cell.2 ⟨h1.1.1, (World.cell?_of_block (set_five_other h1.1.2)).trans (cell_on HB5.out.2.2 _ _ _ h1.2)⟩
theorem FoldP_any (n : Int) (l : List Dt) (p : Option Addr) (cap : Nat) (w : World) (X : Nat → Bool) (hn : I64 n) (hlm : l.length ≤ maxLen) (hsz : Dt.sizes l ≤ 90000) (hcap : l.length ≤ cap) (hX : ∀ b, w.heap.size ≤ b → X b = false) (hl : Lies (off w X) l p) :
    Calls Try.prog 18 #[.int .i64 n, .slice p l.length cap] w fun e w' => FoldX X (foldB nameB n l) e w' ∧ Below w.heap.size w w' := by
  unfold foldB
  cases h : factOf n with
  | none =>
    have : foldsB n = false := by unfold foldsB; rw [h]
    rw [if_neg (by rw [this]; simp)]
    exact fold_none n l p cap w X hn h
  | some f =>
    obtain ⟨fn, fl, fm, fp, ff⟩ := f
    cases ff
    · have : foldsB n = false := by unfold foldsB; rw [h]
      rw [if_neg (by rw [this]; simp)]
      exact fold_not n l p cap w X hn fn fl fm fp h
    · have hf : foldsB n = true := by unfold foldsB; rw [h]
      cases hr : Dt.rightAll rightB nameB l 0
      · rw [if_neg (by simp)]
        exact fold_wrong n l p cap w X hn fn fl fm fp h hlm (off_lies hl) hr
      · rw [if_pos ⟨hf, rfl⟩]
        exact fold_made n l p cap w X hn fn fl fm fp h hlm hsz hcap hX hl hr
end Go.Proofs.Ytdeelpagoffdjaa.Dat
