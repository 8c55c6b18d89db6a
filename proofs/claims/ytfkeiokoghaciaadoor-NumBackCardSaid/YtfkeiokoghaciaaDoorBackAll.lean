/- NumBack: the ways of the walk joined over the rationals; and the array of four that comes in. -/
import Derived.Test.YtfkeiokoghaciaaDoorBackY
import Derived.Test.YtfkeiokoghaciaaDoorRound
import Derived.ProofKit
import Derived.OpenShut
namespace Go.Proofs.YtfkeiokoghaciaaDoor
open Go.ChangeShapes Go.WideShapes Go.ChangeAt Go.RowKit NumPlain
set_option linter.unusedVariables false

def Small (n : Int) : Prop := -2147483647 ≤ n ∧ n ≤ 2147483647
theorem back_join (x0 x1 x2 x3 : Int) (b0 : I64 x0) (b1 : I64 x1) (b2 : I64 x2) (b3 : I64 x3) (n d m e : Int) (cn : Small n) (cd : Small d) (cm : Small m) (ce : Small e) (t : ByteArray)
    (hi : mk x0 x1 = (n, d, 0)) (hj : mk x2 x3 = (m, e, 0))
    (hadd : addF n d m e = (0, 0, 3) ∨ ∃ a1 a2, Small a1 ∧ Small a2 ∧ addF n d m e = (a1, a2, 0) ∧ subF a1 a2 m e = (n, d, 0))
    (hmul : mulF n d m e = (0, 0, 3) ∨ ∃ p1 p2, Small p1 ∧ Small p2 ∧ mulF n d m e = (p1, p2, 0) ∧ (m = 0 ∨ (m ≠ 0 ∧ divF p1 p2 m e = (n, d, 0))))
    (hless : (lessF n d m e = true ∧ lessF m e n d = false ∧ n ≠ m) ∨ (lessF n d m e = true ∧ lessF m e n d = false ∧ m = n ∧ d ≠ e) ∨ (lessF n d m e = false ∧ lessF m e n d = false ∧ m = n ∧ e = d) ∨ (lessF n d m e = false ∧ lessF m e n d = true))
    (ht : t.data.toList = textL n d) (hp : parse t.data.toList = (n, d, true)) (hs : t.size ≤ maxLen) (w : World) (htab : Lib.TabIs Tryd.prog w "internal/strconv.uint64pow10" .u64 Lib.pow10Tab) :
    Calls Tryd.prog 4 #[.agg (cells4 x0 x1 x2 x3)] w fun e w' => e = .returned (.bool true) ∧ Below w.heap.size w w' := by
  have nb : ∀ {a b : Int}, a ≠ b → (a != b) = true := fun h => by rw [bne_iff_ne]; exact h
  rcases hless with ⟨hf, hg, hne⟩ | ⟨hf, hg, hmn, hde⟩ | ⟨hf, hg, hmn, hde⟩ | ⟨hf, hg⟩
  · rcases hadd with ha | ⟨a1, a2, ca1, ca2, ha, hb⟩
    · rcases hmul with hc | ⟨p1, p2, cp1, cp2, hc, hm | ⟨hm, hd⟩⟩
      · exact back_nnl x0 x1 x2 x3 b0 b1 b2 b3 _ _ _ _ cn cd cm ce t hi hj ha hc ht hp hs hf hg (nb hne) w htab
      · subst hm
        exact back_nzl x0 x1 x2 x3 b0 b1 b2 b3 _ _ _ _ _ cn cd ce cp1 cp2 t hi hj ha hc ht hp hs hf hg (nb hne) w htab
      · exact back_nyl x0 x1 x2 x3 b0 b1 b2 b3 _ _ _ _ _ _ cn cd cm ce cp1 cp2 t hi hj ha hc hd (nb hm) ht hp hs hf hg (nb hne) w htab
    · rcases hmul with hc | ⟨p1, p2, cp1, cp2, hc, hm | ⟨hm, hd⟩⟩
      · exact back_ynl x0 x1 x2 x3 b0 b1 b2 b3 _ _ _ _ _ _ cn cd cm ce ca1 ca2 t hi hj ha hb hc ht hp hs hf hg (nb hne) w htab
      · subst hm
        exact back_yzl x0 x1 x2 x3 b0 b1 b2 b3 _ _ _ _ _ _ _ cn cd ce ca1 ca2 cp1 cp2 t hi hj ha hb hc ht hp hs hf hg (nb hne) w htab
      · exact back_yyl x0 x1 x2 x3 b0 b1 b2 b3 _ _ _ _ _ _ _ _ cn cd cm ce ca1 ca2 cp1 cp2 t hi hj ha hb hc hd (nb hm) ht hp hs hf hg (nb hne) w htab
  · subst hmn
    rcases hadd with ha | ⟨a1, a2, ca1, ca2, ha, hb⟩
    · rcases hmul with hc | ⟨p1, p2, cp1, cp2, hc, hm | ⟨hm, hd⟩⟩
      · exact back_nnk x0 x1 x2 x3 b0 b1 b2 b3 _ _ _ cn cd ce t hi hj ha hc ht hp hs hf hg (nb hde) w htab
      · subst hm
        exact back_nzk x0 x1 x2 x3 b0 b1 b2 b3 _ _ _ _ cd ce cp1 cp2 t hi hj ha hc ht hp hs hf hg (nb hde) w htab
      · exact back_nyk x0 x1 x2 x3 b0 b1 b2 b3 _ _ _ _ _ cn cd ce cp1 cp2 t hi hj ha hc hd (nb hm) ht hp hs hf hg (nb hde) w htab
    · rcases hmul with hc | ⟨p1, p2, cp1, cp2, hc, hm | ⟨hm, hd⟩⟩
      · exact back_ynk x0 x1 x2 x3 b0 b1 b2 b3 _ _ _ _ _ cn cd ce ca1 ca2 t hi hj ha hb hc ht hp hs hf hg (nb hde) w htab
      · subst hm
        exact back_yzk x0 x1 x2 x3 b0 b1 b2 b3 _ _ _ _ _ _ cd ce ca1 ca2 cp1 cp2 t hi hj ha hb hc ht hp hs hf hg (nb hde) w htab
      · exact back_yyk x0 x1 x2 x3 b0 b1 b2 b3 _ _ _ _ _ _ _ cn cd ce ca1 ca2 cp1 cp2 t hi hj ha hb hc hd (nb hm) ht hp hs hf hg (nb hde) w htab
  · subst hmn
    subst hde
    rcases hadd with ha | ⟨a1, a2, ca1, ca2, ha, hb⟩
    · rcases hmul with hc | ⟨p1, p2, cp1, cp2, hc, hm | ⟨hm, hd⟩⟩
      · exact back_nne x0 x1 x2 x3 b0 b1 b2 b3 _ _ cn cd t hi hj ha hc ht hp hs hf hg w htab
      · subst hm
        exact back_nze x0 x1 x2 x3 b0 b1 b2 b3 _ _ _ cd cp1 cp2 t hi hj ha hc ht hp hs hf hg w htab
      · exact back_nye x0 x1 x2 x3 b0 b1 b2 b3 _ _ _ _ cn cd cp1 cp2 t hi hj ha hc hd (nb hm) ht hp hs hf hg w htab
    · rcases hmul with hc | ⟨p1, p2, cp1, cp2, hc, hm | ⟨hm, hd⟩⟩
      · exact back_yne x0 x1 x2 x3 b0 b1 b2 b3 _ _ _ _ cn cd ca1 ca2 t hi hj ha hb hc ht hp hs hf hg w htab
      · subst hm
        exact back_yze x0 x1 x2 x3 b0 b1 b2 b3 _ _ _ _ _ cd ca1 ca2 cp1 cp2 t hi hj ha hb hc ht hp hs hf hg w htab
      · exact back_yye x0 x1 x2 x3 b0 b1 b2 b3 _ _ _ _ _ _ cn cd ca1 ca2 cp1 cp2 t hi hj ha hb hc hd (nb hm) ht hp hs hf hg w htab
  · rcases hadd with ha | ⟨a1, a2, ca1, ca2, ha, hb⟩
    · rcases hmul with hc | ⟨p1, p2, cp1, cp2, hc, hm | ⟨hm, hd⟩⟩
      · exact back_nng x0 x1 x2 x3 b0 b1 b2 b3 _ _ _ _ cn cd cm ce t hi hj ha hc ht hp hs hf hg w htab
      · subst hm
        exact back_nzg x0 x1 x2 x3 b0 b1 b2 b3 _ _ _ _ _ cn cd ce cp1 cp2 t hi hj ha hc ht hp hs hf hg w htab
      · exact back_nyg x0 x1 x2 x3 b0 b1 b2 b3 _ _ _ _ _ _ cn cd cm ce cp1 cp2 t hi hj ha hc hd (nb hm) ht hp hs hf hg w htab
    · rcases hmul with hc | ⟨p1, p2, cp1, cp2, hc, hm | ⟨hm, hd⟩⟩
      · exact back_yng x0 x1 x2 x3 b0 b1 b2 b3 _ _ _ _ _ _ cn cd cm ce ca1 ca2 t hi hj ha hb hc ht hp hs hf hg w htab
      · subst hm
        exact back_yzg x0 x1 x2 x3 b0 b1 b2 b3 _ _ _ _ _ _ _ cn cd ce ca1 ca2 cp1 cp2 t hi hj ha hb hc ht hp hs hf hg w htab
      · exact back_yyg x0 x1 x2 x3 b0 b1 b2 b3 _ _ _ _ _ _ _ _ cn cd cm ce ca1 ca2 cp1 cp2 t hi hj ha hb hc hd (nb hm) ht hp hs hf hg w htab

theorem back_true (x0 x1 x2 x3 : Int) (b0 : I64 x0) (b1 : I64 x1) (b2 : I64 x2) (b3 : I64 x3) (w : World) (htab : Lib.TabIs Tryd.prog w "internal/strconv.uint64pow10" .u64 Lib.pow10Tab) :
    Calls Tryd.prog 4 #[.agg (cells4 x0 x1 x2 x3)] w fun e w' => e = .returned (.bool true) ∧ Below w.heap.size w w' := by
  obtain ⟨n, d, i, hi, i0, i4, gi, zi⟩ := mk_ends x0 x1
  obtain ⟨m, e, j, hj, j0, j4, gj, zj⟩ := mk_ends x2 x3
  have small : ∀ {x y k : Int}, (k = 0 → ∃ q : Rat, fits q = true ∧ x = q.num ∧ y = q.den) → (k ≠ 0 → x = 0 ∧ y = 0) → Small x ∧ Small y := by
    intro x y k h1 h2
    unfold Small
    by_cases hk : k = 0
    · obtain ⟨q, hf, rfl, rfl⟩ := h1 hk
      have := fits_bounds hf; omega
    · have := h2 hk; omega
  have gi' : i = 0 → ∃ q : Rat, fits q = true ∧ n = q.num ∧ d = q.den := fun h => by obtain ⟨q, hf, _, _, h1, h2⟩ := gi h; exact ⟨q, hf, h1, h2⟩
  have gj' : j = 0 → ∃ q : Rat, fits q = true ∧ m = q.num ∧ e = q.den := fun h => by obtain ⟨q, hf, _, _, h1, h2⟩ := gj h; exact ⟨q, hf, h1, h2⟩
  obtain ⟨cn, cd⟩ := small gi' zi
  obtain ⟨cm, ce⟩ := small gj' zj
  by_cases hz : i + j = 0
  · obtain rfl : i = 0 := by omega
    obtain rfl : j = 0 := by omega
    obtain ⟨p, hp, hnp, hdp⟩ := gi' rfl
    obtain ⟨q, hq, hmq, heq⟩ := gj' rfl
    clear gi gj gi' gj' zi zj small
    obtain ⟨t, ht, htl⟩ := str_of (l := textL n d)
    have hpar : parse t.data.toList = (n, d, true) := by rw [ht, hnp, hdp]; exact back_text hp
    have hts : t.size ≤ maxLen := by
      rw [htl, hnp, hdp]
      exact Nat.le_trans (text_len hp) (by unfold maxLen; omega)
    have ha := addF_rat hp hq
    have hc := mulF_rat hp hq
    have hf := lessF_rat hp hq
    have hg := lessF_rat hq hp
    rw [← hnp, ← hdp, ← hmq, ← heq] at ha hc hf hg
    refine back_join x0 x1 x2 x3 b0 b1 b2 b3 n d m e cn cd cm ce t hi hj ?_ ?_ ?_ ht hpar hts w htab
    · cases f1 : fits (p + q)
      · exact Or.inl (by rw [ha, fin_no f1])
      · right
        have hb := subF_rat f1 hq
        rw [show p + q - q = p from by grind, fin_yes hp, ← hnp, ← hdp, ← hmq, ← heq] at hb
        have := fits_bounds f1
        exact ⟨(p + q).num, ((p + q).den : Int), ⟨by omega, by omega⟩, ⟨by omega, by omega⟩, by rw [ha, fin_yes f1], hb⟩
    · cases f2 : fits (p * q)
      · exact Or.inl (by rw [hc, fin_no f2])
      · right
        have := fits_bounds f2
        refine ⟨(p * q).num, ((p * q).den : Int), ⟨by omega, by omega⟩, ⟨by omega, by omega⟩, by rw [hc, fin_yes f2], ?_⟩
        by_cases hm : m = 0
        · exact Or.inl hm
        · right
          have hqn : q.num ≠ 0 := by rw [← hmq]; exact hm
          have hq0 := num_zero hqn
          have hd := divF_rat f2 hq
          rw [if_neg hqn, show p * q / q = p from by grind, fin_yes hp, ← hnp, ← hdp, ← hmq, ← heq] at hd
          exact ⟨hm, hd⟩
    · by_cases h1 : p < q
      · have h2 : ¬ q < p := by grind
        rw [decide_eq_true h1] at hf
        rw [decide_eq_false h2] at hg
        by_cases hmn : m = n
        · refine Or.inr (Or.inl ⟨hf, hg, hmn, ?_⟩)
          intro hde
          have : p = q := Rat.ext (by rw [← hnp, ← hmq, hmn]) (by omega)
          grind
        · exact Or.inl ⟨hf, hg, fun h => hmn h.symm⟩
      · rw [decide_eq_false h1] at hf
        by_cases h2 : q < p
        · rw [decide_eq_true h2] at hg
          exact Or.inr (Or.inr (Or.inr ⟨hf, hg⟩))
        · rw [decide_eq_false h2] at hg
          have hpq : p = q := by grind
          exact Or.inr (Or.inr (Or.inl ⟨hf, hg, by rw [hnp, hmq, hpq], by rw [hdp, heq, hpq]⟩))
  · exact back_bad x0 x1 x2 x3 b0 b1 b2 b3 n d i m e j cn cd ⟨by omega, by omega⟩ cm ce ⟨by omega, by omega⟩ hi hj (by rw [bne_iff_ne]; exact hz) w htab

/-! ### The array -/
theorem Tryd.cells3 : Tryd.prog.cellsOf 3 = 1 := by kernel_rfl
theorem Tryd.cells27 : Tryd.prog.cellsOf 27 = 4 := by kernel_rfl
theorem list4 {α : Type} (l : List α) (h : (⟨l⟩ : Array α).size = 4) : ∃ a b c d, l = [a, b, c, d] := by
  match l, h with
  | [a, b, c, d], _ => exact ⟨a, b, c, d, rfl⟩
def reads4 (H : Type) (x0 x1 x2 x3 : Int) : DataW H := .agg [.lit (.int .i64 x0), .lit (.int .i64 x1), .lit (.int .i64 x2), .lit (.int .i64 x3)]
theorem open_four {H : Type} {enc : TypeId × Value → H} {W : World} {base : Nat} {spare : Nat → Bool} {v : Value} {d : DataW H} {p : List MemPlace} {r : Reach} {b0 : Nat}
    (hv : Value.okWide Tryd.prog W r b0 27 v) (h : DataW.Trod enc Tryd.prog W base spare true 27 v d p) :
    ∃ x0 x1 x2 x3 : Int, v = .agg (cells4 x0 x1 x2 x3) ∧ d = reads4 H x0 x1 x2 x3 ∧ p = [] ∧ (Lit.int .i64 x0).wf = true ∧ (Lit.int .i64 x1).wf = true ∧ (Lit.int .i64 x2).wf = true ∧ (Lit.int .i64 x3).wf = true := by
  obtain ⟨cs, rfl, hsz, _⟩ : ∃ cs, v = .agg cs ∧ cs.size = Tryd.prog.cellsOf 27 ∧ Row.okWide Tryd.prog W r b0 27 cs := by
    simpa [Value.okWide, Tryd.underlying27] using hv
  rw [Tryd.cells27] at hsz
  obtain ⟨l⟩ := cs
  obtain ⟨c0, c1, c2, c3, rfl⟩ := list4 l hsz
  obtain ⟨fuel, hf⟩ := h
  obtain ⟨xs, m, _, hx, _, hlen, hat⟩ := DataW.trod_array Tryd.underlying27 hf
  match xs, hlen with
  | [y0, y1, y2, y3], _ =>
    have h0 := hat 0 (by omega)
    have h1 := hat 1 (by omega)
    have h2 := hat 2 (by omega)
    have h3 := hat 3 (by omega)
    simp [Tryd.cells3, Value.cells] at h0 h1 h2 h3
    obtain ⟨x0, e0, rfl, w0⟩ := DataW.trod_int Tryd.underlying3 h0
    obtain ⟨x1, e1, rfl, w1⟩ := DataW.trod_int Tryd.underlying3 h1
    obtain ⟨x2, e2, rfl, w2⟩ := DataW.trod_int Tryd.underlying3 h2
    obtain ⟨x3, e3, rfl, w3⟩ := DataW.trod_int Tryd.underlying3 h3
    simp at e0 e1 e2 e3
    subst e0 e1 e2 e3
    simp only [Prod.mk.injEq] at hx
    obtain ⟨rfl, rfl⟩ := hx
    exact ⟨x0, x1, x2, x3, rfl, rfl, rfl, w0, w1, w2, w3⟩
theorem shut_four {H : Type} {enc : TypeId × Value → H} {W : World} {spare : Nat → Bool} {base : Nat} {x0 x1 x2 x3 : Int} (w0 : (Lit.int .i64 x0).wf = true) (w1 : (Lit.int .i64 x1).wf = true) (w2 : (Lit.int .i64 x2).wf = true) (w3 : (Lit.int .i64 x3).wf = true) :
    DataW.Trod enc Tryd.prog W base spare true 27 (.agg (cells4 x0 x1 x2 x3)) (reads4 H x0 x1 x2 x3) [] :=
  ⟨2, by simp [DataW.trod, Value.cells, cells4, reads4, Tryd.underlying27, Tryd.underlying3, Tryd.cells27, Tryd.cells3, w0, w1, w2, w3, show List.range 4 = [0, 1, 2, 3] from rfl]⟩
end Go.Proofs.YtfkeiokoghaciaaDoor
