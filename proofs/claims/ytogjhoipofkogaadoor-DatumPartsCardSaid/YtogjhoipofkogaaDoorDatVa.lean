/- What holds of a datum and of all that is in it: the program's own 'all'. -/
import Derived.Test.YtogjhoipofkogaaDoorDatH
namespace Go.Proofs.YtogjhoipofkogaaDoor.Dat
open Go.RowKit
set_option linter.unusedVariables false

mutual
/-- Something holds of a datum and of all that is in it, and nothing lies deeper than 200. -/
def Dt.whole (h : Dt → Bool) : Dt → Nat → Bool
  | .node k n d s l, deep => decide (deep ≤ 200) && (h (.node k n d s l) && Dt.wholeAll h l (deep + 1))
def Dt.wholeAll (h : Dt → Bool) : List Dt → Nat → Bool
  | [], _ => true
  | t :: r, deep => t.whole h deep && Dt.wholeAll h r deep
end
theorem Dt.wholeAll_step {h : Dt → Bool} {l : List Dt} {i : Nat} {t : Dt} {deep : Nat} (g : l[i]? = some t) : Dt.wholeAll h (l.drop i) deep = (t.whole h deep && Dt.wholeAll h (l.drop (i + 1)) deep) := by
  rw [Dt.drop_at g]; conv => lhs; unfold Dt.wholeAll
theorem Dt.wholeAll_stop {h : Dt → Bool} {l : List Dt} {i : Nat} {deep : Nat} (g : l.length ≤ i) : Dt.wholeAll h (l.drop i) deep = true := by
  rw [List.drop_of_length_le g]; rfl
theorem Dt.whole_deep {h : Dt → Bool} {t : Dt} {deep : Nat} (g : 200 < deep) : t.whole h deep = false := by
  cases t; unfold Dt.whole; rw [decide_eq_false (by omega)]; rfl
theorem Dt.whole_not {h : Dt → Bool} {t : Dt} {deep : Nat} (g : h t = false) : t.whole h deep = false := by
  cases t; unfold Dt.whole; rw [g]; simp
theorem Dt.whole_yes {h : Dt → Bool} {k n d : Int} {s : ByteArray} {l : List Dt} {deep : Nat} (g : h (.node k n d s l) = true) (hd : deep ≤ 200) : (Dt.node k n d s l).whole h deep = Dt.wholeAll h l (deep + 1) := by
  conv => lhs; unfold Dt.whole
  rw [g, decide_eq_true hd]; rfl
def HoldsCall (g : FuncId) (h : Dt → Bool) : Prop := ∀ (t : Dt) (v : Value) (w : World), t.At w v → Calls Tryd.prog g #[v] w fun e w' => e = .returned (.bool (h t)) ∧ Below w.heap.size w w'
/-- A box, and then what a call leaves, from a world on. -/
theorem below_box_call {w wr w1 : World} {o : Obj} (hb : Below w.heap.size w wr) (h : Below (wr.alloc o).heap.size (wr.alloc o) w1) : Below w.heap.size w w1 :=
  hb.trans ((((Below.refl wr.heap.size wr).alloc (Nat.le_refl _) o).trans (h.mono (by show wr.heap.size ≤ (wr.heap.push o).size; simp))).mono hb.size)

theorem within_deep (h : Dt → Bool) (t : Dt) (v : Value) (D : Int) (deep : Nat) (w : World) (a b : Option Addr) (hat : t.At w v) (hD : D = (deep : Int)) (h1 : deep ≤ 201) (h2 : 200 < deep) :
    Calls Tryd.prog 47 #[v, .int .i64 D, .pointer a, .pointer b] w fun e w' => e = .returned (.bool (t.whole h deep)) ∧ Below w.heap.size w w' := by
  rw [Dt.whole_deep h2]
  have D0 : 200 < D := by omega
  have D1 : D ≤ 201 := by omega
  obtain ⟨k, n, d, s, l⟩ := t
  unfold Dt.At at hat
  obtain ⟨-, -, -, -, -, p, cap, rfl, -⟩ := hat
  clear hD h1 h2
  go_enter Tryd.func47, Tryd.ntmps47
  go_wp2
  go_ret
  exact ⟨rfl, box_below _ _⟩

set_option maxHeartbeats 1000000 in
theorem within29_any (h : Dt → Bool) (hh : HoldsCall 29 h) (N : Nat) : ∀ (t : Dt) (v : Value) (D : Int) (deep : Nat) (w : World) (Bh Bw : Nat), t.size ≤ N → t.At w v → D = (deep : Int) → deep ≤ 201 →
    w.cell? ⟨Bh, 0, none⟩ = some (.func (.func 29) #[] #[]) → w.cell? ⟨Bw, 0, none⟩ = some (.func (.func 47) #[] #[.pointer (some ⟨Bh, 0, none⟩), .pointer (some ⟨Bw, 0, none⟩)]) →
    Calls Tryd.prog 47 #[v, .int .i64 D, .pointer (some ⟨Bh, 0, none⟩), .pointer (some ⟨Bw, 0, none⟩)] w fun e w' => e = .returned (.bool (t.whole h deep)) ∧ Below w.heap.size w w' := by
  induction N with
  | zero => intro t v D deep w Bh Bw hN; have := t.size_pos; omega
  | succ N ih =>
    intro t v D deep w Bh Bw hN hat hD h1 hch hcw
    by_cases hdeep : 200 < deep
    · exact within_deep h t v D deep w _ _ hat hD h1 hdeep
    have D0 : 0 ≤ D := by omega
    have D1 : D ≤ 200 := by omega
    have HHC := Lib.hid hh; clear hh
    have IH := Lib.hid ih; clear ih
    have HN := Lib.hid hN; clear hN
    have HD := Lib.hid (show D = (deep : Int) ∧ deep ≤ 200 from ⟨hD, by omega⟩); clear hD h1 hdeep
    have HAT := Lib.hid hat
    obtain ⟨k, n, d, s, l⟩ := t
    unfold Dt.At at hat
    obtain ⟨-, -, -, -, hlm, p, cap, rfl, hl⟩ := hat
    unfold maxLen at hlm
    have HL := Lib.hid hl; clear hl
    have lth := cell_lt hch
    have ltw := cell_lt hcw
    cases hv : h (.node k n d s l)
    · have HV := Lib.hid hv; clear hv
      go_enter Tryd.func47, Tryd.ntmps47
      go_wp2_with fail
      refine (HHC.out _ _ _ ((HAT.out).below (box_below _ _))).mono ?_
      rintro _ w1 ⟨rfl, hb1⟩
      rw [HV.out]
      have HB1 := Lib.hid hb1; clear hb1
      go_wp2_with fail
      go_ret
      exact ⟨ret_bool (by rw [Dt.whole_not HV.out]), below_after HB1.out⟩
    · have HV := Lib.hid hv; clear hv
      go_enter Tryd.func47, Tryd.ntmps47
      go_wp2_with fail
      refine (HHC.out _ _ _ ((HAT.out).below (box_below _ _))).mono ?_
      rintro _ w1 ⟨rfl, hb1⟩
      rw [HV.out]
      have hch1 := cell_on (below_after hb1) _ _ _ hch
      have hcw1 := cell_on (below_after hb1) _ _ _ hcw
      have hc4 := cell_on hb1 w.heap.size 4 (.slice p l.length cap) (by simp)
      have HB1 := Lib.hid (below_after hb1); clear hb1
      go_wp2_with fail
      go_loopw [20] (fun x wr => ∃ (i : Nat), i ≤ l.length ∧ x = .int .i64 i ∧ Dt.wholeAll h l (deep + 1) = Dt.wholeAll h (l.drop i) (deep + 1) ∧ wr.cell? ⟨Bh, 0, none⟩ = some (.func (.func 29) #[] #[]) ∧ wr.cell? ⟨Bw, 0, none⟩ = some (.func (.func 47) #[] #[.pointer (some ⟨Bh, 0, none⟩), .pointer (some ⟨Bw, 0, none⟩)]) ∧ Below w.heap.size w wr) (fun x _ => l.length - (intOf x).toNat)
      case atStart => exact ⟨0, by omega, rfl, by simp, hch1, hcw1, HB1.out⟩
      case round =>
        obtain ⟨i, hi, rfl, hf, ch, cw, hb⟩ := hrel
        have HF := Lib.hid hf; clear hf
        have HB := Lib.hid hb; clear hb
        by_cases hlt : i < l.length
        · obtain ⟨t, ht⟩ : ∃ t, l[i]? = some t := ⟨l[i], by simp [hlt]⟩
          rcases HL.out with he | ⟨b, o, rfl, hall⟩
          · rw [he] at hlt; simp at hlt
          obtain ⟨v0, v1, v2, v3, v4, d0, d1, d2, d3, d4, hta⟩ := (hall.on (cell_on HB.out)).kid ht
          have HT := Lib.hid ht; clear ht
          obtain ⟨kt, nt, dt, st, lt, pt, capt, hte, rfl, rfl, rfl, rfl, rfl, _, _⟩ := hta.open5
          have HA := Lib.hid hta
          clear hta hall hte
          have ch' := cell_on (box_below wr (.cells #[.int .i64 kt, .int .i64 nt, .int .i64 dt, .string st, .slice pt lt.length capt] 24)) _ _ _ ch
          have cw' := cell_on (box_below wr (.cells #[.int .i64 kt, .int .i64 nt, .int .i64 dt, .string st, .slice pt lt.length capt] 24)) _ _ _ cw
          go_wp2_with fail
          refine (IH.out t _ (D + 1) (deep + 1) _ Bh Bw (by have h := HN.out; have g := Dt.size_kid HT.out; unfold Dt.size at h; omega) ((HA.out).below (box_below _ _)) (by have := HD.out; omega) (by have := HD.out; omega) ch' cw').mono ?_
          rintro _ w2 ⟨rfl, hb2⟩
          have ch2 := cell_on hb2 _ _ _ ch'
          have cw2 := cell_on hb2 _ _ _ cw'
          have HB2 := Lib.hid (below_box_call HB.out hb2); clear hb2 ch' cw'
          cases ha : t.whole h (deep + 1)
          · have HAL := Lib.hid ha; clear ha
            go_wp2_with fail
            go_ret
            exact ⟨ret_bool (by rw [Dt.whole_yes HV.out (HD.out).2, HF.out, Dt.wholeAll_step HT.out, HAL.out]; rfl), HB2.out⟩
          · have HAL := Lib.hid ha; clear ha
            go_wp2_with fail
            go_roundw
            case rel => exact ⟨i + 1, by omega, by go_num, by rw [HF.out, Dt.wholeAll_step HT.out, HAL.out]; rfl, ch2, cw2, HB2.out⟩
            case measure => simp [intOf]; omega
        · go_wp2
          go_ret
          exact ⟨ret_bool (by rw [Dt.whole_yes HV.out (HD.out).2, HF.out, Dt.wholeAll_stop (by omega)]), HB.out⟩
end Go.Proofs.YtogjhoipofkogaaDoor.Dat
