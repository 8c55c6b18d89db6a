/- The program's own all, Right. -/
import Derived.Test.YtogjhoipofkogaaDoorDatVc
import Derived.Laws.EntriesVeiled
namespace Go.Proofs.YtogjhoipofkogaaDoor.Dat
open Go.RowKit
set_option linter.unusedVariables false

theorem below_seq {w w1 w2 : World} (h : Below w.heap.size w w1) (h2 : Below w1.heap.size w1 w2) : Below w.heap.size w w2 := h.trans (h2.mono h.size)
theorem at_one (w : World) (a b c : Obj) : (((w.alloc a).alloc b).alloc c).heap[w.heap.size + 1]? = some b := by
  show (((w.heap.push a).push b).push c)[w.heap.size + 1]? = _
  rw [Array.getElem?_push, if_neg (by simp), Array.getElem?_push, if_pos (by simp)]
theorem at_two (w : World) (a b c : Obj) : (((w.alloc a).alloc b).alloc c).heap[w.heap.size + 2]? = some c := by
  show (((w.heap.push a).push b).push c)[w.heap.size + 2]? = _
  rw [Array.getElem?_push, if_pos (by simp)]
theorem three_below (w : World) (a b c : Obj) : Below w.heap.size w (((w.alloc a).alloc b).alloc c) := below_seq (two_below w a b) (box_below _ c)
set_option maxHeartbeats 1000000 in
theorem within58_any (h : Dt → Bool) (hh : HoldsCall 58 h) (N : Nat) : ∀ (t : Dt) (v : Value) (D : Int) (deep : Nat) (w : World) (Bh Bw : Nat), t.size ≤ N → t.At w v → D = (deep : Int) → deep ≤ 201 →
    w.cell? ⟨Bh, 0, none⟩ = some (.func (.func 58) #[] #[]) → w.cell? ⟨Bw, 0, none⟩ = some (.func (.func 47) #[] #[.pointer (some ⟨Bh, 0, none⟩), .pointer (some ⟨Bw, 0, none⟩)]) →
    Calls Tryd.prog 47 #[v, .int .i64 D, .pointer (some ⟨Bh, 0, none⟩), .pointer (some ⟨Bw, 0, none⟩)] w fun e w' => e = .returned (.bool (t.whole h deep)) ∧ Below w.heap.size w w' := by
  induction N with
  | zero => intro t v D deep w Bh Bw hN; have := t.size_pos; omega
  | succ N ih =>
    intro t v D deep w Bh Bw hN hat hD h1 hch hcw
    by_cases hdeep : 200 < deep
    · exact within_deep h t v D deep w _ _ hat hD h1 hdeep
    have D0 : 0 ≤ D := by omega
    have D1 : D ≤ 200 := by omega
    have HHC := Lib.hid hh; clear hh
    have IH := Lib.hid ih; clear ih
    have HN := Lib.hid hN; clear hN
    have HD := Lib.hid (show D = (deep : Int) ∧ deep ≤ 200 from ⟨hD, by omega⟩); clear hD h1 hdeep
    have HAT := Lib.hid hat
    obtain ⟨k, n, d, s, l⟩ := t
    unfold Dt.At at hat
    obtain ⟨-, -, -, -, hlm, p, cap, rfl, hl⟩ := hat
    unfold maxLen at hlm
    have HL := Lib.hid hl; clear hl
    have lth := cell_lt hch
    have ltw := cell_lt hcw
    cases hv : h (.node k n d s l)
    · have HV := Lib.hid hv; clear hv
      go_enter Tryd.func47, Tryd.ntmps47
      go_wp2_with fail
      refine (HHC.out _ _ _ ((HAT.out).below (box_below _ _))).mono ?_
      rintro _ w1 ⟨rfl, hb1⟩
      rw [HV.out]
      have HB1 := Lib.hid hb1; clear hb1
      go_wp2_with fail
      go_ret
      exact ⟨ret_bool (by rw [Dt.whole_not HV.out]), below_after HB1.out⟩
    · have HV := Lib.hid hv; clear hv
      go_enter Tryd.func47, Tryd.ntmps47
      go_wp2_with fail
      refine (HHC.out _ _ _ ((HAT.out).below (box_below _ _))).mono ?_
      rintro _ w1 ⟨rfl, hb1⟩
      rw [HV.out]
      have hch1 := cell_on (below_after hb1) _ _ _ hch
      have hcw1 := cell_on (below_after hb1) _ _ _ hcw
      have hc4 := cell_on hb1 w.heap.size 4 (.slice p l.length cap) (by simp)
      have HB1 := Lib.hid (below_after hb1); clear hb1
      go_wp2_with fail
      go_loopw [20] (fun x wr => ∃ (i : Nat), i ≤ l.length ∧ x = .int .i64 i ∧ Dt.wholeAll h l (deep + 1) = Dt.wholeAll h (l.drop i) (deep + 1) ∧ wr.cell? ⟨Bh, 0, none⟩ = some (.func (.func 58) #[] #[]) ∧ wr.cell? ⟨Bw, 0, none⟩ = some (.func (.func 47) #[] #[.pointer (some ⟨Bh, 0, none⟩), .pointer (some ⟨Bw, 0, none⟩)]) ∧ Below w.heap.size w wr) (fun x _ => l.length - (intOf x).toNat)
      case atStart => exact ⟨0, by omega, rfl, by simp, hch1, hcw1, HB1.out⟩
      case round =>
        obtain ⟨i, hi, rfl, hf, ch, cw, hb⟩ := hrel
        have HF := Lib.hid hf; clear hf
        have HB := Lib.hid hb; clear hb
        by_cases hlt : i < l.length
        · obtain ⟨t, ht⟩ : ∃ t, l[i]? = some t := ⟨l[i], by simp [hlt]⟩
          rcases HL.out with he | ⟨b, o, rfl, hall⟩
          · rw [he] at hlt; simp at hlt
          obtain ⟨v0, v1, v2, v3, v4, d0, d1, d2, d3, d4, hta⟩ := (hall.on (cell_on HB.out)).kid ht
          have HT := Lib.hid ht; clear ht
          obtain ⟨kt, nt, dt, st, lt, pt, capt, hte, rfl, rfl, rfl, rfl, rfl, _, _⟩ := hta.open5
          have HA := Lib.hid hta
          clear hta hall hte
          have ch' := cell_on (box_below wr (.cells #[.int .i64 kt, .int .i64 nt, .int .i64 dt, .string st, .slice pt lt.length capt] 24)) _ _ _ ch
          have cw' := cell_on (box_below wr (.cells #[.int .i64 kt, .int .i64 nt, .int .i64 dt, .string st, .slice pt lt.length capt] 24)) _ _ _ cw
          go_wp2_with fail
          refine (IH.out t _ (D + 1) (deep + 1) _ Bh Bw (by have h := HN.out; have g := Dt.size_kid HT.out; unfold Dt.size at h; omega) ((HA.out).below (box_below _ _)) (by have := HD.out; omega) (by have := HD.out; omega) ch' cw').mono ?_
          rintro _ w2 ⟨rfl, hb2⟩
          have ch2 := cell_on hb2 _ _ _ ch'
          have cw2 := cell_on hb2 _ _ _ cw'
          have HB2 := Lib.hid (below_box_call HB.out hb2); clear hb2 ch' cw'
          cases ha : t.whole h (deep + 1)
          · have HAL := Lib.hid ha; clear ha
            go_wp2_with fail
            go_ret
            exact ⟨ret_bool (by rw [Dt.whole_yes HV.out (HD.out).2, HF.out, Dt.wholeAll_step HT.out, HAL.out]; rfl), HB2.out⟩
          · have HAL := Lib.hid ha; clear ha
            go_wp2_with fail
            go_roundw
            case rel => exact ⟨i + 1, by omega, by go_num, by rw [HF.out, Dt.wholeAll_step HT.out, HAL.out]; rfl, ch2, cw2, HB2.out⟩
            case measure => simp [intOf]; omega
        · go_wp2
          go_ret
          exact ⟨ret_bool (by rw [Dt.whole_yes HV.out (HD.out).2, HF.out, Dt.wholeAll_stop (by omega)]), HB.out⟩

/-- Everything holds of it. -/
theorem hold58 : HoldsCall 58 (fun _ => true) := by
  intro t v w hat
  obtain ⟨k, n, d, s, l⟩ := t
  unfold Dt.At at hat
  obtain ⟨-, -, -, -, -, p, cap, rfl, -⟩ := hat
  go_enter Tryd.func58, Tryd.ntmps58
  go_wp2_with fail
  go_ret
  exact ⟨rfl, box_below _ _⟩

set_option maxHeartbeats 400000 in
theorem all29_any (h : Dt → Bool) (hh : HoldsCall 29 h) (t : Dt) (v : Value) (w : World) (hat : t.At w v) :
    Calls Tryd.prog 28 #[v, .func (.func 29) #[] #[]] w fun e w' => e = .returned (.bool (t.whole h 0)) ∧ Below w.heap.size w w' := by
  have HAT := Lib.hid hat
  have HHC := Lib.hid hh; clear hh
  have hmf : ∀ (fn : Fn) (first cap : Array Value) (w : World), (Instr.makeFunc fn first cap).run Tryd.prog w = .ok (.func fn first cap) w := fun _ _ _ _ => rfl
  obtain ⟨k, n, d, s, l⟩ := t
  unfold Dt.At at hat
  obtain ⟨-, -, -, -, -, p, cap, rfl, -⟩ := hat
  go_enter Tryd.func28, Tryd.ntmps28
  go_wp2_with fail
  refine (within29_any h HHC.out _ _ _ 0 0 _ (w.heap.size + 1) (w.heap.size + 2) (Nat.le_refl _) ((HAT.out).below (three_below _ _ _ _)) rfl (by omega) ?_ ?_).mono ?_
  · exact cell_of_one (at_one _ _ _ _)
  · exact cell_of_one (at_two _ _ _ _)
  rintro _ w1 ⟨rfl, hb1⟩
  have HB := Lib.hid (below_seq (three_below _ _ _ _) hb1); clear hb1
  go_wp2_with fail
  go_ret
  exact ⟨rfl, HB.out⟩


set_option maxHeartbeats 400000 in
theorem all58_any (h : Dt → Bool) (hh : HoldsCall 58 h) (t : Dt) (v : Value) (w : World) (hat : t.At w v) :
    Calls Tryd.prog 28 #[v, .func (.func 58) #[] #[]] w fun e w' => e = .returned (.bool (t.whole h 0)) ∧ Below w.heap.size w w' := by
  have HAT := Lib.hid hat
  have HHC := Lib.hid hh; clear hh
  have hmf : ∀ (fn : Fn) (first cap : Array Value) (w : World), (Instr.makeFunc fn first cap).run Tryd.prog w = .ok (.func fn first cap) w := fun _ _ _ _ => rfl
  obtain ⟨k, n, d, s, l⟩ := t
  unfold Dt.At at hat
  obtain ⟨-, -, -, -, -, p, cap, rfl, -⟩ := hat
  go_enter Tryd.func28, Tryd.ntmps28
  go_wp2_with fail
  refine (within58_any h HHC.out _ _ _ 0 0 _ (w.heap.size + 1) (w.heap.size + 2) (Nat.le_refl _) ((HAT.out).below (three_below _ _ _ _)) rfl (by omega) ?_ ?_).mono ?_
  · exact cell_of_one (at_one _ _ _ _)
  · exact cell_of_one (at_two _ _ _ _)
  rintro _ w1 ⟨rfl, hb1⟩
  have HB := Lib.hid (below_seq (three_below _ _ _ _) hb1); clear hb1
  go_wp2_with fail
  go_ret
  exact ⟨rfl, HB.out⟩

mutual
theorem Dt.whole_right (R : Int → Int → Bool) (Nm : ByteArray → Bool) : ∀ (t : Dt) (deep : Nat), t.whole (headOf R Nm) deep = t.right R Nm deep
  | .node k n d s l, deep => by
    unfold Dt.whole Dt.right
    rw [Dt.wholeAll_right R Nm l (deep + 1), Bool.and_assoc]
    rfl
theorem Dt.wholeAll_right (R : Int → Int → Bool) (Nm : ByteArray → Bool) : ∀ (l : List Dt) (deep : Nat), Dt.wholeAll (headOf R Nm) l deep = Dt.rightAll R Nm l deep
  | [], _ => rfl
  | t :: r, deep => by
    unfold Dt.wholeAll Dt.rightAll
    rw [Dt.whole_right R Nm t deep, Dt.wholeAll_right R Nm r deep]
end
set_option maxHeartbeats 400000 in
/-- The program's Right. -/
theorem ownRight_any (R : Int → Int → Bool) (Nm : ByteArray → Bool) (hR : NumRight R) (hN : NameIs Nm) (hsub : NameSub Nm) (t : Dt) (v : Value) (w : World) (hat : t.At w v) :
    Calls Tryd.prog 12 #[v] w fun e w' => e = .returned (.bool (t.right R Nm 0)) ∧ Below w.heap.size w w' := by
  rw [← Dt.whole_right R Nm t 0]
  have C := fun w' (h : t.At w' v) => all29_any _ (apart_any R Nm hR hN hsub) t v w' h
  have HAT := Lib.hid hat
  obtain ⟨r, hr⟩ : ∃ r, t.whole (headOf R Nm) 0 = r := ⟨_, rfl⟩
  rw [hr] at C ⊢
  have HC := Lib.hid C; clear C hr
  obtain ⟨k, n, d, s, l⟩ := t
  unfold Dt.At at hat
  obtain ⟨-, -, -, -, -, p, cap, rfl, -⟩ := hat
  go_enter Tryd.func12, Tryd.ntmps12
  go_wp2_with fail
  refine (HC.out _ ((HAT.out).below (box_below _ _))).mono ?_
  rintro _ w1 ⟨rfl, hb1⟩
  have HB := Lib.hid (below_after hb1); clear hb1
  go_wp2_with fail
  go_ret
  exact ⟨rfl, HB.out⟩
end Go.Proofs.YtogjhoipofkogaaDoor.Dat
