/- The reference's text, Text, Same. -/
import Derived.Test.YtabofebepefbgaaDoorDatY
namespace Go.Proofs.YtabofebepefbgaaDoor.Dat
open Go.RowKit
set_option linter.unusedVariables false
variable {R : Int → Int → Bool} {Nm : ByteArray → Bool} {NT : Int → Int → List UInt8}

theorem two_box {w w1 : World} {o o2 : Obj} (h : Below ((w.alloc o).alloc o2).heap.size ((w.alloc o).alloc o2) w1) : w1.heap[w.heap.size]? = some o ∧ w1.heap[w.heap.size + 1]? = some o2 :=
  ⟨(h.block w.heap.size (by show w.heap.size < ((w.heap.push o).push o2).size; simp; omega)).trans (by show ((w.heap.push o).push o2)[w.heap.size]? = some o; simp [Array.getElem?_push]),
   (h.block (w.heap.size + 1) (by show w.heap.size + 1 < ((w.heap.push o).push o2).size; simp)).trans (by show ((w.heap.push o).push o2)[w.heap.size + 1]? = some o2; rw [show w.heap.size + 1 = (w.heap.push o).size by simp, Array.getElem?_push_size])⟩
theorem text_any (hT : TCall NT) (N : Nat) : ∀ t : Dt, t.size ≤ N → TextAt R Nm NT t := by
  induction N with
  | zero => intro t h; have := t.size_pos; omega
  | succ N ih =>
    intro t hN v deep a w hat hr hroom ha
    have kids : ∀ x, x.size < t.size → TextAt R Nm NT x := fun x hx => ih x (by omega)
    rcases view_of hr with ⟨n, d, hn⟩ | ⟨n, hn⟩ | ⟨s, hs⟩ | ⟨s, hs⟩ | _ | _ | ⟨x, q, hx, hq⟩ | ⟨l, hl⟩
    all_goals
      have hat2 := hat
      unfold Dt.At at hat2
      obtain ⟨-, bn, bd, -, hlm, p, cap, rfl, hla⟩ := hat2
    · exact text_k0 hT n d _ [] p _ cap a w bn bd ha
    · exact text_k1 n 0 _ [] p _ cap a w hn ha
    · exact text_k2 0 0 s [] p _ cap a w ha
    · exact text_k3 0 0 s [] p _ cap a w ha hroom
    · exact text_k4 0 0 _ [] p _ cap a w ha
    · exact text_k5 0 0 _ [] p _ cap a w ha
    · exact text_k6 0 0 _ x q p cap (deep + 1) a w (by rcases hla with h | h; · cases h
                                                       · exact h) hx hq kids ha hroom
    · exact text_k7 0 0 _ l p cap (deep + 1) a w hlm hla hl (fun x hx => kids x (by have := Dt.size_mem hx; simp only [Dt.size]; omega)) ha hroom

/-- What Text answers. -/
def Dt.full (R : Int → Int → Bool) (Nm : ByteArray → Bool) (NT : Int → Int → List UInt8) (t : Dt) : List UInt8 := if t.right R Nm 0 then t.text NT else []
set_option maxHeartbeats 400000 in
set_option maxRecDepth 100000 in
theorem Text_any (hR : RCall R) (hNm : NCall Nm) (hT : TCall NT) (t : Dt) (v : Value) (a : ByteArray) (w : World) (hat : t.At w v) (hroom : Roomy (t.text NT)) (ha : a.data.toList = t.full R Nm NT) :
    Calls Tryd.prog 16 #[v] w fun e w' => e = .returned (.string a) ∧ Below w.heap.size w w' := by
  have hat2 := hat
  obtain ⟨k, n, d, s, l⟩ := t
  unfold Dt.At at hat2
  obtain ⟨hk, hn, hd, hs, hlm, p, cap, rfl, hl⟩ := hat2
  have C := fun w1 (hb : Below w.heap.size w w1) => Right_any R Nm hR hNm (.node k n d s l) _ w1 (hat.below hb)
  unfold Dt.full at ha
  cases hrt : (Dt.node k n d s l).right R Nm 0
  · rw [hrt] at C ha
    simp only [Bool.false_eq_true, if_false] at ha
    have HC := Lib.hid C
    have HA := Lib.hid ha
    clear C ha hrt hat hl hlm hs hk hn hd hroom
    go_enter Tryd.func16, Tryd.ntmps16
    go_wp2_with fail
    refine (HC.out _ (box_below _ _)).mono ?_
    rintro _ w1 ⟨rfl, hb1⟩
    obtain ⟨c0, c1, c2, c3, c4⟩ := box_cells (one_box hb1)
    have HB1 := Lib.hid (below_after hb1); clear hb1
    go_wp2_with fail
    go_ret
    exact ⟨ret_str (by rw [HA.out]), HB1.out⟩
  · rw [hrt] at C ha
    simp only [if_true] at ha
    have D := fun w1 (hb : Below w.heap.size w w1) => text_any hT _ _ (Nat.le_refl _) _ 0 a w1 (hat.below hb) hrt hroom ha
    have HC := Lib.hid C
    have HD := Lib.hid D
    clear C D ha hrt hat hl hlm hs hk hn hd hroom
    go_enter Tryd.func16, Tryd.ntmps16
    go_wp2_with fail
    refine (HC.out _ (box_below _ _)).mono ?_
    rintro _ w1 ⟨rfl, hb1⟩
    obtain ⟨c0, c1, c2, c3, c4⟩ := box_cells (one_box hb1)
    have HB1 := Lib.hid (below_after hb1); clear hb1
    go_wp2_with fail
    refine (HD.out w1 HB1.out).mono ?_
    rintro _ w2 ⟨rfl, hb2⟩
    have HB2 := Lib.hid hb2; clear hb2
    go_wp2_with fail
    go_ret
    exact ⟨rfl, (HB1.out).trans ((HB2.out).mono (HB1.out).size)⟩

/-- What Same answers. -/
def Dt.same (R : Int → Int → Bool) (Nm : ByteArray → Bool) (t t' : Dt) : Bool := t.right R Nm 0 && t'.right R Nm 0 && t.alike t'
end Go.Proofs.YtabofebepefbgaaDoor.Dat
