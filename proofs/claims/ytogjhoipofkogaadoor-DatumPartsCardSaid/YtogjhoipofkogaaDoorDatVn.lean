/- The program's own Text, of every datum. -/
import Derived.Test.YtogjhoipofkogaaDoorDatVm
import Derived.Test.YtogjhoipofkogaaDoorShelf
namespace Go.Proofs.YtogjhoipofkogaaDoor.Dat
open Go.RowKit
set_option linter.unusedVariables false
variable {R : Int → Int → Bool} {Nm : ByteArray → Bool} {NT : Int → Int → List UInt8}

theorem tell_any (T : World → Prop) (hT : NumText T NT) (hL : Lasts T) (N : Nat) : ∀ t : Dt, t.size ≤ N → TellAt T R Nm NT t := by
  induction N with
  | zero => intro t h; have := t.size_pos; omega
  | succ N ih =>
    intro t hN
    have kids : ∀ x, x.size < t.size → TellAt T R Nm NT x := fun x hx => ih x (by omega)
    obtain ⟨k, n, d, s, l⟩ := t
    by_cases h6 : k = 6
    · subst h6
      intro v deep acc w0 w B Bb Bt hat hr
      obtain ⟨x, q, rfl, hx, hq⟩ := pair_of hr
      exact tell_pair T n d s x q kids (fun deep h => by
        obtain ⟨x', q', e, h1, h2⟩ := pair_of h
        simp only [List.cons.injEq, and_true] at e
        obtain ⟨rfl, rfl⟩ := e
        exact ⟨h1, h2⟩) v deep acc w0 w B Bb Bt hat hr
    · by_cases h7 : k = 7
      · subst h7
        exact tell_vec T n d s l fun x hx => kids x (by have := Dt.size_mem hx; simp only [Dt.size]; omega)
      · exact tell_leaf T hT hL k n d s l h6 h7

set_option maxHeartbeats 1000000 in
set_option maxRecDepth 100000 in
/-- The program's Text, out of what its Right answers. -/
theorem ownText_any (T : World → Prop) (hT : NumText T NT) (hL : Lasts T)
    (hQ : ∀ (t : Dt) (v : Value) (w : World), t.At w v → Calls Tryd.prog 12 #[v] w fun e w' => e = .returned (.bool (t.right R Nm 0)) ∧ Below w.heap.size w w')
    (t : Dt) (v : Value) (a : ByteArray) (w : World) (hat : t.At w v) (ht : T w) (hlen : t.right R Nm 0 = true → (t.text NT).length ≤ 140737488355328) (ha : a.data.toList = t.full R Nm NT) :
    Calls Tryd.prog 21 #[v] w fun e w' => e = .returned (.string a) ∧ Below w.heap.size w w' := by
  have hmf : ∀ (fn : Fn) (first cap : Array Value) (w : World), (Instr.makeFunc fn first cap).run Tryd.prog w = .ok (.func fn first cap) w := fun _ _ _ _ => rfl
  have C1 := fun w' (h : Below w.heap.size w w') => hQ t v w' (hat.below h)
  unfold Dt.full at ha
  cases hr : t.right R Nm 0
  · rw [hr] at C1 ha
    simp only [Bool.false_eq_true, if_false] at ha
    have HC1 := Lib.hid C1
    have HA := Lib.hid ha
    clear C1 ha hlen hr hQ hT hL ht
    obtain ⟨k, n, d, s, l⟩ := t
    unfold Dt.At at hat
    obtain ⟨-, -, -, -, -, p, cap, rfl, -⟩ := hat
    go_enter Tryd.func21, Tryd.ntmps21
    go_wp2_with fail
    refine (HC1.out _ (box_below _ _)).mono ?_
    rintro _ w1 ⟨rfl, hb1⟩
    have HB1 := Lib.hid (below_after hb1); clear hb1
    go_wp2_with fail
    go_ret
    exact ⟨ret_str (by rw [HA.out]), HB1.out⟩
  · have hlen := hlen hr
    rw [hr] at C1 ha
    simp only [if_true] at ha
    have C2 := fun (w' : World) (B Bb Bt : Nat) (h : Telling w B Bb Bt [] w') => tell_any T hT hL _ t (Nat.le_refl _) v 0 [] w w' B Bb Bt hat hr ht h (by simpa using hlen)
    have C3 := fun (w' : World) (B Bb Bt : Nat) (h : Telling w B Bb Bt ([] ++ t.text NT) w') => Tryd.Builder_String_any_k B Bb ([] ++ t.text NT) w' h.bld h.hBw
    have HC1 := Lib.hid C1
    have HC2 := Lib.hid C2
    have HC3 := Lib.hid C3
    have HA := Lib.hid ha
    clear C1 C2 C3 ha hlen hr hQ hT hL ht
    obtain ⟨k, n, d, s, l⟩ := t
    unfold Dt.At at hat
    obtain ⟨-, -, -, -, -, p, cap, rfl, -⟩ := hat
    go_enter Tryd.func21, Tryd.ntmps21
    go_wp2_with fail
    refine (HC1.out _ (box_below _ _)).mono ?_
    rintro _ w1 ⟨rfl, hb1⟩
    have hone := one_box hb1
    have hb2 := two_below w1 (.cells #[.pointer none, .slice none 0 0] 48) (.cells #[tellF w1.heap.size (w1.heap.size + 1)] 49)
    obtain ⟨c0, c1, c2, c3, c4⟩ := box_cells (block_on hb2 hone)
    have hb1w := below_after hb1
    have HTL := Lib.hid (show Telling w w1.heap.size w1.heap.size (w1.heap.size + 1) [] ((w1.alloc (.cells #[.pointer none, .slice none 0 0] 48)).alloc (.cells #[tellF w1.heap.size (w1.heap.size + 1)] 49)) from
      ⟨below_seq hb1w hb2, hb1w.size, hb2.size, (Lib.IsBuilderF.of (Lib.fresh_isBuilder 48 5 w1)).alloc _, two_second _ _ _, by omega⟩)
    clear hone hb1 hb2 hb1w
    go_wp2_with fail
    refine (HC2.out _ _ _ _ HTL.out).mono ?_
    rintro _ w2 ⟨rfl, ht2, ho2⟩
    have HT2 := Lib.hid ht2
    clear ht2 ho2 c0 c1 c2 c3 c4
    go_wp2_with fail
    refine (HC3.out _ _ _ _ HT2.out).mono ?_
    rintro _ w3 ⟨rfl, _, hb3, _⟩
    have HB3 := Lib.hid ((HT2.out).base.trans (hb3.mono (HT2.out).hB)); clear hb3
    go_wp2_with fail
    go_ret
    exact ⟨ret_str (by rw [HA.out]), HB3.out⟩
end Go.Proofs.YtogjhoipofkogaaDoor.Dat
