/- The laws' common part: which data are the same, one by one. -/
import Derived.Test.YtabofebepefbgaaDoorDatP
import Derived.Test.YtabofebepefbgaaDoorDatB
import Derived.Test.YtabofebepefbgaaDoorDatVv
import Derived.Test.YtabofebepefbgaaDoorDatW0M

namespace Go.Proofs.YtabofebepefbgaaDoor.Dat
open Go.RowKit
set_option linter.unusedVariables false

/-- A row of data. -/
def Rowed (w : World) (l : List Dt) (p : Option Addr) : Prop := l = [] ∨ ∃ b o, p = some ⟨b, o, none⟩ ∧ Dt.AllAt w l b o
theorem Rowed.on {w w' : World} {l : List Dt} {p : Option Addr} (h : Rowed w l p) (hb : ∀ b o v, w.cell? ⟨b, o, none⟩ = some v → w'.cell? ⟨b, o, none⟩ = some v) : Rowed w' l p :=
  h.imp id fun ⟨b, o, hp, ha⟩ => ⟨b, o, hp, ha.on hb⟩
theorem Rowed.below {w w' : World} {l : List Dt} {p : Option Addr} (h : Rowed w l p) (hb : Below w.heap.size w w') : Rowed w' l p :=
  h.on fun b o v hv => cell_on hb b o v hv
set_option maxHeartbeats 2000000 in
set_option maxRecDepth 100000 in
theorem rows_same (l l' : List Dt) (p p' : Option Addr) (cap cap' : Nat) (w : World) (hm : l.length ≤ maxLen) (hm' : l'.length ≤ maxLen) (hl : Rowed w l p) (hl' : Rowed w l' p') :
    Answers 23 #[.slice p l.length cap, .slice p' l'.length cap'] w (.bool (Dt.alikeAll l l')) := by
  unfold maxLen at hm hm'
  have HL := Lib.hid hl; clear hl
  have HL' := Lib.hid hl'; clear hl'
  unfold Answers
  by_cases el : l.length = l'.length
  case neg =>
    have q : ((l.length : Int) != (l'.length : Int)) = true := by rw [bne_iff_ne]; omega
    have HR := Lib.hid (Dt.alikeAll_ne el); clear el
    go_enter Tryd.func23, Tryd.ntmps23
    go_wp2_with fail
    go_ret
    exact ⟨ret_bool (by rw [HR.out]), Below.refl _ _⟩
  have q : ((l.length : Int) != (l'.length : Int)) = false := by rw [bne_eq_false_iff_eq]; omega
  have EL := Lib.hid el; clear el
  go_enter Tryd.func23, Tryd.ntmps23
  go_wp2_with fail
  go_loopw [5] (fun x wr => ∃ (i : Nat), i ≤ l.length ∧ x = .int .i64 i ∧ Dt.alikeAll l l' = Dt.alikeAll (l.drop i) (l'.drop i) ∧ Below w.heap.size w wr) (fun x _ => l.length - (intOf x).toNat)
  case atStart => exact ⟨0, by omega, rfl, rfl, Below.refl _ _⟩
  case round =>
    obtain ⟨i, hi, rfl, hf, hb⟩ := hrel
    have HF := Lib.hid hf; clear hf
    have HB := Lib.hid hb; clear hb
    by_cases hlt : i < l.length
    · obtain ⟨t, ht⟩ : ∃ t, l[i]? = some t := ⟨l[i], by simp [hlt]⟩
      have hlt' : i < l'.length := by have := EL.out; omega
      obtain ⟨t', ht'⟩ : ∃ t, l'[i]? = some t := ⟨l'[i], by simp [hlt']⟩
      rcases HL.out with he | ⟨b, o, rfl, hall⟩
      · rw [he] at hlt; simp at hlt
      rcases HL'.out with he | ⟨b', o', rfl, hall'⟩
      · rw [he] at hlt'; simp at hlt'
      obtain ⟨v0, v1, v2, v3, v4, d0, d1, d2, d3, d4, hta⟩ := (hall.on (cell_on HB.out)).kid ht
      obtain ⟨u0, u1, u2, u3, u4, f0, f1, f2, f3, f4, hta'⟩ := (hall'.on (cell_on HB.out)).kid ht'
      have HT := Lib.hid ht; clear ht
      have HT' := Lib.hid ht'; clear ht'
      have HA := Lib.hid hta; clear hta hall
      have HA' := Lib.hid hta'; clear hta' hall'
      go_wp2_with fail
      go_still_tail 8, (by kernel_rfl)
      change wpList _ _ _ _ _ wr.drew
      go_wp2_with fail
      refine (alike_any t.size t t' _ _ wr.drew (Nat.le_refl _) (HA.out).drew (HA'.out).drew).mono ?_
      rintro _ w1 ⟨rfl, hb1⟩
      have hb2 : Below wr.heap.size wr w1 := below_drew hb1
      have hs1 := (HB.out).size
      have HB1 := Lib.hid hb2; clear hb1 hb2
      cases ha : t.alike t'
      · have HAL := Lib.hid ha; clear ha
        go_wp2_with fail
        go_ret
        exact ⟨ret_bool (by rw [HF.out, Dt.alikeAll_step HT.out HT'.out, HAL.out]; rfl), (HB.out).trans ((HB1.out).mono (by omega))⟩
      · have HAL := Lib.hid ha; clear ha
        go_wp2_with fail
        go_roundw
        case rel => exact ⟨i + 1, by omega, by go_num, by rw [HF.out, Dt.alikeAll_step HT.out HT'.out, HAL.out]; rfl, (HB.out).trans ((HB1.out).mono (by omega))⟩
        case measure => simp [intOf]; omega
    · go_wp2_with fail
      go_ret
      exact ⟨ret_bool (by rw [HF.out, Dt.alikeAll_stop (by omega) (by have := EL.out; omega)]), HB.out⟩
end Go.Proofs.YtabofebepefbgaaDoor.Dat
