/- The library's ContainsFunc over data, for the two functions that the program hands it. -/
import Derived.Test.YtdeelpagoffdjaaPrLM

namespace Go.Proofs.Ytdeelpagoffdjaa.Dat
open Go.RowKit
set_option linter.unusedVariables false

theorem any_step {h : Dt → Bool} {l : List Dt} {i : Nat} {t : Dt} (g : l[i]? = some t) : (l.drop i).any h = (h t || (l.drop (i + 1)).any h) := by
  rw [Dt.drop_at g, List.any_cons]
theorem any_stop {h : Dt → Bool} {l : List Dt} {i : Nat} (g : l.length ≤ i) : (l.drop i).any h = false := by
  rw [List.drop_of_length_le g]; rfl

set_option maxHeartbeats 2000000 in
set_option maxRecDepth 100000 in
theorem indexW_any (h : Dt → Bool) (hh : HoldsCall 30 h) (l : List Dt) (p : Option Addr) (cap : Nat) (w : World) (hlm : l.length ≤ maxLen) (hl : l = [] ∨ ∃ b o, p = some ⟨b, o, none⟩ ∧ Dt.AllAt w l b o) :
    Calls Try.prog 44 #[.slice p l.length cap, .func (.func 30) #[] #[]] w fun e w' => ∃ x : Int, e = .returned (.int .i64 x) ∧ I64 x ∧ decide (0 ≤ x) = l.any h ∧ Below w.heap.size w w' := by
  unfold maxLen at hlm
  have HH := Lib.hid hh; clear hh
  have HL := Lib.hid hl; clear hl
  go_enter Try.func44, Try.ntmps44
  go_wp2_with fail
  go_loopw [8] (fun x wr => ∃ (i : Nat), i ≤ l.length ∧ x = .int .i64 i ∧ l.any h = (l.drop i).any h ∧ Below w.heap.size w wr) (fun x _ => l.length - (intOf x).toNat)
  case atStart => exact ⟨0, by omega, rfl, by simp, Below.refl _ _⟩
  case round =>
    obtain ⟨i, hi, rfl, hf, hb⟩ := hrel
    have HF := Lib.hid hf; clear hf
    have HB := Lib.hid hb; clear hb
    by_cases hlt : i < l.length
    · obtain ⟨t, ht⟩ : ∃ t, l[i]? = some t := ⟨l[i], by simp [hlt]⟩
      rcases HL.out with he | ⟨b, o, rfl, hall⟩
      · rw [he] at hlt; simp at hlt
      obtain ⟨v0, v1, v2, v3, v4, d0, d1, d2, d3, d4, hta⟩ := (hall.on (cell_on HB.out)).kid ht
      have C := HH.out t _ wr hta
      obtain ⟨kt, nt, dt, st, lt, pt, capt, hte, rfl, rfl, rfl, rfl, rfl, _, _⟩ := hta.open5
      have HC := Lib.hid C
      have HT := Lib.hid ht
      clear C hta hall hte ht
      go_wp2_with fail
      refine (HC.out).mono ?_
      rintro _ w1 ⟨rfl, hb1⟩
      have HB1 := Lib.hid (below_seq HB.out hb1); clear hb1
      cases ha : h t
      · have HAL := Lib.hid ha; clear ha
        go_wp2_with fail
        go_roundw
        case rel => exact ⟨i + 1, by omega, by go_num, by rw [HF.out, any_step HT.out, HAL.out]; rfl, HB1.out⟩
        case measure => simp [intOf]; omega
      · have HAL := Lib.hid ha; clear ha
        go_wp2_with fail
        go_ret
        exact ⟨(i : Int), rfl, by unfold I64; omega, by rw [HF.out, any_step HT.out, HAL.out]; simp, HB1.out⟩
    · go_wp2_with fail
      go_ret
      exact ⟨-1, rfl, by unfold I64; omega, by rw [HF.out, any_stop (by omega)]; rfl, HB.out⟩
set_option maxRecDepth 100000 in
theorem containsW_any (h : Dt → Bool) (hh : HoldsCall 30 h) (l : List Dt) (p : Option Addr) (cap : Nat) (w : World) (hlm : l.length ≤ maxLen) (hl : l = [] ∨ ∃ b o, p = some ⟨b, o, none⟩ ∧ Dt.AllAt w l b o) :
    Calls Try.prog 29 #[.slice p l.length cap, .func (.func 30) #[] #[]] w fun e w' => e = .returned (.bool (l.any h)) ∧ Below w.heap.size w w' := by
  have C := indexW_any h hh l p cap w hlm hl
  have HC := Lib.hid C; clear C hl hh
  unfold maxLen at hlm
  go_enter Try.func29, Try.ntmps29
  go_wp2_with fail
  refine HC.out.mono ?_
  rintro _ w' ⟨x, rfl, hx, hy, hb⟩
  have HY := Lib.hid (And.intro hy hb); clear hy hb
  go_wp2_with fail
  go_ret
  exact ⟨ret_bool HY.out.1, HY.out.2⟩

set_option maxHeartbeats 2000000 in
set_option maxRecDepth 100000 in
theorem indexN_any (h : Dt → Bool) (hh : HoldsCall 77 h) (l : List Dt) (p : Option Addr) (cap : Nat) (w : World) (hlm : l.length ≤ maxLen) (hl : l = [] ∨ ∃ b o, p = some ⟨b, o, none⟩ ∧ Dt.AllAt w l b o) :
    Calls Try.prog 44 #[.slice p l.length cap, .func (.func 77) #[] #[]] w fun e w' => ∃ x : Int, e = .returned (.int .i64 x) ∧ I64 x ∧ decide (0 ≤ x) = l.any h ∧ Below w.heap.size w w' := by
  unfold maxLen at hlm
  have HH := Lib.hid hh; clear hh
  have HL := Lib.hid hl; clear hl
  go_enter Try.func44, Try.ntmps44
  go_wp2_with fail
  go_loopw [8] (fun x wr => ∃ (i : Nat), i ≤ l.length ∧ x = .int .i64 i ∧ l.any h = (l.drop i).any h ∧ Below w.heap.size w wr) (fun x _ => l.length - (intOf x).toNat)
  case atStart => exact ⟨0, by omega, rfl, by simp, Below.refl _ _⟩
  case round =>
    obtain ⟨i, hi, rfl, hf, hb⟩ := hrel
    have HF := Lib.hid hf; clear hf
    have HB := Lib.hid hb; clear hb
    by_cases hlt : i < l.length
    · obtain ⟨t, ht⟩ : ∃ t, l[i]? = some t := ⟨l[i], by simp [hlt]⟩
      rcases HL.out with he | ⟨b, o, rfl, hall⟩
      · rw [he] at hlt; simp at hlt
      obtain ⟨v0, v1, v2, v3, v4, d0, d1, d2, d3, d4, hta⟩ := (hall.on (cell_on HB.out)).kid ht
      have C := HH.out t _ wr hta
      obtain ⟨kt, nt, dt, st, lt, pt, capt, hte, rfl, rfl, rfl, rfl, rfl, _, _⟩ := hta.open5
      have HC := Lib.hid C
      have HT := Lib.hid ht
      clear C hta hall hte ht
      go_wp2_with fail
      refine (HC.out).mono ?_
      rintro _ w1 ⟨rfl, hb1⟩
      have HB1 := Lib.hid (below_seq HB.out hb1); clear hb1
      cases ha : h t
      · have HAL := Lib.hid ha; clear ha
        go_wp2_with fail
        go_roundw
        case rel => exact ⟨i + 1, by omega, by go_num, by rw [HF.out, any_step HT.out, HAL.out]; rfl, HB1.out⟩
        case measure => simp [intOf]; omega
      · have HAL := Lib.hid ha; clear ha
        go_wp2_with fail
        go_ret
        exact ⟨(i : Int), rfl, by unfold I64; omega, by rw [HF.out, any_step HT.out, HAL.out]; simp, HB1.out⟩
    · go_wp2_with fail
      go_ret
      exact ⟨-1, rfl, by unfold I64; omega, by rw [HF.out, any_stop (by omega)]; rfl, HB.out⟩
set_option maxRecDepth 100000 in
theorem containsN_any (h : Dt → Bool) (hh : HoldsCall 77 h) (l : List Dt) (p : Option Addr) (cap : Nat) (w : World) (hlm : l.length ≤ maxLen) (hl : l = [] ∨ ∃ b o, p = some ⟨b, o, none⟩ ∧ Dt.AllAt w l b o) :
    Calls Try.prog 29 #[.slice p l.length cap, .func (.func 77) #[] #[]] w fun e w' => e = .returned (.bool (l.any h)) ∧ Below w.heap.size w w' := by
  have C := indexN_any h hh l p cap w hlm hl
  have HC := Lib.hid C; clear C hl hh
  unfold maxLen at hlm
  go_enter Try.func29, Try.ntmps29
  go_wp2_with fail
  refine HC.out.mono ?_
  rintro _ w' ⟨x, rfl, hx, hy, hb⟩
  have HY := Lib.hid (And.intro hy hb); clear hy hb
  go_wp2_with fail
  go_ret
  exact ⟨ret_bool HY.out.1, HY.out.2⟩

theorem notNum_holds : HoldsCall 77 (fun t => match t with | .node k _ _ _ _ => k != 0) := by
  intro t v w hat
  obtain ⟨k, n, d, s, l⟩ := t
  unfold Dt.At at hat
  obtain ⟨hk, _, _, _, _, p, cap, rfl, _⟩ := hat
  exact notNum_any k n d s p l.length cap w hk
theorem wrong_holds (Q : Dt → Bool) (hQ : ∀ (t : Dt) (v : Value) (w : World), t.At w v → Calls Try.prog 21 #[v] w fun e w' => e = .returned (.bool (Q t)) ∧ Below w.heap.size w w') : HoldsCall 30 (fun t => !Q t) := by
  intro t v w hat
  have hat0 := hat
  obtain ⟨k, n, d, s, l⟩ := t
  unfold Dt.At at hat
  obtain ⟨hk, _, _, _, _, p, cap, rfl, _⟩ := hat
  have C := hQ _ _ (w.alloc (.cells #[.int .i64 k, .int .i64 n, .int .i64 d, .string s, .slice p l.length cap] 37)) (hat0.below (box_below w _))
  have HC := Lib.hid C; clear C hat0
  go_enter Try.func30, Try.ntmps30
  go_wp2_with fail
  refine HC.out.mono ?_
  rintro _ w' ⟨rfl, hb⟩
  have HB := Lib.hid (below_after hb); clear hb
  go_wp2_with fail
  go_ret
  exact ⟨rfl, HB.out⟩
end Go.Proofs.Ytdeelpagoffdjaa.Dat
