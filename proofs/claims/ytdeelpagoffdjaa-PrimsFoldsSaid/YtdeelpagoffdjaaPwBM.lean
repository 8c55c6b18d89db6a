/- How many data there are in a row. -/
import Derived.Test.YtdeelpagoffdjaaPwAM
import Derived.Test.YtdeelpagoffdjaaDatA

namespace Go.Proofs.Ytdeelpagoffdjaa.Dat
open Go.RowKit
open NumPlain
set_option linter.unusedVariables false

set_option maxHeartbeats 2000000 in
set_option maxRecDepth 100000 in
theorem FewAll_any (l : List Dt) (p : Option Addr) (cap : Nat) (m : Int) (w : World) (hlm : l.length ≤ maxLen) (h0 : 0 ≤ m) (h1 : m ≤ 100000) (hl : Lies w l p) :
    Calls Try.prog 28 #[.slice p l.length cap, .int .i64 m] w fun e w' => e = .returned (.bool (decide (0 ≤ Dt.fewAll l m))) ∧ Below w.heap.size w w' := by
  unfold maxLen at hlm
  have HL := Lib.hid hl; clear hl
  obtain ⟨r, hr⟩ : ∃ r, Dt.fewAll l m = r := ⟨_, rfl⟩
  rw [hr]
  have HR := Lib.hid (And.intro hr (Dt.fewAll_bounds l m (by omega))); clear hr
  go_enter Try.func28, Try.ntmps28
  go_wp2_with fail
  go_loopw [1, 5] (fun y x wr => ∃ (i : Nat) (c : Int), i ≤ l.length ∧ x = .int .i64 i ∧ y = .int .i64 c ∧ -1 ≤ c ∧ c ≤ 100000 ∧ r = Dt.fewAll (l.drop i) c ∧ Below w.heap.size w wr) (fun _ x _ => l.length - (intOf x).toNat)
  case atStart => exact ⟨0, m, by omega, rfl, rfl, by omega, h1, by rw [← HR.out.1]; simp, Below.refl _ _⟩
  case round =>
    obtain ⟨i, c, hi, rfl, rfl, hc0, hc1, hf, hb⟩ := hrel
    have HF := Lib.hid (And.intro hf hb); clear hf hb
    by_cases hlt : i < l.length
    · by_cases hc : 0 ≤ c
      · obtain ⟨t, ht⟩ : ∃ t, l[i]? = some t := ⟨l[i], by simp [hlt]⟩
        rcases HL.out with he | ⟨b, o, rfl, hall⟩
        · rw [he] at hlt; simp at hlt
        obtain ⟨v0, v1, v2, v3, v4, d0, d1, d2, d3, d4, hta⟩ := (hall.on (cell_on HF.out.2)).kid ht
        have C := few_any t.size t _ c wr (Nat.le_refl _) hta hc (by omega)
        obtain ⟨kt, nt, dt, st, lt, pt, capt, hte, rfl, rfl, rfl, rfl, rfl, _, _⟩ := hta.open5
        have HC := Lib.hid C
        have HT := Lib.hid (And.intro ht (Dt.few_bounds t c hc))
        clear C hta hall hte ht
        go_wp2_with fail
        refine (HC.out).mono ?_
        rintro _ w1 ⟨rfl, hb1⟩
        have HB1 := Lib.hid (below_seq HF.out.2 hb1); clear hb1
        go_wp2_with fail
        go_roundw
        case rel => exact ⟨i + 1, t.few c, by omega, by go_num, rfl, HT.out.2.1, by have := HT.out.2.2; omega, by rw [HF.out.1, Dt.fewAll_step HT.out.1 hc], HB1.out⟩
        case measure => simp [intOf]; omega
      · have hr : r = c := by rw [HF.out.1, Dt.fewAll_stop (Or.inr (by omega))]
        have HRR := Lib.hid hr; clear hr
        go_wp2_with fail
        go_ret
        exact ⟨ret_bool (by rw [HRR.out]; exact (decide_eq_false (by omega)).symm), HF.out.2⟩
    · have hr : r = c := by rw [HF.out.1, Dt.fewAll_stop (Or.inl (by omega))]
      have HRR := Lib.hid hr; clear hr
      go_wp2_with fail
      go_ret
      exact ⟨ret_bool (by rw [HRR.out]), HF.out.2⟩
theorem few_row (l : List Dt) (m : Int) (h0 : 0 ≤ m) : (decide ((l.length : Int) ≤ m) && decide (0 ≤ Dt.fewAll l m)) = decide ((Dt.sizes l : Int) ≤ m) := by
  have h := Dt.fewAll_size l m (by omega)
  have hlen := Dt.sizes_len l
  by_cases hs : (Dt.sizes l : Int) ≤ m
  · rw [decide_eq_true hs, decide_eq_true (show (l.length : Int) ≤ m by omega), decide_eq_true (show 0 ≤ Dt.fewAll l m by rw [h.1 hs]; omega)]; rfl
  · rw [decide_eq_false hs, decide_eq_false (show ¬ 0 ≤ Dt.fewAll l m by have := h.2 (by omega); omega), Bool.and_false]
set_option maxHeartbeats 1000000 in
set_option maxRecDepth 100000 in
theorem few5_any (l : List Dt) (p : Option Addr) (cap : Nat) (m : Int) (w : World) (hlm : l.length ≤ maxLen) (h0 : 0 ≤ m) (h1 : m ≤ 100000) (hl : Lies w l p) :
    Calls Try.prog 17 #[.slice p l.length cap, .int .i64 m] w fun e w' => e = .returned (.bool (decide ((Dt.sizes l : Int) ≤ m))) ∧ Below w.heap.size w w' := by
  have C := FewAll_any l p cap m w hlm h0 h1 hl
  have HC := Lib.hid C; clear C hl
  unfold maxLen at hlm
  have HF := Lib.hid (few_row l m h0)
  by_cases h : (l.length : Int) ≤ m
  · have HD := Lib.hid (decide_eq_true h)
    go_enter Try.func17, Try.ntmps17
    go_wp2_with fail
    refine HC.out.mono ?_
    rintro _ w1 ⟨rfl, hb⟩
    have HB := Lib.hid hb; clear hb
    go_wp2_with fail
    go_ret
    exact ⟨ret_bool (by rw [← HF.out, HD.out]; rfl), HB.out⟩
  · have HD := Lib.hid (decide_eq_false h)
    go_enter Try.func17, Try.ntmps17
    go_wp2_with fail
    go_ret
    exact ⟨ret_bool (by rw [← HF.out, HD.out]; rfl), Below.refl _ _⟩
end Go.Proofs.Ytdeelpagoffdjaa.Dat
