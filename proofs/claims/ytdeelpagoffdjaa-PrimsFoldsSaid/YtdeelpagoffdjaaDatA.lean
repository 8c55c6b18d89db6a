import Derived.Test.YtdeelpagoffdjaaDatH
import Derived.Outline
namespace Go.Proofs.Ytdeelpagoffdjaa.Dat
open Go.RowKit

set_option maxHeartbeats 1000000 in
set_option maxRecDepth 100000 in
theorem few_any (N : Nat) : ∀ (t : Dt) (v : Value) (left : Int) (w : World), t.size ≤ N → t.At w v → 0 ≤ left → left ≤ 1000000000 →
    Calls Try.prog 43 #[v, .int .i64 left] w fun e w' => e = .returned (.int .i64 (t.few left)) ∧ Below w.heap.size w w' := by
  induction N with
  | zero => intro t v left w h; have := t.size_pos; omega
  | succ N ih =>
    intro t v left w hN hat h0 h1
    obtain ⟨k, n, d, s, l⟩ := t
    unfold Dt.At at hat
    obtain ⟨-, -, -, -, hlm, p, cap, rfl, hl⟩ := hat
    unfold maxLen at hlm
    have IH := Lib.hid ih; clear ih
    have HN := Lib.hid hN; clear hN
    have HL := Lib.hid hl; clear hl
    go_enter Try.func43, Try.ntmps43
    go_wp2
    go_loopw [1, 5] (fun u x wr => ∃ (c : Int) (i : Nat), i ≤ l.length ∧ u = .int .i64 c ∧ x = .int .i64 i ∧ -1 ≤ c ∧ c ≤ 1000000000 ∧ Dt.fewAll l (left - 1) = Dt.fewAll (l.drop i) c ∧ w.heap.size < wr.heap.size ∧ wr.cell? ⟨w.heap.size, 4, none⟩ = some (.slice p l.length cap) ∧ Below w.heap.size w wr) (fun _ x _ => l.length - (intOf x).toNat)
    case atStart => exact ⟨_, 0, by omega, rfl, rfl, by omega, by omega, rfl, by simp, by simp, (Below.refl _ _).alloc (Nat.le_refl _) _⟩
    case round =>
      obtain ⟨c, i, hi, rfl, rfl, c0, c1, hf, hsz, hc, hb⟩ := hrel
      have HF := Lib.hid hf; clear hf
      have HB := Lib.hid hb; clear hb
      by_cases hlt : i < l.length
      · by_cases hc0 : 0 ≤ c
        · obtain ⟨t, ht⟩ : ∃ t, l[i]? = some t := ⟨l[i], by simp [hlt]⟩
          have hne : l ≠ [] := by intro e; rw [e] at hlt; simp at hlt
          rcases HL.out with he | ⟨b, o, rfl, hall⟩
          · exact absurd he hne
          obtain ⟨v0, v1, v2, v3, v4, d0, d1, d2, d3, d4, hta⟩ := (hall.on (cell_on HB.out)).kid ht
          have HT := Lib.hid ht; clear ht
          have HA := Lib.hid hta; clear hta hall
          go_wp2_with fail
          refine (IH.out t _ c wr (by have h := HN.out; have g := Dt.size_kid HT.out; unfold Dt.size at h; omega) HA.out hc0 c1).mono ?_
          rintro _ w1 ⟨rfl, hb1⟩
          obtain ⟨f0, f1⟩ := t.few_bounds c hc0
          have hs1 := hb1.size
          have hc' := cell_on hb1 _ _ _ hc
          have HB1 := Lib.hid hb1; clear hb1
          go_wp2_with fail
          go_roundw
          case rel => exact ⟨t.few c, i + 1, by omega, rfl, by go_num, f0, by omega, by rw [HF.out, Dt.fewAll_step HT.out hc0], by omega, hc', (HB.out).trans ((HB1.out).mono (by omega))⟩
          case measure => simp [intOf]; omega
        · go_wp2
          go_ret
          exact ⟨ret_int (by unfold Dt.few; rw [HF.out, Dt.fewAll_stop (Or.inr (by omega))]), HB.out⟩
      · go_wp2
        go_ret
        exact ⟨ret_int (by unfold Dt.few; rw [HF.out, Dt.fewAll_stop (Or.inl (by omega))]), HB.out⟩
end Go.Proofs.Ytdeelpagoffdjaa.Dat
