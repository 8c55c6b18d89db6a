/- The reference's size. -/
import Derived.Test.YtogjhoipofkogaaDoorDatB
namespace Go.Proofs.YtogjhoipofkogaaDoor.Dat
open Go.RowKit

set_option maxHeartbeats 1000000 in
set_option maxRecDepth 100000 in
theorem size_any (N : Nat) : ∀ (t : Dt) (v : Value) (D : Int) (deep : Nat) (w : World), t.size ≤ N → t.size ≤ 100000 → t.At w v → D = (deep : Int) → deep ≤ 1000 →
    Calls Tryd.prog 32 #[v, .int .i64 D] w fun e w' => e = .returned (.int .i64 (t.count deep : Nat)) ∧ Below w.heap.size w w' := by
  induction N with
  | zero => intro t v D deep w h; have := t.size_pos; omega
  | succ N ih =>
    intro t v D deep w hN hbig hat hD h1
    have D0 : 0 ≤ D := by omega
    have D1 : D ≤ 1000 := by omega
    obtain ⟨k, n, d, s, l⟩ := t
    unfold Dt.At at hat
    obtain ⟨-, -, -, -, hlm, p, cap, rfl, hl⟩ := hat
    unfold maxLen at hlm
    have hall : Dt.countAll l deep ≤ 100000 := by
      have := Dt.countAll_le l deep
      unfold Dt.size at hbig; omega
    have IH := Lib.hid ih; clear ih
    have HN := Lib.hid hN; clear hN
    have HD := Lib.hid (show D = (deep : Int) ∧ deep ≤ 1000 from ⟨hD, h1⟩); clear hD h1
    have HG := Lib.hid hbig; clear hbig
    have HL := Lib.hid hl; clear hl
    go_enter Tryd.func32, Tryd.ntmps32
    go_wp2
    go_loopw [5, 6] (fun u x wr => ∃ (c : Nat) (i : Nat), i ≤ l.length ∧ u = .int .i64 c ∧ x = .int .i64 i ∧ 1 ≤ c ∧ Dt.countAll l deep + 1 = c + Dt.countAll (l.drop i) deep ∧ w.heap.size < wr.heap.size ∧ wr.cell? ⟨w.heap.size, 4, none⟩ = some (.slice p l.length cap) ∧ Below w.heap.size w wr) (fun _ x _ => l.length - (intOf x).toNat)
    case atStart => exact ⟨1, 0, by omega, rfl, rfl, by omega, by rw [List.drop_zero]; omega, by simp, by simp, (Below.refl _ _).alloc (Nat.le_refl _) _⟩
    case round =>
      obtain ⟨c, i, hi, rfl, rfl, c0, hf, hsz, hc, hb⟩ := hrel
      have hcb : c ≤ 100001 := by omega
      have HF := Lib.hid hf; clear hf
      have HB := Lib.hid hb; clear hb
      by_cases hlt : i < l.length
      · by_cases hc0 : D < 1000
        · obtain ⟨t, ht⟩ : ∃ t, l[i]? = some t := ⟨l[i], by simp [hlt]⟩
          rcases HL.out with he | ⟨b, o, rfl, hall⟩
          · rw [he] at hlt; simp at hlt
          obtain ⟨v0, v1, v2, v3, v4, d0, d1, d2, d3, d4, hta⟩ := (hall.on (cell_on HB.out)).kid ht
          have hk := Dt.size_kid ht
          have hcl := t.count_le (deep + 1)
          have htb : t.count (deep + 1) ≤ 100000 := by have h := HG.out; unfold Dt.size at h; omega
          have hdp : deep < 1000 := by have := HD.out; omega
          have C := IH.out t _ (D + 1) (deep + 1) wr (by have h := HN.out; unfold Dt.size at h; omega) (by have h := HG.out; unfold Dt.size at h; omega) hta (by have := HD.out; omega) (by omega)
          obtain ⟨m, hm⟩ : ∃ m, t.count (deep + 1) = m := ⟨_, rfl⟩
          rw [hm] at C htb
          have HDP := Lib.hid hdp; clear hdp
          have HC := Lib.hid C
          have HM := Lib.hid hm
          have HT := Lib.hid ht
          clear C hta hall hcl hk hm ht
          go_wp2_with fail
          refine (HC.out).mono ?_
          rintro _ w1 ⟨rfl, hb1⟩
          have hs1 := hb1.size
          have hc' := cell_on hb1 _ _ _ hc
          have HB1 := Lib.hid hb1; clear hb1
          go_wp2_with fail
          go_roundw
          case rel => exact ⟨c + m, i + 1, by omega, by go_num, by go_num, by omega, by rw [HF.out, Dt.countAll_step HT.out HDP.out, HM.out]; omega, by omega, hc', (HB.out).trans ((HB1.out).mono (by omega))⟩
          case measure => simp [intOf]; omega
        · go_wp2
          go_ret
          exact ⟨ret_int (by unfold Dt.count; rw [HF.out, Dt.countAll_stop (Or.inr (by have := HD.out; omega))]; omega), HB.out⟩
      · go_wp2
        go_ret
        exact ⟨ret_int (by unfold Dt.count; rw [HF.out, Dt.countAll_stop (Or.inl (by omega))]; omega), HB.out⟩
end Go.Proofs.YtogjhoipofkogaaDoor.Dat
