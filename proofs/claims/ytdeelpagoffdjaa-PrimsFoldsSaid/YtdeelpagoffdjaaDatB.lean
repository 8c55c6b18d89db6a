import Derived.Test.YtdeelpagoffdjaaDatA
import Derived.StillTailTactics
import Derived.BigQuiet
import Derived.Deep.QuietTactic
import Derived.Lib.Bytes
namespace Go.Proofs.Ytdeelpagoffdjaa.Dat
open Go.RowKit

set_option maxHeartbeats 2000000 in
set_option maxRecDepth 100000 in
theorem alike_any (N : Nat) : ∀ (t t' : Dt) (v v' : Value) (w : World), t.size ≤ N → t.At w v → t'.At w v' →
    Calls Try.prog 20 #[v, v'] w fun e w' => e = .returned (.bool (t.alike t')) ∧ Below w.heap.size w w' := by
  induction N with
  | zero => intro t t' v v' w h; have := t.size_pos; omega
  | succ N ih =>
    intro t t' v v' w hN hat hat'
    obtain ⟨k, n, d, s, l⟩ := t
    obtain ⟨k', n', d', s', l'⟩ := t'
    unfold Dt.At at hat hat'
    obtain ⟨-, -, -, -, hlm, p, cap, rfl, hl⟩ := hat
    obtain ⟨-, -, -, -, hlm', p', cap', rfl, hl'⟩ := hat'
    unfold maxLen at hlm hlm'
    have IH := Lib.hid ih; clear ih
    have HN := Lib.hid hN; clear hN
    have HL := Lib.hid hl; clear hl
    have HL' := Lib.hid hl'; clear hl'
    by_cases ek : k = k'
    case neg =>
      have q : (k != k') = true := by rw [bne_iff_ne]; exact ek
      have hr : (Dt.node k n d s l).alike (.node k' n' d' s' l') = false := by unfold Dt.alike; simp [ek]
      have HR := Lib.hid hr; clear hr ek
      go_enter Try.func20, Try.ntmps20
      go_wp2
      go_ret
      exact ⟨ret_bool (by rw [HR.out]), ((Below.refl _ _).alloc (Nat.le_refl _) _).alloc (by simp) _⟩
    subst ek
    by_cases en : n = n'
    case neg =>
      have q : (n != n') = true := by rw [bne_iff_ne]; exact en
      have hr : (Dt.node k n d s l).alike (.node k n' d' s' l') = false := by unfold Dt.alike; simp [en]
      have HR := Lib.hid hr; clear hr en
      go_enter Try.func20, Try.ntmps20
      go_wp2
      go_ret
      exact ⟨ret_bool (by rw [HR.out]), ((Below.refl _ _).alloc (Nat.le_refl _) _).alloc (by simp) _⟩
    subst en
    by_cases ed : d = d'
    case neg =>
      have q : (d != d') = true := by rw [bne_iff_ne]; exact ed
      have hr : (Dt.node k n d s l).alike (.node k n d' s' l') = false := by unfold Dt.alike; simp [ed]
      have HR := Lib.hid hr; clear hr ed
      go_enter Try.func20, Try.ntmps20
      go_wp2
      go_ret
      exact ⟨ret_bool (by rw [HR.out]), ((Below.refl _ _).alloc (Nat.le_refl _) _).alloc (by simp) _⟩
    subst ed
    by_cases es : s = s'
    case neg =>
      have q : ¬ s.toList = s'.toList := fun e => es (bytes_inj e)
      have hr : (Dt.node k n d s l).alike (.node k n d s' l') = false := by unfold Dt.alike; simp [es]
      have HR := Lib.hid hr; clear hr es
      go_enter Try.func20, Try.ntmps20
      go_wp2
      go_ret
      exact ⟨ret_bool (by rw [HR.out]), ((Below.refl _ _).alloc (Nat.le_refl _) _).alloc (by simp) _⟩
    subst es
    by_cases el : l.length = l'.length
    case neg =>
      have q : ((l.length : Int) != (l'.length : Int)) = true := by rw [bne_iff_ne]; omega
      have hr : (Dt.node k n d s l).alike (.node k n d s l') = false := by
        unfold Dt.alike
        cases ha : Dt.alikeAll l l'
        · simp
        · exact absurd (Dt.alikeAll_len ha) el
      have HR := Lib.hid hr; clear hr el
      go_enter Try.func20, Try.ntmps20
      go_wp2
      go_ret
      exact ⟨ret_bool (by rw [HR.out]), ((Below.refl _ _).alloc (Nat.le_refl _) _).alloc (by simp) _⟩
    have hr : (Dt.node k n d s l).alike (.node k n d s l') = Dt.alikeAll l l' := by unfold Dt.alike; simp
    have HR := Lib.hid hr; clear hr
    have q : ((l.length : Int) != (l'.length : Int)) = false := by rw [bne_eq_false_iff_eq]; omega
    have EL := Lib.hid el; clear el
    go_enter Try.func20, Try.ntmps20
    go_wp2
    go_loopw [5] (fun x wr => ∃ (i : Nat), i ≤ l.length ∧ x = .int .i64 i ∧ Dt.alikeAll l l' = Dt.alikeAll (l.drop i) (l'.drop i) ∧ w.heap.size + 1 < wr.heap.size ∧ wr.cell? ⟨w.heap.size, 4, none⟩ = some (.slice p l.length cap) ∧ wr.cell? ⟨w.heap.size + 1, 4, none⟩ = some (.slice p' l'.length cap') ∧ Below w.heap.size w wr) (fun x _ => l.length - (intOf x).toNat)
    case atStart => exact ⟨0, by omega, rfl, rfl, by simp, by simp, by simp, ((Below.refl _ _).alloc (Nat.le_refl _) _).alloc (by simp) _⟩
    case round =>
      obtain ⟨i, hi, rfl, hf, hsz, hc, hc', hb⟩ := hrel
      have HF := Lib.hid hf; clear hf
      have HB := Lib.hid hb; clear hb
      by_cases hlt : i < l.length
      · obtain ⟨t, ht⟩ : ∃ t, l[i]? = some t := ⟨l[i], by simp [hlt]⟩
        have hlt' : i < l'.length := by have := EL.out; omega
        obtain ⟨t', ht'⟩ : ∃ t, l'[i]? = some t := ⟨l'[i], by simp [hlt']⟩
        rcases HL.out with he | ⟨b, o, rfl, hall⟩
        · rw [he] at hlt; simp at hlt
        rcases HL'.out with he | ⟨b', o', rfl, hall'⟩
        · rw [he] at hlt'; simp at hlt'
        obtain ⟨v0, v1, v2, v3, v4, d0, d1, d2, d3, d4, hta⟩ := (hall.on (cell_on HB.out)).kid ht
        obtain ⟨u0, u1, u2, u3, u4, f0, f1, f2, f3, f4, hta'⟩ := (hall'.on (cell_on HB.out)).kid ht'
        have HT := Lib.hid ht; clear ht
        have HT' := Lib.hid ht'; clear ht'
        have HA := Lib.hid hta; clear hta hall
        have HA' := Lib.hid hta'; clear hta' hall'
        go_wp2_with fail
        go_still_tail 10, (by kernel_rfl)
        change wpList _ _ _ _ _ wr.drew
        go_wp2_with fail
        refine (IH.out t t' _ _ wr.drew (by have h := HN.out; have g := Dt.size_kid HT.out; unfold Dt.size at h; omega) (HA.out).drew (HA'.out).drew).mono ?_
        rintro _ w1 ⟨rfl, hb1⟩
        have hb2 : Below wr.heap.size wr w1 := below_drew hb1
        have hs1 := hb2.size
        have hc1 := cell_on hb1 _ _ _ (show wr.drew.cell? ⟨w.heap.size, 4, none⟩ = _ from hc)
        have hc1' := cell_on hb1 _ _ _ (show wr.drew.cell? ⟨w.heap.size + 1, 4, none⟩ = _ from hc')
        have HB1 := Lib.hid hb2; clear hb1 hb2
        cases ha : t.alike t'
        · have HAL := Lib.hid ha; clear ha
          go_wp2_with fail
          go_ret
          exact ⟨ret_bool (by rw [HR.out, HF.out, Dt.alikeAll_step HT.out HT'.out, HAL.out]; rfl), (HB.out).trans ((HB1.out).mono (by omega))⟩
        · have HAL := Lib.hid ha; clear ha
          go_wp2_with fail
          go_roundw
          case rel => exact ⟨i + 1, by omega, by go_num, by rw [HF.out, Dt.alikeAll_step HT.out HT'.out, HAL.out]; rfl, by omega, hc1, hc1', (HB.out).trans ((HB1.out).mono (by omega))⟩
          case measure => simp [intOf]; omega
      · go_wp2
        go_ret
        exact ⟨ret_bool (by rw [HR.out, HF.out, Dt.alikeAll_stop (by omega) (by have := EL.out; omega)]), HB.out⟩
end Go.Proofs.Ytdeelpagoffdjaa.Dat
