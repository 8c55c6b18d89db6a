/- The reference's Right, at every datum. -/
import Derived.Test.YtabofebepefbgaaDoorDatR
namespace Go.Proofs.YtabofebepefbgaaDoor.Dat
open Go.RowKit
set_option linter.unusedVariables false

theorem head_out {R : Int → Int → Bool} {Nm : ByteArray → Bool} {k n d : Int} {s : ByteArray} {len : Nat} (h : k < 0 ∨ 7 < k) : headRight R Nm k n d s len = false := by
  unfold headRight
  by_cases h0 : 0 ≤ k
  · rw [decide_eq_false (by omega : ¬ k ≤ 7)]; simp
  · rw [decide_eq_false h0]; simp

set_option maxHeartbeats 1000000 in
set_option maxRecDepth 100000 in
theorem right_deep (R : Int → Int → Bool) (Nm : ByteArray → Bool) (k n d : Int) (s : ByteArray) (l : List Dt) (p : Option Addr) (cap : Nat) (D : Int) (deep : Nat) (w : World) (hk : I64 k) (hD : D = (deep : Int)) (h1 : deep ≤ 201) (h : 200 < deep ∨ k < 0 ∨ 7 < k) :
    Calls Tryd.prog 54 #[.agg #[.int .i64 k, .int .i64 n, .int .i64 d, .string s, .slice p l.length cap], .int .i64 D] w fun e w' => e = .returned (.bool ((Dt.node k n d s l).right R Nm deep)) ∧ Below w.heap.size w w' := by
  have hr : (Dt.node k n d s l).right R Nm deep = false := by
    conv => lhs; unfold Dt.right
    rcases h with h | h
    · rw [decide_eq_false (by omega)]; simp
    · rw [head_out h]; simp
  have D0 : 0 ≤ D := by omega
  have D1 : D ≤ 201 := by omega
  have hw : 200 < D ∨ (D ≤ 200 ∧ k < 0) ∨ (D ≤ 200 ∧ 0 ≤ k ∧ 7 < k) := by omega
  obtain ⟨k0, k1⟩ := hk
  have HR := Lib.hid hr; clear hr hD h1 h
  rcases hw with h | ⟨h, h2⟩ | ⟨h, h2, h3⟩
  all_goals
    go_enter Tryd.func54, Tryd.ntmps54
    go_wp2
    go_ret
    exact ⟨ret_bool (by rw [HR.out]), (Below.refl _ _).alloc (Nat.le_refl _) _⟩

theorem right_any (R : Int → Int → Bool) (Nm : ByteArray → Bool) (hR : RCall R) (hNm : NCall Nm) (N : Nat) : ∀ t : Dt, t.size ≤ N → RightAt R Nm t := by
  induction N with
  | zero => intro t h; have := t.size_pos; omega
  | succ N ih =>
    intro t hN v D deep w hat hD h1
    obtain ⟨k, n, d, s, l⟩ := t
    unfold Dt.At at hat
    obtain ⟨hk, hn, hd, hs, hlm, p, cap, rfl, hl⟩ := hat
    by_cases hout : 200 < deep ∨ k < 0 ∨ 7 < k
    · exact right_deep R Nm k n d s l p cap D deep w hk hD h1 hout
    · have ih' : ∀ t, t ∈ l → RightAt R Nm t := by
        intro t ht
        obtain ⟨i, hi⟩ := List.mem_iff_getElem?.1 ht
        have := Dt.size_kid hi
        unfold Dt.size at hN
        exact ih t (by omega)
      have hk8 : k = 0 ∨ k = 1 ∨ k = 2 ∨ k = 3 ∨ k = 4 ∨ k = 5 ∨ k = 6 ∨ k = 7 := by omega
      rcases hk8 with rfl | rfl | rfl | rfl | rfl | rfl | rfl | rfl
      · exact right_k0 R Nm hR hNm n d s l ih' p cap D deep w hn hd hs hlm hl hD (by omega)
      · exact right_k1 R Nm hR hNm n d s l ih' p cap D deep w hn hd hs hlm hl hD (by omega)
      · exact right_k2 R Nm hR hNm n d s l ih' p cap D deep w hn hd hs hlm hl hD (by omega)
      · exact right_k3 R Nm hR hNm n d s l ih' p cap D deep w hn hd hs hlm hl hD (by omega)
      · exact right_k4 R Nm hR hNm n d s l ih' p cap D deep w hn hd hs hlm hl hD (by omega)
      · exact right_k5 R Nm hR hNm n d s l ih' p cap D deep w hn hd hs hlm hl hD (by omega)
      · exact right_k6 R Nm hR hNm n d s l ih' p cap D deep w hn hd hs hlm hl hD (by omega)
      · exact right_k7 R Nm hR hNm n d s l ih' p cap D deep w hn hd hs hlm hl hD (by omega)


set_option maxHeartbeats 400000 in
set_option maxRecDepth 100000 in
theorem Right_any (R : Int → Int → Bool) (Nm : ByteArray → Bool) (hR : RCall R) (hNm : NCall Nm) (t : Dt) (v : Value) (w : World) (hat : t.At w v) :
    Calls Tryd.prog 28 #[v] w fun e w' => e = .returned (.bool (t.right R Nm 0)) ∧ Below w.heap.size w w' := by
  obtain ⟨k, n, d, s, l⟩ := t
  have C := fun w' (h : (Dt.node k n d s l).At w' v) => right_any R Nm hR hNm _ _ (Nat.le_refl _) v 0 0 w' h rfl (by omega)
  have hat2 := hat
  unfold Dt.At at hat2
  obtain ⟨hk, hn, hd, hs, hlm, p, cap, rfl, hl⟩ := hat2
  have HC := Lib.hid C; clear C
  have HAT := Lib.hid hat; clear hat hl hlm hs hk hn hd
  go_enter Tryd.func28, Tryd.ntmps28
  go_wp2_with fail
  refine (HC.out _ ((HAT.out).below ((Below.refl _ _).alloc (Nat.le_refl _) _))).mono ?_
  rintro _ w1 ⟨rfl, hb1⟩
  have HB1 := Lib.hid hb1; clear hb1
  go_wp2_with fail
  go_ret
  exact ⟨rfl, below_after HB1.out⟩

set_option maxHeartbeats 400000 in
set_option maxRecDepth 100000 in
theorem Few_any (t : Dt) (v : Value) (m : Int) (w : World) (h0 : 0 ≤ m) (h1 : m ≤ 100000) (hat : t.At w v) :
    Calls Tryd.prog 27 #[v, .int .i64 m] w fun e w' => e = .returned (.bool (decide (0 ≤ t.few m))) ∧ Below w.heap.size w w' := by
  obtain ⟨k, n, d, s, l⟩ := t
  have C := fun w' (h : (Dt.node k n d s l).At w' v) => few_any _ _ v m w' (Nat.le_refl _) h h0 (by omega)
  obtain ⟨f0, f1⟩ := (Dt.node k n d s l).few_bounds m h0
  obtain ⟨r, hr⟩ : ∃ r, (Dt.node k n d s l).few m = r := ⟨_, rfl⟩
  rw [hr] at C f0 f1
  have hat2 := hat
  unfold Dt.At at hat2
  obtain ⟨hk, hn, hd, hs, hlm, p, cap, rfl, hl⟩ := hat2
  have HC := Lib.hid C; clear C
  have HR := Lib.hid hr; clear hr
  have HAT := Lib.hid hat; clear hat hl hlm hs hk hn hd
  go_enter Tryd.func27, Tryd.ntmps27
  go_wp2_with fail
  refine (HC.out _ ((HAT.out).below ((Below.refl _ _).alloc (Nat.le_refl _) _))).mono ?_
  rintro _ w1 ⟨rfl, hb1⟩
  have HB1 := Lib.hid hb1; clear hb1
  go_wp2_with fail
  go_ret
  exact ⟨ret_bool (by rw [HR.out]), below_after HB1.out⟩

mutual
theorem Dt.few_size : ∀ (t : Dt) (m : Int), 0 ≤ m → ((t.size : Int) ≤ m → t.few m = m - t.size) ∧ (m < t.size → t.few m < 0)
  | .node _ _ _ _ l, m, h => by
    unfold Dt.few Dt.size
    have := Dt.fewAll_size l (m - 1) (by omega)
    constructor
    · intro h1; rw [this.1 (by omega)]; omega
    · intro h1; exact this.2 (by omega)
theorem Dt.fewAll_size : ∀ (l : List Dt) (m : Int), -1 ≤ m → ((Dt.sizes l : Int) ≤ m → Dt.fewAll l m = m - Dt.sizes l) ∧ (m < Dt.sizes l → Dt.fewAll l m < 0)
  | [], m, h => by unfold Dt.fewAll Dt.sizes; omega
  | t :: r, m, h => by
    unfold Dt.fewAll Dt.sizes
    have hp := t.size_pos
    split
    · rename_i h0
      have h1 := Dt.few_size t m h0
      have hb := t.few_bounds m h0
      have h2 := Dt.fewAll_size r (t.few m) hb.1
      constructor
      · intro h3
        have e := h1.1 (by omega)
        rw [h2.1 (by omega), e]; omega
      · intro h3
        by_cases h4 : (t.size : Int) ≤ m
        · have e := h1.1 h4
          exact h2.2 (by omega)
        · have e := h1.2 (by omega)
          exact h2.2 (by omega)
    · omega
end
theorem Dt.few_iff (t : Dt) (m : Int) (h : 0 ≤ m) : 0 ≤ t.few m ↔ (t.size : Int) ≤ m := by
  have := t.few_size m h
  constructor
  · intro h1; by_cases h2 : (t.size : Int) ≤ m
    · exact h2
    · have := this.2 (by omega); omega
  · intro h1; rw [this.1 h1]; omega
end Go.Proofs.YtabofebepefbgaaDoor.Dat
