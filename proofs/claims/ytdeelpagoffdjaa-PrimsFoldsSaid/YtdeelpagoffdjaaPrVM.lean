/- The program's fitting: are all data of the kinds that are wanted? -/
import Derived.Test.YtdeelpagoffdjaaPrPs
import Derived.Test.YtdeelpagoffdjaaPrMM
import Derived.Test.YtdeelpagoffdjaaDatVqM
import Derived.Test.YtdeelpagoffdjaaDatW0M
import Derived.Test.YtdeelpagoffdjaaPrQs

namespace Go.Proofs.Ytdeelpagoffdjaa.Dat
open Go.RowKit
open NumPlain (rightB)
set_option linter.unusedVariables false

abbrev rightD (t : Dt) : Bool := t.right rightB nameB 0
/-- One datum that is handed over, its cells. -/
theorem one_arg {w : World} {t : Dt} {p : Option Addr} (hl : [t] = [] ∨ ∃ b o, p = some ⟨b, o, none⟩ ∧ Dt.AllAt w [t] b o) : ∃ b o k n d s l q c, p = some ⟨b, o, none⟩ ∧ t = .node k n d s l ∧ I64 k ∧ I64 n ∧ I64 d ∧ l.length ≤ maxLen ∧ t.At w (.agg #[.int .i64 k, .int .i64 n, .int .i64 d, .string s, .slice q l.length c]) ∧
    w.cell? ⟨b, o, none⟩ = some (.int .i64 k) ∧ w.cell? ⟨b, o + 1, none⟩ = some (.int .i64 n) ∧ w.cell? ⟨b, o + 2, none⟩ = some (.int .i64 d) ∧ w.cell? ⟨b, o + 3, none⟩ = some (.string s) ∧ w.cell? ⟨b, o + 4, none⟩ = some (.slice q l.length c) := by
  rcases hl with h | ⟨b, o, rfl, h⟩
  · cases h
  unfold Dt.AllAt at h
  obtain ⟨⟨v0, v1, v2, v3, v4, e0, e1, e2, e3, e4, ht⟩, -⟩ := h
  have ht0 := ht
  obtain ⟨k, n, d, s, l, q, c, rfl, rfl, rfl, rfl, rfl, rfl, hk, hn, hd, _, hlm, _⟩ := ht.open7
  exact ⟨b, o, k, n, d, s, l, q, c, rfl, rfl, hk, hn, hd, hlm, ht0, e0, e1, e2, e3, e4⟩
theorem two_args {w : World} {t u : Dt} {p : Option Addr} (hl : [t, u] = [] ∨ ∃ b o, p = some ⟨b, o, none⟩ ∧ Dt.AllAt w [t, u] b o) : ∃ b o k n d s l q c k' n' d' s' l' q' c', p = some ⟨b, o, none⟩ ∧ t = .node k n d s l ∧ u = .node k' n' d' s' l' ∧ (I64 k ∧ I64 n ∧ I64 d ∧ l.length ≤ maxLen) ∧ (I64 k' ∧ I64 n' ∧ I64 d' ∧ l'.length ≤ maxLen) ∧ t.At w (.agg #[.int .i64 k, .int .i64 n, .int .i64 d, .string s, .slice q l.length c]) ∧ u.At w (.agg #[.int .i64 k', .int .i64 n', .int .i64 d', .string s', .slice q' l'.length c']) ∧
    (w.cell? ⟨b, o, none⟩ = some (.int .i64 k) ∧ w.cell? ⟨b, o + 1, none⟩ = some (.int .i64 n) ∧ w.cell? ⟨b, o + 2, none⟩ = some (.int .i64 d) ∧ w.cell? ⟨b, o + 3, none⟩ = some (.string s) ∧ w.cell? ⟨b, o + 4, none⟩ = some (.slice q l.length c)) ∧
    (w.cell? ⟨b, o + 5, none⟩ = some (.int .i64 k') ∧ w.cell? ⟨b, o + 5 + 1, none⟩ = some (.int .i64 n') ∧ w.cell? ⟨b, o + 5 + 2, none⟩ = some (.int .i64 d') ∧ w.cell? ⟨b, o + 5 + 3, none⟩ = some (.string s') ∧ w.cell? ⟨b, o + 5 + 4, none⟩ = some (.slice q' l'.length c')) := by
  rcases hl with h | ⟨b, o, rfl, h⟩
  · cases h
  unfold Dt.AllAt at h
  obtain ⟨⟨v0, v1, v2, v3, v4, e0, e1, e2, e3, e4, ht⟩, hr⟩ := h
  unfold Dt.AllAt at hr
  obtain ⟨⟨u0, u1, u2, u3, u4, f0, f1, f2, f3, f4, hu⟩, -⟩ := hr
  have ht0 := ht
  have hu0 := hu
  obtain ⟨k, n, d, s, l, q, c, rfl, rfl, rfl, rfl, rfl, rfl, hk, hn, hd, _, hlm, _⟩ := ht.open7
  obtain ⟨k', n', d', s', l', q', c', rfl, rfl, rfl, rfl, rfl, rfl, hk', hn', hd', _, hlm', _⟩ := hu.open7
  exact ⟨b, o, k, n, d, s, l, q, c, k', n', d', s', l', q', c', rfl, rfl, rfl, ⟨hk, hn, hd, hlm⟩, ⟨hk', hn', hd', hlm'⟩, ht0, hu0, ⟨e0, e1, e2, e3, e4⟩, ⟨f0, f1, f2, f3, f4⟩⟩
def notNumB : Dt → Bool
  | .node k _ _ _ _ => k != 0
theorem notNum_holds2 : HoldsCall 77 notNumB := fun t v w hat => by
  obtain ⟨k, n, d, s, l⟩ := t
  exact notNum_holds _ v w hat
theorem any_all (l : List Dt) : (!l.any notNumB) = l.all isNum := by
  induction l with
  | nil => rfl
  | cons t r ih =>
    obtain ⟨k, n, d, s, l⟩ := t
    rw [List.any_cons, List.all_cons, ← ih, Bool.not_or]
    congr 1
    show (!(k != 0)) = decide (k = 0)
    by_cases h : k = 0 <;> simp [h]
set_option maxHeartbeats 1000000 in
set_option maxRecDepth 100000 in
theorem fit0 (l : List Dt) (p : Option Addr) (cap : Nat) (w : World) (hlm : l.length ≤ maxLen) (hl : l = [] ∨ ∃ b o, p = some ⟨b, o, none⟩ ∧ Dt.AllAt w l b o) :
    Calls Try.prog 46 #[.int .i64 0, .slice p l.length cap] w fun e w' => e = .returned (.bool (fitB 0 l)) ∧ Below w.heap.size w w' := by
  have C := containsN_any _ notNum_holds2 l p cap w hlm hl
  obtain ⟨r, hr⟩ : ∃ r, l.any notNumB = r := ⟨_, rfl⟩
  have hf : fitB 0 l = !r := by rw [← hr, any_all]; rfl
  rw [hf]
  rw [hr] at C
  have HC := Lib.hid C
  unfold maxLen at hlm
  clear C hr hf hl
  go_enter Try.func46, Try.ntmps46
  go_wp2_with fail
  refine HC.out.mono ?_
  rintro _ w1 ⟨rfl, hb⟩
  have HB := Lib.hid hb; clear hb
  go_wp2_with fail
  go_ret
  exact ⟨rfl, HB.out⟩
set_option maxHeartbeats 1000000 in
set_option maxRecDepth 100000 in
theorem fit1 (l : List Dt) (p : Option Addr) (cap : Nat) (w : World) (hlm : l.length ≤ maxLen) (hl : l = [] ∨ ∃ b o, p = some ⟨b, o, none⟩ ∧ Dt.AllAt w l b o) :
    Calls Try.prog 46 #[.int .i64 1, .slice p l.length cap] w fun e w' => e = .returned (.bool (fitB 1 l)) ∧ Below w.heap.size w w' := by
  have C := containsN_any _ notNum_holds2 l p cap w hlm hl
  obtain ⟨r, hr⟩ : ∃ r, l.any notNumB = r := ⟨_, rfl⟩
  have hf : fitB 1 l = !r := by rw [← hr, any_all]; rfl
  rw [hf]
  rw [hr] at C
  have HC := Lib.hid C
  unfold maxLen at hlm
  clear C hr hf hl
  go_enter Try.func46, Try.ntmps46
  go_wp2_with fail
  refine HC.out.mono ?_
  rintro _ w1 ⟨rfl, hb⟩
  have HB := Lib.hid hb; clear hb
  go_wp2_with fail
  go_ret
  exact ⟨rfl, HB.out⟩
set_option maxHeartbeats 1000000 in
set_option maxRecDepth 100000 in
theorem fit2 (l : List Dt) (p : Option Addr) (cap : Nat) (w : World) (hlm : l.length ≤ maxLen) (hl : l = [] ∨ ∃ b o, p = some ⟨b, o, none⟩ ∧ Dt.AllAt w l b o) :
    Calls Try.prog 46 #[.int .i64 2, .slice p l.length cap] w fun e w' => e = .returned (.bool (fitB 2 l)) ∧ Below w.heap.size w w' := by
  have C := containsN_any _ notNum_holds2 l p cap w hlm hl
  obtain ⟨r, hr⟩ : ∃ r, l.any notNumB = r := ⟨_, rfl⟩
  have hf : fitB 2 l = !r := by rw [← hr, any_all]; rfl
  rw [hf]
  rw [hr] at C
  have HC := Lib.hid C
  unfold maxLen at hlm
  clear C hr hf hl
  go_enter Try.func46, Try.ntmps46
  go_wp2_with fail
  refine HC.out.mono ?_
  rintro _ w1 ⟨rfl, hb⟩
  have HB := Lib.hid hb; clear hb
  go_wp2_with fail
  go_ret
  exact ⟨rfl, HB.out⟩
set_option maxHeartbeats 1000000 in
set_option maxRecDepth 100000 in
theorem fit3 (l : List Dt) (p : Option Addr) (cap : Nat) (w : World) (hlm : l.length ≤ maxLen) (hl : l = [] ∨ ∃ b o, p = some ⟨b, o, none⟩ ∧ Dt.AllAt w l b o) :
    Calls Try.prog 46 #[.int .i64 3, .slice p l.length cap] w fun e w' => e = .returned (.bool (fitB 3 l)) ∧ Below w.heap.size w w' := by
  have C := containsN_any _ notNum_holds2 l p cap w hlm hl
  obtain ⟨r, hr⟩ : ∃ r, l.any notNumB = r := ⟨_, rfl⟩
  have hf : fitB 3 l = !r := by rw [← hr, any_all]; rfl
  rw [hf]
  rw [hr] at C
  have HC := Lib.hid C
  unfold maxLen at hlm
  clear C hr hf hl
  go_enter Try.func46, Try.ntmps46
  go_wp2_with fail
  refine HC.out.mono ?_
  rintro _ w1 ⟨rfl, hb⟩
  have HB := Lib.hid hb; clear hb
  go_wp2_with fail
  go_ret
  exact ⟨rfl, HB.out⟩
set_option maxHeartbeats 1000000 in
set_option maxRecDepth 100000 in
theorem fit4 (l : List Dt) (p : Option Addr) (cap : Nat) (w : World) (hlm : l.length ≤ maxLen) (hl : l = [] ∨ ∃ b o, p = some ⟨b, o, none⟩ ∧ Dt.AllAt w l b o) :
    Calls Try.prog 46 #[.int .i64 4, .slice p l.length cap] w fun e w' => e = .returned (.bool (fitB 4 l)) ∧ Below w.heap.size w w' := by
  have C := containsN_any _ notNum_holds2 l p cap w hlm hl
  obtain ⟨r, hr⟩ : ∃ r, l.any notNumB = r := ⟨_, rfl⟩
  have hf : fitB 4 l = !r := by rw [← hr, any_all]; rfl
  rw [hf]
  rw [hr] at C
  have HC := Lib.hid C
  unfold maxLen at hlm
  clear C hr hf hl
  go_enter Try.func46, Try.ntmps46
  go_wp2_with fail
  refine HC.out.mono ?_
  rintro _ w1 ⟨rfl, hb⟩
  have HB := Lib.hid hb; clear hb
  go_wp2_with fail
  go_ret
  exact ⟨rfl, HB.out⟩
set_option maxHeartbeats 1000000 in
set_option maxRecDepth 100000 in
theorem fit5 (l : List Dt) (p : Option Addr) (cap : Nat) (w : World) (hlm : l.length ≤ maxLen) (hl : l = [] ∨ ∃ b o, p = some ⟨b, o, none⟩ ∧ Dt.AllAt w l b o) :
    Calls Try.prog 46 #[.int .i64 5, .slice p l.length cap] w fun e w' => e = .returned (.bool (fitB 5 l)) ∧ Below w.heap.size w w' := by
  have C := containsN_any _ notNum_holds2 l p cap w hlm hl
  obtain ⟨r, hr⟩ : ∃ r, l.any notNumB = r := ⟨_, rfl⟩
  have hf : fitB 5 l = !r := by rw [← hr, any_all]; rfl
  rw [hf]
  rw [hr] at C
  have HC := Lib.hid C
  unfold maxLen at hlm
  clear C hr hf hl
  go_enter Try.func46, Try.ntmps46
  go_wp2_with fail
  refine HC.out.mono ?_
  rintro _ w1 ⟨rfl, hb⟩
  have HB := Lib.hid hb; clear hb
  go_wp2_with fail
  go_ret
  exact ⟨rfl, HB.out⟩
set_option maxHeartbeats 1000000 in
set_option maxRecDepth 100000 in
theorem fit6 (l : List Dt) (p : Option Addr) (cap : Nat) (w : World) :
    Calls Try.prog 46 #[.int .i64 6, .slice p l.length cap] w fun e w' => e = .returned (.bool (fitB 6 l)) ∧ Below w.heap.size w w' := by
  go_enter Try.func46, Try.ntmps46
  go_wp2_with fail
  go_ret
  exact ⟨rfl, Below.refl _ _⟩
set_option maxHeartbeats 1000000 in
set_option maxRecDepth 100000 in
theorem fit7 (l : List Dt) (p : Option Addr) (cap : Nat) (w : World) :
    Calls Try.prog 46 #[.int .i64 7, .slice p l.length cap] w fun e w' => e = .returned (.bool (fitB 7 l)) ∧ Below w.heap.size w w' := by
  go_enter Try.func46, Try.ntmps46
  go_wp2_with fail
  go_ret
  exact ⟨rfl, Below.refl _ _⟩
set_option maxHeartbeats 1000000 in
set_option maxRecDepth 100000 in
theorem fit8 (l : List Dt) (p : Option Addr) (cap : Nat) (w : World) :
    Calls Try.prog 46 #[.int .i64 8, .slice p l.length cap] w fun e w' => e = .returned (.bool (fitB 8 l)) ∧ Below w.heap.size w w' := by
  go_enter Try.func46, Try.ntmps46
  go_wp2_with fail
  go_ret
  exact ⟨rfl, Below.refl _ _⟩
set_option maxHeartbeats 1000000 in
set_option maxRecDepth 100000 in
theorem fit9 (l : List Dt) (p : Option Addr) (cap : Nat) (w : World) :
    Calls Try.prog 46 #[.int .i64 9, .slice p l.length cap] w fun e w' => e = .returned (.bool (fitB 9 l)) ∧ Below w.heap.size w w' := by
  go_enter Try.func46, Try.ntmps46
  go_wp2_with fail
  go_ret
  exact ⟨rfl, Below.refl _ _⟩
set_option maxHeartbeats 1000000 in
set_option maxRecDepth 100000 in
theorem fit10 (l : List Dt) (p : Option Addr) (cap : Nat) (w : World) :
    Calls Try.prog 46 #[.int .i64 10, .slice p l.length cap] w fun e w' => e = .returned (.bool (fitB 10 l)) ∧ Below w.heap.size w w' := by
  go_enter Try.func46, Try.ntmps46
  go_wp2_with fail
  go_ret
  exact ⟨rfl, Below.refl _ _⟩
set_option maxHeartbeats 1000000 in
set_option maxRecDepth 100000 in
theorem fit11 (l : List Dt) (p : Option Addr) (cap : Nat) (w : World) :
    Calls Try.prog 46 #[.int .i64 11, .slice p l.length cap] w fun e w' => e = .returned (.bool (fitB 11 l)) ∧ Below w.heap.size w w' := by
  go_enter Try.func46, Try.ntmps46
  go_wp2_with fail
  go_ret
  exact ⟨rfl, Below.refl _ _⟩
set_option maxHeartbeats 1000000 in
set_option maxRecDepth 100000 in
theorem fit12 (l : List Dt) (p : Option Addr) (cap : Nat) (w : World) :
    Calls Try.prog 46 #[.int .i64 12, .slice p l.length cap] w fun e w' => e = .returned (.bool (fitB 12 l)) ∧ Below w.heap.size w w' := by
  go_enter Try.func46, Try.ntmps46
  go_wp2_with fail
  go_ret
  exact ⟨rfl, Below.refl _ _⟩
set_option maxHeartbeats 1000000 in
set_option maxRecDepth 100000 in
theorem fit13 (l : List Dt) (p : Option Addr) (cap : Nat) (w : World) :
    Calls Try.prog 46 #[.int .i64 13, .slice p l.length cap] w fun e w' => e = .returned (.bool (fitB 13 l)) ∧ Below w.heap.size w w' := by
  go_enter Try.func46, Try.ntmps46
  go_wp2_with fail
  go_ret
  exact ⟨rfl, Below.refl _ _⟩
set_option maxHeartbeats 1000000 in
set_option maxRecDepth 100000 in
theorem fit14 (l : List Dt) (p : Option Addr) (cap : Nat) (w : World) :
    Calls Try.prog 46 #[.int .i64 14, .slice p l.length cap] w fun e w' => e = .returned (.bool (fitB 14 l)) ∧ Below w.heap.size w w' := by
  go_enter Try.func46, Try.ntmps46
  go_wp2_with fail
  go_ret
  exact ⟨rfl, Below.refl _ _⟩
set_option maxHeartbeats 1000000 in
set_option maxRecDepth 100000 in
theorem fit15 (l : List Dt) (p : Option Addr) (cap : Nat) (w : World) :
    Calls Try.prog 46 #[.int .i64 15, .slice p l.length cap] w fun e w' => e = .returned (.bool (fitB 15 l)) ∧ Below w.heap.size w w' := by
  go_enter Try.func46, Try.ntmps46
  go_wp2_with fail
  go_ret
  exact ⟨rfl, Below.refl _ _⟩
set_option maxHeartbeats 1000000 in
set_option maxRecDepth 100000 in
theorem fit16 (l : List Dt) (p : Option Addr) (cap : Nat) (w : World) :
    Calls Try.prog 46 #[.int .i64 16, .slice p l.length cap] w fun e w' => e = .returned (.bool (fitB 16 l)) ∧ Below w.heap.size w w' := by
  go_enter Try.func46, Try.ntmps46
  go_wp2_with fail
  go_ret
  exact ⟨rfl, Below.refl _ _⟩
set_option maxHeartbeats 1000000 in
set_option maxRecDepth 100000 in
theorem fit25 (l : List Dt) (p : Option Addr) (cap : Nat) (w : World) :
    Calls Try.prog 46 #[.int .i64 25, .slice p l.length cap] w fun e w' => e = .returned (.bool (fitB 25 l)) ∧ Below w.heap.size w w' := by
  go_enter Try.func46, Try.ntmps46
  go_wp2_with fail
  go_ret
  exact ⟨rfl, Below.refl _ _⟩
set_option maxHeartbeats 1000000 in
set_option maxRecDepth 100000 in
theorem fit18 (t : Dt) (p : Option Addr) (cap : Nat) (w : World) (hl : [t] = [] ∨ ∃ b o, p = some ⟨b, o, none⟩ ∧ Dt.AllAt w [t] b o) :
    Calls Try.prog 46 #[.int .i64 18, .slice p 1 cap] w fun e w' => e = .returned (.bool (fitB 18 [t])) ∧ Below w.heap.size w w' := by
  obtain ⟨b, o, k, n, d, s, l, q, c, rfl, rfl, hk, hn, hd, hlm, hat, e0, e1, e2, e3, e4⟩ := one_arg hl
  have HF := Lib.hid (show fitB 18 [.node k n d s l] = decide (k = 6) from rfl)
  clear hl hat e1 e2 e3 e4
  unfold I64 at hk
  by_cases hq : k = 6
  all_goals
    go_enter Try.func46, Try.ntmps46
    go_wp2_with fail
    go_ret
    exact ⟨ret_bool (by rw [HF.out]; first | rfl | (simp [hq])), Below.refl _ _⟩
set_option maxHeartbeats 1000000 in
set_option maxRecDepth 100000 in
theorem fit19 (t : Dt) (p : Option Addr) (cap : Nat) (w : World) (hl : [t] = [] ∨ ∃ b o, p = some ⟨b, o, none⟩ ∧ Dt.AllAt w [t] b o) :
    Calls Try.prog 46 #[.int .i64 19, .slice p 1 cap] w fun e w' => e = .returned (.bool (fitB 19 [t])) ∧ Below w.heap.size w w' := by
  obtain ⟨b, o, k, n, d, s, l, q, c, rfl, rfl, hk, hn, hd, hlm, hat, e0, e1, e2, e3, e4⟩ := one_arg hl
  have HF := Lib.hid (show fitB 19 [.node k n d s l] = decide (k = 6) from rfl)
  clear hl hat e1 e2 e3 e4
  unfold I64 at hk
  by_cases hq : k = 6
  all_goals
    go_enter Try.func46, Try.ntmps46
    go_wp2_with fail
    go_ret
    exact ⟨ret_bool (by rw [HF.out]; first | rfl | (simp [hq])), Below.refl _ _⟩
set_option maxHeartbeats 1000000 in
set_option maxRecDepth 100000 in
theorem fit23 (t : Dt) (p : Option Addr) (cap : Nat) (w : World) (hl : [t] = [] ∨ ∃ b o, p = some ⟨b, o, none⟩ ∧ Dt.AllAt w [t] b o) :
    Calls Try.prog 46 #[.int .i64 23, .slice p 1 cap] w fun e w' => e = .returned (.bool (fitB 23 [t])) ∧ Below w.heap.size w w' := by
  obtain ⟨b, o, k, n, d, s, l, q, c, rfl, rfl, hk, hn, hd, hlm, hat, e0, e1, e2, e3, e4⟩ := one_arg hl
  have HF := Lib.hid (show fitB 23 [.node k n d s l] = decide (k = 7) from rfl)
  clear hl hat e1 e2 e3 e4
  unfold I64 at hk
  by_cases hq : k = 7
  all_goals
    go_enter Try.func46, Try.ntmps46
    go_wp2_with fail
    go_ret
    exact ⟨ret_bool (by rw [HF.out]; first | rfl | (simp [hq])), Below.refl _ _⟩
set_option maxHeartbeats 1000000 in
set_option maxRecDepth 100000 in
theorem fit22 (t u : Dt) (p : Option Addr) (cap : Nat) (w : World) (hl : [t, u] = [] ∨ ∃ b o, p = some ⟨b, o, none⟩ ∧ Dt.AllAt w [t, u] b o) :
    Calls Try.prog 46 #[.int .i64 22, .slice p 2 cap] w fun e w' => e = .returned (.bool (fitB 22 [t, u])) ∧ Below w.heap.size w w' := by
  obtain ⟨b, o, k, n, d, s, l, q, c, k', n', d', s', l', q', c', rfl, rfl, rfl, ⟨hk, -, -, -⟩, ⟨hk', -, -, -⟩, -, -, ⟨e0, -, -, -, -⟩, ⟨f0, -, -, -, -⟩⟩ := two_args hl
  have HF := Lib.hid (show fitB 22 [.node k n d s l, .node k' n' d' s' l'] = (decide (k = 7) && decide (k' = 0)) from rfl)
  clear hl
  unfold I64 at hk hk'
  by_cases hq : k = 7
  · subst hq
    by_cases hq' : k' = 0
    · subst hq'
      go_enter Try.func46, Try.ntmps46
      go_wp2_with fail
      go_ret
      exact ⟨ret_bool (by rw [HF.out]; rfl), Below.refl _ _⟩
    · have HQ := Lib.hid (decide_eq_false hq')
      have q0 : (k' == 0) = false := by rw [beq_eq_false_iff_ne]; exact hq'
      clear hq'
      go_enter Try.func46, Try.ntmps46
      go_wp2_with fail
      go_ret
      exact ⟨ret_bool (by rw [HF.out, HQ.out]; rfl), Below.refl _ _⟩
  · have HQ := Lib.hid (decide_eq_false hq)
    have q0 : (k == 7) = false := by rw [beq_eq_false_iff_ne]; exact hq
    clear hq
    go_enter Try.func46, Try.ntmps46
    go_wp2_with fail
    go_ret
    exact ⟨ret_bool (by rw [HF.out, HQ.out]; rfl), Below.refl _ _⟩
set_option maxHeartbeats 1000000 in
set_option maxRecDepth 100000 in
theorem fit24 (t : Dt) (p : Option Addr) (cap : Nat) (w : World) (hbig : t.size ≤ 100000) (hr : rightD t = true) (hl : [t] = [] ∨ ∃ b o, p = some ⟨b, o, none⟩ ∧ Dt.AllAt w [t] b o) :
    Calls Try.prog 46 #[.int .i64 24, .slice p 1 cap] w fun e w' => e = .returned (.bool (fitB 24 [t])) ∧ Below w.heap.size w w' := by
  obtain ⟨b, o, k, n, d, s, l, q, c, rfl, ht, hk, hn, hd, hlm, hat, e0, e1, e2, e3, e4⟩ := one_arg hl
  have C : Calls Try.prog 59 #[.agg #[.int .i64 k, .int .i64 n, .int .i64 d, .string s, .slice q l.length c]] w fun e w' => (∃ v, e = .returned (.tuple #[v, .bool t.items.isSome])) ∧ Below w.heap.size w w' := (ownItems_any (R := rightB) (Nm := nameB) pRight t _ w hbig hat).mono (fun e w' h => ⟨by
    rcases h.1 with ⟨h1, h2⟩ | ⟨h1, l, v, h2, h3, h4⟩
    · rcases h1 with h1 | h1
      · rw [show t.right rightB nameB 0 = true from hr] at h1; cases h1
      · exact ⟨_, by rw [h1]; exact h2⟩
    · exact ⟨v, by rw [h2]; exact h3⟩, h.2⟩)
  have hF : fitB 24 [t] = t.items.isSome := rfl
  rw [hF]
  obtain ⟨r, hr2⟩ : ∃ r, t.items.isSome = r := ⟨_, rfl⟩
  rw [hr2] at C ⊢
  have HC := Lib.hid C
  clear hl hat C hF hr2 hr hbig ht
  go_enter Try.func46, Try.ntmps46
  go_wp2_with fail
  refine HC.out.mono ?_
  rintro _ w1 ⟨⟨v, rfl⟩, hb⟩
  have HB := Lib.hid hb; clear hb
  go_wp2_with fail
  go_ret
  exact ⟨rfl, HB.out⟩
end Go.Proofs.Ytdeelpagoffdjaa.Dat
