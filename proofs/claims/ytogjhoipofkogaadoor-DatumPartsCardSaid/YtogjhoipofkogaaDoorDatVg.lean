/- The program's own copies of data: Clone of the library, anew. -/
import Derived.Test.YtogjhoipofkogaaDoorDatVd
import Derived.Test.YtogjhoipofkogaaDoorDatI
import Derived.Lib.SliceRun
import Derived.Deep.RegionHeld3
namespace Go.Proofs.YtogjhoipofkogaaDoor.Dat
open Go.RowKit
set_option linter.unusedVariables false

mutual
/-- No list in it is too long for a machine. -/
def Dt.slim : Dt → Prop
  | .node _ _ _ _ l => l.length * 64 ≤ 140737488355328 ∧ Dt.slimAll l
def Dt.slimAll : List Dt → Prop
  | [] => True
  | t :: r => t.slim ∧ Dt.slimAll r
end
theorem Dt.slimAll_iff {l : List Dt} : Dt.slimAll l ↔ ∀ x, x ∈ l → x.slim := by
  induction l with
  | nil => simp [Dt.slimAll]
  | cons t r ih => unfold Dt.slimAll; rw [ih]; simp
mutual
theorem Dt.slim_size : ∀ t : Dt, t.size ≤ 1000000 → t.slim
  | .node k n d s l, h => by
    unfold Dt.size at h
    have hl := Dt.sizes_len l
    unfold Dt.slim
    exact ⟨by omega, Dt.slimAll_size l (by omega)⟩
theorem Dt.slimAll_size : ∀ l : List Dt, Dt.sizes l ≤ 1000000 → Dt.slimAll l
  | [], _ => by unfold Dt.slimAll; trivial
  | t :: r, h => by
    unfold Dt.sizes at h
    unfold Dt.slimAll
    exact ⟨Dt.slim_size t (by omega), Dt.slimAll_size r (by omega)⟩
theorem Dt.sizes_len : ∀ l : List Dt, l.length ≤ Dt.sizes l
  | [] => by simp
  | t :: r => by
    unfold Dt.sizes
    have := t.size_pos
    have := Dt.sizes_len r
    simp only [List.length_cons]; omega
end
/-- The cells of data that lie one behind another. -/
theorem Dt.AllAt.row {w : World} : ∀ {l : List Dt} {b o : Nat}, Dt.AllAt w l b o → ∃ xs, xs.length = l.length * 5 ∧ Dt.Row w l xs ∧ (∀ j u, xs[j]? = some u → w.cell? ⟨b, o + j, none⟩ = some u) ∧ (∀ u ∈ xs, u.oneCell' = true)
  | [], b, o, _ => ⟨[], rfl, rfl, fun j u h => by simp at h, fun u h => by simp at h⟩
  | t :: r, b, o, h => by
    unfold Dt.AllAt at h
    obtain ⟨⟨v0, v1, v2, v3, v4, c0, c1, c2, c3, c4, ht⟩, hr⟩ := h
    obtain ⟨xs, hx, hrow, hc, h1⟩ := Dt.AllAt.row hr
    obtain ⟨_, _, _, _, _, _, _, _, rfl, rfl, rfl, rfl, rfl, _, _⟩ := ht.open5
    refine ⟨_ :: _ :: _ :: _ :: _ :: xs, by simp [hx]; omega, ⟨_, _, _, _, _, xs, rfl, ht, hrow⟩, ?_, ?_⟩
    · intro j u hj
      match j, hj with
      | 0, hj => simp at hj; subst hj; exact c0
      | 1, hj => simp at hj; subst hj; exact c1
      | 2, hj => simp at hj; subst hj; exact c2
      | 3, hj => simp at hj; subst hj; exact c3
      | 4, hj => simp at hj; subst hj; exact c4
      | j + 5, hj =>
        have := hc j u (by simpa using hj)
        rw [show o + (j + 5) = o + 5 + j by omega]
        exact this
    · intro u hu
      simp only [List.mem_cons] at hu
      rcases hu with rfl | rfl | rfl | rfl | rfl | hu
      · rfl
      · rfl
      · rfl
      · rfl
      · rfl
      · exact h1 u hu
/-- The row's cells are those of the data, wherever they lie. -/
def RowIs (W : World) (cur : Array Value) (l : List Dt) : Prop :=
  ∀ j t, l[j]? = some t → ∃ v0 v1 v2 v3 v4, cur[j * 5]? = some v0 ∧ cur[j * 5 + 1]? = some v1 ∧ cur[j * 5 + 2]? = some v2 ∧ cur[j * 5 + 3]? = some v3 ∧ cur[j * 5 + 4]? = some v4 ∧ t.At W (.agg #[v0, v1, v2, v3, v4])
theorem RowIs.on {W W' : World} {cur : Array Value} {l : List Dt} (h : RowIs W cur l) (hc : ∀ b o v, W.cell? ⟨b, o, none⟩ = some v → W'.cell? ⟨b, o, none⟩ = some v) : RowIs W' cur l := fun j t ht => by
  obtain ⟨v0, v1, v2, v3, v4, c0, c1, c2, c3, c4, ha⟩ := h j t ht
  exact ⟨v0, v1, v2, v3, v4, c0, c1, c2, c3, c4, ha.on hc⟩
theorem Dt.Row.is {W : World} {cur : Array Value} {g : Nat} : ∀ {l : List Dt} {xs : List Value} {o : Nat}, Dt.Row W l xs → (∀ j u, xs[j]? = some u → cur[o + j]? = some u) →
    ∀ j t, l[j]? = some t → ∃ v0 v1 v2 v3 v4, cur[o + j * 5]? = some v0 ∧ cur[o + j * 5 + 1]? = some v1 ∧ cur[o + j * 5 + 2]? = some v2 ∧ cur[o + j * 5 + 3]? = some v3 ∧ cur[o + j * 5 + 4]? = some v4 ∧ t.At W (.agg #[v0, v1, v2, v3, v4])
  | [], _, _, _, _, j, t, h => by simp at h
  | x :: r, xs, o, hr, hx, j, t, h => by
    unfold Dt.Row at hr
    obtain ⟨u0, u1, u2, u3, u4, ys, rfl, ht, hr⟩ := hr
    cases j with
    | zero =>
      simp at h; subst h
      exact ⟨u0, u1, u2, u3, u4, by simpa using hx 0 _ rfl, by simpa using hx 1 _ rfl, by simpa using hx 2 _ rfl, by simpa using hx 3 _ rfl, by simpa using hx 4 _ rfl, ht⟩
    | succ j =>
      have := Dt.Row.is (g := g) (o := o + 5) hr (fun j u hj => by
        have := hx (j + 5) u (by simpa using hj)
        rw [show o + (j + 5) = o + 5 + j by omega] at this
        exact this) j t (by simpa using h)
      rw [show o + (j + 1) * 5 = o + 5 + j * 5 by omega]
      exact this
/-- Five cells of the row are written anew. -/
theorem RowIs.set {W : World} {cur : Array Value} {l : List Dt} (h : RowIs W cur l) {i : Nat} {t : Dt} (ht : l[i]? = some t) (hs : l.length * 5 ≤ cur.size) {b0 b1 b2 b3 b4 : Value} (ha : t.At W (.agg #[b0, b1, b2, b3, b4])) :
    RowIs W (((((cur.setIfInBounds (i * 5) b0).setIfInBounds (i * 5 + 1) b1).setIfInBounds (i * 5 + 2) b2).setIfInBounds (i * 5 + 3) b3).setIfInBounds (i * 5 + 4) b4) l := by
  intro j x hx
  have hi := (List.getElem?_eq_some_iff.1 ht).1
  by_cases e : j = i
  · subst e
    rw [ht] at hx
    obtain rfl : t = x := by simpa using hx
    refine ⟨b0, b1, b2, b3, b4, ?_, ?_, ?_, ?_, ?_, ha⟩
    all_goals
      simp only [Array.getElem?_setIfInBounds, Array.size_setIfInBounds]
      simp
      omega
  · obtain ⟨v0, v1, v2, v3, v4, c0, c1, c2, c3, c4, hta⟩ := h j x hx
    refine ⟨v0, v1, v2, v3, v4, ?_, ?_, ?_, ?_, ?_, hta⟩
    all_goals
      simp only [Array.getElem?_setIfInBounds]
      rw [if_neg (by omega), if_neg (by omega), if_neg (by omega), if_neg (by omega), if_neg (by omega)]
      assumption
theorem RowIs.allAt {W : World} {cur : Array Value} {g : Nat} (hc : ∀ j u, cur[j]? = some u → W.cell? ⟨g, j, none⟩ = some u) {l : List Dt} (h : RowIs W cur l) : Dt.AllAt W l g 0 := by
  apply Dt.AllAt.of
  intro i t hit
  obtain ⟨v0, v1, v2, v3, v4, c0, c1, c2, c3, c4, ha⟩ := h i t hit
  exact ⟨v0, v1, v2, v3, v4, hc _ _ (by simpa using c0), hc _ _ (by simpa using c1), hc _ _ (by simpa using c2), hc _ _ (by simpa using c3), hc _ _ (by simpa using c4), ha⟩

set_option maxHeartbeats 1000000 in
set_option maxRecDepth 100000 in
/-- Clone of the library, of data. -/
theorem clone_any (b o n c : Nat) (news : List Value) (w : World) (hl : news.length = n * 5) (hn : n ≤ maxLen) (hbig : n * 64 ≤ 140737488355328)
    (hc : ∀ j u, news[j]? = some u → w.cell? ⟨b, o + j, none⟩ = some u) (h1 : ∀ u ∈ news, u.oneCell' = true) :
    Calls Tryd.prog 60 #[.slice (some ⟨b, o, none⟩) n c] w fun e w' => ∃ v', e = .returned v' ∧ w'.ownsRow w.heap.size 24 5 v' n news ∧ v' ≠ .slice none 0 0 ∧ Below w.heap.size w w' := by
  obtain ⟨i0, hi, hz⟩ := Option.map_eq_some_iff.1 Tryd.infoDt
  simp only [Prod.mk.injEq] at hz
  obtain ⟨hz0, hz1, hz2⟩ := hz
  have q22 : ∀ (w : World) (a : Option Addr) (n c n' c' : Nat), (binOp .eql 22 (.slice a n c) (.slice none n' c')).run Tryd.prog w = .ok (.bool a.isNone) w := fun w a n c n' c' => Lib.run_eql_slice_nil w _ _ a n c n' c' Tryd.underlying22
  have HI := Lib.hid (And.intro hi (And.intro hz0 (And.intro hz1 hz2))); clear hi hz0 hz1 hz2
  have HC := Lib.hid hc; clear hc
  have H1 := Lib.hid h1; clear h1
  go_enter Tryd.func60, Tryd.ntmps60
  go_wp2_with (at_builtin; refine wpList_append_own _ rfl _ _ 22 rfl w.heap.size 24 i0 (.agg #[.int .i64 0, .int .i64 0, .int .i64 0, .string ⟨#[]⟩, .slice none 0 0]) 5 64 Tryd.underlying22 HI.out.1 HI.out.2.1 HI.out.2.2.1 HI.out.2.2.2 rfl (by decide) _ _ _ rfl (World.ownsRow_made w #[] 0 (Nat.le_refl _) (Nat.zero_le _) (by simp)) ⟨b, o, none⟩ n c news rfl ?qc1 ?qc2 ?qc3 ?qc4 ?qc5 ?qc6 ?_)
  case qc1 => exact hl
  case qc2 =>
    intro j u hj
    rw [Addr.add_lit]
    exact cell_on (box_below _ _) _ _ _ (HC.out j u hj)
  case qc3 => exact H1.out
  case qc4 => rw [Nat.zero_add]; exact hn
  case qc5 => rw [Nat.zero_add]; exact hbig
  case qc6 => simp
  intro v' w1 hown hgrow hnil
  go_wp2
  go_ret
  refine ⟨v', rfl, by simpa using hown, ?_, ?_⟩
  · exact hnil
  · exact (box_below w _).grown hgrow (by simp) (by intro k hk; simp [Value.ownBlock] at hk; omega)
theorem clone_nil (n c : Nat) (w : World) : Calls Tryd.prog 60 #[.slice none n c] w fun e w' => e = .returned (.slice none 0 0) ∧ Below w.heap.size w w' := by
  have q22 : ∀ (w : World) (a : Option Addr) (n c n' c' : Nat), (binOp .eql 22 (.slice a n c) (.slice none n' c')).run Tryd.prog w = .ok (.bool a.isNone) w := fun w a n c n' c' => Lib.run_eql_slice_nil w _ _ a n c n' c' Tryd.underlying22
  go_enter Tryd.func60, Tryd.ntmps60
  go_wp2
  go_ret
  exact ⟨rfl, Below.refl _ _⟩
set_option maxHeartbeats 1000000 in
set_option maxRecDepth 100000 in
theorem clone_zero (a : Addr) (c : Nat) (w : World) : Calls Tryd.prog 60 #[.slice (some a) 0 c] w fun e w' => ∃ v', e = .returned v' ∧ w'.ownsRow w.heap.size 24 5 v' 0 [] ∧ Below w.heap.size w w' := by
  obtain ⟨i0, hi, hz⟩ := Option.map_eq_some_iff.1 Tryd.infoDt
  simp only [Prod.mk.injEq] at hz
  obtain ⟨hz0, hz1, hz2⟩ := hz
  have q22 : ∀ (w : World) (a : Option Addr) (n c n' c' : Nat), (binOp .eql 22 (.slice a n c) (.slice none n' c')).run Tryd.prog w = .ok (.bool a.isNone) w := fun w a n c n' c' => Lib.run_eql_slice_nil w _ _ a n c n' c' Tryd.underlying22
  have HI := Lib.hid (And.intro hi (And.intro hz0 (And.intro hz1 hz2))); clear hi hz0 hz1 hz2
  go_enter Tryd.func60, Tryd.ntmps60
  go_wp2_with (at_builtin; refine wpList_append_own _ rfl _ _ 22 rfl w.heap.size 24 i0 (.agg #[.int .i64 0, .int .i64 0, .int .i64 0, .string ⟨#[]⟩, .slice none 0 0]) 5 64 Tryd.underlying22 HI.out.1 HI.out.2.1 HI.out.2.2.1 HI.out.2.2.2 rfl (by decide) _ _ _ rfl (World.ownsRow_made w #[] 0 (Nat.le_refl _) (Nat.zero_le _) (by simp)) a 0 c [] rfl rfl (by intro j u hj; simp at hj) (by intro u hu; cases hu) (by unfold maxLen; omega) (by omega) (by simp) ?_)
  intro v' w1 hown hgrow hnil
  go_wp2
  go_ret
  exact ⟨v', rfl, by simpa using hown, (box_below w _).grown hgrow (by simp) (by intro k hk; simp [Value.ownBlock] at hk; omega)⟩
end Go.Proofs.YtogjhoipofkogaaDoor.Dat
