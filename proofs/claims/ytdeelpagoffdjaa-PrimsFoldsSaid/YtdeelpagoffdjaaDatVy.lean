/- The program's own copies of data: Clone of the library, anew. -/
import Derived.Test.YtdeelpagoffdjaaDatVx
import Derived.Test.YtdeelpagoffdjaaDatPz
import Derived.Lib.SliceRun
import Derived.Deep.RegionHeld3


namespace Go.Proofs.Ytdeelpagoffdjaa.Dat
open Go.RowKit
set_option linter.unusedVariables false

mutual
/-- No list in it is too long for a machine. -/
def Dt.slim : Dt → Prop
  | .node _ _ _ _ l => l.length * 64 ≤ 140737488355328 ∧ Dt.slimAll l
def Dt.slimAll : List Dt → Prop
  | [] => True
  | t :: r => t.slim ∧ Dt.slimAll r
end
theorem Dt.slimAll_iff {l : List Dt} : Dt.slimAll l ↔ ∀ x, x ∈ l → x.slim := by
  induction l with
  | nil => simp [Dt.slimAll]
  | cons t r ih => unfold Dt.slimAll; rw [ih]; simp
mutual
theorem Dt.slim_size : ∀ t : Dt, t.size ≤ 1000000 → t.slim
  | .node k n d s l, h => by
    unfold Dt.size at h
    have hl := Dt.sizes_len l
    unfold Dt.slim
    exact ⟨by omega, Dt.slimAll_size l (by omega)⟩
theorem Dt.slimAll_size : ∀ l : List Dt, Dt.sizes l ≤ 1000000 → Dt.slimAll l
  | [], _ => by unfold Dt.slimAll; trivial
  | t :: r, h => by
    unfold Dt.sizes at h
    unfold Dt.slimAll
    exact ⟨Dt.slim_size t (by omega), Dt.slimAll_size r (by omega)⟩
theorem Dt.sizes_len : ∀ l : List Dt, l.length ≤ Dt.sizes l
  | [] => by simp
  | t :: r => by
    unfold Dt.sizes
    have := t.size_pos
    have := Dt.sizes_len r
    simp only [List.length_cons]; omega
end
/-- The cells of data that lie one behind another. -/
theorem Dt.AllAt.row {w : World} : ∀ {l : List Dt} {b o : Nat}, Dt.AllAt w l b o → ∃ xs, xs.length = l.length * 5 ∧ Dt.Row w l xs ∧ (∀ j u, xs[j]? = some u → w.cell? ⟨b, o + j, none⟩ = some u) ∧ (∀ u ∈ xs, u.oneCell' = true)
  | [], b, o, _ => ⟨[], rfl, rfl, fun j u h => by simp at h, fun u h => by simp at h⟩
  | t :: r, b, o, h => by
    unfold Dt.AllAt at h
    obtain ⟨⟨v0, v1, v2, v3, v4, c0, c1, c2, c3, c4, ht⟩, hr⟩ := h
    obtain ⟨xs, hx, hrow, hc, h1⟩ := Dt.AllAt.row hr
    obtain ⟨_, _, _, _, _, _, _, _, rfl, rfl, rfl, rfl, rfl, _, _⟩ := ht.open5
    refine ⟨_ :: _ :: _ :: _ :: _ :: xs, by simp [hx]; omega, ⟨_, _, _, _, _, xs, rfl, ht, hrow⟩, ?_, ?_⟩
    · intro j u hj
      match j, hj with
      | 0, hj => simp at hj; subst hj; exact c0
      | 1, hj => simp at hj; subst hj; exact c1
      | 2, hj => simp at hj; subst hj; exact c2
      | 3, hj => simp at hj; subst hj; exact c3
      | 4, hj => simp at hj; subst hj; exact c4
      | j + 5, hj =>
        have := hc j u (by simpa using hj)
        rw [show o + (j + 5) = o + 5 + j by omega]
        exact this
    · intro u hu
      simp only [List.mem_cons] at hu
      rcases hu with rfl | rfl | rfl | rfl | rfl | hu
      · rfl
      · rfl
      · rfl
      · rfl
      · rfl
      · exact h1 u hu
/-- The row's cells are those of the data, wherever they lie. -/
def RowIs (W : World) (cur : Array Value) (l : List Dt) : Prop :=
  ∀ j t, l[j]? = some t → ∃ v0 v1 v2 v3 v4, cur[j * 5]? = some v0 ∧ cur[j * 5 + 1]? = some v1 ∧ cur[j * 5 + 2]? = some v2 ∧ cur[j * 5 + 3]? = some v3 ∧ cur[j * 5 + 4]? = some v4 ∧ t.At W (.agg #[v0, v1, v2, v3, v4])
theorem RowIs.on {W W' : World} {cur : Array Value} {l : List Dt} (h : RowIs W cur l) (hc : ∀ b o v, W.cell? ⟨b, o, none⟩ = some v → W'.cell? ⟨b, o, none⟩ = some v) : RowIs W' cur l := fun j t ht => by
  obtain ⟨v0, v1, v2, v3, v4, c0, c1, c2, c3, c4, ha⟩ := h j t ht
  exact ⟨v0, v1, v2, v3, v4, c0, c1, c2, c3, c4, ha.on hc⟩
theorem Dt.Row.is {W : World} {cur : Array Value} {g : Nat} : ∀ {l : List Dt} {xs : List Value} {o : Nat}, Dt.Row W l xs → (∀ j u, xs[j]? = some u → cur[o + j]? = some u) →
    ∀ j t, l[j]? = some t → ∃ v0 v1 v2 v3 v4, cur[o + j * 5]? = some v0 ∧ cur[o + j * 5 + 1]? = some v1 ∧ cur[o + j * 5 + 2]? = some v2 ∧ cur[o + j * 5 + 3]? = some v3 ∧ cur[o + j * 5 + 4]? = some v4 ∧ t.At W (.agg #[v0, v1, v2, v3, v4])
  | [], _, _, _, _, j, t, h => by simp at h
  | x :: r, xs, o, hr, hx, j, t, h => by
    unfold Dt.Row at hr
    obtain ⟨u0, u1, u2, u3, u4, ys, rfl, ht, hr⟩ := hr
    cases j with
    | zero =>
      simp at h; subst h
      exact ⟨u0, u1, u2, u3, u4, by simpa using hx 0 _ rfl, by simpa using hx 1 _ rfl, by simpa using hx 2 _ rfl, by simpa using hx 3 _ rfl, by simpa using hx 4 _ rfl, ht⟩
    | succ j =>
      have := Dt.Row.is (g := g) (o := o + 5) hr (fun j u hj => by
        have := hx (j + 5) u (by simpa using hj)
        rw [show o + (j + 5) = o + 5 + j by omega] at this
        exact this) j t (by simpa using h)
      rw [show o + (j + 1) * 5 = o + 5 + j * 5 by omega]
      exact this
/-- Five cells of the row are written anew. -/
theorem RowIs.set {W : World} {cur : Array Value} {l : List Dt} (h : RowIs W cur l) {i : Nat} {t : Dt} (ht : l[i]? = some t) (hs : l.length * 5 ≤ cur.size) {b0 b1 b2 b3 b4 : Value} (ha : t.At W (.agg #[b0, b1, b2, b3, b4])) :
    RowIs W (((((cur.setIfInBounds (i * 5) b0).setIfInBounds (i * 5 + 1) b1).setIfInBounds (i * 5 + 2) b2).setIfInBounds (i * 5 + 3) b3).setIfInBounds (i * 5 + 4) b4) l := by
  intro j x hx
  have hi := (List.getElem?_eq_some_iff.1 ht).1
  by_cases e : j = i
  · subst e
    rw [ht] at hx
    obtain rfl : t = x := by simpa using hx
    refine ⟨b0, b1, b2, b3, b4, ?_, ?_, ?_, ?_, ?_, ha⟩
    all_goals
      simp only [Array.getElem?_setIfInBounds, Array.size_setIfInBounds]
      simp
      omega
  · obtain ⟨v0, v1, v2, v3, v4, c0, c1, c2, c3, c4, hta⟩ := h j x hx
    refine ⟨v0, v1, v2, v3, v4, ?_, ?_, ?_, ?_, ?_, hta⟩
    all_goals
      simp only [Array.getElem?_setIfInBounds]
      rw [if_neg (by omega), if_neg (by omega), if_neg (by omega), if_neg (by omega), if_neg (by omega)]
      assumption
theorem RowIs.allAt {W : World} {cur : Array Value} {g : Nat} (hc : ∀ j u, cur[j]? = some u → W.cell? ⟨g, j, none⟩ = some u) {l : List Dt} (h : RowIs W cur l) : Dt.AllAt W l g 0 := by
  apply Dt.AllAt.of
  intro i t hit
  obtain ⟨v0, v1, v2, v3, v4, c0, c1, c2, c3, c4, ha⟩ := h i t hit
  exact ⟨v0, v1, v2, v3, v4, hc _ _ (by simpa using c0), hc _ _ (by simpa using c1), hc _ _ (by simpa using c2), hc _ _ (by simpa using c3), hc _ _ (by simpa using c4), ha⟩

set_option maxHeartbeats 1000000 in
set_option maxRecDepth 100000 in
/-- Clone of the library, of data. -/
theorem clone_any (b o n c : Nat) (news : List Value) (w : World) (hl : news.length = n * 5) (hn : n ≤ maxLen) (hbig : n * 64 ≤ 140737488355328)
    (hc : ∀ j u, news[j]? = some u → w.cell? ⟨b, o + j, none⟩ = some u) (h1 : ∀ u ∈ news, u.oneCell' = true) :
    Calls Try.prog 76 #[.slice (some ⟨b, o, none⟩) n c] w fun e w' => ∃ v', e = .returned v' ∧ w'.ownsRow w.heap.size 37 5 v' n news ∧ v' ≠ .slice none 0 0 ∧ Below w.heap.size w w' := by
  obtain ⟨i0, hi, hz⟩ := Option.map_eq_some_iff.1 Try.infoDt
  simp only [Prod.mk.injEq] at hz
  obtain ⟨hz0, hz1, hz2⟩ := hz
  have q22 : ∀ (w : World) (a : Option Addr) (n c n' c' : Nat), (binOp .eql 34 (.slice a n c) (.slice none n' c')).run Try.prog w = .ok (.bool a.isNone) w := fun w a n c n' c' => Lib.run_eql_slice_nil w _ _ a n c n' c' Try.underlying34
  have HI := Lib.hid (And.intro hi (And.intro hz0 (And.intro hz1 hz2))); clear hi hz0 hz1 hz2
  have HC := Lib.hid hc; clear hc
  have H1 := Lib.hid h1; clear h1
  go_enter Try.func76, Try.ntmps76
  go_wp2_with (at_builtin; refine wpList_append_own _ rfl _ _ 34 rfl w.heap.size 37 i0 (.agg #[.int .i64 0, .int .i64 0, .int .i64 0, .string ⟨#[]⟩, .slice none 0 0]) 5 64 Try.underlying34 HI.out.1 HI.out.2.1 HI.out.2.2.1 HI.out.2.2.2 rfl (by decide) _ _ _ rfl (World.ownsRow_made w #[] 0 (Nat.le_refl _) (Nat.zero_le _) (by simp)) ⟨b, o, none⟩ n c news rfl ?qc1 ?qc2 ?qc3 ?qc4 ?qc5 ?qc6 ?_)
  case qc1 => exact hl
  case qc2 =>
    intro j u hj
    rw [Addr.add_lit]
    exact cell_on (box_below _ _) _ _ _ (HC.out j u hj)
  case qc3 => exact H1.out
  case qc4 => rw [Nat.zero_add]; exact hn
  case qc5 => rw [Nat.zero_add]; exact hbig
  case qc6 => simp
  intro v' w1 hown hgrow hnil
  go_wp2
  go_ret
  refine ⟨v', rfl, by simpa using hown, ?_, ?_⟩
  · exact hnil
  · exact (box_below w _).grown hgrow (by simp) (by intro k hk; simp [Value.ownBlock] at hk; omega)
theorem clone_nil (n c : Nat) (w : World) : Calls Try.prog 76 #[.slice none n c] w fun e w' => e = .returned (.slice none 0 0) ∧ Below w.heap.size w w' := by
  have q22 : ∀ (w : World) (a : Option Addr) (n c n' c' : Nat), (binOp .eql 34 (.slice a n c) (.slice none n' c')).run Try.prog w = .ok (.bool a.isNone) w := fun w a n c n' c' => Lib.run_eql_slice_nil w _ _ a n c n' c' Try.underlying34
  go_enter Try.func76, Try.ntmps76
  go_wp2
  go_ret
  exact ⟨rfl, Below.refl _ _⟩
set_option maxHeartbeats 1000000 in
set_option maxRecDepth 100000 in
theorem clone_zero (a : Addr) (c : Nat) (w : World) : Calls Try.prog 76 #[.slice (some a) 0 c] w fun e w' => ∃ v', e = .returned v' ∧ w'.ownsRow w.heap.size 37 5 v' 0 [] ∧ Below w.heap.size w w' := by
  obtain ⟨i0, hi, hz⟩ := Option.map_eq_some_iff.1 Try.infoDt
  simp only [Prod.mk.injEq] at hz
  obtain ⟨hz0, hz1, hz2⟩ := hz
  have q22 : ∀ (w : World) (a : Option Addr) (n c n' c' : Nat), (binOp .eql 34 (.slice a n c) (.slice none n' c')).run Try.prog w = .ok (.bool a.isNone) w := fun w a n c n' c' => Lib.run_eql_slice_nil w _ _ a n c n' c' Try.underlying34
  have HI := Lib.hid (And.intro hi (And.intro hz0 (And.intro hz1 hz2))); clear hi hz0 hz1 hz2
  go_enter Try.func76, Try.ntmps76
  go_wp2_with (at_builtin; refine wpList_append_own _ rfl _ _ 34 rfl w.heap.size 37 i0 (.agg #[.int .i64 0, .int .i64 0, .int .i64 0, .string ⟨#[]⟩, .slice none 0 0]) 5 64 Try.underlying34 HI.out.1 HI.out.2.1 HI.out.2.2.1 HI.out.2.2.2 rfl (by decide) _ _ _ rfl (World.ownsRow_made w #[] 0 (Nat.le_refl _) (Nat.zero_le _) (by simp)) a 0 c [] rfl rfl (by intro j u hj; simp at hj) (by intro u hu; cases hu) (by unfold maxLen; omega) (by omega) (by simp) ?_)
  intro v' w1 hown hgrow hnil
  go_wp2
  go_ret
  exact ⟨v', rfl, by simpa using hown, (box_below w _).grown hgrow (by simp) (by intro k hk; simp [Value.ownBlock] at hk; omega)⟩
end Go.Proofs.Ytdeelpagoffdjaa.Dat

/- The program's own copies of data: anew, copied. -/
namespace Go.Proofs.Ytdeelpagoffdjaa.Dat
open Go.RowKit
set_option linter.unusedVariables false

theorem Try.cellDt : (Try.prog.info? 37).map (·.size) = some 5 := by kernel_rfl
abbrev anewF (Ba : Nat) : Value := .func (.func 75) #[] #[.pointer (some ⟨Ba, 0, none⟩)]
/-- What a call of anew does. -/
def AnewAt (t : Dt) : Prop := ∀ (X : Nat → Bool) (v : Value) (w : World) (Ba : Nat), (∀ b, w.heap.size ≤ b → X b = false) → t.At (off w X) v → t.slim → w.cell? ⟨Ba, 0, none⟩ = some (anewF Ba) →
    Calls Try.prog 75 #[v, .pointer (some ⟨Ba, 0, none⟩)] w fun e w' => (∃ k n d s p len cap, e = .returned (.agg #[.int .i64 k, .int .i64 n, .int .i64 d, .string s, .slice p len cap]) ∧ t.At (off w' X) (.agg #[.int .i64 k, .int .i64 n, .int .i64 d, .string s, .slice p len cap])) ∧ Below w.heap.size w w'
/-- Two more blocks, and a third one. -/
def plus (X : Nat → Bool) (B g : Nat) (b : Nat) : Bool := X b || b == B || b == B + 1 || b == g
theorem plus_no {X : Nat → Bool} {B g b : Nat} : plus X B g b = false ↔ X b = false ∧ b ≠ B ∧ b ≠ B + 1 ∧ b ≠ g := by
  unfold plus; simp [and_assoc]
theorem off_up {w : World} {X Y : Nat → Bool} (h : ∀ b, X b = false → Y b = false) (b o : Nat) (v : Value) (hv : (off w X).cell? ⟨b, o, none⟩ = some v) : (off w Y).cell? ⟨b, o, none⟩ = some v :=
  off_on (fun b _ hx => h b hx) (fun b _ _ => rfl) b o v hv
theorem off_later {w w' : World} {X : Nat → Bool} (h : Below w.heap.size w w') (b o : Nat) (v : Value) (hv : (off w X).cell? ⟨b, o, none⟩ = some v) : (off w' X).cell? ⟨b, o, none⟩ = some v :=
  off_on (fun _ _ hx => hx) (fun b hb _ => h.block b hb) b o v hv
theorem plus_on {w W : World} {X : Nat → Bool} {g : Nat} (h : Below w.heap.size w W) (hg : w.heap.size + 2 ≤ g) (b o : Nat) (v : Value) (hv : (off w X).cell? ⟨b, o, none⟩ = some v) : (off W (plus X w.heap.size g)).cell? ⟨b, o, none⟩ = some v :=
  off_on (fun b hb hx => plus_no.2 ⟨hx, by omega, by omega, by omega⟩) (fun b hb _ => h.block b hb) b o v hv
theorem cell_of_block {w : World} {B : Nat} {cs : Array Value} {t : TypeId} {fr : Nat × Nat} (h : w.heap[B]? = some (.cells cs t fr)) {j : Nat} : w.cell? ⟨B, j, none⟩ = cs[j]? := by
  unfold World.cell?
  simp [h]
def gOf : Option Addr → Nat
  | some a => a.block
  | none => 0

theorem set_five_at_other {w : World} {g i k : Nat} {b0 b1 b2 b3 b4 : Value} (h : k ≠ g) :
    (((((w.setCell ⟨g, i, none⟩ b0).setCell ⟨g, i + 1, none⟩ b1).setCell ⟨g, i + 2, none⟩ b2).setCell ⟨g, i + 3, none⟩ b3).setCell ⟨g, i + 4, none⟩ b4).heap[k]? = w.heap[k]? := by
  rw [heap_setCell_other _ _ _ _ (by exact h), heap_setCell_other _ _ _ _ (by exact h), heap_setCell_other _ _ _ _ (by exact h), heap_setCell_other _ _ _ _ (by exact h), heap_setCell_other _ _ _ _ (by exact h)]
theorem cell_set5 {w : World} {g i b o : Nat} {b0 b1 b2 b3 b4 : Value} (h : b ≠ g) :
    (((((w.setCell ⟨g, i, none⟩ b0).setCell ⟨g, i + 1, none⟩ b1).setCell ⟨g, i + 2, none⟩ b2).setCell ⟨g, i + 3, none⟩ b3).setCell ⟨g, i + 4, none⟩ b4).cell? ⟨b, o, none⟩ = w.cell? ⟨b, o, none⟩ :=
  World.cell?_of_block (set_five_at_other h)
theorem set_five_at {w : World} {g i : Nat} {cur : Array Value} {b0 b1 b2 b3 b4 : Value} {t : TypeId} (h : w.heap[g]? = some (.cells cur t (0, 0))) :
    (((((w.setCell ⟨g, i, none⟩ b0).setCell ⟨g, i + 1, none⟩ b1).setCell ⟨g, i + 2, none⟩ b2).setCell ⟨g, i + 3, none⟩ b3).setCell ⟨g, i + 4, none⟩ b4).heap[g]? = some (.cells (((((cur.setIfInBounds i b0).setIfInBounds (i + 1) b1).setIfInBounds (i + 2) b2).setIfInBounds (i + 3) b3).setIfInBounds (i + 4) b4) t (0, 0)) :=
  heap_setCell_same _ _ _ _ t _ (heap_setCell_same _ _ _ _ t _ (heap_setCell_same _ _ _ _ t _ (heap_setCell_same _ _ _ _ t _ (heap_setCell_same _ _ _ _ t _ h))))
/-- Clone of the library, of a datum's parts. -/
theorem cloneL_any (V : World) (l : List Dt) (p : Option Addr) (cap : Nat) (w : World) (hlm : l.length ≤ maxLen) (hbig : l.length * 64 ≤ 140737488355328) (hV : ∀ b o v, V.cell? ⟨b, o, none⟩ = some v → w.cell? ⟨b, o, none⟩ = some v) (hl : l = [] ∨ ∃ b o, p = some ⟨b, o, none⟩ ∧ Dt.AllAt V l b o) :
    Calls Try.prog 76 #[.slice p l.length cap] w fun e w' => (∃ p' cap', e = .returned (.slice p' l.length cap') ∧ (l = [] ∨ (p' = some ⟨gOf p', 0, none⟩ ∧ w.heap.size ≤ gOf p' ∧ ∃ cur : Array Value, w'.heap[gOf p']? = some (.cells cur 37 (0, 0)) ∧ l.length * 5 ≤ cur.size ∧ RowIs V cur l))) ∧ Below w.heap.size w w' := by
  by_cases h0 : l = []
  · subst h0
    cases p with
    | none => exact (clone_nil 0 cap w).mono fun e w' ⟨he, hb⟩ => ⟨⟨none, 0, he, Or.inl rfl⟩, hb⟩
    | some a =>
      refine (clone_zero a cap w).mono fun e w' ⟨v', he, ho, hb⟩ => ?_
      rcases ho.2 with ⟨rfl, _⟩ | ⟨g, c, cur, rfl, _⟩
      · exact ⟨⟨none, 0, he, Or.inl rfl⟩, hb⟩
      · exact ⟨⟨_, c, he, Or.inl rfl⟩, hb⟩
  · rcases hl with hl | ⟨b, o, rfl, hall⟩
    · exact absurd hl h0
    obtain ⟨xs, hx, hrow, hc, h1⟩ := hall.row
    refine (clone_any b o l.length cap xs w hx hlm hbig (fun j u hj => hV _ _ _ (hc j u hj)) h1).mono fun e w' ⟨v', he, ho, hn, hb⟩ => ?_
    rcases ho.2 with ⟨rfl, h⟩ | ⟨g, c, cur, rfl, hg, hgg, hnc, hcm, hcs, ht⟩
    · exact absurd (List.eq_nil_of_length_eq_zero h) h0
    · refine ⟨⟨_, c, he, Or.inr ⟨rfl, hg, cur, hgg, by omega, ?_⟩⟩, hb⟩
      intro j t hj
      have := Dt.Row.is (cur := cur) (g := g) (o := 0) hrow (fun j u hj => by
        rw [← ht, List.getElem?_take] at hj
        split at hj
        · rw [Nat.zero_add]; simpa using hj
        · cases hj) j t hj
      simpa only [Nat.zero_add] using this

/-- The copy of the parts, as far as it has come. -/
def Copy (X : Nat → Bool) (B : Nat) (p' : Option Addr) (l : List Dt) (W : World) : Prop :=
  l = [] ∨ (p' = some ⟨gOf p', 0, none⟩ ∧ B + 2 ≤ gOf p' ∧ ∃ cur : Array Value, W.heap[gOf p']? = some (.cells cur 37 (0, 0)) ∧ l.length * 5 ≤ cur.size ∧ RowIs (off W (plus X B (gOf p'))) cur l)

set_option maxHeartbeats 4000000 in
set_option maxRecDepth 100000 in
theorem anew_any (N : Nat) : ∀ t : Dt, t.size ≤ N → AnewAt t := by
  induction N with
  | zero => intro t h; have := t.size_pos; omega
  | succ N ih =>
    intro t hN X v w Ba hX hat hslim ha
    obtain ⟨k, n, d, s, l⟩ := t
    unfold Dt.At at hat
    obtain ⟨hk, hn, hd, hs, hlm, p, cap, rfl, hl⟩ := hat
    unfold Dt.slim at hslim
    have hsl := Dt.slimAll_iff.1 hslim.2
    have ltA := cell_lt ha
    have hbt := two_below w (.cells #[.int .i64 k, .int .i64 n, .int .i64 d, .string s, .slice p l.length cap] 37) (.cells #[.int .i64 0, .int .i64 0, .int .i64 0, .string ⟨#[]⟩, .slice none 0 0] 37)
    have HX1 := Lib.hid (two_first w (.cells #[.int .i64 k, .int .i64 n, .int .i64 d, .string s, .slice p l.length cap] 37) (.cells #[.int .i64 0, .int .i64 0, .int .i64 0, .string ⟨#[]⟩, .slice none 0 0] 37))
    have HX2 := Lib.hid (two_second w (.cells #[.int .i64 k, .int .i64 n, .int .i64 d, .string s, .slice p l.length cap] 37) (.cells #[.int .i64 0, .int .i64 0, .int .i64 0, .string ⟨#[]⟩, .slice none 0 0] 37))
    have C := cloneL_any (off w X) l p cap _ hlm hslim.1 (fun b o v hv => cell_on hbt _ _ _ (off_cell.1 hv).2) hl
    have HC := Lib.hid C
    have HBT := Lib.hid hbt
    have HHEAD := Lib.hid (And.intro hk (And.intro hn (And.intro hd (And.intro hs hlm))))
    have IH := Lib.hid (show ∀ t, t ∈ l → AnewAt t from fun t ht => ih t (by obtain ⟨i, hi⟩ := List.mem_iff_getElem?.1 ht; have h1 := Dt.size_kid hi; unfold Dt.size at hN; omega))
    have HSL := Lib.hid hsl
    have HX := Lib.hid hX
    have HA := Lib.hid ha
    unfold maxLen at hlm
    clear C hbt hl hk hn hd hs ih hN hsl hslim hX ha
    go_enter Try.func75, Try.ntmps75
    go_wp2_with fail
    refine (HC.out).mono ?_
    rintro _ w1 ⟨⟨p', cap', rfl, hcp⟩, hb1⟩
    have h1 := block_on hb1 HX1.out
    have h2 := block_on hb1 HX2.out
    obtain ⟨c0, c1, c2, c3, c4⟩ := box_cells h1
    have z4 := box_frozen h1 4
    have HS1 := Lib.hid ((heap_setCell_same w1 w.heap.size 4 _ 37 (.slice p' l.length cap') h1).trans (show _ = some (Obj.cells #[.int .i64 k, .int .i64 n, .int .i64 d, .string s, .slice p' l.length cap'] 37 (0, 0)) by simp))
    have HS2 := Lib.hid ((heap_setCell_other w1 ⟨w.heap.size, 4, none⟩ (w.heap.size + 1) (.slice p' l.length cap') (by simp)).trans h2)
    have hB1 : Below w.heap.size w w1 := below_seq HBT.out hb1
    have HB2 := Lib.hid (hB1.setCell (p := ⟨w.heap.size, 4, none⟩) (Nat.le_refl _) (.slice p' l.length cap'))
    have HCP := Lib.hid (show Copy X w.heap.size p' l (w1.setCell ⟨w.heap.size, 4, none⟩ (.slice p' l.length cap')) from by
      rcases hcp with h | ⟨e, hg, cur, hgg, hcs, hrow⟩
      · exact Or.inl h
      · have hg2 : w.heap.size + 2 ≤ gOf p' := by
          have : ((w.alloc (.cells #[.int .i64 k, .int .i64 n, .int .i64 d, .string s, .slice p l.length cap] 37)).alloc (.cells #[.int .i64 0, .int .i64 0, .int .i64 0, .string ⟨#[]⟩, .slice none 0 0] 37)).heap.size = w.heap.size + 2 := by
            show ((w.heap.push _).push _).size = _; simp
          omega
        exact Or.inr ⟨e, hg2, cur, (heap_setCell_other w1 _ _ _ (by show gOf p' ≠ w.heap.size; omega)).trans hgg, hcs, hrow.on (plus_on HB2.out hg2)⟩)
    have hA1 : (w1.setCell ⟨w.heap.size, 4, none⟩ (.slice p' l.length cap')).cell? ⟨Ba, 0, none⟩ = some (anewF Ba) := cell_on HB2.out _ _ _ HA.out
    clear hcp hb1 h1 h2 hB1
    have HA1 := Lib.hid hA1; clear hA1
    go_wp2_with fail
    go_loopw [13] (fun x wr => ∃ (i : Nat), i ≤ l.length ∧ x = .int .i64 i ∧ wr.heap[w.heap.size]? = some (.cells #[.int .i64 k, .int .i64 n, .int .i64 d, .string s, .slice p' l.length cap'] 37 (0, 0)) ∧
      wr.heap[w.heap.size + 1]? = some (.cells #[.int .i64 0, .int .i64 0, .int .i64 0, .string ⟨#[]⟩, .slice none 0 0] 37 (0, 0)) ∧ wr.cell? ⟨Ba, 0, none⟩ = some (anewF Ba) ∧ Copy X w.heap.size p' l wr ∧ Below w.heap.size w wr) (fun x _ => l.length - (intOf x).toNat)
    case atStart => exact ⟨0, by omega, rfl, HS1.out, HS2.out, HA1.out, HCP.out, HB2.out⟩
    case round =>
      obtain ⟨i, hi, rfl, q1, q2, qa, qc, qb⟩ := hrel
      by_cases hlt : i < l.length
      · obtain ⟨t, ht⟩ : ∃ t, l[i]? = some t := ⟨l[i], by simp [hlt]⟩
        rcases qc with he | ⟨hp', hg2, cur, hgg, hcs, hrow⟩
        · rw [he] at hlt; simp at hlt
        obtain ⟨g, hg⟩ : ∃ g, gOf p' = g := ⟨_, rfl⟩
        rw [hg] at hp' hg2 hgg hrow
        subst hp'
        clear hg
        have hi0 : (0 : Int) ≤ (i : Int) := Int.natCast_nonneg _
        have hi1 : (i : Int) < (l.length : Int) := by omega
        obtain ⟨v0, v1, v2, v3, v4, e0, e1, e2, e3, e4, hta⟩ := hrow i t ht
        have hta0 := hta
        obtain ⟨kt, nt, dt, st, lt, pt, capt, hte, rfl, rfl, rfl, rfl, rfl, _, _⟩ := hta.open5
        have d0 := (cell_of_block hgg (j := i * 5)).trans e0
        have d1 := (cell_of_block hgg (j := i * 5 + 1)).trans e1
        have d2 := (cell_of_block hgg (j := i * 5 + 2)).trans e2
        have d3 := (cell_of_block hgg (j := i * 5 + 3)).trans e3
        have d4 := (cell_of_block hgg (j := i * 5 + 4)).trans e4
        have ltg := lt_of_block hgg
        have hbx := box_below wr (.cells #[.int .i64 kt, .int .i64 nt, .int .i64 dt, .string st, .slice pt lt.length capt] 37)
        have hY : ∀ b, (wr.alloc (.cells #[.int .i64 kt, .int .i64 nt, .int .i64 dt, .string st, .slice pt lt.length capt] 37)).drew.heap.size ≤ b → plus X w.heap.size g b = false := fun b hb => by
          have h1 : wr.heap.size ≤ b := Nat.le_trans hbx.size hb
          have h2 := qb.size
          have h3 := lt_of_block q2
          exact plus_no.2 ⟨HX.out b (by omega), by omega, by omega, by omega⟩
        have C := IH.out t (List.mem_of_getElem? ht) (plus X w.heap.size g) _ (wr.alloc (.cells #[.int .i64 kt, .int .i64 nt, .int .i64 dt, .string st, .slice pt lt.length capt] 37)).drew Ba hY (hta0.on (off_later hbx.drew)) (HSL.out t (List.mem_of_getElem? ht)) (cell_on hbx.drew _ _ _ qa)
        have HC2 := Lib.hid C
        obtain ⟨b0, b1, b2, b3, b4⟩ := box_cells (block_on hbx q1)
        have HG0 := Lib.hid hgg
        have HQ1 := Lib.hid q1
        have HQ2 := Lib.hid q2
        have HQB := Lib.hid qb
        have HQA0 := Lib.hid qa
        have qa' := cell_on hbx _ _ _ qa
        have HROW := Lib.hid hrow
        have HT := Lib.hid ht
        have HCS := Lib.hid hcs
        have HBX := Lib.hid hbx
        have f0 := (show (wr.alloc (.cells #[.int .i64 kt, .int .i64 nt, .int .i64 dt, .string st, .slice pt lt.length capt] 37)).heap[wr.heap.size]? = _ from at_new _ _)
        obtain ⟨x0, x1, x2, x3, x4⟩ := box_cells f0
        clear C hta hta0 hte hY hrow hgg q1 q2 qa qb e0 e1 e2 e3 e4 ht hcs hbx f0 b0 b1 b2 b3
        go_wp2_with fail
        obtain ⟨W1, hW1⟩ : ∃ W1, wr.alloc (.cells #[.int .i64 kt, .int .i64 nt, .int .i64 dt, .string st, .slice pt lt.length capt] 37) = W1 := ⟨_, rfl⟩
        rw [hW1] at HC2 HBX b4 qa' x0 x1 x2 x3 x4 ⊢
        clear hW1
        have n1 : w.heap.size ≠ g := by omega
        have n2 : Ba ≠ g := by omega
        have n3 : wr.heap.size ≠ g := by omega
        go_region_held3 (fun w' => w'.cell? ⟨w.heap.size, 4, none⟩ = some (.slice (some ⟨g, 0, none⟩) l.length cap') ∧ w'.cell? ⟨Ba, 0, none⟩ = some (anewF Ba) ∧ w'.cell? ⟨wr.heap.size, 0, none⟩ = some (.int .i64 kt) ∧ w'.cell? ⟨wr.heap.size, 1, none⟩ = some (.int .i64 nt) ∧ w'.cell? ⟨wr.heap.size, 2, none⟩ = some (.int .i64 dt) ∧ w'.cell? ⟨wr.heap.size, 3, none⟩ = some (.string st) ∧ w'.cell? ⟨wr.heap.size, 4, none⟩ = some (.slice pt lt.length capt))
          (first | (refine ⟨?_, ?_, ?_, ?_, ?_, ?_, ?_⟩ <;> with_reducible assumption) | (refine ⟨?_, ?_, ?_, ?_, ?_, ?_, ?_⟩ <;> ((with_reducible refine (cell_set5 ?_).trans ?_) <;> with_reducible assumption)) | exact ⟨b4, qa', x0, x1, x2, x3, x4⟩)
          ((go_at_call 75; refine (HC2.out).mono ?_; rintro _ w2 ⟨⟨ku, nu, du, su, pu, lenu, capu, rfl, hu⟩, hb2⟩
            have hbb : Below wr.heap.size wr w2 := below_seq HBX.out.drew hb2
            have hg3 := block_on hbb HG0.out
            have k0 : w2.cell? ⟨w.heap.size, 4, none⟩ = some (.slice (some ⟨g, 0, none⟩) l.length cap') := cell_on hb2 _ _ _ b4
            have k1 : w2.cell? ⟨Ba, 0, none⟩ = some (anewF Ba) := cell_on hb2 _ _ _ qa'
            have k2 : w2.cell? ⟨wr.heap.size, 0, none⟩ = some (.int .i64 kt) := cell_on hb2 _ _ _ x0
            have k3 : w2.cell? ⟨wr.heap.size, 1, none⟩ = some (.int .i64 nt) := cell_on hb2 _ _ _ x1
            have k4 : w2.cell? ⟨wr.heap.size, 2, none⟩ = some (.int .i64 dt) := cell_on hb2 _ _ _ x2
            have k5 : w2.cell? ⟨wr.heap.size, 3, none⟩ = some (.string st) := cell_on hb2 _ _ _ x3
            have k6 : w2.cell? ⟨wr.heap.size, 4, none⟩ = some (.slice pt lt.length capt) := cell_on hb2 _ _ _ x4
            have y0 := cell_on hbb _ _ _ d0
            have y1 := cell_on hbb _ _ _ d1
            have y2 := cell_on hbb _ _ _ d2
            have y3 := cell_on hbb _ _ _ d3
            have y4 := cell_on hbb _ _ _ d4
            have z0 := box_frozen hg3 (i * 5)
            have z1 := box_frozen hg3 (i * 5 + 1)
            have z2 := box_frozen hg3 (i * 5 + 2)
            have z3 := box_frozen hg3 (i * 5 + 3)
            have z4 := box_frozen hg3 (i * 5 + 4)
            have HG3 := Lib.hid hg3
            have HBB := Lib.hid hbb
            have HU := Lib.hid hu
            clear hg3 hbb hu hb2))
        go_wp2_with fail
        go_roundw
        case rel =>
          have hq1 := block_on HBB.out HQ1.out
          have hq2 := block_on HBB.out HQ2.out
          have hqa := cell_on HBB.out _ _ _ HQA0.out
          have hqb := below_seq HQB.out HBB.out
          have hne1 : w.heap.size ≠ g := by omega
          have hne2 : w.heap.size + 1 ≠ g := by omega
          have hst : ∀ b, b ≠ g → (((((w2.setCell ⟨g, i * 5, none⟩ (.int .i64 ku)).setCell ⟨g, i * 5 + 1, none⟩ (.int .i64 nu)).setCell ⟨g, i * 5 + 2, none⟩ (.int .i64 du)).setCell ⟨g, i * 5 + 3, none⟩ (.string su)).setCell ⟨g, i * 5 + 4, none⟩ (.slice pu lenu capu)).heap[b]? = w2.heap[b]? := fun b hb => set_five_at_other hb
          have hoff := fun (b o : Nat) (v : Value) (hv : (off w2 (plus X w.heap.size g)).cell? ⟨b, o, none⟩ = some v) => off_on (w' := ((((w2.setCell ⟨g, i * 5, none⟩ (.int .i64 ku)).setCell ⟨g, i * 5 + 1, none⟩ (.int .i64 nu)).setCell ⟨g, i * 5 + 2, none⟩ (.int .i64 du)).setCell ⟨g, i * 5 + 3, none⟩ (.string su)).setCell ⟨g, i * 5 + 4, none⟩ (.slice pu lenu capu)) (X := plus X w.heap.size g) (Y := plus X w.heap.size g) (fun _ _ hx => hx) (fun b _ hx => hst b (plus_no.1 hx).2.2.2) b o v hv
          refine ⟨i + 1, by omega, by go_num, (hst _ hne1).trans hq1, (hst _ hne2).trans hq2, ?_, Or.inr ⟨rfl, hg2, _, set_five_at HG3.out, by simpa using HCS.out, ?_⟩, ?_⟩
          · exact (World.cell?_of_block (hst Ba (by omega))).trans hqa
          · exact ((HROW.out).on (off_later HBB.out) |>.on hoff).set HT.out HCS.out ((HU.out).on hoff)
          · exact ((((hqb.setCell (by show w.heap.size ≤ g; omega) _).setCell (by show w.heap.size ≤ g; omega) _).setCell (by show w.heap.size ≤ g; omega) _).setCell (by show w.heap.size ≤ g; omega) _).setCell (by show w.heap.size ≤ g; omega) _
        case measure => simp [intOf]; omega
      · obtain ⟨c0, c1, c2, c3, c4⟩ := box_cells q1
        have z0 := box_frozen q2 0
        have z1 := box_frozen q2 1
        have z2 := box_frozen q2 2
        have z3 := box_frozen q2 3
        have z4 := box_frozen q2 4
        obtain ⟨r0, r1, r2, r3, r4⟩ := box_cells q2
        have HQ2 := Lib.hid q2
        have HQC := Lib.hid qc
        have HQB := Lib.hid qb
        clear q1 q2 qc qb qa
        go_wp2_with fail
        have hr2 := set_five (b0 := .int .i64 k) (b1 := .int .i64 n) (b2 := .int .i64 d) (b3 := .string s) (b4 := .slice p' l.length cap') HQ2.out
        refine bodyPost_ret (results_cell_row rfl _ _ (w.heap.size + 1) 37 _ (0, 0) _ rfl hr2 Try.underlying37 rfl Try.cellDt) rfl ?_
        refine ⟨⟨k, n, d, s, p', l.length, cap', rfl, ?_⟩, set_five_below HQB.out (Nat.le_succ _)⟩
        unfold Dt.At
        refine ⟨HHEAD.out.1, HHEAD.out.2.1, HHEAD.out.2.2.1, HHEAD.out.2.2.2.1, HHEAD.out.2.2.2.2, p', cap', rfl, ?_⟩
        rcases HQC.out with h | ⟨e, hg2, cur, hgg, hcs, hrow⟩
        · exact Or.inl h
        · have hgX : X (gOf p') = false := HX.out _ (by omega)
          have hst : ∀ b, b ≠ w.heap.size + 1 → (((((wr.setCell ⟨w.heap.size + 1, 0, none⟩ (.int .i64 k)).setCell ⟨w.heap.size + 1, 1, none⟩ (.int .i64 n)).setCell ⟨w.heap.size + 1, 2, none⟩ (.int .i64 d)).setCell ⟨w.heap.size + 1, 3, none⟩ (.string s)).setCell ⟨w.heap.size + 1, 4, none⟩ (.slice p' l.length cap')).heap[b]? = wr.heap[b]? := fun b hb => set_five_other hb
          refine Or.inr ⟨gOf p', 0, e, RowIs.allAt (cur := cur) (fun j u hj => off_cell.2 ⟨hgX, ?_⟩) (hrow.on (off_on (fun b _ hx => (plus_no.1 hx).1) fun b _ hx => hst b (plus_no.1 hx).2.2.1))⟩
          rw [cell_of_block ((hst _ (by omega)).trans hgg)]
          exact hj
end Go.Proofs.Ytdeelpagoffdjaa.Dat

/- The program's own copied. -/
namespace Go.Proofs.Ytdeelpagoffdjaa.Dat
open Go.RowKit
set_option linter.unusedVariables false

set_option maxHeartbeats 2000000 in
set_option maxRecDepth 100000 in
/-- A copy of a datum is the datum. -/
theorem copied_any (t : Dt) (X : Nat → Bool) (v : Value) (w : World) (hX : ∀ b, w.heap.size ≤ b → X b = false) (hat : t.At (off w X) v) (hslim : t.slim) :
    Calls Try.prog 37 #[v] w fun e w' => (∃ k n d s p len cap, e = .returned (.agg #[.int .i64 k, .int .i64 n, .int .i64 d, .string s, .slice p len cap]) ∧ t.At (off w' X) (.agg #[.int .i64 k, .int .i64 n, .int .i64 d, .string s, .slice p len cap])) ∧ Below w.heap.size w w' := by
  have hmf : ∀ (fn : Fn) (first cap : Array Value) (w : World), (Instr.makeFunc fn first cap).run Try.prog w = .ok (.func fn first cap) w := fun _ _ _ _ => rfl
  have hatw : t.At w v := hat.on fun b o v hv => (off_cell.1 hv).2
  have C1 := fun w' (h : Below w.heap.size w w') => all58_any _ hold58 t v w' (hatw.below h)
  have C2 := fun w' (h : Below w.heap.size w w') (hsz : w.heap.size + 2 ≤ w'.heap.size) Ba ha => anew_any _ t (Nat.le_refl _) (more X w.heap.size) v w' Ba (fun b hb => more_no.2 ⟨hX b (Nat.le_trans h.size hb), by omega, by omega⟩) (hat.on (old_off h)) hslim ha
  have HAT := Lib.hid hat
  obtain ⟨r, hr⟩ : ∃ r, t.whole (fun _ => true) 0 = r := ⟨_, rfl⟩
  rw [hr] at C1
  have HC1 := Lib.hid C1
  have HC2 := Lib.hid C2
  clear C1 C2 hr hatw hX hslim
  obtain ⟨k, n, d, s, l⟩ := t
  unfold Dt.At at hat
  obtain ⟨hk, hn, hd, hs, hlm, p, cap, rfl, hl⟩ := hat
  clear hk hn hd hs hlm hl
  have HBT := Lib.hid (two_below w (.cells #[.int .i64 k, .int .i64 n, .int .i64 d, .string s, .slice p l.length cap] 37) (.cells #[.int .i64 0, .int .i64 0, .int .i64 0, .string ⟨#[]⟩, .slice none 0 0] 37))
  have HX1 := Lib.hid (two_first w (.cells #[.int .i64 k, .int .i64 n, .int .i64 d, .string s, .slice p l.length cap] 37) (.cells #[.int .i64 0, .int .i64 0, .int .i64 0, .string ⟨#[]⟩, .slice none 0 0] 37))
  have HX2 := Lib.hid (two_second w (.cells #[.int .i64 k, .int .i64 n, .int .i64 d, .string s, .slice p l.length cap] 37) (.cells #[.int .i64 0, .int .i64 0, .int .i64 0, .string ⟨#[]⟩, .slice none 0 0] 37))
  go_enter Try.func37, Try.ntmps37
  go_wp2_with fail
  refine (HC1.out _ HBT.out).mono ?_
  rintro _ w1 ⟨rfl, hb1⟩
  have h1 := block_on hb1 HX1.out
  have h2 := block_on hb1 HX2.out
  have HB1 := Lib.hid (below_seq HBT.out hb1); clear hb1
  cases r
  · obtain ⟨c0, c1, c2, c3, c4⟩ := box_cells h1
    have z0 := box_frozen h2 0
    have z1 := box_frozen h2 1
    have z2 := box_frozen h2 2
    have z3 := box_frozen h2 3
    have z4 := box_frozen h2 4
    obtain ⟨r0, r1, r2, r3, r4⟩ := box_cells h2
    have H2 := Lib.hid h2
    clear h1 h2
    go_wp2_with fail
    have hr2 := set_five (b0 := .int .i64 k) (b1 := .int .i64 n) (b2 := .int .i64 d) (b3 := .string s) (b4 := .slice p l.length cap) H2.out
    refine bodyPost_ret (results_cell_row rfl _ _ (w.heap.size + 1) 37 _ (0, 0) _ rfl hr2 Try.underlying37 rfl Try.cellDt) rfl ?_
    refine ⟨⟨k, n, d, s, p, l.length, cap, rfl, (HAT.out).on (off_later (set_five_below HB1.out (Nat.le_succ _)))⟩, set_five_below HB1.out (Nat.le_succ _)⟩
  · have hb2 := box_below w1 (.cells #[anewF w1.heap.size] 61)
    have h1' := block_on hb2 h1
    have h2' := block_on hb2 h2
    obtain ⟨c0, c1, c2, c3, c4⟩ := box_cells h1'
    have HB2 := Lib.hid (below_seq HB1.out hb2)
    have H2 := Lib.hid h2'
    have hnew := at_new w1 (.cells #[anewF w1.heap.size] 61)
    have HNEW := Lib.hid (cell_of_one hnew)
    have HSZ := Lib.hid (show w.heap.size + 2 ≤ (w1.alloc (.cells #[anewF w1.heap.size] 61)).heap.size from by have := lt_of_block h2'; omega)
    clear h1 h2 hb2 h1' h2' hnew
    go_wp2_with fail
    refine (HC2.out _ HB2.out HSZ.out w1.heap.size HNEW.out).mono ?_
    rintro _ w2 ⟨⟨ku, nu, du, su, pu, lenu, capu, rfl, hu⟩, hb3⟩
    have h2 := block_on hb3 H2.out
    have z0 := box_frozen h2 0
    have z1 := box_frozen h2 1
    have z2 := box_frozen h2 2
    have z3 := box_frozen h2 3
    have z4 := box_frozen h2 4
    obtain ⟨r0, r1, r2, r3, r4⟩ := box_cells h2
    have H3 := Lib.hid h2
    have HB3 := Lib.hid (below_seq HB2.out hb3)
    have HU := Lib.hid hu
    clear h2 hb3 hu c0 c1 c2 c3 c4
    go_wp2_with fail
    have hr2 := set_five (b0 := .int .i64 ku) (b1 := .int .i64 nu) (b2 := .int .i64 du) (b3 := .string su) (b4 := .slice pu lenu capu) H3.out
    refine bodyPost_ret (results_cell_row rfl _ _ (w.heap.size + 1) 37 _ (0, 0) _ rfl hr2 Try.underlying37 rfl Try.cellDt) rfl ?_
    refine ⟨⟨ku, nu, du, su, pu, lenu, capu, rfl, ?_⟩, set_five_below HB3.out (Nat.le_succ _)⟩
    exact (HU.out).on (off_on (fun b _ hx => (more_no.1 hx).1) fun b _ hx => set_five_other (more_no.1 hx).2.2)
end Go.Proofs.Ytdeelpagoffdjaa.Dat
