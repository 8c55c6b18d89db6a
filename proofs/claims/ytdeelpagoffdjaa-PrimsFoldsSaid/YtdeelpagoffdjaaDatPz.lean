/- The reference's Right, at every datum. -/
import Derived.Test.YtdeelpagoffdjaaDatR
import Derived.ProofKit
import Derived.OpenShut
import Derived.Deep.Slices
import Derived.Laws.AppendOwn
import Derived.Laws.OwnMore
import Derived.Test.YtdeelpagoffdjaaDatU


namespace Go.Proofs.Ytdeelpagoffdjaa.Dat
open Go.RowKit
set_option linter.unusedVariables false

theorem head_out {R : Int → Int → Bool} {Nm : ByteArray → Bool} {k n d : Int} {s : ByteArray} {len : Nat} (h : k < 0 ∨ 7 < k) : headRight R Nm k n d s len = false := by
  unfold headRight
  by_cases h0 : 0 ≤ k
  · rw [decide_eq_false (by omega : ¬ k ≤ 7)]; simp
  · rw [decide_eq_false h0]; simp

set_option maxHeartbeats 1000000 in
set_option maxRecDepth 100000 in
theorem right_deep (R : Int → Int → Bool) (Nm : ByteArray → Bool) (k n d : Int) (s : ByteArray) (l : List Dt) (p : Option Addr) (cap : Nat) (D : Int) (deep : Nat) (w : World) (hk : I64 k) (hD : D = (deep : Int)) (h1 : deep ≤ 201) (h : 200 < deep ∨ k < 0 ∨ 7 < k) :
    Calls Try.prog 61 #[.agg #[.int .i64 k, .int .i64 n, .int .i64 d, .string s, .slice p l.length cap], .int .i64 D] w fun e w' => e = .returned (.bool ((Dt.node k n d s l).right R Nm deep)) ∧ Below w.heap.size w w' := by
  have hr : (Dt.node k n d s l).right R Nm deep = false := by
    conv => lhs; unfold Dt.right
    rcases h with h | h
    · rw [decide_eq_false (by omega)]; simp
    · rw [head_out h]; simp
  have D0 : 0 ≤ D := by omega
  have D1 : D ≤ 201 := by omega
  have hw : 200 < D ∨ (D ≤ 200 ∧ k < 0) ∨ (D ≤ 200 ∧ 0 ≤ k ∧ 7 < k) := by omega
  obtain ⟨k0, k1⟩ := hk
  have HR := Lib.hid hr; clear hr hD h1 h
  rcases hw with h | ⟨h, h2⟩ | ⟨h, h2, h3⟩
  all_goals
    go_enter Try.func61, Try.ntmps61
    go_wp2
    go_ret
    exact ⟨ret_bool (by rw [HR.out]), (Below.refl _ _).alloc (Nat.le_refl _) _⟩

theorem right_any (R : Int → Int → Bool) (Nm : ByteArray → Bool) (hR : RCall R) (hNm : NCall Nm) (N : Nat) : ∀ t : Dt, t.size ≤ N → RightAt R Nm t := by
  induction N with
  | zero => intro t h; have := t.size_pos; omega
  | succ N ih =>
    intro t hN v D deep w hat hD h1
    obtain ⟨k, n, d, s, l⟩ := t
    unfold Dt.At at hat
    obtain ⟨hk, hn, hd, hs, hlm, p, cap, rfl, hl⟩ := hat
    by_cases hout : 200 < deep ∨ k < 0 ∨ 7 < k
    · exact right_deep R Nm k n d s l p cap D deep w hk hD h1 hout
    · have ih' : ∀ t, t ∈ l → RightAt R Nm t := by
        intro t ht
        obtain ⟨i, hi⟩ := List.mem_iff_getElem?.1 ht
        have := Dt.size_kid hi
        unfold Dt.size at hN
        exact ih t (by omega)
      have hk8 : k = 0 ∨ k = 1 ∨ k = 2 ∨ k = 3 ∨ k = 4 ∨ k = 5 ∨ k = 6 ∨ k = 7 := by omega
      rcases hk8 with rfl | rfl | rfl | rfl | rfl | rfl | rfl | rfl
      · exact right_k0 R Nm hR hNm n d s l ih' p cap D deep w hn hd hs hlm hl hD (by omega)
      · exact right_k1 R Nm hR hNm n d s l ih' p cap D deep w hn hd hs hlm hl hD (by omega)
      · exact right_k2 R Nm hR hNm n d s l ih' p cap D deep w hn hd hs hlm hl hD (by omega)
      · exact right_k3 R Nm hR hNm n d s l ih' p cap D deep w hn hd hs hlm hl hD (by omega)
      · exact right_k4 R Nm hR hNm n d s l ih' p cap D deep w hn hd hs hlm hl hD (by omega)
      · exact right_k5 R Nm hR hNm n d s l ih' p cap D deep w hn hd hs hlm hl hD (by omega)
      · exact right_k6 R Nm hR hNm n d s l ih' p cap D deep w hn hd hs hlm hl hD (by omega)
      · exact right_k7 R Nm hR hNm n d s l ih' p cap D deep w hn hd hs hlm hl hD (by omega)


set_option maxHeartbeats 400000 in
set_option maxRecDepth 100000 in
theorem Right_any (R : Int → Int → Bool) (Nm : ByteArray → Bool) (hR : RCall R) (hNm : NCall Nm) (t : Dt) (v : Value) (w : World) (hat : t.At w v) :
    Calls Try.prog 32 #[v] w fun e w' => e = .returned (.bool (t.right R Nm 0)) ∧ Below w.heap.size w w' := by
  obtain ⟨k, n, d, s, l⟩ := t
  have C := fun w' (h : (Dt.node k n d s l).At w' v) => right_any R Nm hR hNm _ _ (Nat.le_refl _) v 0 0 w' h rfl (by omega)
  have hat2 := hat
  unfold Dt.At at hat2
  obtain ⟨hk, hn, hd, hs, hlm, p, cap, rfl, hl⟩ := hat2
  have HC := Lib.hid C; clear C
  have HAT := Lib.hid hat; clear hat hl hlm hs hk hn hd
  go_enter Try.func32, Try.ntmps32
  go_wp2_with fail
  refine (HC.out _ ((HAT.out).below ((Below.refl _ _).alloc (Nat.le_refl _) _))).mono ?_
  rintro _ w1 ⟨rfl, hb1⟩
  have HB1 := Lib.hid hb1; clear hb1
  go_wp2_with fail
  go_ret
  exact ⟨rfl, below_after HB1.out⟩

mutual
theorem Dt.few_size : ∀ (t : Dt) (m : Int), 0 ≤ m → ((t.size : Int) ≤ m → t.few m = m - t.size) ∧ (m < t.size → t.few m < 0)
  | .node _ _ _ _ l, m, h => by
    unfold Dt.few Dt.size
    have := Dt.fewAll_size l (m - 1) (by omega)
    constructor
    · intro h1; rw [this.1 (by omega)]; omega
    · intro h1; exact this.2 (by omega)
theorem Dt.fewAll_size : ∀ (l : List Dt) (m : Int), -1 ≤ m → ((Dt.sizes l : Int) ≤ m → Dt.fewAll l m = m - Dt.sizes l) ∧ (m < Dt.sizes l → Dt.fewAll l m < 0)
  | [], m, h => by unfold Dt.fewAll Dt.sizes; omega
  | t :: r, m, h => by
    unfold Dt.fewAll Dt.sizes
    have hp := t.size_pos
    split
    · rename_i h0
      have h1 := Dt.few_size t m h0
      have hb := t.few_bounds m h0
      have h2 := Dt.fewAll_size r (t.few m) hb.1
      constructor
      · intro h3
        have e := h1.1 (by omega)
        rw [h2.1 (by omega), e]; omega
      · intro h3
        by_cases h4 : (t.size : Int) ≤ m
        · have e := h1.1 h4
          exact h2.2 (by omega)
        · have e := h1.2 (by omega)
          exact h2.2 (by omega)
    · omega
end
theorem Dt.few_iff (t : Dt) (m : Int) (h : 0 ≤ m) : 0 ≤ t.few m ↔ (t.size : Int) ≤ m := by
  have := t.few_size m h
  constructor
  · intro h1; by_cases h2 : (t.size : Int) ≤ m
    · exact h2
    · have := this.2 (by omega); omega
  · intro h1; rw [this.1 h1]; omega
end Go.Proofs.Ytdeelpagoffdjaa.Dat

/- Texts of data, in plain Lean: no two that are right have the same. -/
namespace Go.Proofs.Ytdeelpagoffdjaa.Dat
open Go.RowKit
set_option linter.unusedVariables false

def Dt.kind : Dt → Int
  | .node k _ _ _ _ => k
/-- The text of a datum whose inside is this. -/
def wrapT (k : Int) (b : List UInt8) : List UInt8 := if k = 6 then 40 :: (b ++ [41]) else if k = 7 then 35 :: 40 :: (b ++ [41]) else b
/-- What stands behind the first one of a Pair, if this is the second one. -/
def tailT (k : Int) (b : List UInt8) : List UInt8 := if k = 6 then 32 :: b else if k = 4 then [] else 32 :: 46 :: 32 :: wrapT k b
def leafT (NT : Int → Int → List UInt8) (k n d : Int) (s : ByteArray) : List UInt8 :=
  if k = 0 then NT n d else if k = 1 then (if n = 1 then [35, 116] else [35, 102]) else if k = 2 then s.data.toList else if k = 3 then 34 :: (s.data.toList ++ [34]) else if k = 4 then [40, 41] else [35, 118]
mutual
def Dt.body (NT : Int → Int → List UInt8) : Dt → List UInt8
  | .node k n d s l => if k = 6 then Dt.pairB NT l else if k = 7 then Dt.seqB NT l else leafT NT k n d s
def Dt.pairB (NT : Int → Int → List UInt8) : List Dt → List UInt8
  | [] => []
  | a :: r => wrapT a.kind (a.body NT) ++ Dt.restB NT r
def Dt.restB (NT : Int → Int → List UInt8) : List Dt → List UInt8
  | [] => []
  | b :: _ => tailT b.kind (b.body NT)
def Dt.seqB (NT : Int → Int → List UInt8) : List Dt → List UInt8
  | [] => []
  | a :: r => wrapT a.kind (a.body NT) ++ Dt.moreB NT r
def Dt.moreB (NT : Int → Int → List UInt8) : List Dt → List UInt8
  | [] => []
  | a :: r => 32 :: (wrapT a.kind (a.body NT) ++ Dt.moreB NT r)
end
def Dt.text (NT : Int → Int → List UInt8) (t : Dt) : List UInt8 := wrapT t.kind (t.body NT)
def Dt.tail (NT : Int → Int → List UInt8) (t : Dt) : List UInt8 := tailT t.kind (t.body NT)

/-- What is asked of the numbers' texts and of names. -/
structure Sound (R : Int → Int → Bool) (Nm : ByteArray → Bool) (NT : Int → Int → List UInt8) : Prop where
  num : ∀ n d, R n d = true → NT n d ≠ [] ∧ (NT n d).all nameChar = true
  one : ∀ n d m e, R n d = true → R m e = true → NT n d = NT m e → n = m ∧ d = e
  sym : ∀ s, Nm s = true → s.data.toList ≠ [] ∧ s.data.toList.all nameChar = true
  other : ∀ n d s, R n d = true → Nm s = true → NT n d ≠ s.data.toList

abbrev nil8 : ByteArray := ⟨#[]⟩
/-- One that is right is one of these. -/
inductive View (R : Int → Int → Bool) (Nm : ByteArray → Bool) (deep : Nat) : Dt → Prop
  | num (n d : Int) : R n d = true → View R Nm deep (.node 0 n d nil8 [])
  | bool (n : Int) : n = 0 ∨ n = 1 → View R Nm deep (.node 1 n 0 nil8 [])
  | sym (s : ByteArray) : Nm s = true → View R Nm deep (.node 2 0 0 s [])
  | str (s : ByteArray) : s.data.toList.all strChar = true → View R Nm deep (.node 3 0 0 s [])
  | null : View R Nm deep (.node 4 0 0 nil8 [])
  | void : View R Nm deep (.node 5 0 0 nil8 [])
  | pair (a b : Dt) : a.right R Nm (deep + 1) = true → b.right R Nm (deep + 1) = true → View R Nm deep (.node 6 0 0 nil8 [a, b])
  | vec (l : List Dt) : Dt.rightAll R Nm l (deep + 1) = true → View R Nm deep (.node 7 0 0 nil8 l)

theorem list0 {α : Type} {l : List α} (h : l.length = 0) : l = [] := List.eq_nil_of_length_eq_zero h
theorem list2 {α : Type} {l : List α} (h : l.length = 2) : ∃ a b, l = [a, b] := by
  match l, h with
  | [a, b], _ => exact ⟨a, b, rfl⟩
theorem view_of {R : Int → Int → Bool} {Nm : ByteArray → Bool} {t : Dt} {deep : Nat} (h : t.right R Nm deep = true) : View R Nm deep t := by
  obtain ⟨k, n, d, s, l⟩ := t
  unfold Dt.right at h
  rw [Bool.and_eq_true, Bool.and_eq_true] at h
  obtain ⟨⟨h1, h2⟩, h3⟩ := h
  unfold headRight at h2
  simp only [Bool.and_eq_true, decide_eq_true_eq] at h2
  obtain ⟨⟨⟨⟨⟨⟨k0, k7⟩, hd⟩, hn⟩, hs⟩, hc⟩, hl⟩ := h2
  have hk8 : k = 0 ∨ k = 1 ∨ k = 2 ∨ k = 3 ∨ k = 4 ∨ k = 5 ∨ k = 6 ∨ k = 7 := by omega
  rcases hk8 with rfl | rfl | rfl | rfl | rfl | rfl | rfl | rfl
  · simp at hd hn hs hl; obtain rfl : s = nil8 := hs; obtain rfl := hl; exact .num _ _ hd
  · simp at hd hn hs hl; obtain rfl : s = nil8 := hs; obtain rfl := hl; obtain rfl := hd; exact .bool _ hn
  · simp at hd hn hs hl; obtain rfl := hl; obtain rfl := hd; obtain rfl := hn; exact .sym _ hs
  · simp at hd hn hl; obtain rfl := hl; obtain rfl := hd; obtain rfl := hn; exact .str _ hc
  · simp at hd hn hs hl; obtain rfl : s = nil8 := hs; obtain rfl := hl; obtain rfl := hd; obtain rfl := hn; exact .null
  · simp at hd hn hs hl; obtain rfl : s = nil8 := hs; obtain rfl := hl; obtain rfl := hd; obtain rfl := hn; exact .void
  · simp at hd hn hs hl; obtain rfl : s = nil8 := hs; obtain ⟨a, b, rfl⟩ := list2 hl; obtain rfl := hd; obtain rfl := hn
    unfold Dt.rightAll Dt.rightAll at h3
    simp only [Bool.and_eq_true] at h3
    exact .pair _ _ h3.1 h3.2.1
  · simp at hd hn hs; obtain rfl : s = nil8 := hs; obtain rfl := hd; obtain rfl := hn; exact .vec _ h3

/-- Nothing, or a blank or a bracket first. -/
def Del (r : List UInt8) : Prop := r = [] ∨ ∃ c q, r = c :: q ∧ (c = 32 ∨ c = 41)
theorem atoms : ∀ {a b r r' : List UInt8}, a.all nameChar = true → b.all nameChar = true → Del r → Del r' → a ++ r = b ++ r' → a = b ∧ r = r'
  | [], [], _, _, _, _, _, _, h => ⟨rfl, h⟩
  | [], c :: b, r, r', _, hb, hr, _, h => by
    simp only [List.all_cons, Bool.and_eq_true] at hb
    rcases hr with rfl | ⟨x, q, rfl, hx⟩
    · simp at h
    · simp only [List.nil_append, List.cons_append, List.cons.injEq] at h
      obtain ⟨rfl, _⟩ := h
      rcases hx with rfl | rfl
      · exact absurd hb.1 (by decide)
      · exact absurd hb.1 (by decide)
  | c :: a, [], r, r', ha, _, _, hr, h => by
    simp only [List.all_cons, Bool.and_eq_true] at ha
    rcases hr with rfl | ⟨x, q, rfl, hx⟩
    · simp at h
    · simp only [List.nil_append, List.cons_append, List.cons.injEq] at h
      obtain ⟨rfl, _⟩ := h
      rcases hx with rfl | rfl
      · exact absurd ha.1 (by decide)
      · exact absurd ha.1 (by decide)
  | c :: a, c' :: b, r, r', ha, hb, hr, hr', h => by
    simp only [List.all_cons, Bool.and_eq_true] at ha hb
    simp only [List.cons_append, List.cons.injEq] at h
    obtain ⟨rfl, h⟩ := h
    obtain ⟨rfl, rfl⟩ := atoms ha.2 hb.2 hr hr' h
    exact ⟨rfl, rfl⟩
theorem strs : ∀ {a b r r' : List UInt8}, a.all strChar = true → b.all strChar = true → a ++ 34 :: r = b ++ 34 :: r' → a = b ∧ r = r'
  | [], [], _, _, _, _, h => by simp at h; exact ⟨rfl, h⟩
  | [], c :: b, r, r', _, hb, h => by
    simp only [List.all_cons, Bool.and_eq_true] at hb
    simp only [List.nil_append, List.cons_append, List.cons.injEq] at h
    obtain ⟨rfl, _⟩ := h
    exact absurd hb.1 (by decide)
  | c :: a, [], r, r', ha, _, h => by
    simp only [List.all_cons, Bool.and_eq_true] at ha
    simp only [List.nil_append, List.cons_append, List.cons.injEq] at h
    obtain ⟨rfl, _⟩ := h
    exact absurd ha.1 (by decide)
  | c :: a, c' :: b, r, r', ha, hb, h => by
    simp only [List.all_cons, Bool.and_eq_true] at ha hb
    simp only [List.cons_append, List.cons.injEq] at h
    obtain ⟨rfl, h⟩ := h
    obtain ⟨rfl, rfl⟩ := strs ha.2 hb.2 h
    exact ⟨rfl, rfl⟩

variable {NT : Int → Int → List UInt8}
theorem text_num (n d : Int) (s : ByteArray) (l : List Dt) : (Dt.node 0 n d s l).text NT = NT n d := by simp [Dt.text, Dt.kind, Dt.body, wrapT, leafT]
theorem text_bool (n d : Int) (s : ByteArray) (l : List Dt) : (Dt.node 1 n d s l).text NT = if n = 1 then [35, 116] else [35, 102] := by simp [Dt.text, Dt.kind, Dt.body, wrapT, leafT]
theorem text_sym (n d : Int) (s : ByteArray) (l : List Dt) : (Dt.node 2 n d s l).text NT = s.data.toList := by simp [Dt.text, Dt.kind, Dt.body, wrapT, leafT]
theorem text_str (n d : Int) (s : ByteArray) (l : List Dt) : (Dt.node 3 n d s l).text NT = 34 :: (s.data.toList ++ [34]) := by simp [Dt.text, Dt.kind, Dt.body, wrapT, leafT]
theorem text_null (n d : Int) (s : ByteArray) (l : List Dt) : (Dt.node 4 n d s l).text NT = [40, 41] := by simp [Dt.text, Dt.kind, Dt.body, wrapT, leafT]
theorem text_void (n d : Int) (s : ByteArray) (l : List Dt) : (Dt.node 5 n d s l).text NT = [35, 118] := by simp [Dt.text, Dt.kind, Dt.body, wrapT, leafT]
theorem text_pair (n d : Int) (s : ByteArray) (a b : Dt) : (Dt.node 6 n d s [a, b]).text NT = 40 :: (a.text NT ++ b.tail NT ++ [41]) := by simp [Dt.text, Dt.tail, Dt.kind, Dt.body, wrapT, Dt.pairB, Dt.restB]
theorem text_vec (n d : Int) (s : ByteArray) (l : List Dt) : (Dt.node 7 n d s l).text NT = 35 :: 40 :: (Dt.seqB NT l ++ [41]) := by simp [Dt.text, Dt.kind, Dt.body, wrapT]
theorem tail_pair (n d : Int) (s : ByteArray) (a b : Dt) : (Dt.node 6 n d s [a, b]).tail NT = 32 :: (a.text NT ++ b.tail NT) := by simp [Dt.text, Dt.tail, Dt.kind, Dt.body, tailT, Dt.pairB, Dt.restB]
theorem tail_null (n d : Int) (s : ByteArray) (l : List Dt) : (Dt.node 4 n d s l).tail NT = [] := by simp [Dt.tail, Dt.kind, tailT]
theorem tail_else {t : Dt} (h6 : t.kind ≠ 6) (h4 : t.kind ≠ 4) : t.tail NT = 32 :: 46 :: 32 :: t.text NT := by simp [Dt.text, Dt.tail, tailT, h6, h4]
theorem moreB_cons (a : Dt) (r : List Dt) : Dt.moreB NT (a :: r) = 32 :: (a.text NT ++ Dt.moreB NT r) := by simp [Dt.moreB, Dt.text]
theorem seqB_cons (a : Dt) (r : List Dt) : Dt.seqB NT (a :: r) = a.text NT ++ Dt.moreB NT r := by simp [Dt.seqB, Dt.text]

theorem cons_of {p : UInt8 → Bool} {l : List UInt8} (h : l ≠ []) (ha : l.all p = true) : ∃ c q, l = c :: q ∧ p c = true := by
  cases l with
  | nil => exact absurd rfl h
  | cons c q => simp only [List.all_cons, Bool.and_eq_true] at ha; exact ⟨c, q, rfl, ha.1⟩
/-- How a text begins. -/
theorem text_first {R : Int → Int → Bool} {Nm : ByteArray → Bool} (S : Sound R Nm NT) {t : Dt} {deep : Nat} (h : t.right R Nm deep = true) : ∃ c q, t.text NT = c :: q ∧ c ≠ 41 ∧ c ≠ 46 ∧ c ≠ 32 := by
  rcases view_of h with ⟨n, d, hr⟩ | ⟨n, hn⟩ | ⟨s, hs⟩ | ⟨s, hs⟩ | _ | _ | ⟨a, b, ha, hb⟩ | ⟨l, hl⟩
  · obtain ⟨c, q, e, hc⟩ := cons_of (S.num n d hr).1 (S.num n d hr).2
    exact ⟨c, q, by rw [text_num, e], by rintro rfl; exact absurd hc (by decide), by rintro rfl; exact absurd hc (by decide), by rintro rfl; exact absurd hc (by decide)⟩
  · rw [text_bool]; split <;> exact ⟨_, _, rfl, by decide, by decide, by decide⟩
  · obtain ⟨c, q, e, hc⟩ := cons_of (S.sym s hs).1 (S.sym s hs).2
    exact ⟨c, q, by rw [text_sym, e], by rintro rfl; exact absurd hc (by decide), by rintro rfl; exact absurd hc (by decide), by rintro rfl; exact absurd hc (by decide)⟩
  · exact ⟨_, _, text_str .., by decide, by decide, by decide⟩
  · exact ⟨_, _, text_null .., by decide, by decide, by decide⟩
  · exact ⟨_, _, text_void .., by decide, by decide, by decide⟩
  · exact ⟨_, _, text_pair .., by decide, by decide, by decide⟩
  · exact ⟨_, _, text_vec .., by decide, by decide, by decide⟩
theorem del_tail {t : Dt} (r : List UInt8) {R : Int → Int → Bool} {Nm : ByteArray → Bool} {deep : Nat} (h : t.right R Nm deep = true) : Del (t.tail NT ++ 41 :: r) := by
  right
  by_cases h4 : t.kind = 4
  · obtain ⟨k, n, d, s, l⟩ := t
    obtain rfl : k = 4 := h4
    exact ⟨41, r, by rw [tail_null]; rfl, Or.inr rfl⟩
  · by_cases h6 : t.kind = 6
    · rcases view_of h with ⟨n, d, hr⟩ | ⟨n, hn⟩ | ⟨s, hs⟩ | ⟨s, hs⟩ | _ | _ | ⟨a, b, ha, hb⟩ | ⟨l, hl⟩ <;> first | (simp [Dt.kind] at h6; done) | skip
      exact ⟨32, _, by rw [tail_pair]; rfl, Or.inl rfl⟩
    · exact ⟨32, _, by rw [tail_else h6 h4]; rfl, Or.inl rfl⟩
theorem del_more (l : List Dt) (r : List UInt8) : Del (Dt.moreB NT l ++ 41 :: r) := by
  right
  cases l with
  | nil => exact ⟨41, r, by simp [Dt.moreB], Or.inr rfl⟩
  | cons a q => exact ⟨32, _, by rw [moreB_cons]; rfl, Or.inl rfl⟩

def TextOne (R : Int → Int → Bool) (Nm : ByteArray → Bool) (NT : Int → Int → List UInt8) (t : Dt) : Prop :=
  ∀ (t' : Dt) (deep deep' : Nat) (r r' : List UInt8), t.right R Nm deep = true → t'.right R Nm deep' = true → Del r → Del r' → t.text NT ++ r = t'.text NT ++ r' → t = t' ∧ r = r'
def TailOne (R : Int → Int → Bool) (Nm : ByteArray → Bool) (NT : Int → Int → List UInt8) (t : Dt) : Prop :=
  ∀ (t' : Dt) (deep deep' : Nat) (r r' : List UInt8), t.right R Nm deep = true → t'.right R Nm deep' = true → t.tail NT ++ 41 :: r = t'.tail NT ++ 41 :: r' → t = t' ∧ r = r'

theorem tail_one {R : Int → Int → Bool} {Nm : ByteArray → Bool} (S : Sound R Nm NT) {t : Dt} (U : TextOne R Nm NT t) (ih : ∀ x, x.size < t.size → TextOne R Nm NT x ∧ TailOne R Nm NT x) : TailOne R Nm NT t := by
  intro t' deep deep' r r' h h' e
  have dl : ∀ q : List UInt8, Del (41 :: q) := fun q => Or.inr ⟨41, q, rfl, Or.inr rfl⟩
  by_cases h4 : t.kind = 4 <;> by_cases h4' : t'.kind = 4
  · rcases view_of h with ⟨n, d, hr⟩ | ⟨n, hn⟩ | ⟨s, hs⟩ | ⟨s, hs⟩ | _ | _ | ⟨a, b, ha, hb⟩ | ⟨l, hl⟩ <;> first | (simp [Dt.kind] at h4; done) | skip
    rcases view_of h' with ⟨n, d, hr⟩ | ⟨n, hn⟩ | ⟨s, hs⟩ | ⟨s, hs⟩ | _ | _ | ⟨a, b, ha, hb⟩ | ⟨l, hl⟩ <;> first | (simp [Dt.kind] at h4'; done) | skip
    rw [tail_null] at e; simp at e; exact ⟨rfl, e⟩
  · exfalso
    obtain ⟨k, n, d, s, l⟩ := t
    obtain rfl : k = 4 := h4
    rw [tail_null] at e
    by_cases h6 : t'.kind = 6
    · rcases view_of h' with ⟨n, d, hr⟩ | ⟨n, hn⟩ | ⟨s, hs⟩ | ⟨s, hs⟩ | _ | _ | ⟨a, b, ha, hb⟩ | ⟨l, hl⟩ <;> first | (simp [Dt.kind] at h6; done) | skip
      rw [tail_pair] at e; simp at e
    · rw [tail_else h6 h4'] at e; simp at e
  · exfalso
    obtain ⟨k, n, d, s, l⟩ := t'
    obtain rfl : k = 4 := h4'
    rw [tail_null] at e
    by_cases h6 : t.kind = 6
    · rcases view_of h with ⟨n, d, hr⟩ | ⟨n, hn⟩ | ⟨s, hs⟩ | ⟨s, hs⟩ | _ | _ | ⟨a, b, ha, hb⟩ | ⟨l, hl⟩ <;> first | (simp [Dt.kind] at h6; done) | skip
      rw [tail_pair] at e; simp at e
    · rw [tail_else h6 h4] at e; simp at e
  · by_cases h6 : t.kind = 6 <;> by_cases h6' : t'.kind = 6
    · rcases view_of h with ⟨n, d, hr⟩ | ⟨n, hn⟩ | ⟨s, hs⟩ | ⟨s, hs⟩ | _ | _ | ⟨a, b, ha, hb⟩ | ⟨l, hl⟩ <;> first | (simp [Dt.kind] at h6; done) | skip
      rcases view_of h' with ⟨n, d, hr⟩ | ⟨n, hn⟩ | ⟨s, hs⟩ | ⟨s, hs⟩ | _ | _ | ⟨a', b', ha', hb'⟩ | ⟨l, hl⟩ <;> first | (simp [Dt.kind] at h6'; done) | skip
      rw [tail_pair, tail_pair] at e
      simp only [List.cons_append, List.append_assoc, List.cons.injEq, true_and] at e
      have sz : a.size < (Dt.node 6 0 0 nil8 [a, b]).size ∧ b.size < (Dt.node 6 0 0 nil8 [a, b]).size := by
        have := a.size_pos; have := b.size_pos
        simp only [Dt.size, Dt.sizes]; omega
      obtain ⟨rfl, e2⟩ := (ih a sz.1).1 a' _ _ _ _ ha ha' (del_tail _ hb) (del_tail _ hb') e
      obtain ⟨rfl, e3⟩ := (ih b sz.2).2 b' _ _ _ _ hb hb' e2
      exact ⟨rfl, e3⟩
    · exfalso
      rcases view_of h with ⟨n, d, hr⟩ | ⟨n, hn⟩ | ⟨s, hs⟩ | ⟨s, hs⟩ | _ | _ | ⟨a, b, ha, hb⟩ | ⟨l, hl⟩ <;> first | (simp [Dt.kind] at h6; done) | skip
      obtain ⟨c, q, ec, _, c46, _⟩ := text_first S ha
      rw [tail_pair, tail_else h6' h4', ec] at e
      simp at e; exact c46 e.1
    · exfalso
      rcases view_of h' with ⟨n, d, hr⟩ | ⟨n, hn⟩ | ⟨s, hs⟩ | ⟨s, hs⟩ | _ | _ | ⟨a, b, ha, hb⟩ | ⟨l, hl⟩ <;> first | (simp [Dt.kind] at h6'; done) | skip
      obtain ⟨c, q, ec, _, c46, _⟩ := text_first S ha
      rw [tail_pair, tail_else h6 h4, ec] at e
      simp at e; exact c46 e.1.symm
    · rw [tail_else h6 h4, tail_else h6' h4'] at e
      simp only [List.cons_append, List.cons.injEq, true_and] at e
      obtain ⟨rfl, e⟩ := U t' _ _ _ _ h h' (dl _) (dl _) e
      simp at e
      exact ⟨rfl, e⟩

theorem more_one {R : Int → Int → Bool} {Nm : ByteArray → Bool} : ∀ (l l' : List Dt) (deep deep' : Nat) (r r' : List UInt8), (∀ x, x ∈ l → TextOne R Nm NT x) → Dt.rightAll R Nm l deep = true → Dt.rightAll R Nm l' deep' = true → Dt.moreB NT l ++ 41 :: r = Dt.moreB NT l' ++ 41 :: r' → l = l' ∧ r = r'
  | [], [], _, _, _, _, _, _, _, e => by simp [Dt.moreB] at e; exact ⟨rfl, e⟩
  | [], x :: q, _, _, _, _, _, _, _, e => by rw [moreB_cons] at e; simp [Dt.moreB] at e
  | x :: q, [], _, _, _, _, _, _, _, e => by rw [moreB_cons] at e; simp [Dt.moreB] at e
  | x :: q, x' :: q', deep, deep', r, r', ih, h, h', e => by
    unfold Dt.rightAll at h h'
    rw [Bool.and_eq_true] at h h'
    rw [moreB_cons, moreB_cons] at e
    simp only [List.cons_append, List.append_assoc, List.cons.injEq, true_and] at e
    obtain ⟨rfl, e2⟩ := ih x (by simp) x' _ _ _ _ h.1 h'.1 (del_more _ _) (del_more _ _) e
    obtain ⟨rfl, e3⟩ := more_one q q' _ _ _ _ (fun y hy => ih y (by simp [hy])) h.2 h'.2 e2
    exact ⟨rfl, e3⟩
theorem seq_one {R : Int → Int → Bool} {Nm : ByteArray → Bool} (S : Sound R Nm NT) : ∀ (l l' : List Dt) (deep deep' : Nat) (r r' : List UInt8), (∀ x, x ∈ l → TextOne R Nm NT x) → Dt.rightAll R Nm l deep = true → Dt.rightAll R Nm l' deep' = true → Dt.seqB NT l ++ 41 :: r = Dt.seqB NT l' ++ 41 :: r' → l = l' ∧ r = r'
  | [], [], _, _, _, _, _, _, _, e => by simp [Dt.seqB] at e; exact ⟨rfl, e⟩
  | [], x :: q, _, _, _, _, _, _, h', e => by
    unfold Dt.rightAll at h'
    rw [Bool.and_eq_true] at h'
    obtain ⟨c, q, ec, c41, _, _⟩ := text_first S h'.1
    rw [seqB_cons, ec] at e; simp [Dt.seqB] at e; exact absurd e.1.symm c41
  | x :: q, [], _, _, _, _, _, h, _, e => by
    unfold Dt.rightAll at h
    rw [Bool.and_eq_true] at h
    obtain ⟨c, q, ec, c41, _, _⟩ := text_first S h.1
    rw [seqB_cons, ec] at e; simp [Dt.seqB] at e; exact absurd e.1 c41
  | x :: q, x' :: q', deep, deep', r, r', ih, h, h', e => by
    unfold Dt.rightAll at h h'
    rw [Bool.and_eq_true] at h h'
    rw [seqB_cons, seqB_cons] at e
    simp only [List.append_assoc] at e
    obtain ⟨rfl, e2⟩ := ih x (by simp) x' _ _ _ _ h.1 h'.1 (del_more _ _) (del_more _ _) e
    obtain ⟨rfl, e3⟩ := more_one q q' _ _ _ _ (fun y hy => ih y (by simp [hy])) h.2 h'.2 e2
    exact ⟨rfl, e3⟩

theorem Dt.size_mem {l : List Dt} {x : Dt} (h : x ∈ l) : x.size ≤ Dt.sizes l := by
  obtain ⟨i, hi⟩ := List.mem_iff_getElem?.1 h
  exact Dt.size_kid hi
theorem text_one {R : Int → Int → Bool} {Nm : ByteArray → Bool} (S : Sound R Nm NT) {t : Dt} (ih : ∀ x, x.size < t.size → TextOne R Nm NT x ∧ TailOne R Nm NT x) : TextOne R Nm NT t := by
  intro t' deep deep' r r' h h' hd hd' e
  have away : ∀ {c : UInt8} {q : List UInt8}, nameChar c = true → ∀ {x : UInt8} {y : List UInt8}, nameChar x = false → c :: q = x :: y → False := by
    intro c q hc x y hx he
    simp only [List.cons.injEq] at he
    rw [he.1, hx] at hc; cases hc
  rcases view_of h with ⟨n, d, hr⟩ | ⟨n, hn⟩ | ⟨s, hs⟩ | ⟨s, hs⟩ | _ | _ | ⟨a, b, ha, hb⟩ | ⟨l, hl⟩ <;>
    rcases view_of h' with ⟨n', d', hr'⟩ | ⟨n', hn'⟩ | ⟨s', hs'⟩ | ⟨s', hs'⟩ | _ | _ | ⟨a', b', ha', hb'⟩ | ⟨l', hl'⟩ <;>
    (try rw [text_num] at e) <;> (try rw [text_sym] at e) <;> (try rw [text_str] at e) <;> (try rw [text_null] at e) <;> (try rw [text_void] at e) <;> (try rw [text_pair] at e) <;> (try rw [text_vec] at e) <;> (try rw [text_bool] at e) <;>
    (try rw [text_num] at e) <;> (try rw [text_sym] at e) <;> (try rw [text_str] at e) <;> (try rw [text_null] at e) <;> (try rw [text_void] at e) <;> (try rw [text_pair] at e) <;> (try rw [text_vec] at e) <;> (try rw [text_bool] at e)
  all_goals first
    | (exfalso; simp at e; done)
    | (exfalso; rcases hn with rfl | rfl <;> simp at e <;> done)
    | (exfalso; rcases hn' with rfl | rfl <;> simp at e <;> done)
    | (exfalso; obtain ⟨c, q, ec, hc⟩ := cons_of (S.num _ _ hr).1 (S.num _ _ hr).2; rw [ec] at e; simp only [List.cons_append] at e; exact away hc (by decide) e)
    | (exfalso; obtain ⟨c, q, ec, hc⟩ := cons_of (S.num _ _ hr').1 (S.num _ _ hr').2; rw [ec] at e; simp only [List.cons_append] at e; exact away hc (by decide) e.symm)
    | (exfalso; obtain ⟨c, q, ec, hc⟩ := cons_of (S.sym _ hs).1 (S.sym _ hs).2; rw [ec] at e; simp only [List.cons_append] at e; exact away hc (by decide) e)
    | (exfalso; obtain ⟨c, q, ec, hc⟩ := cons_of (S.sym _ hs').1 (S.sym _ hs').2; rw [ec] at e; simp only [List.cons_append] at e; exact away hc (by decide) e.symm)
    | (exfalso; rcases hn with rfl | rfl <;> obtain ⟨c, q, ec, hc⟩ := cons_of (S.num _ _ hr').1 (S.num _ _ hr').2 <;> rw [ec] at e <;> simp at e <;> obtain ⟨rfl, _⟩ := e <;> exact absurd hc (by decide))
    | (exfalso; rcases hn with rfl | rfl <;> obtain ⟨c, q, ec, hc⟩ := cons_of (S.sym _ hs').1 (S.sym _ hs').2 <;> rw [ec] at e <;> simp at e <;> obtain ⟨rfl, _⟩ := e <;> exact absurd hc (by decide))
    | (exfalso; rcases hn' with rfl | rfl <;> obtain ⟨c, q, ec, hc⟩ := cons_of (S.num _ _ hr).1 (S.num _ _ hr).2 <;> rw [ec] at e <;> simp at e <;> obtain ⟨rfl, _⟩ := e <;> exact absurd hc (by decide))
    | (exfalso; rcases hn' with rfl | rfl <;> obtain ⟨c, q, ec, hc⟩ := cons_of (S.sym _ hs).1 (S.sym _ hs).2 <;> rw [ec] at e <;> simp at e <;> obtain ⟨rfl, _⟩ := e <;> exact absurd hc (by decide))
    | (obtain ⟨e1, e2⟩ := atoms (S.num _ _ hr).2 (S.num _ _ hr').2 hd hd' e; obtain ⟨rfl, rfl⟩ := S.one _ _ _ _ hr hr' e1; exact ⟨rfl, e2⟩)
    | (exfalso; obtain ⟨e1, _⟩ := atoms (S.num _ _ hr).2 (S.sym _ hs').2 hd hd' e; exact S.other _ _ _ hr hs' e1)
    | (exfalso; obtain ⟨e1, _⟩ := atoms (S.sym _ hs).2 (S.num _ _ hr').2 hd hd' e; exact S.other _ _ _ hr' hs e1.symm)
    | (obtain ⟨e1, e2⟩ := atoms (S.sym _ hs).2 (S.sym _ hs').2 hd hd' e; obtain rfl : s = s' := ByteArray.ext (Array.ext' e1); exact ⟨rfl, e2⟩)
    | (rcases hn with rfl | rfl <;> rcases hn' with rfl | rfl <;> simp at e <;> exact ⟨rfl, e⟩)
    | (simp at e; exact ⟨rfl, e⟩)
    | (exfalso; obtain ⟨c, q, ec, c41, _⟩ := text_first S ha'; rw [ec] at e; simp at e; exact absurd e.1.symm c41)
    | (exfalso; obtain ⟨c, q, ec, c41, _⟩ := text_first S ha; rw [ec] at e; simp at e; exact absurd e.1 c41)
    | (simp only [List.cons_append, List.append_assoc, List.cons.injEq, true_and, List.nil_append] at e; obtain ⟨e1, e2⟩ := strs hs hs' e; obtain rfl : s = s' := ByteArray.ext (Array.ext' e1); exact ⟨rfl, e2⟩)
    | skip
  · simp only [List.cons_append, List.append_assoc, List.cons.injEq, true_and, List.nil_append] at e
    have sz : a.size < (Dt.node 6 0 0 nil8 [a, b]).size ∧ b.size < (Dt.node 6 0 0 nil8 [a, b]).size := by
      have := a.size_pos; have := b.size_pos
      simp only [Dt.size, Dt.sizes]; omega
    obtain ⟨rfl, e2⟩ := (ih a sz.1).1 a' _ _ _ _ ha ha' (del_tail _ hb) (del_tail _ hb') e
    obtain ⟨rfl, e3⟩ := (ih b sz.2).2 b' _ _ _ _ hb hb' e2
    exact ⟨rfl, e3⟩
  · simp only [List.cons_append, List.append_assoc, List.cons.injEq, true_and, List.nil_append] at e
    obtain ⟨rfl, e2⟩ := seq_one S l l' _ _ _ _ (fun x hx => (ih x (by have := Dt.size_mem hx; simp only [Dt.size]; omega)).1) hl hl' e
    exact ⟨rfl, e2⟩

theorem one_all {R : Int → Int → Bool} {Nm : ByteArray → Bool} (S : Sound R Nm NT) (N : Nat) : ∀ t : Dt, t.size ≤ N → TextOne R Nm NT t ∧ TailOne R Nm NT t := by
  induction N with
  | zero => intro t h; have := t.size_pos; omega
  | succ N ih =>
    intro t h
    have ih' : ∀ x, x.size < t.size → TextOne R Nm NT x ∧ TailOne R Nm NT x := fun x hx => ih x (by omega)
    have U := text_one S ih'
    exact ⟨U, tail_one S U ih'⟩
/-- No two that are right have the same text. -/
theorem text_inj {R : Int → Int → Bool} {Nm : ByteArray → Bool} (S : Sound R Nm NT) {t t' : Dt} {deep deep' : Nat} (h : t.right R Nm deep = true) (h' : t'.right R Nm deep' = true) (e : t.text NT = t'.text NT) : t = t' :=
  ((one_all S _ t (Nat.le_refl _)).1 t' deep deep' [] [] h h' (Or.inl rfl) (Or.inl rfl) (by rw [e])).1
mutual
theorem Dt.alike_iff : ∀ t t' : Dt, t.alike t' = true ↔ t = t'
  | .node k n d s l, .node k' n' d' s' l' => by
    unfold Dt.alike
    simp only [Bool.and_eq_true, decide_eq_true_eq, Dt.node.injEq]
    rw [Dt.alikeAll_iff l l']
    constructor
    · rintro ⟨⟨⟨⟨a, b⟩, c⟩, d⟩, e⟩; exact ⟨a, b, c, d, e⟩
    · rintro ⟨a, b, c, d, e⟩; exact ⟨⟨⟨⟨a, b⟩, c⟩, d⟩, e⟩
theorem Dt.alikeAll_iff : ∀ l l' : List Dt, Dt.alikeAll l l' = true ↔ l = l'
  | [], [] => by simp [Dt.alikeAll]
  | [], x :: q => by simp [Dt.alikeAll]
  | x :: q, [] => by simp [Dt.alikeAll]
  | x :: q, x' :: q' => by
    unfold Dt.alikeAll
    rw [Bool.and_eq_true, Dt.alike_iff x x', Dt.alikeAll_iff q q', List.cons.injEq]
end
/-- WHAT IS RIGHT IS THE SAME JUST IF THE TEXTS ARE. -/
theorem alike_text {R : Int → Int → Bool} {Nm : ByteArray → Bool} (S : Sound R Nm NT) {t t' : Dt} {deep deep' : Nat} (h : t.right R Nm deep = true) (h' : t'.right R Nm deep' = true) : t.alike t' = decide (t.text NT = t'.text NT) := by
  rw [Bool.eq_iff_iff, Dt.alike_iff, decide_eq_true_iff]
  exact ⟨fun e => by rw [e], fun e => text_inj S h h' e⟩
end Go.Proofs.Ytdeelpagoffdjaa.Dat

/- The reference's text: kinds without parts, and Vecs. -/
namespace Go.Proofs.Ytdeelpagoffdjaa.Dat
open Go.RowKit
set_option linter.unusedVariables false

/-- The text's length fits with room to spare. -/
def Roomy (l : List UInt8) : Prop := l.length ≤ 1152921504606846976
theorem ret_str {a b : ByteArray} (h : a.data.toList = b.data.toList) : Ending.returned (.string a) = .returned (.string b) := by
  rw [show a = b from ByteArray.ext (Array.ext' h)]
variable {R : Int → Int → Bool} {Nm : ByteArray → Bool} {NT : Int → Int → List UInt8}

/-- What is still to come of a Vec's inside. -/
def seqFrom (NT : Int → Int → List UInt8) (l : List Dt) (i : Nat) : List UInt8 := if i = 0 then Dt.seqB NT l else Dt.moreB NT (l.drop i)
theorem seq_zero {l : List Dt} {x : Dt} (h : l[0]? = some x) : seqFrom NT l 0 = x.text NT ++ seqFrom NT l 1 := by
  cases l with
  | nil => simp at h
  | cons y r =>
    simp at h; subst h
    unfold seqFrom
    rw [if_pos rfl, if_neg (by omega), seqB_cons]; rfl
theorem seq_step {l : List Dt} {i : Nat} {x : Dt} (h : l[i]? = some x) (hi : 0 < i) : seqFrom NT l i = 32 :: (x.text NT ++ seqFrom NT l (i + 1)) := by
  unfold seqFrom
  rw [if_neg (by omega), if_neg (by omega), Dt.drop_at h, moreB_cons]
theorem seq_stop {l : List Dt} {i : Nat} (h : l.length ≤ i) : seqFrom NT l i = [] := by
  unfold seqFrom
  split
  · rename_i h0; subst h0
    obtain rfl : l = [] := List.eq_nil_of_length_eq_zero (by omega)
    simp [Dt.seqB]
  · rw [List.drop_of_length_le h]; simp [Dt.moreB]

end Go.Proofs.Ytdeelpagoffdjaa.Dat

/- The reference's text of a Pair. -/
namespace Go.Proofs.Ytdeelpagoffdjaa.Dat
open Go.RowKit
set_option linter.unusedVariables false
variable {R : Int → Int → Bool} {Nm : ByteArray → Bool} {NT : Int → Int → List UInt8}

def lenOf : Value → Nat
  | .string s => s.size
  | _ => 0
theorem pair_of {n d : Int} {s : ByteArray} {l : List Dt} {deep : Nat} (h : (Dt.node 6 n d s l).right R Nm deep = true) : ∃ x q, l = [x, q] ∧ x.right R Nm (deep + 1) = true ∧ q.right R Nm (deep + 1) = true := by
  generalize e : Dt.node 6 n d s l = t at h
  rcases view_of h with ⟨n', d', hr⟩ | ⟨n', hn⟩ | ⟨s', hs⟩ | ⟨s', hs⟩ | _ | _ | ⟨x, q, hx, hq⟩ | ⟨l', hl⟩ <;> simp at e
  obtain ⟨rfl, rfl, rfl, rfl⟩ := e
  exact ⟨x, q, rfl, hx, hq⟩
/-- What holds in a round: the box holds the rest, its text is what is missing. -/
def Rest (R : Int → Int → Bool) (Nm : ByteArray → Bool) (NT : Int → Int → List UInt8) (w : World) (B : Nat) (most : Nat) (whole : List UInt8) (z : ByteArray) (wr : World) (k n d : Int) (s : ByteArray) (l : List Dt) (p : Option Addr) (cap deep : Nat) : Prop :=
  wr.heap[B]? = some (.cells #[.int .i64 k, .int .i64 n, .int .i64 d, .string s, .slice p l.length cap] 37 (0, 0)) ∧ (Dt.node k n d s l).At w (.agg #[.int .i64 k, .int .i64 n, .int .i64 d, .string s, .slice p l.length cap]) ∧
    (Dt.node k n d s l).right R Nm deep = true ∧ (Dt.node k n d s l).size < most ∧ whole = z.data.toList ++ (Dt.node k n d s l).tail NT ∧ Below w.heap.size w wr

end Go.Proofs.Ytdeelpagoffdjaa.Dat

/- The reference's text, Text, Same. -/
namespace Go.Proofs.Ytdeelpagoffdjaa.Dat
open Go.RowKit
set_option linter.unusedVariables false
variable {R : Int → Int → Bool} {Nm : ByteArray → Bool} {NT : Int → Int → List UInt8}

theorem two_box {w w1 : World} {o o2 : Obj} (h : Below ((w.alloc o).alloc o2).heap.size ((w.alloc o).alloc o2) w1) : w1.heap[w.heap.size]? = some o ∧ w1.heap[w.heap.size + 1]? = some o2 :=
  ⟨(h.block w.heap.size (by show w.heap.size < ((w.heap.push o).push o2).size; simp; omega)).trans (by show ((w.heap.push o).push o2)[w.heap.size]? = some o; simp [Array.getElem?_push]),
   (h.block (w.heap.size + 1) (by show w.heap.size + 1 < ((w.heap.push o).push o2).size; simp)).trans (by show ((w.heap.push o).push o2)[w.heap.size + 1]? = some o2; rw [show w.heap.size + 1 = (w.heap.push o).size by simp, Array.getElem?_push_size])⟩
/-- What Text answers. -/
def Dt.full (R : Int → Int → Bool) (Nm : ByteArray → Bool) (NT : Int → Int → List UInt8) (t : Dt) : List UInt8 := if t.right R Nm 0 then t.text NT else []
/-- What Same answers. -/
def Dt.same (R : Int → Int → Bool) (Nm : ByteArray → Bool) (t t' : Dt) : Bool := t.right R Nm 0 && t'.right R Nm 0 && t.alike t'
end Go.Proofs.Ytdeelpagoffdjaa.Dat

/- A datum that comes in by value is opened: it lies in memory as a tree. -/
namespace Go.Proofs.Ytdeelpagoffdjaa.Dat
open Go.ChangeShapes Go.WideShapes Go.ChangeAt Go.RowKit Go.Deep

mutual
def Dt.thin (M : Nat) : Dt → Prop
  | .node _ _ _ s l => s.size ≤ M ∧ Dt.thinAll M l
def Dt.thinAll (M : Nat) : List Dt → Prop
  | [] => True
  | t :: r => t.thin M ∧ Dt.thinAll M r
end
theorem Dt.thinAll_iff {M : Nat} {l : List Dt} : Dt.thinAll M l ↔ ∀ x, x ∈ l → x.thin M := by
  induction l with
  | nil => simp [Dt.thinAll]
  | cons t r ih => unfold Dt.thinAll; rw [ih]; simp
theorem Try.cellsDt : Try.prog.cellsOf 37 = 5 := by kernel_rfl
theorem Try.cellsDts : Try.prog.cellsOf 34 = 1 := by kernel_rfl
theorem Try.cellsStr : Try.prog.cellsOf 9 = 1 := by kernel_rfl
theorem Try.cellsInt : Try.prog.cellsOf 3 = 1 := by kernel_rfl

theorem wf64 {n : Int} (h : (Lit.int .i64 n).wf = true) : I64 n := by
  simp only [Lit.wf, Bool.and_eq_true, decide_eq_true_eq] at h
  exact ⟨h.1, h.2⟩
theorem list5 {α : Type} (l : List α) (h : l.length = 5) : ∃ a b c d e, l = [a, b, c, d, e] := by
  match l, h with
  | [a, b, c, d, e], _ => exact ⟨a, b, c, d, e, rfl⟩
instance : Inhabited Dt := ⟨.node 0 0 0 ⟨#[]⟩ []⟩
theorem Dt.AllAt.of {w : World} : ∀ {l : List Dt} {b o : Nat}, (∀ i t, l[i]? = some t →
    ∃ v0 v1 v2 v3 v4, w.cell? ⟨b, o + i * 5, none⟩ = some v0 ∧ w.cell? ⟨b, o + i * 5 + 1, none⟩ = some v1 ∧ w.cell? ⟨b, o + i * 5 + 2, none⟩ = some v2 ∧ w.cell? ⟨b, o + i * 5 + 3, none⟩ = some v3 ∧ w.cell? ⟨b, o + i * 5 + 4, none⟩ = some v4 ∧ t.At w (.agg #[v0, v1, v2, v3, v4])) → Dt.AllAt w l b o
  | [], _, _, _ => by unfold Dt.AllAt; trivial
  | t :: r, b, o, h => by
    unfold Dt.AllAt
    refine ⟨by simpa using h 0 t rfl, Dt.AllAt.of fun i x hx => ?_⟩
    have := h (i + 1) x (by simpa using hx)
    rw [show o + (i + 1) * 5 = o + 5 + i * 5 from by omega] at this
    exact this

theorem five_cells {w : World} {base : Nat} {a : Addr} {cs : List Value} (h : w.cells? base a 5 = some cs) :
    ∃ v0 v1 v2 v3 v4, cs = [v0, v1, v2, v3, v4] ∧ a.spot = none ∧ w.cell? ⟨a.block, a.off, none⟩ = some v0 ∧ w.cell? ⟨a.block, a.off + 1, none⟩ = some v1 ∧ w.cell? ⟨a.block, a.off + 2, none⟩ = some v2 ∧ w.cell? ⟨a.block, a.off + 3, none⟩ = some v3 ∧ w.cell? ⟨a.block, a.off + 4, none⟩ = some v4 := by
  unfold World.cells? at h
  split at h
  · have r5 : List.range 5 = [0, 1, 2, 3, 4] := rfl
    rw [r5] at h
    simp only [List.mapM_cons, List.mapM_nil, Option.bind_eq_bind, Option.bind_eq_some_iff, Option.pure_def, Option.some.injEq] at h
    obtain ⟨v0, h0, _, ⟨v1, h1, _, ⟨v2, h2, _, ⟨v3, h3, _, ⟨v4, h4, _, rfl, rfl⟩, rfl⟩, rfl⟩, rfl⟩, rfl⟩ := h
    have hs : a.spot = none := by simpa [Addr.add] using World.cell?_spot h0
    obtain ⟨b, o, sp⟩ := a
    simp only at hs; subst hs
    exact ⟨v0, v1, v2, v3, v4, rfl, rfl, by simpa [Addr.add] using h0, by simpa [Addr.add] using h1, by simpa [Addr.add] using h2, by simpa [Addr.add] using h3, by simpa [Addr.add] using h4⟩
  · cases h


/-- Each string and slice that is read fits a machine. -/
def Light {H : Type} (t : TypeId) (d : DataW H) : Prop := ∀ n, n ∈ d.weights Try.prog t → n ≤ reachBytes
theorem weights_all {H : Type} {e : TypeId} {l : List (DataW H)} {d : DataW H} (h : d ∈ l) {n : Nat} (hn : n ∈ d.weights Try.prog e) : n ∈ DataW.weightsAll Try.prog e l := by
  induction l with
  | nil => cases h
  | cons x r ih =>
    unfold DataW.weightsAll
    rw [List.mem_append]
    rcases List.mem_cons.1 h with rfl | h
    · exact Or.inl hn
    · exact Or.inr (ih h)
def OpensAt {H : Type} (enc : TypeId × Value → H) (w : World) (base : Nat) (spare : Nat → Bool) (held : Bool) (fuel : Nat) : Prop := ∀ (cs : List Value) (x : DataW H × List MemPlace),
    DataW.trod enc Try.prog w base spare held fuel 37 cs = some x → ∃ t : Dt, t.At w (.agg cs.toArray) ∧ (Light 37 x.1 → t.thin reachBytes)

theorem open_dts {H : Type} {enc : TypeId × Value → H} {w : World} {base : Nat} {spare : Nat → Bool} {held : Bool} {fuel : Nat} (ih : ∀ n, n < fuel → OpensAt enc w base spare held n) {cs : List Value} {x : DataW H × List MemPlace}
    (h : DataW.trod enc Try.prog w base spare held fuel 34 cs = some x) :
    ∃ (l : List Dt) (p : Option Addr) (cap : Nat), cs = [.slice p l.length cap] ∧ l.length ≤ maxLen ∧ (l = [] ∨ ∃ b o, p = some ⟨b, o, none⟩ ∧ Dt.AllAt w l b o) ∧ (Light 34 x.1 → Dt.thinAll reachBytes l) := by
  rcases DataW.trod_slice Try.underlying34 h with ⟨rfl, _⟩ | ⟨a, len, cap, elems, rest, n2, rfl, rfl, hx, hb, hl, hm, hlen2, hel, _, _⟩
  · exact ⟨[], none, 0, rfl, by simp, Or.inl rfl, fun _ => trivial⟩
  · rw [Try.cellsDt] at hel
    have hall : ∀ i, i < len → ∃ t : Dt, (∃ v0 v1 v2 v3 v4, (a.add (i * 5)).spot = none ∧ w.cell? ⟨a.block, a.off + i * 5, none⟩ = some v0 ∧ w.cell? ⟨a.block, a.off + i * 5 + 1, none⟩ = some v1 ∧ w.cell? ⟨a.block, a.off + i * 5 + 2, none⟩ = some v2 ∧ w.cell? ⟨a.block, a.off + i * 5 + 3, none⟩ = some v3 ∧ w.cell? ⟨a.block, a.off + i * 5 + 4, none⟩ = some v4 ∧ t.At w (.agg #[v0, v1, v2, v3, v4])) ∧ (Light 34 x.1 → t.thin reachBytes) := by
      intro i hi
      have he := hel i hi
      have hsome : elems[i]? = some (elems[i]'(by omega)) := List.getElem?_eq_getElem (by omega)
      rw [hsome, Option.bind_eq_some_iff] at he
      obtain ⟨cs', hcs, htr⟩ := he
      obtain ⟨t, ht, hthin⟩ := ih n2 (by omega) cs' _ htr
      obtain ⟨v0, v1, v2, v3, v4, rfl, hsp, q0, q1, q2, q3, q4⟩ := five_cells hcs
      have e : (a.add (i * 5)).block = a.block ∧ (a.add (i * 5)).off = a.off + i * 5 := by
        unfold Addr.add; split <;> simp_all
      rw [e.1, e.2] at q0 q1 q2 q3 q4
      refine ⟨t, ⟨v0, v1, v2, v3, v4, hsp, q0, q1, q2, q3, q4, ht⟩, fun hw => hthin fun n hn => hw n ?_⟩
      rw [hx]
      simp only [DataW.weights, Try.underlying34, List.mem_cons, List.mem_append]
      exact Or.inr (Or.inl (weights_all (List.mem_map.2 ⟨_, List.getElem_mem (by omega), rfl⟩) hn))
    obtain ⟨T, hT⟩ := choose_lt hall
    have hll : ((List.range len).map T).length = len := by simp
    refine ⟨(List.range len).map T, some a, cap, by rw [hll], by rw [hll]; omega, ?_, ?_⟩
    · by_cases hz : len = 0
      · left; rw [hz]; rfl
      · right
        have hsp : a.spot = none := by
          obtain ⟨⟨_, _, _, _, _, h, _⟩, _⟩ := hT 0 (by omega)
          simpa [Addr.add] using h
        refine ⟨a.block, a.off, by obtain ⟨b, o, sp⟩ := a; simp only at hsp; subst hsp; rfl, Dt.AllAt.of ?_⟩
        intro i t hit
        rw [List.getElem?_map] at hit
        have hi : i < len := by
          rcases Nat.lt_or_ge i len with h | h
          · exact h
          · rw [List.getElem?_eq_none (by simpa using h)] at hit; cases hit
        rw [List.getElem?_range hi] at hit
        obtain rfl : T i = t := by simpa using hit
        obtain ⟨⟨v0, v1, v2, v3, v4, _, q0, q1, q2, q3, q4, ht⟩, _⟩ := hT i hi
        exact ⟨v0, v1, v2, v3, v4, q0, q1, q2, q3, q4, ht⟩
    · intro hw
      rw [Dt.thinAll_iff]
      intro t ht
      obtain ⟨i, hi, rfl⟩ := List.mem_map.1 ht
      exact (hT i (List.mem_range.1 hi)).2 hw

theorem open_dt {H : Type} {enc : TypeId × Value → H} {w : World} {base : Nat} {spare : Nat → Bool} {held : Bool} (N : Nat) : ∀ fuel, fuel ≤ N → OpensAt enc w base spare held fuel := by
  induction N with
  | zero =>
    intro fuel hf cs x h
    obtain rfl : fuel = 0 := by omega
    simp [DataW.trod] at h
  | succ N ih =>
    intro fuel hf cs x h
    obtain ⟨xs, n, rfl, hx, hlen, hxs, hat⟩ := DataW.trod_struct Try.underlying37 h
    rw [Try.cellsDt] at hlen
    obtain ⟨c0, c1, c2, c3, c4, rfl⟩ := list5 cs hlen
    obtain ⟨x0, x1, x2, x3, x4, rfl⟩ := list5 xs (by simpa using hxs)
    have h0 := hat 0 _ rfl
    have h1 := hat 1 _ rfl
    have h2 := hat 2 _ rfl
    have h3 := hat 3 _ rfl
    have h4 := hat 4 _ rfl
    simp [Try.cellsInt, Try.cellsStr, Try.cellsDts] at h0 h1 h2 h3 h4
    obtain ⟨k, e0, rfl, w0⟩ := DataW.trod_int Try.underlying3 h0
    obtain ⟨m, e1, rfl, w1⟩ := DataW.trod_int Try.underlying3 h1
    obtain ⟨d, e2, rfl, w2⟩ := DataW.trod_int Try.underlying3 h2
    simp at e0 e1 e2
    subst e0 e1 e2
    obtain ⟨s, rfl, hs, hx3⟩ : ∃ s : ByteArray, c3 = .string s ∧ s.size ≤ maxLen ∧ x3.1 = .lit (.string s.data.toList) := by
      cases n with
      | zero => simp [DataW.trod] at h3
      | succ n =>
        cases c3 <;> simp [DataW.trod, Try.underlying9] at h3
        rename_i s
        exact ⟨s, rfl, h3.1, by rw [← h3.2]⟩
    obtain ⟨l, p, cap, hc4, hlm, hl, hth⟩ := open_dts (fun m hm => ih m (by omega)) h4
    simp at hc4; subst hc4
    refine ⟨.node k m d s l, ?_, ?_⟩
    · unfold Dt.At
      exact ⟨wf64 w0, wf64 w1, wf64 w2, hs, hlm, p, cap, rfl, hl⟩
    · intro hw
      have hwt : ∀ z, z ∈ x3.1.weights Try.prog 9 ∨ z ∈ x4.1.weights Try.prog 34 → z ≤ reachBytes := by
        intro z hz
        apply hw z
        rw [hx]
        simp only [DataW.weights, Try.underlying37, List.map_cons, List.map_nil, DataW.weightsEach, List.mem_append]
        rcases hz with h | h <;> simp [h]
      unfold Dt.thin
      exact ⟨hwt _ (Or.inl (by rw [hx3, Lib.size_eq]; simp [DataW.weights])), hth fun z hz => hwt z (Or.inr hz)⟩
end Go.Proofs.Ytdeelpagoffdjaa.Dat

/- How long a text can be. -/
namespace Go.Proofs.Ytdeelpagoffdjaa.Dat
open Go.RowKit
set_option linter.unusedVariables false
variable {NT : Int → Int → List UInt8}

theorem wrap_len (k : Int) (b : List UInt8) : (wrapT k b).length ≤ b.length + 3 := by
  unfold wrapT; split
  · simp
  · split
    · simp
    · omega
theorem tailT_len (k : Int) (b : List UInt8) : (tailT k b).length ≤ b.length + 6 := by
  unfold tailT; split
  · simp
  · split
    · simp
    · simp only [List.length_cons]; have := wrap_len k b; omega
theorem leaf_len (hN : ∀ n d, (NT n d).length ≤ 30) (k n d : Int) (s : ByteArray) : (leafT NT k n d s).length ≤ s.size + 30 := by
  have := hN n d
  unfold leafT
  rw [Lib.size_eq]
  split
  · omega
  · split
    · split <;> simp
    · split
      · omega
      · split
        · simp only [List.length_cons, List.length_append, List.length_nil]; omega
        · split <;> simp
mutual
theorem Dt.body_len (hN : ∀ n d, (NT n d).length ≤ 30) (M : Nat) : ∀ t : Dt, t.thin M → (t.body NT).length + 8 ≤ t.size * (M + 40)
  | .node k n d s l, h => by
    unfold Dt.thin at h
    have h1 := Dt.pair_len hN M l h.2
    have h2 := Dt.seq_len hN M l h.2
    have h3 := leaf_len hN k n d s
    unfold Dt.body Dt.size
    rw [Nat.add_mul]
    split
    · omega
    · split
      · omega
      · omega
theorem Dt.pair_len (hN : ∀ n d, (NT n d).length ≤ 30) (M : Nat) : ∀ l : List Dt, Dt.thinAll M l → (Dt.pairB NT l).length ≤ Dt.sizes l * (M + 40)
  | [], h => by simp [Dt.pairB]
  | a :: r, h => by
    unfold Dt.thinAll at h
    have h1 := Dt.body_len hN M a h.1
    have h2 := Dt.rest_len hN M r h.2
    have h3 := wrap_len a.kind (a.body NT)
    unfold Dt.pairB Dt.sizes
    rw [Nat.add_mul, List.length_append]; omega
theorem Dt.rest_len (hN : ∀ n d, (NT n d).length ≤ 30) (M : Nat) : ∀ l : List Dt, Dt.thinAll M l → (Dt.restB NT l).length ≤ Dt.sizes l * (M + 40)
  | [], h => by simp [Dt.restB]
  | b :: r, h => by
    unfold Dt.thinAll at h
    have h1 := Dt.body_len hN M b h.1
    have h3 := tailT_len b.kind (b.body NT)
    unfold Dt.restB Dt.sizes
    rw [Nat.add_mul]; omega
theorem Dt.seq_len (hN : ∀ n d, (NT n d).length ≤ 30) (M : Nat) : ∀ l : List Dt, Dt.thinAll M l → (Dt.seqB NT l).length ≤ Dt.sizes l * (M + 40)
  | [], h => by simp [Dt.seqB]
  | a :: r, h => by
    unfold Dt.thinAll at h
    have h1 := Dt.body_len hN M a h.1
    have h2 := Dt.more_len hN M r h.2
    have h3 := wrap_len a.kind (a.body NT)
    unfold Dt.seqB Dt.sizes
    rw [Nat.add_mul, List.length_append]; omega
theorem Dt.more_len (hN : ∀ n d, (NT n d).length ≤ 30) (M : Nat) : ∀ l : List Dt, Dt.thinAll M l → (Dt.moreB NT l).length ≤ Dt.sizes l * (M + 40)
  | [], h => by simp [Dt.moreB]
  | a :: r, h => by
    unfold Dt.thinAll at h
    have h1 := Dt.body_len hN M a h.1
    have h2 := Dt.more_len hN M r h.2
    have h3 := wrap_len a.kind (a.body NT)
    unfold Dt.moreB Dt.sizes
    rw [Nat.add_mul, List.length_cons, List.length_append]; omega
end
/-- Few data with strings that a machine holds have a text that fits. -/
theorem roomy_of (hN : ∀ n d, (NT n d).length ≤ 30) {t : Dt} (h : t.thin reachBytes) (hs : t.size ≤ 4000) : Roomy (t.text NT) := by
  have h1 := Dt.body_len hN reachBytes t h
  have h2 := wrap_len t.kind (t.body NT)
  have h3 := Nat.mul_le_mul_right (reachBytes + 40) hs
  have h4 : 4000 * (reachBytes + 40) + 3 ≤ 1152921504606846976 := by decide
  unfold Roomy Dt.text
  omega
end Go.Proofs.Ytdeelpagoffdjaa.Dat

/- The reference's Items. -/
namespace Go.Proofs.Ytdeelpagoffdjaa.Dat
open Go.RowKit
set_option linter.unusedVariables false
variable {R : Int → Int → Bool} {Nm : ByteArray → Bool} {NT : Int → Int → List UInt8}

mutual
/-- The first ones of Pairs, one behind another, to a Null. -/
def Dt.items : Dt → Option (List Dt)
  | .node k _ _ _ l => if k = 6 then Dt.itemsL l else if k = 4 then some [] else none
def Dt.itemsL : List Dt → Option (List Dt)
  | [] => none
  | a :: r => (Dt.itemsR r).map (a :: ·)
def Dt.itemsR : List Dt → Option (List Dt)
  | [] => none
  | b :: _ => b.items
end
theorem items_pair (n d : Int) (s : ByteArray) (a b : Dt) : (Dt.node 6 n d s [a, b]).items = b.items.map (a :: ·) := by simp [Dt.items, Dt.itemsL, Dt.itemsR]
theorem items_null (n d : Int) (s : ByteArray) (l : List Dt) : (Dt.node 4 n d s l).items = some [] := by simp [Dt.items]
theorem items_else {k n d : Int} {s : ByteArray} {l : List Dt} (h6 : k ≠ 6) (h4 : k ≠ 4) : (Dt.node k n d s l).items = none := by simp [Dt.items, h6, h4]

/-- These are the cells of these data. -/
def Dt.Row (w : World) : List Dt → List Value → Prop
  | [], xs => xs = []
  | t :: r, xs => ∃ v0 v1 v2 v3 v4 ys, xs = v0 :: v1 :: v2 :: v3 :: v4 :: ys ∧ t.At w (.agg #[v0, v1, v2, v3, v4]) ∧ Dt.Row w r ys
theorem Dt.Row.snoc {w : World} : ∀ {l : List Dt} {xs : List Value} {t : Dt} {v0 v1 v2 v3 v4 : Value}, Dt.Row w l xs → t.At w (.agg #[v0, v1, v2, v3, v4]) → Dt.Row w (l ++ [t]) (xs ++ [v0, v1, v2, v3, v4])
  | [], xs, t, v0, v1, v2, v3, v4, h, ht => by
    unfold Dt.Row at h; subst h
    exact ⟨v0, v1, v2, v3, v4, [], rfl, ht, rfl⟩
  | x :: r, xs, t, v0, v1, v2, v3, v4, h, ht => by
    unfold Dt.Row at h
    obtain ⟨u0, u1, u2, u3, u4, ys, rfl, hx, hr⟩ := h
    exact ⟨u0, u1, u2, u3, u4, ys ++ [v0, v1, v2, v3, v4], rfl, hx, hr.snoc ht⟩
theorem Dt.Row.allAt {w w' : World} (hc : ∀ b o v, w.cell? ⟨b, o, none⟩ = some v → w'.cell? ⟨b, o, none⟩ = some v) {g : Nat} : ∀ {l : List Dt} {xs : List Value} {o : Nat}, Dt.Row w l xs → (∀ j v, xs[j]? = some v → w'.cell? ⟨g, o + j, none⟩ = some v) → Dt.AllAt w' l g o
  | [], _, _, _, _ => by unfold Dt.AllAt; trivial
  | t :: r, xs, o, h, hx => by
    unfold Dt.Row at h
    obtain ⟨v0, v1, v2, v3, v4, ys, rfl, ht, hr⟩ := h
    unfold Dt.AllAt
    refine ⟨⟨v0, v1, v2, v3, v4, hx 0 _ rfl, hx 1 _ rfl, hx 2 _ rfl, hx 3 _ rfl, hx 4 _ rfl, ht.on hc⟩, hr.allAt hc fun j v hj => ?_⟩
    have := hx (j + 5) v (by simpa using hj)
    rw [show o + (j + 5) = o + 5 + j by omega] at this
    exact this
def lenSl : Value → Nat
  | .slice _ n _ => n
  | _ => 0
theorem Try.infoDt : (Try.prog.info? 37).map (fun i => (i.zero, i.size, i.bytes)) = some (some (.agg #[.int .i64 0, .int .i64 0, .int .i64 0, .string ⟨#[]⟩, .slice none 0 0]), 5, 64) := by kernel_rfl
/-- The data lie in a slice. -/
def Dt.Slice (w : World) (l : List Dt) (v : Value) : Prop := ∃ p cap, v = .slice p l.length cap ∧ (l = [] ∨ ∃ b o, p = some ⟨b, o, none⟩ ∧ Dt.AllAt w l b o)
theorem own_slice {w w' : World} (hb : Below w.heap.size w w') {B : Nat} {v : Value} {l : List Dt} {xs : List Value} (ho : w'.ownsRow B 37 5 v l.length xs) (hr : Dt.Row w l xs) : Dt.Slice w' l v := by
  obtain ⟨hlen, hv⟩ := ho
  rcases hv with ⟨rfl, h0⟩ | ⟨g, cap, cur, rfl, hB, hg, hn, hm, hs, ht⟩
  · exact ⟨none, 0, by rw [h0], Or.inl (List.eq_nil_of_length_eq_zero h0)⟩
  · refine ⟨_, cap, rfl, Or.inr ⟨g, 0, rfl, hr.allAt (cell_on hb) fun j v hj => ?_⟩⟩
    rw [← ht] at hj
    rw [List.getElem?_take] at hj
    split at hj
    · unfold World.cell?
      simp [hg] at hj ⊢
      simpa using hj
    · cases hj
theorem row_below {w w' : World} {B e size n : Nat} {v : Value} {xs : List Value} (h : w.ownsRow B e size v n xs) (hb : Below w.heap.size w w') : w'.ownsRow B e size v n xs := by
  refine ⟨h.1, ?_⟩
  rcases h.2 with hn | ⟨g, cap, cur, rfl, hg, hgg, rest⟩
  · exact .inl hn
  · exact .inr ⟨g, cap, cur, rfl, hg, by rw [hb.block g (Array.getElem?_eq_some_iff.1 hgg).1]; exact hgg, rest⟩
/-- What holds in a round: the box holds the rest, the row what was met. -/
def Met (R : Int → Int → Bool) (Nm : ByteArray → Bool) (w : World) (t : Dt) (acc : List Dt) (v : Value) (wr : World) (k n d : Int) (s : ByteArray) (l : List Dt) (p : Option Addr) (cap deep : Nat) (xs : List Value) : Prop :=
  wr.heap[w.heap.size]? = some (.cells #[.int .i64 k, .int .i64 n, .int .i64 d, .string s, .slice p l.length cap] 37 (0, 0)) ∧ (Dt.node k n d s l).At w (.agg #[.int .i64 k, .int .i64 n, .int .i64 d, .string s, .slice p l.length cap]) ∧
    (Dt.node k n d s l).right R Nm deep = true ∧ acc.length + (Dt.node k n d s l).size ≤ t.size ∧ t.items = (Dt.node k n d s l).items.map (acc ++ ·) ∧ Below w.heap.size w wr ∧ wr.ownsRow (w.heap.size + 1) 37 5 v acc.length xs ∧ Dt.Row w acc xs

/-- What Items answers. -/
def ItemsPost (R : Int → Int → Bool) (Nm : ByteArray → Bool) (t : Dt) (e : Ending) (w' : World) : Prop :=
  ((t.right R Nm 0 = false ∨ t.items = none) ∧ e = .returned (.tuple #[.slice none 0 0, .bool false])) ∨
    (t.right R Nm 0 = true ∧ ∃ l v, t.items = some l ∧ e = .returned (.tuple #[v, .bool true]) ∧ Dt.Slice w' l v)
theorem own_ne {w : World} {B e size n : Nat} {v : Value} {xs : List Value} (h : w.ownsRow (B + 1) e size v n xs) : some B ≠ v.ownBlock := by
  rcases h.2 with ⟨rfl, _⟩ | ⟨g, cap, cur, rfl, hg, _⟩
  · simp [Value.ownBlock]
  · simp [Value.ownBlock]; omega
theorem own_up {w : World} {B e size n : Nat} {v : Value} {xs : List Value} (h : w.ownsRow (B + 1) e size v n xs) : ∀ k, v.ownBlock = some k → B ≤ k := by
  intro k hk
  rcases h.2 with ⟨rfl, _⟩ | ⟨g, cap, cur, rfl, hg, _⟩
  · cases hk
  · simp [Value.ownBlock] at hk; omega
theorem heap_cell {w : World} {B : Nat} {cs : Array Value} {t : TypeId} (h : w.heap[B]? = some (.cells cs t (0, 0))) {j : Nat} : w.cell? ⟨B, j, none⟩ = cs[j]? := by
  unfold World.cell?
  simp [h]
theorem five_new (w : World) (a0 a1 a2 a3 a4 : Value) (t : TypeId) : ∀ j u, [a0, a1, a2, a3, a4][j]? = some u → (w.alloc (.cells #[a0, a1, a2, a3, a4] t)).cell? ((⟨w.heap.size, 0, none⟩ : Addr).add j) = some u := by
  intro j u hj
  have hb : (w.alloc (.cells #[a0, a1, a2, a3, a4] t)).heap[w.heap.size]? = some (.cells #[a0, a1, a2, a3, a4] t (0, 0)) := by
    show (w.heap.push _)[w.heap.size]? = _
    simp
  rw [show ((⟨w.heap.size, 0, none⟩ : Addr).add j) = ⟨w.heap.size, j, none⟩ by simp [Addr.add]; intro h; exact h.symm, heap_cell hb]
  simpa using hj
theorem own_len {w : World} {B e size n : Nat} {v : Value} {xs : List Value} (h : w.ownsRow B e size v n xs) : lenSl v = n := by
  rcases h.2 with ⟨rfl, h0⟩ | ⟨g, cap, cur, rfl, hg, _⟩
  · exact h0.symm
  · rfl
set_option maxHeartbeats 2000000 in
set_option maxRecDepth 100000 in
theorem Items_any (hR : RCall R) (hNm : NCall Nm) (t : Dt) (v : Value) (w : World) (hbig : t.size ≤ 100000) (hat : t.At w v) :
    Calls Try.prog 68 #[v] w fun e w' => ItemsPost R Nm t e w' ∧ Below w.heap.size w w' := by
  have hat2 := hat
  obtain ⟨k, n, d, s, l⟩ := t
  unfold Dt.At at hat2
  obtain ⟨-, -, -, -, -, p, cap, rfl, -⟩ := hat2
  have C := fun w1 (hb : Below w.heap.size w w1) => Right_any R Nm hR hNm (.node k n d s l) _ w1 (hat.below hb)
  have HC := Lib.hid C
  have HAT := Lib.hid hat
  clear C hat
  cases hrt : (Dt.node k n d s l).right R Nm 0
  · have HRT := Lib.hid hrt; clear hrt
    go_enter Try.func68, Try.ntmps68
    go_wp2_with fail
    refine (HC.out _ (box_below _ _)).mono ?_
    rintro _ w1 ⟨rfl, hb1⟩
    rw [HRT.out]
    have HB1 := Lib.hid (below_after hb1); clear hb1
    go_wp2_with fail
    go_ret2
    exact ⟨Or.inl ⟨Or.inl HRT.out, rfl⟩, HB1.out⟩
  have HRT := Lib.hid hrt; clear hrt
  have HBIG := Lib.hid hbig; clear hbig
  go_enter Try.func68, Try.ntmps68
  go_wp2_with fail
  refine (HC.out _ (box_below _ _)).mono ?_
  rintro _ w1 ⟨rfl, hb1⟩
  rw [HRT.out]
  have hh1 := one_box hb1
  have hbw := below_after hb1
  have HH1 := Lib.hid (And.intro hh1 hbw)
  have hs1 : w.heap.size < w1.heap.size := by
    have := hb1.size; simp at this; omega
  clear hb1 hh1 hbw
  go_wp2_with fail
  go_loopw [4] (fun u wr => ∃ (acc : List Dt) (k' n' d' : Int) (s' : ByteArray) (l' : List Dt) (p' : Option Addr) (cap' dp : Nat) (xs : List Value), w.heap.size < wr.heap.size ∧ Met R Nm w (.node k n d s l) acc u wr k' n' d' s' l' p' cap' dp xs) (fun u _ => (Dt.node k n d s l).size - lenSl u)
  case atStart =>
    refine ⟨[], k, n, d, s, l, p, cap, 0, [], hs1, ?_⟩
    unfold Met
    exact ⟨HH1.out.1, HAT.out, HRT.out, by simp, by simp, HH1.out.2, ⟨rfl, Or.inl ⟨rfl, rfl⟩⟩, rfl⟩
  case round =>
    obtain ⟨acc, k', n', d', s', l', p', cap', dp, xs, hsz, hmet⟩ := hrel
    have HM := Lib.hid hmet
    have hh := hmet.1
    have hacc : acc.length ≤ 100000 := by
      have h1 := hmet.2.2.2.1
      have h2 := HBIG.out
      omega
    clear hmet
    by_cases hk : k' = 6
    · subst hk
      obtain ⟨x, q, rfl, hx, hq⟩ := pair_of (HM.out).2.2.1
      obtain ⟨_, _, _, _, _, _, _, he, _, _, _, _, hsl, _, hl⟩ := (HM.out).2.1.open5
      simp only [Dt.node.injEq] at he
      obtain ⟨_, _, _, _, rfl⟩ := he
      simp only [Value.slice.injEq, true_and] at hsl
      obtain ⟨rfl, _⟩ := hsl
      rcases hl with hl | ⟨b', o', rfl, hall⟩
      · cases hl
      obtain ⟨x0, x1, x2, x3, x4, i0, i1, i2, i3, i4, hxa⟩ := hall.kid (i := 0) (t := x) rfl
      obtain ⟨q0, q1, q2, q3, q4, j0, j1, j2, j3, j4, hqa⟩ := hall.kid (i := 1) (t := q) rfl
      simp only [Nat.zero_mul, Nat.add_zero, Nat.one_mul] at i0 i1 i2 i3 i4 j0 j1 j2 j3 j4
      have hbr := (HM.out).2.2.2.2.2.1
      have HI := Lib.hid (And.intro i0 (And.intro i1 (And.intro i2 (And.intro i3 i4))))
      have HJ := Lib.hid (And.intro j0 (And.intro j1 (And.intro j2 (And.intro j3 j4))))
      replace i0 := cell_on hbr _ _ _ i0
      replace i1 := cell_on hbr _ _ _ i1
      replace i2 := cell_on hbr _ _ _ i2
      replace i3 := cell_on hbr _ _ _ i3
      replace i4 := cell_on hbr _ _ _ i4
      have HBR := Lib.hid hbr
      have HX := Lib.hid hxa
      have HQ := Lib.hid hqa
      have HQR := Lib.hid hq
      obtain ⟨kx, nx, dx, sx, lx, px, capx, _, rfl, rfl, rfl, rfl, rfl, _, _⟩ := hxa.open5
      obtain ⟨kq, nq, dq, sq, lq, pq, capq, hqe, rfl, rfl, rfl, rfl, rfl, _, _⟩ := hqa.open5
      have HQE := Lib.hid hqe
      have hszx : 1 + q.size ≤ (Dt.node 6 n' d' s' [x, q]).size := by
        simp only [Dt.size, Dt.sizes]; omega
      have HSX := Lib.hid hszx
      obtain ⟨c0, _, _, _, c4⟩ := box_cells hh
      clear hxa hqa hall hbr j0 j1 j2 j3 j4 hq hx hqe hszx
      obtain ⟨i0', hi, hz⟩ := Option.map_eq_some_iff.1 Try.infoDt
      simp only [Prod.mk.injEq] at hz
      obtain ⟨hz0, hz1, hz2⟩ := hz
      have HI0 := Lib.hid (And.intro hi (And.intro hz0 (And.intro hz1 hz2)))
      clear hi hz0 hz1 hz2
      go_wp2_with (first
        | (at_builtin; refine wpList_append_own _ rfl (.tmp 11) (.tmp 16) 34 rfl (w.heap.size + 1) 37 i0' (.agg #[.int .i64 0, .int .i64 0, .int .i64 0, .string ⟨#[]⟩, .slice none 0 0]) 5 64 Try.underlying34 HI0.out.1 HI0.out.2.1 HI0.out.2.2.1 HI0.out.2.2.2 rfl (by decide) _ _ _ rfl ((HM.out).2.2.2.2.2.2.1.alloc _) ⟨wr.heap.size, 0, none⟩ 1 1 [.int .i64 kx, .int .i64 nx, .int .i64 dx, .string sx, .slice px lx.length capx] rfl rfl (five_new _ _ _ _ _ _ _) (by intro u hu; simp at hu; rcases hu with rfl | rfl | rfl | rfl | rfl <;> rfl) (by unfold maxLen; omega) (by omega) (by simp; omega) ?_
           intro v3 w3 hown3 hgrow3 hnil3
           have hown0 := (HM.out).2.2.2.2.2.2.1
           have hb3 := ((HBR.out).alloc (Nat.le_of_lt hsz) (.cells #[.int .i64 kx, .int .i64 nx, .int .i64 dx, .string sx, .slice px lx.length capx] 37)).grown hgrow3 (by simp; omega) (own_up hown0)
           have hh3 := (hgrow3.block w.heap.size (by simp; omega) (own_ne hown0)).trans ((Below.heap_alloc _ _ _ hsz).trans hh)
           obtain ⟨c0, c1, c2, c3, c4⟩ := box_cells hh3
           have z0 := box_frozen hh3 0
           have z1 := box_frozen hh3 1
           have z2 := box_frozen hh3 2
           have z3 := box_frozen hh3 3
           have z4 := box_frozen hh3 4
           have g0 := cell_on hb3 _ _ _ (HJ.out).1
           have g1 := cell_on hb3 _ _ _ (HJ.out).2.1
           have g2 := cell_on hb3 _ _ _ (HJ.out).2.2.1
           have g3 := cell_on hb3 _ _ _ (HJ.out).2.2.2.1
           have g4 := cell_on hb3 _ _ _ (HJ.out).2.2.2.2
           have HB3 := Lib.hid hb3
           have HO3 := Lib.hid hown3
           have HG3 := Lib.hid hgrow3
           have hs3 := hgrow3.size
           clear hown0 hb3 hown3 hgrow3 hnil3))
      go_roundw
      case rel =>
        refine ⟨acc ++ [x], kq, nq, dq, sq, lq, pq, capq, dp + 1, xs ++ [.int .i64 kx, .int .i64 nx, .int .i64 dx, .string sx, .slice px lx.length capx], ?_, ?_⟩
        · have h1 := HB3.out.size
          simp only [World.setCell, Array.size_modify]
          have h2 := HG3.out.size
          simp at h2; omega
        · unfold Met
          rw [← HQE.out]
          refine ⟨?_, HQ.out, HQR.out, ?_, ?_, ?_, ?_, (HM.out).2.2.2.2.2.2.2.snoc HX.out⟩
          · refine (heap_setCell_same _ _ 4 _ 37 _ (heap_setCell_same _ _ 3 _ 37 _ (heap_setCell_same _ _ 2 _ 37 _ (heap_setCell_same _ _ 1 _ 37 _ (heap_setCell_same _ _ 0 _ 37 _ hh3))))).trans ?_
            simp
          · have h1 := (HM.out).2.2.2.1
            have h2 := HSX.out
            simp only [List.length_append, List.length_cons, List.length_nil]; omega
          · have h := (HM.out).2.2.2.2.1
            rw [items_pair] at h
            rw [h, Option.map_map]
            congr 1
            funext z; simp
          · exact (((((HB3.out).setCell (Nat.le_refl _) _).setCell (Nat.le_refl _) _).setCell (Nat.le_refl _) _).setCell (Nat.le_refl _) _).setCell (Nat.le_refl _) _
          · rw [List.length_append]
            exact ownsRow_setCell_below (ownsRow_setCell_below (ownsRow_setCell_below (ownsRow_setCell_below (ownsRow_setCell_below HO3.out (Nat.lt_succ_self _) _) (Nat.lt_succ_self _) _) (Nat.lt_succ_self _) _) (Nat.lt_succ_self _) _) (Nat.lt_succ_self _) _
      case measure =>
        have h1 := own_len HO3.out
        have h2 := own_len (HM.out).2.2.2.2.2.2.1
        have h3 := (HM.out).2.2.2.1
        have h4 := (Dt.node 6 n' d' s' [x, q]).size_pos
        omega
    · have hbr := Lib.hid (HM.out).2.2.2.2.2.1
      have hown := Lib.hid (HM.out).2.2.2.2.2.2
      have hit := (HM.out).2.2.2.2.1
      obtain ⟨c0, _, _, _, _⟩ := box_cells hh
      by_cases h4 : k' = 4
      · subst h4
        rw [items_null] at hit
        have HIT := Lib.hid hit; clear hit hh
        go_wp2_with fail
        go_ret2
        exact ⟨Or.inr ⟨HRT.out, acc, _, by rw [HIT.out]; simp, rfl, own_slice hbr.out hown.out.1 hown.out.2⟩, hbr.out⟩
      · rw [items_else hk h4] at hit
        have HIT := Lib.hid hit; clear hit hh
        have hk6 : (k' == 6) = false := by rw [beq_eq_false_iff_ne]; exact hk
        have hk4 : (k' != 4) = true := by rw [bne_iff_ne]; exact h4
        go_wp2_with fail
        go_ret2
        exact ⟨Or.inl ⟨Or.inr (by rw [HIT.out]; rfl), rfl⟩, hbr.out⟩
end Go.Proofs.Ytdeelpagoffdjaa.Dat

/- The reference's List. -/
namespace Go.Proofs.Ytdeelpagoffdjaa.Dat
open Go.RowKit
set_option linter.unusedVariables false

/-- The list of these data. -/
def Dt.list : List Dt → Dt
  | [] => .node 4 0 0 nil8 []
  | t :: r => .node 6 0 0 nil8 [t, Dt.list r]

/-- What holds in a round. -/
def Listed (X : Nat → Bool) (w : World) (l : List Dt) (j : Nat) (wr : World) (k n d : Int) (s : ByteArray) (l' : List Dt) (p : Option Addr) (cap : Nat) : Prop :=
  wr.heap[w.heap.size]? = some (.cells #[.int .i64 0, .int .i64 0, .int .i64 0, .string ⟨#[]⟩, .slice none 0 0] 37 (0, 0)) ∧ wr.heap[w.heap.size + 1]? = some (.cells #[.int .i64 k, .int .i64 n, .int .i64 d, .string s, .slice p l'.length cap] 37 (0, 0)) ∧
    Dt.list (l.drop j) = .node k n d s l' ∧ (Dt.node k n d s l').At (off wr (more X w.heap.size)) (.agg #[.int .i64 k, .int .i64 n, .int .i64 d, .string s, .slice p l'.length cap]) ∧ Below w.heap.size w wr

theorem Try.sizeDt : (Try.prog.info? 37).map (·.size) = some 5 := by kernel_rfl

end Go.Proofs.Ytdeelpagoffdjaa.Dat
