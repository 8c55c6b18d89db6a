/- Texts of data, in plain Lean: no two that are right have the same. -/
import Derived.Test.YtabofebepefbgaaDoorDatS
namespace Go.Proofs.YtabofebepefbgaaDoor.Dat
open Go.RowKit
set_option linter.unusedVariables false

def Dt.kind : Dt → Int
  | .node k _ _ _ _ => k
/-- The text of a datum whose inside is this. -/
def wrapT (k : Int) (b : List UInt8) : List UInt8 := if k = 6 then 40 :: (b ++ [41]) else if k = 7 then 35 :: 40 :: (b ++ [41]) else b
/-- What stands behind the first one of a Pair, if this is the second one. -/
def tailT (k : Int) (b : List UInt8) : List UInt8 := if k = 6 then 32 :: b else if k = 4 then [] else 32 :: 46 :: 32 :: wrapT k b
def leafT (NT : Int → Int → List UInt8) (k n d : Int) (s : ByteArray) : List UInt8 :=
  if k = 0 then NT n d else if k = 1 then (if n = 1 then [35, 116] else [35, 102]) else if k = 2 then s.data.toList else if k = 3 then 34 :: (s.data.toList ++ [34]) else if k = 4 then [40, 41] else [35, 118]
mutual
def Dt.body (NT : Int → Int → List UInt8) : Dt → List UInt8
  | .node k n d s l => if k = 6 then Dt.pairB NT l else if k = 7 then Dt.seqB NT l else leafT NT k n d s
def Dt.pairB (NT : Int → Int → List UInt8) : List Dt → List UInt8
  | [] => []
  | a :: r => wrapT a.kind (a.body NT) ++ Dt.restB NT r
def Dt.restB (NT : Int → Int → List UInt8) : List Dt → List UInt8
  | [] => []
  | b :: _ => tailT b.kind (b.body NT)
def Dt.seqB (NT : Int → Int → List UInt8) : List Dt → List UInt8
  | [] => []
  | a :: r => wrapT a.kind (a.body NT) ++ Dt.moreB NT r
def Dt.moreB (NT : Int → Int → List UInt8) : List Dt → List UInt8
  | [] => []
  | a :: r => 32 :: (wrapT a.kind (a.body NT) ++ Dt.moreB NT r)
end
def Dt.text (NT : Int → Int → List UInt8) (t : Dt) : List UInt8 := wrapT t.kind (t.body NT)
def Dt.tail (NT : Int → Int → List UInt8) (t : Dt) : List UInt8 := tailT t.kind (t.body NT)

/-- What is asked of the numbers' texts and of names. -/
structure Sound (R : Int → Int → Bool) (Nm : ByteArray → Bool) (NT : Int → Int → List UInt8) : Prop where
  num : ∀ n d, R n d = true → NT n d ≠ [] ∧ (NT n d).all nameChar = true
  one : ∀ n d m e, R n d = true → R m e = true → NT n d = NT m e → n = m ∧ d = e
  sym : ∀ s, Nm s = true → s.data.toList ≠ [] ∧ s.data.toList.all nameChar = true
  other : ∀ n d s, R n d = true → Nm s = true → NT n d ≠ s.data.toList

abbrev nil8 : ByteArray := ⟨#[]⟩
/-- One that is right is one of these. -/
inductive View (R : Int → Int → Bool) (Nm : ByteArray → Bool) (deep : Nat) : Dt → Prop
  | num (n d : Int) : R n d = true → View R Nm deep (.node 0 n d nil8 [])
  | bool (n : Int) : n = 0 ∨ n = 1 → View R Nm deep (.node 1 n 0 nil8 [])
  | sym (s : ByteArray) : Nm s = true → View R Nm deep (.node 2 0 0 s [])
  | str (s : ByteArray) : s.data.toList.all strChar = true → View R Nm deep (.node 3 0 0 s [])
  | null : View R Nm deep (.node 4 0 0 nil8 [])
  | void : View R Nm deep (.node 5 0 0 nil8 [])
  | pair (a b : Dt) : a.right R Nm (deep + 1) = true → b.right R Nm (deep + 1) = true → View R Nm deep (.node 6 0 0 nil8 [a, b])
  | vec (l : List Dt) : Dt.rightAll R Nm l (deep + 1) = true → View R Nm deep (.node 7 0 0 nil8 l)

theorem list0 {α : Type} {l : List α} (h : l.length = 0) : l = [] := List.eq_nil_of_length_eq_zero h
theorem list2 {α : Type} {l : List α} (h : l.length = 2) : ∃ a b, l = [a, b] := by
  match l, h with
  | [a, b], _ => exact ⟨a, b, rfl⟩
theorem view_of {R : Int → Int → Bool} {Nm : ByteArray → Bool} {t : Dt} {deep : Nat} (h : t.right R Nm deep = true) : View R Nm deep t := by
  obtain ⟨k, n, d, s, l⟩ := t
  unfold Dt.right at h
  rw [Bool.and_eq_true, Bool.and_eq_true] at h
  obtain ⟨⟨h1, h2⟩, h3⟩ := h
  unfold headRight at h2
  simp only [Bool.and_eq_true, decide_eq_true_eq] at h2
  obtain ⟨⟨⟨⟨⟨⟨k0, k7⟩, hd⟩, hn⟩, hs⟩, hc⟩, hl⟩ := h2
  have hk8 : k = 0 ∨ k = 1 ∨ k = 2 ∨ k = 3 ∨ k = 4 ∨ k = 5 ∨ k = 6 ∨ k = 7 := by omega
  rcases hk8 with rfl | rfl | rfl | rfl | rfl | rfl | rfl | rfl
  · simp at hd hn hs hl; obtain rfl : s = nil8 := hs; obtain rfl := hl; exact .num _ _ hd
  · simp at hd hn hs hl; obtain rfl : s = nil8 := hs; obtain rfl := hl; obtain rfl := hd; exact .bool _ hn
  · simp at hd hn hs hl; obtain rfl := hl; obtain rfl := hd; obtain rfl := hn; exact .sym _ hs
  · simp at hd hn hl; obtain rfl := hl; obtain rfl := hd; obtain rfl := hn; exact .str _ hc
  · simp at hd hn hs hl; obtain rfl : s = nil8 := hs; obtain rfl := hl; obtain rfl := hd; obtain rfl := hn; exact .null
  · simp at hd hn hs hl; obtain rfl : s = nil8 := hs; obtain rfl := hl; obtain rfl := hd; obtain rfl := hn; exact .void
  · simp at hd hn hs hl; obtain rfl : s = nil8 := hs; obtain ⟨a, b, rfl⟩ := list2 hl; obtain rfl := hd; obtain rfl := hn
    unfold Dt.rightAll Dt.rightAll at h3
    simp only [Bool.and_eq_true] at h3
    exact .pair _ _ h3.1 h3.2.1
  · simp at hd hn hs; obtain rfl : s = nil8 := hs; obtain rfl := hd; obtain rfl := hn; exact .vec _ h3

/-- Nothing, or a blank or a bracket first. -/
def Del (r : List UInt8) : Prop := r = [] ∨ ∃ c q, r = c :: q ∧ (c = 32 ∨ c = 41)
theorem atoms : ∀ {a b r r' : List UInt8}, a.all nameChar = true → b.all nameChar = true → Del r → Del r' → a ++ r = b ++ r' → a = b ∧ r = r'
  | [], [], _, _, _, _, _, _, h => ⟨rfl, h⟩
  | [], c :: b, r, r', _, hb, hr, _, h => by
    simp only [List.all_cons, Bool.and_eq_true] at hb
    rcases hr with rfl | ⟨x, q, rfl, hx⟩
    · simp at h
    · simp only [List.nil_append, List.cons_append, List.cons.injEq] at h
      obtain ⟨rfl, _⟩ := h
      rcases hx with rfl | rfl
      · exact absurd hb.1 (by decide)
      · exact absurd hb.1 (by decide)
  | c :: a, [], r, r', ha, _, _, hr, h => by
    simp only [List.all_cons, Bool.and_eq_true] at ha
    rcases hr with rfl | ⟨x, q, rfl, hx⟩
    · simp at h
    · simp only [List.nil_append, List.cons_append, List.cons.injEq] at h
      obtain ⟨rfl, _⟩ := h
      rcases hx with rfl | rfl
      · exact absurd ha.1 (by decide)
      · exact absurd ha.1 (by decide)
  | c :: a, c' :: b, r, r', ha, hb, hr, hr', h => by
    simp only [List.all_cons, Bool.and_eq_true] at ha hb
    simp only [List.cons_append, List.cons.injEq] at h
    obtain ⟨rfl, h⟩ := h
    obtain ⟨rfl, rfl⟩ := atoms ha.2 hb.2 hr hr' h
    exact ⟨rfl, rfl⟩
theorem strs : ∀ {a b r r' : List UInt8}, a.all strChar = true → b.all strChar = true → a ++ 34 :: r = b ++ 34 :: r' → a = b ∧ r = r'
  | [], [], _, _, _, _, h => by simp at h; exact ⟨rfl, h⟩
  | [], c :: b, r, r', _, hb, h => by
    simp only [List.all_cons, Bool.and_eq_true] at hb
    simp only [List.nil_append, List.cons_append, List.cons.injEq] at h
    obtain ⟨rfl, _⟩ := h
    exact absurd hb.1 (by decide)
  | c :: a, [], r, r', ha, _, h => by
    simp only [List.all_cons, Bool.and_eq_true] at ha
    simp only [List.nil_append, List.cons_append, List.cons.injEq] at h
    obtain ⟨rfl, _⟩ := h
    exact absurd ha.1 (by decide)
  | c :: a, c' :: b, r, r', ha, hb, h => by
    simp only [List.all_cons, Bool.and_eq_true] at ha hb
    simp only [List.cons_append, List.cons.injEq] at h
    obtain ⟨rfl, h⟩ := h
    obtain ⟨rfl, rfl⟩ := strs ha.2 hb.2 h
    exact ⟨rfl, rfl⟩

variable {NT : Int → Int → List UInt8}
theorem text_num (n d : Int) (s : ByteArray) (l : List Dt) : (Dt.node 0 n d s l).text NT = NT n d := by simp [Dt.text, Dt.kind, Dt.body, wrapT, leafT]
theorem text_bool (n d : Int) (s : ByteArray) (l : List Dt) : (Dt.node 1 n d s l).text NT = if n = 1 then [35, 116] else [35, 102] := by simp [Dt.text, Dt.kind, Dt.body, wrapT, leafT]
theorem text_sym (n d : Int) (s : ByteArray) (l : List Dt) : (Dt.node 2 n d s l).text NT = s.data.toList := by simp [Dt.text, Dt.kind, Dt.body, wrapT, leafT]
theorem text_str (n d : Int) (s : ByteArray) (l : List Dt) : (Dt.node 3 n d s l).text NT = 34 :: (s.data.toList ++ [34]) := by simp [Dt.text, Dt.kind, Dt.body, wrapT, leafT]
theorem text_null (n d : Int) (s : ByteArray) (l : List Dt) : (Dt.node 4 n d s l).text NT = [40, 41] := by simp [Dt.text, Dt.kind, Dt.body, wrapT, leafT]
theorem text_void (n d : Int) (s : ByteArray) (l : List Dt) : (Dt.node 5 n d s l).text NT = [35, 118] := by simp [Dt.text, Dt.kind, Dt.body, wrapT, leafT]
theorem text_pair (n d : Int) (s : ByteArray) (a b : Dt) : (Dt.node 6 n d s [a, b]).text NT = 40 :: (a.text NT ++ b.tail NT ++ [41]) := by simp [Dt.text, Dt.tail, Dt.kind, Dt.body, wrapT, Dt.pairB, Dt.restB]
theorem text_vec (n d : Int) (s : ByteArray) (l : List Dt) : (Dt.node 7 n d s l).text NT = 35 :: 40 :: (Dt.seqB NT l ++ [41]) := by simp [Dt.text, Dt.kind, Dt.body, wrapT]
theorem tail_pair (n d : Int) (s : ByteArray) (a b : Dt) : (Dt.node 6 n d s [a, b]).tail NT = 32 :: (a.text NT ++ b.tail NT) := by simp [Dt.text, Dt.tail, Dt.kind, Dt.body, tailT, Dt.pairB, Dt.restB]
theorem tail_null (n d : Int) (s : ByteArray) (l : List Dt) : (Dt.node 4 n d s l).tail NT = [] := by simp [Dt.tail, Dt.kind, tailT]
theorem tail_else {t : Dt} (h6 : t.kind ≠ 6) (h4 : t.kind ≠ 4) : t.tail NT = 32 :: 46 :: 32 :: t.text NT := by simp [Dt.text, Dt.tail, tailT, h6, h4]
theorem moreB_cons (a : Dt) (r : List Dt) : Dt.moreB NT (a :: r) = 32 :: (a.text NT ++ Dt.moreB NT r) := by simp [Dt.moreB, Dt.text]
theorem seqB_cons (a : Dt) (r : List Dt) : Dt.seqB NT (a :: r) = a.text NT ++ Dt.moreB NT r := by simp [Dt.seqB, Dt.text]

theorem cons_of {p : UInt8 → Bool} {l : List UInt8} (h : l ≠ []) (ha : l.all p = true) : ∃ c q, l = c :: q ∧ p c = true := by
  cases l with
  | nil => exact absurd rfl h
  | cons c q => simp only [List.all_cons, Bool.and_eq_true] at ha; exact ⟨c, q, rfl, ha.1⟩
/-- How a text begins. -/
theorem text_first {R : Int → Int → Bool} {Nm : ByteArray → Bool} (S : Sound R Nm NT) {t : Dt} {deep : Nat} (h : t.right R Nm deep = true) : ∃ c q, t.text NT = c :: q ∧ c ≠ 41 ∧ c ≠ 46 ∧ c ≠ 32 := by
  rcases view_of h with ⟨n, d, hr⟩ | ⟨n, hn⟩ | ⟨s, hs⟩ | ⟨s, hs⟩ | _ | _ | ⟨a, b, ha, hb⟩ | ⟨l, hl⟩
  · obtain ⟨c, q, e, hc⟩ := cons_of (S.num n d hr).1 (S.num n d hr).2
    exact ⟨c, q, by rw [text_num, e], by rintro rfl; exact absurd hc (by decide), by rintro rfl; exact absurd hc (by decide), by rintro rfl; exact absurd hc (by decide)⟩
  · rw [text_bool]; split <;> exact ⟨_, _, rfl, by decide, by decide, by decide⟩
  · obtain ⟨c, q, e, hc⟩ := cons_of (S.sym s hs).1 (S.sym s hs).2
    exact ⟨c, q, by rw [text_sym, e], by rintro rfl; exact absurd hc (by decide), by rintro rfl; exact absurd hc (by decide), by rintro rfl; exact absurd hc (by decide)⟩
  · exact ⟨_, _, text_str .., by decide, by decide, by decide⟩
  · exact ⟨_, _, text_null .., by decide, by decide, by decide⟩
  · exact ⟨_, _, text_void .., by decide, by decide, by decide⟩
  · exact ⟨_, _, text_pair .., by decide, by decide, by decide⟩
  · exact ⟨_, _, text_vec .., by decide, by decide, by decide⟩
theorem del_tail {t : Dt} (r : List UInt8) {R : Int → Int → Bool} {Nm : ByteArray → Bool} {deep : Nat} (h : t.right R Nm deep = true) : Del (t.tail NT ++ 41 :: r) := by
  right
  by_cases h4 : t.kind = 4
  · obtain ⟨k, n, d, s, l⟩ := t
    obtain rfl : k = 4 := h4
    exact ⟨41, r, by rw [tail_null]; rfl, Or.inr rfl⟩
  · by_cases h6 : t.kind = 6
    · rcases view_of h with ⟨n, d, hr⟩ | ⟨n, hn⟩ | ⟨s, hs⟩ | ⟨s, hs⟩ | _ | _ | ⟨a, b, ha, hb⟩ | ⟨l, hl⟩ <;> first | (simp [Dt.kind] at h6; done) | skip
      exact ⟨32, _, by rw [tail_pair]; rfl, Or.inl rfl⟩
    · exact ⟨32, _, by rw [tail_else h6 h4]; rfl, Or.inl rfl⟩
theorem del_more (l : List Dt) (r : List UInt8) : Del (Dt.moreB NT l ++ 41 :: r) := by
  right
  cases l with
  | nil => exact ⟨41, r, by simp [Dt.moreB], Or.inr rfl⟩
  | cons a q => exact ⟨32, _, by rw [moreB_cons]; rfl, Or.inl rfl⟩

def TextOne (R : Int → Int → Bool) (Nm : ByteArray → Bool) (NT : Int → Int → List UInt8) (t : Dt) : Prop :=
  ∀ (t' : Dt) (deep deep' : Nat) (r r' : List UInt8), t.right R Nm deep = true → t'.right R Nm deep' = true → Del r → Del r' → t.text NT ++ r = t'.text NT ++ r' → t = t' ∧ r = r'
def TailOne (R : Int → Int → Bool) (Nm : ByteArray → Bool) (NT : Int → Int → List UInt8) (t : Dt) : Prop :=
  ∀ (t' : Dt) (deep deep' : Nat) (r r' : List UInt8), t.right R Nm deep = true → t'.right R Nm deep' = true → t.tail NT ++ 41 :: r = t'.tail NT ++ 41 :: r' → t = t' ∧ r = r'

theorem tail_one {R : Int → Int → Bool} {Nm : ByteArray → Bool} (S : Sound R Nm NT) {t : Dt} (U : TextOne R Nm NT t) (ih : ∀ x, x.size < t.size → TextOne R Nm NT x ∧ TailOne R Nm NT x) : TailOne R Nm NT t := by
  intro t' deep deep' r r' h h' e
  have dl : ∀ q : List UInt8, Del (41 :: q) := fun q => Or.inr ⟨41, q, rfl, Or.inr rfl⟩
  by_cases h4 : t.kind = 4 <;> by_cases h4' : t'.kind = 4
  · rcases view_of h with ⟨n, d, hr⟩ | ⟨n, hn⟩ | ⟨s, hs⟩ | ⟨s, hs⟩ | _ | _ | ⟨a, b, ha, hb⟩ | ⟨l, hl⟩ <;> first | (simp [Dt.kind] at h4; done) | skip
    rcases view_of h' with ⟨n, d, hr⟩ | ⟨n, hn⟩ | ⟨s, hs⟩ | ⟨s, hs⟩ | _ | _ | ⟨a, b, ha, hb⟩ | ⟨l, hl⟩ <;> first | (simp [Dt.kind] at h4'; done) | skip
    rw [tail_null] at e; simp at e; exact ⟨rfl, e⟩
  · exfalso
    obtain ⟨k, n, d, s, l⟩ := t
    obtain rfl : k = 4 := h4
    rw [tail_null] at e
    by_cases h6 : t'.kind = 6
    · rcases view_of h' with ⟨n, d, hr⟩ | ⟨n, hn⟩ | ⟨s, hs⟩ | ⟨s, hs⟩ | _ | _ | ⟨a, b, ha, hb⟩ | ⟨l, hl⟩ <;> first | (simp [Dt.kind] at h6; done) | skip
      rw [tail_pair] at e; simp at e
    · rw [tail_else h6 h4'] at e; simp at e
  · exfalso
    obtain ⟨k, n, d, s, l⟩ := t'
    obtain rfl : k = 4 := h4'
    rw [tail_null] at e
    by_cases h6 : t.kind = 6
    · rcases view_of h with ⟨n, d, hr⟩ | ⟨n, hn⟩ | ⟨s, hs⟩ | ⟨s, hs⟩ | _ | _ | ⟨a, b, ha, hb⟩ | ⟨l, hl⟩ <;> first | (simp [Dt.kind] at h6; done) | skip
      rw [tail_pair] at e; simp at e
    · rw [tail_else h6 h4] at e; simp at e
  · by_cases h6 : t.kind = 6 <;> by_cases h6' : t'.kind = 6
    · rcases view_of h with ⟨n, d, hr⟩ | ⟨n, hn⟩ | ⟨s, hs⟩ | ⟨s, hs⟩ | _ | _ | ⟨a, b, ha, hb⟩ | ⟨l, hl⟩ <;> first | (simp [Dt.kind] at h6; done) | skip
      rcases view_of h' with ⟨n, d, hr⟩ | ⟨n, hn⟩ | ⟨s, hs⟩ | ⟨s, hs⟩ | _ | _ | ⟨a', b', ha', hb'⟩ | ⟨l, hl⟩ <;> first | (simp [Dt.kind] at h6'; done) | skip
      rw [tail_pair, tail_pair] at e
      simp only [List.cons_append, List.append_assoc, List.cons.injEq, true_and] at e
      have sz : a.size < (Dt.node 6 0 0 nil8 [a, b]).size ∧ b.size < (Dt.node 6 0 0 nil8 [a, b]).size := by
        have := a.size_pos; have := b.size_pos
        simp only [Dt.size, Dt.sizes]; omega
      obtain ⟨rfl, e2⟩ := (ih a sz.1).1 a' _ _ _ _ ha ha' (del_tail _ hb) (del_tail _ hb') e
      obtain ⟨rfl, e3⟩ := (ih b sz.2).2 b' _ _ _ _ hb hb' e2
      exact ⟨rfl, e3⟩
    · exfalso
      rcases view_of h with ⟨n, d, hr⟩ | ⟨n, hn⟩ | ⟨s, hs⟩ | ⟨s, hs⟩ | _ | _ | ⟨a, b, ha, hb⟩ | ⟨l, hl⟩ <;> first | (simp [Dt.kind] at h6; done) | skip
      obtain ⟨c, q, ec, _, c46, _⟩ := text_first S ha
      rw [tail_pair, tail_else h6' h4', ec] at e
      simp at e; exact c46 e.1
    · exfalso
      rcases view_of h' with ⟨n, d, hr⟩ | ⟨n, hn⟩ | ⟨s, hs⟩ | ⟨s, hs⟩ | _ | _ | ⟨a, b, ha, hb⟩ | ⟨l, hl⟩ <;> first | (simp [Dt.kind] at h6'; done) | skip
      obtain ⟨c, q, ec, _, c46, _⟩ := text_first S ha
      rw [tail_pair, tail_else h6 h4, ec] at e
      simp at e; exact c46 e.1.symm
    · rw [tail_else h6 h4, tail_else h6' h4'] at e
      simp only [List.cons_append, List.cons.injEq, true_and] at e
      obtain ⟨rfl, e⟩ := U t' _ _ _ _ h h' (dl _) (dl _) e
      simp at e
      exact ⟨rfl, e⟩

theorem more_one {R : Int → Int → Bool} {Nm : ByteArray → Bool} : ∀ (l l' : List Dt) (deep deep' : Nat) (r r' : List UInt8), (∀ x, x ∈ l → TextOne R Nm NT x) → Dt.rightAll R Nm l deep = true → Dt.rightAll R Nm l' deep' = true → Dt.moreB NT l ++ 41 :: r = Dt.moreB NT l' ++ 41 :: r' → l = l' ∧ r = r'
  | [], [], _, _, _, _, _, _, _, e => by simp [Dt.moreB] at e; exact ⟨rfl, e⟩
  | [], x :: q, _, _, _, _, _, _, _, e => by rw [moreB_cons] at e; simp [Dt.moreB] at e
  | x :: q, [], _, _, _, _, _, _, _, e => by rw [moreB_cons] at e; simp [Dt.moreB] at e
  | x :: q, x' :: q', deep, deep', r, r', ih, h, h', e => by
    unfold Dt.rightAll at h h'
    rw [Bool.and_eq_true] at h h'
    rw [moreB_cons, moreB_cons] at e
    simp only [List.cons_append, List.append_assoc, List.cons.injEq, true_and] at e
    obtain ⟨rfl, e2⟩ := ih x (by simp) x' _ _ _ _ h.1 h'.1 (del_more _ _) (del_more _ _) e
    obtain ⟨rfl, e3⟩ := more_one q q' _ _ _ _ (fun y hy => ih y (by simp [hy])) h.2 h'.2 e2
    exact ⟨rfl, e3⟩
theorem seq_one {R : Int → Int → Bool} {Nm : ByteArray → Bool} (S : Sound R Nm NT) : ∀ (l l' : List Dt) (deep deep' : Nat) (r r' : List UInt8), (∀ x, x ∈ l → TextOne R Nm NT x) → Dt.rightAll R Nm l deep = true → Dt.rightAll R Nm l' deep' = true → Dt.seqB NT l ++ 41 :: r = Dt.seqB NT l' ++ 41 :: r' → l = l' ∧ r = r'
  | [], [], _, _, _, _, _, _, _, e => by simp [Dt.seqB] at e; exact ⟨rfl, e⟩
  | [], x :: q, _, _, _, _, _, _, h', e => by
    unfold Dt.rightAll at h'
    rw [Bool.and_eq_true] at h'
    obtain ⟨c, q, ec, c41, _, _⟩ := text_first S h'.1
    rw [seqB_cons, ec] at e; simp [Dt.seqB] at e; exact absurd e.1.symm c41
  | x :: q, [], _, _, _, _, _, h, _, e => by
    unfold Dt.rightAll at h
    rw [Bool.and_eq_true] at h
    obtain ⟨c, q, ec, c41, _, _⟩ := text_first S h.1
    rw [seqB_cons, ec] at e; simp [Dt.seqB] at e; exact absurd e.1 c41
  | x :: q, x' :: q', deep, deep', r, r', ih, h, h', e => by
    unfold Dt.rightAll at h h'
    rw [Bool.and_eq_true] at h h'
    rw [seqB_cons, seqB_cons] at e
    simp only [List.append_assoc] at e
    obtain ⟨rfl, e2⟩ := ih x (by simp) x' _ _ _ _ h.1 h'.1 (del_more _ _) (del_more _ _) e
    obtain ⟨rfl, e3⟩ := more_one q q' _ _ _ _ (fun y hy => ih y (by simp [hy])) h.2 h'.2 e2
    exact ⟨rfl, e3⟩

theorem Dt.size_mem {l : List Dt} {x : Dt} (h : x ∈ l) : x.size ≤ Dt.sizes l := by
  obtain ⟨i, hi⟩ := List.mem_iff_getElem?.1 h
  exact Dt.size_kid hi
theorem text_one {R : Int → Int → Bool} {Nm : ByteArray → Bool} (S : Sound R Nm NT) {t : Dt} (ih : ∀ x, x.size < t.size → TextOne R Nm NT x ∧ TailOne R Nm NT x) : TextOne R Nm NT t := by
  intro t' deep deep' r r' h h' hd hd' e
  have away : ∀ {c : UInt8} {q : List UInt8}, nameChar c = true → ∀ {x : UInt8} {y : List UInt8}, nameChar x = false → c :: q = x :: y → False := by
    intro c q hc x y hx he
    simp only [List.cons.injEq] at he
    rw [he.1, hx] at hc; cases hc
  rcases view_of h with ⟨n, d, hr⟩ | ⟨n, hn⟩ | ⟨s, hs⟩ | ⟨s, hs⟩ | _ | _ | ⟨a, b, ha, hb⟩ | ⟨l, hl⟩ <;>
    rcases view_of h' with ⟨n', d', hr'⟩ | ⟨n', hn'⟩ | ⟨s', hs'⟩ | ⟨s', hs'⟩ | _ | _ | ⟨a', b', ha', hb'⟩ | ⟨l', hl'⟩ <;>
    (try rw [text_num] at e) <;> (try rw [text_sym] at e) <;> (try rw [text_str] at e) <;> (try rw [text_null] at e) <;> (try rw [text_void] at e) <;> (try rw [text_pair] at e) <;> (try rw [text_vec] at e) <;> (try rw [text_bool] at e) <;>
    (try rw [text_num] at e) <;> (try rw [text_sym] at e) <;> (try rw [text_str] at e) <;> (try rw [text_null] at e) <;> (try rw [text_void] at e) <;> (try rw [text_pair] at e) <;> (try rw [text_vec] at e) <;> (try rw [text_bool] at e)
  all_goals first
    | (exfalso; simp at e; done)
    | (exfalso; rcases hn with rfl | rfl <;> simp at e <;> done)
    | (exfalso; rcases hn' with rfl | rfl <;> simp at e <;> done)
    | (exfalso; obtain ⟨c, q, ec, hc⟩ := cons_of (S.num _ _ hr).1 (S.num _ _ hr).2; rw [ec] at e; simp only [List.cons_append] at e; exact away hc (by decide) e)
    | (exfalso; obtain ⟨c, q, ec, hc⟩ := cons_of (S.num _ _ hr').1 (S.num _ _ hr').2; rw [ec] at e; simp only [List.cons_append] at e; exact away hc (by decide) e.symm)
    | (exfalso; obtain ⟨c, q, ec, hc⟩ := cons_of (S.sym _ hs).1 (S.sym _ hs).2; rw [ec] at e; simp only [List.cons_append] at e; exact away hc (by decide) e)
    | (exfalso; obtain ⟨c, q, ec, hc⟩ := cons_of (S.sym _ hs').1 (S.sym _ hs').2; rw [ec] at e; simp only [List.cons_append] at e; exact away hc (by decide) e.symm)
    | (exfalso; rcases hn with rfl | rfl <;> obtain ⟨c, q, ec, hc⟩ := cons_of (S.num _ _ hr').1 (S.num _ _ hr').2 <;> rw [ec] at e <;> simp at e <;> obtain ⟨rfl, _⟩ := e <;> exact absurd hc (by decide))
    | (exfalso; rcases hn with rfl | rfl <;> obtain ⟨c, q, ec, hc⟩ := cons_of (S.sym _ hs').1 (S.sym _ hs').2 <;> rw [ec] at e <;> simp at e <;> obtain ⟨rfl, _⟩ := e <;> exact absurd hc (by decide))
    | (exfalso; rcases hn' with rfl | rfl <;> obtain ⟨c, q, ec, hc⟩ := cons_of (S.num _ _ hr).1 (S.num _ _ hr).2 <;> rw [ec] at e <;> simp at e <;> obtain ⟨rfl, _⟩ := e <;> exact absurd hc (by decide))
    | (exfalso; rcases hn' with rfl | rfl <;> obtain ⟨c, q, ec, hc⟩ := cons_of (S.sym _ hs).1 (S.sym _ hs).2 <;> rw [ec] at e <;> simp at e <;> obtain ⟨rfl, _⟩ := e <;> exact absurd hc (by decide))
    | (obtain ⟨e1, e2⟩ := atoms (S.num _ _ hr).2 (S.num _ _ hr').2 hd hd' e; obtain ⟨rfl, rfl⟩ := S.one _ _ _ _ hr hr' e1; exact ⟨rfl, e2⟩)
    | (exfalso; obtain ⟨e1, _⟩ := atoms (S.num _ _ hr).2 (S.sym _ hs').2 hd hd' e; exact S.other _ _ _ hr hs' e1)
    | (exfalso; obtain ⟨e1, _⟩ := atoms (S.sym _ hs).2 (S.num _ _ hr').2 hd hd' e; exact S.other _ _ _ hr' hs e1.symm)
    | (obtain ⟨e1, e2⟩ := atoms (S.sym _ hs).2 (S.sym _ hs').2 hd hd' e; obtain rfl : s = s' := ByteArray.ext (Array.ext' e1); exact ⟨rfl, e2⟩)
    | (rcases hn with rfl | rfl <;> rcases hn' with rfl | rfl <;> simp at e <;> exact ⟨rfl, e⟩)
    | (simp at e; exact ⟨rfl, e⟩)
    | (exfalso; obtain ⟨c, q, ec, c41, _⟩ := text_first S ha'; rw [ec] at e; simp at e; exact absurd e.1.symm c41)
    | (exfalso; obtain ⟨c, q, ec, c41, _⟩ := text_first S ha; rw [ec] at e; simp at e; exact absurd e.1 c41)
    | (simp only [List.cons_append, List.append_assoc, List.cons.injEq, true_and, List.nil_append] at e; obtain ⟨e1, e2⟩ := strs hs hs' e; obtain rfl : s = s' := ByteArray.ext (Array.ext' e1); exact ⟨rfl, e2⟩)
    | skip
  · simp only [List.cons_append, List.append_assoc, List.cons.injEq, true_and, List.nil_append] at e
    have sz : a.size < (Dt.node 6 0 0 nil8 [a, b]).size ∧ b.size < (Dt.node 6 0 0 nil8 [a, b]).size := by
      have := a.size_pos; have := b.size_pos
      simp only [Dt.size, Dt.sizes]; omega
    obtain ⟨rfl, e2⟩ := (ih a sz.1).1 a' _ _ _ _ ha ha' (del_tail _ hb) (del_tail _ hb') e
    obtain ⟨rfl, e3⟩ := (ih b sz.2).2 b' _ _ _ _ hb hb' e2
    exact ⟨rfl, e3⟩
  · simp only [List.cons_append, List.append_assoc, List.cons.injEq, true_and, List.nil_append] at e
    obtain ⟨rfl, e2⟩ := seq_one S l l' _ _ _ _ (fun x hx => (ih x (by have := Dt.size_mem hx; simp only [Dt.size]; omega)).1) hl hl' e
    exact ⟨rfl, e2⟩

theorem one_all {R : Int → Int → Bool} {Nm : ByteArray → Bool} (S : Sound R Nm NT) (N : Nat) : ∀ t : Dt, t.size ≤ N → TextOne R Nm NT t ∧ TailOne R Nm NT t := by
  induction N with
  | zero => intro t h; have := t.size_pos; omega
  | succ N ih =>
    intro t h
    have ih' : ∀ x, x.size < t.size → TextOne R Nm NT x ∧ TailOne R Nm NT x := fun x hx => ih x (by omega)
    have U := text_one S ih'
    exact ⟨U, tail_one S U ih'⟩
/-- No two that are right have the same text. -/
theorem text_inj {R : Int → Int → Bool} {Nm : ByteArray → Bool} (S : Sound R Nm NT) {t t' : Dt} {deep deep' : Nat} (h : t.right R Nm deep = true) (h' : t'.right R Nm deep' = true) (e : t.text NT = t'.text NT) : t = t' :=
  ((one_all S _ t (Nat.le_refl _)).1 t' deep deep' [] [] h h' (Or.inl rfl) (Or.inl rfl) (by rw [e])).1
mutual
theorem Dt.alike_iff : ∀ t t' : Dt, t.alike t' = true ↔ t = t'
  | .node k n d s l, .node k' n' d' s' l' => by
    unfold Dt.alike
    simp only [Bool.and_eq_true, decide_eq_true_eq, Dt.node.injEq]
    rw [Dt.alikeAll_iff l l']
    constructor
    · rintro ⟨⟨⟨⟨a, b⟩, c⟩, d⟩, e⟩; exact ⟨a, b, c, d, e⟩
    · rintro ⟨a, b, c, d, e⟩; exact ⟨⟨⟨⟨a, b⟩, c⟩, d⟩, e⟩
theorem Dt.alikeAll_iff : ∀ l l' : List Dt, Dt.alikeAll l l' = true ↔ l = l'
  | [], [] => by simp [Dt.alikeAll]
  | [], x :: q => by simp [Dt.alikeAll]
  | x :: q, [] => by simp [Dt.alikeAll]
  | x :: q, x' :: q' => by
    unfold Dt.alikeAll
    rw [Bool.and_eq_true, Dt.alike_iff x x', Dt.alikeAll_iff q q', List.cons.injEq]
end
/-- WHAT IS RIGHT IS THE SAME JUST IF THE TEXTS ARE. -/
theorem alike_text {R : Int → Int → Bool} {Nm : ByteArray → Bool} (S : Sound R Nm NT) {t t' : Dt} {deep deep' : Nat} (h : t.right R Nm deep = true) (h' : t'.right R Nm deep' = true) : t.alike t' = decide (t.text NT = t'.text NT) := by
  rw [Bool.eq_iff_iff, Dt.alike_iff, decide_eq_true_iff]
  exact ⟨fun e => by rw [e], fun e => text_inj S h h' e⟩
end Go.Proofs.YtabofebepefbgaaDoor.Dat
