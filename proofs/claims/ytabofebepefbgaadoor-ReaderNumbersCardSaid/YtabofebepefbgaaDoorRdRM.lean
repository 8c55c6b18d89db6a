/- The reader, in plain Lean: the text of a datum is read to it. -/
import Derived.Test.YtabofebepefbgaaDoorRdOne

namespace Go.Proofs.YtabofebepefbgaaDoor.Dat
open Go.RowKit
open Go.Proofs.YtabofebepefbgaaDoor (textL parse dec_dig)
open NumPlain (rightB isDig)
set_option linter.unusedVariables false

mutual
/-- A name in it has a "%". -/
def Dt.marked : Dt → Bool
  | .node k _ _ s l => (decide (k = 2) && s.data.toList.any (fun c => c == 37)) || Dt.markedAll l
def Dt.markedAll : List Dt → Bool
  | [] => false
  | t :: r => t.marked || Dt.markedAll r
end
theorem rd_from {m x y : List UInt8} {res : Res Dt} (h : Rd .one y res) (e : skipB false x = skipB false y) : Rd .one x res := by
  generalize hm : Md.one = mm at h
  cases h with
  | none h => exact .none (e.trans h)
  | str h => exact .str (e.trans h)
  | word h n1 n2 n3 n4 => exact .word (e.trans h) n1 n2 n3 n4
  | quoteBad h hb => exact .quoteBad (e.trans h) hb
  | quote h hb => exact .quote (e.trans h) hb
  | list h hb => exact .list (e.trans h) hb
  | hashEnd h => exact .hashEnd (e.trans h)
  | hashLeaf h hz => exact .hashLeaf (e.trans h) hz
  | hashVec h hb => exact .hashVec (e.trans h) hb
  | hashBad h hz hn => exact .hashBad (e.trans h) hz hn
  | _ => cases hm
theorem dig_word {c : UInt8} (h : isDig c = true) : wordChar c = true := by
  unfold wordChar
  rw [dig_name h, Bool.true_and, bne_iff_ne]
  intro e; rw [e] at h; exact absurd h (by decide)
theorem dec_word (n : Nat) : ∀ c ∈ Lib.decDigits n, wordChar c = true := fun c hc => dig_word (dec_dig n c hc)
theorem text_word {n d : Int} (h : rightB n d = true) : ∀ c ∈ textL n d, wordChar c = true := by
  unfold textL
  rw [if_pos h]
  intro c hc
  rcases List.mem_append.1 hc with h1 | h1
  · unfold Lib.itoa at h1
    split at h1
    · rcases List.mem_cons.1 h1 with rfl | h2
      · decide
      · exact dec_word _ c h2
    · exact dec_word _ c h1
  · split at h1
    · simp at h1
    · rcases List.mem_cons.1 h1 with rfl | h2
      · decide
      · exact dec_word _ c h2
/-- What may stand behind a word. -/
def Ends (x : List UInt8) : Prop := ∀ c y, x = c :: y → wordChar c = false
theorem ends_del {x : List UInt8} (h : Del x) : Ends x := by
  rcases h with rfl | ⟨c, q, rfl, rfl | rfl⟩
  · intro c y e; cases e
  · intro c y e; obtain ⟨rfl, _⟩ := List.cons.inj e; decide
  · intro c y e; obtain ⟨rfl, _⟩ := List.cons.inj e; decide
theorem word_num {n d : Int} (h : rightB n d = true) {x : List UInt8} (hx : Ends x) : wordR (textL n d ++ x) = .ok (.node 0 n d nil8 []) x := by
  obtain ⟨h1, h2⟩ := take_app (p := wordChar) (text_word h) hx
  unfold wordR
  rw [h1, h2, text_back h]; rfl
theorem word_sym {s : ByteArray} (h : nameB s = true) (hm : s.data.toList.any (fun c => c == 37) = false) {x : List UInt8} (hx : Ends x) : wordR (s.data.toList ++ x) = .ok (.node 2 0 0 s []) x := by
  unfold nameB at h
  simp only [Bool.and_eq_true, decide_eq_true_eq, Bool.not_eq_true'] at h
  obtain ⟨⟨⟨h1, h2⟩, h3⟩, h4⟩ := h
  have hw : ∀ c ∈ s.data.toList, wordChar c = true := by
    intro c hc
    unfold wordChar
    rw [List.all_eq_true.1 h3 c hc, Bool.true_and, bne_iff_ne]
    intro e
    rw [List.any_eq_false] at hm
    exact hm c hc (by rw [e]; rfl)
  obtain ⟨g1, g2⟩ := take_app (p := wordChar) hw hx
  have hl : s.data.toList.length = s.size := by simp
  unfold wordR
  rw [g1, g2, if_neg (by rw [h4]; decide), if_neg (by omega)]
theorem str_back {s : ByteArray} (h : s.data.toList.all strChar = true) (x : List UInt8) : strR (s.data.toList ++ 34 :: x) = .ok (.node 3 0 0 s []) x := by
  obtain ⟨g1, g2⟩ := take_app (p := strChar) (x := 34 :: x) (List.all_eq_true.1 h) (fun c y e => by obtain ⟨rfl, _⟩ := List.cons.inj e; decide)
  unfold strR
  rw [g1, g2]; simp [strEnd]
theorem chain_snoc (e a : Dt) : ∀ acc : List Dt, Dt.chain e (acc ++ [a]) = Dt.chain (.node 6 0 0 nil8 [a, e]) acc
  | [] => rfl
  | t :: r => by simp only [List.cons_append, Dt.chain]; rw [chain_snoc e a r]
/-- The first byte of a datum's text. -/
def Heads (c : UInt8) : Prop := wordChar c = true ∨ c = 34 ∨ c = 35 ∨ c = 40
theorem heads_skip {c : UInt8} (h : Heads c) (r : List UInt8) : skipB false (c :: r) = c :: r ∧ c ≠ 41 ∧ c ≠ 46 := by
  rcases h with h | rfl | rfl | rfl
  · have h1 : c ≠ 59 ∧ ¬ (c = 32 ∨ c = 10 ∨ c = 9) ∧ c ≠ 41 ∧ c ≠ 46 := by
      refine ⟨fun e => ?_, fun e => ?_, fun e => ?_, fun e => ?_⟩
      · rw [e] at h; exact absurd h (by decide)
      · rcases e with e | e | e <;> (rw [e] at h; exact absurd h (by decide))
      · rw [e] at h; exact absurd h (by decide)
      · rw [e] at h; exact absurd h (by decide)
    simp only [skipB, if_neg h1.1, if_neg h1.2.1]
    exact ⟨trivial, h1.2.2⟩
  · exact ⟨rfl, by decide, by decide⟩
  · exact ⟨rfl, by decide, by decide⟩
  · exact ⟨rfl, by decide, by decide⟩
theorem text_heads {t : Dt} {deep : Nat} (h : t.right rightB nameB deep = true) (hm : t.marked = false) : ∃ c q, t.text textL = c :: q ∧ Heads c := by
  cases view_of h with
  | num n d hr =>
    have h1 := text_word hr
    have h2 := (sound.num n d hr).1
    rw [text_num]
    cases ht : textL n d with
    | nil => exact absurd ht h2
    | cons c q => exact ⟨c, q, rfl, Or.inl (h1 c (by rw [ht]; simp))⟩
  | bool n hn =>
    rw [text_bool]
    split
    · exact ⟨35, _, rfl, Or.inr (Or.inr (Or.inl rfl))⟩
    · exact ⟨35, _, rfl, Or.inr (Or.inr (Or.inl rfl))⟩
  | sym s hs =>
    have h2 := (sound.sym s hs).1
    have h3 := (sound.sym s hs).2
    rw [text_sym]
    cases ht : s.data.toList with
    | nil => exact absurd ht h2
    | cons c q =>
      refine ⟨c, q, rfl, Or.inl ?_⟩
      unfold wordChar
      rw [ht] at h3
      rw [List.all_eq_true.1 h3 c (by simp), Bool.true_and, bne_iff_ne]
      intro e
      simp [Dt.marked, ht, e] at hm
  | str s hs => exact ⟨34, _, text_str .., Or.inr (Or.inl rfl)⟩
  | null => exact ⟨40, _, text_null .., Or.inr (Or.inr (Or.inr rfl))⟩
  | void => exact ⟨35, _, text_void .., Or.inr (Or.inr (Or.inl rfl))⟩
  | pair a b ha hb => exact ⟨40, _, text_pair .., Or.inr (Or.inr (Or.inr rfl))⟩
  | vec l hl => exact ⟨35, _, text_vec .., Or.inr (Or.inr (Or.inl rfl))⟩
/-- Its text is read to it. -/
def Back (t : Dt) : Prop := ∀ deep, t.right rightB nameB deep = true → t.marked = false → (∀ x, Ends x → Rd .one (t.text textL ++ x) (.ok t x)) ∧ ∀ acc x, acc ≠ [] → Rd (.list acc) (t.tail textL ++ 41 :: x) (.ok (Dt.chain t acc) x)
theorem marked_kid {k n d : Int} {s : ByteArray} {l : List Dt} (h : (Dt.node k n d s l).marked = false) : ∀ t ∈ l, t.marked = false := by
  unfold Dt.marked at h
  have h2 := (Bool.or_eq_false_iff.1 h).2
  intro t ht
  induction l with
  | nil => cases ht
  | cons a r ih =>
    unfold Dt.markedAll at h2
    rw [Bool.or_eq_false_iff] at h2
    rcases List.mem_cons.1 ht with rfl | ht
    · exact h2.1
    · refine ih ?_ h2.2 ht
      rw [(Bool.or_eq_false_iff.1 h).1, h2.2]; rfl
theorem more_back : ∀ (l acc : List Dt) (deep : Nat) (x : List UInt8), (∀ t ∈ l, Back t ∧ t.marked = false) → Dt.rightAll rightB nameB l deep = true → Rd (.vec acc) (Dt.moreB textL l ++ 41 :: x) (.ok (.node 7 0 0 nil8 (acc ++ l)) x)
  | [], acc, deep, x, _, _ => by
    rw [List.append_nil]
    exact .vShut (by simp [Dt.moreB, skipB])
  | a :: r, acc, deep, x, h, hr => by
    unfold Dt.rightAll at hr
    rw [Bool.and_eq_true] at hr
    obtain ⟨hb, hm⟩ := h a (by simp)
    obtain ⟨c, q, hc, hh⟩ := text_heads hr.1 hm
    have h1 := (hb deep hr.1 hm).1 (Dt.moreB textL r ++ 41 :: x) (ends_del (del_more r x))
    have h2 := more_back r (acc ++ [a]) deep x (fun t ht => h t (by simp [ht])) hr.2
    rw [moreB_cons, List.cons_append, List.append_assoc]
    obtain ⟨s1, s2, s3⟩ := heads_skip hh (q ++ (Dt.moreB textL r ++ 41 :: x))
    rw [hc, List.cons_append] at h1 ⊢
    rw [show acc ++ a :: r = (acc ++ [a]) ++ r by simp]
    exact .vMore (c := c) (r := q ++ (Dt.moreB textL r ++ 41 :: x)) (by simp only [skipB]; exact s1) s2 h1 h2
theorem seq_back (l : List Dt) (deep : Nat) (x : List UInt8) (h : ∀ t ∈ l, Back t ∧ t.marked = false) (hr : Dt.rightAll rightB nameB l deep = true) : Rd (.vec []) (Dt.seqB textL l ++ 41 :: x) (.ok (.node 7 0 0 nil8 l) x) := by
  cases l with
  | nil => exact .vShut (by simp [Dt.seqB, skipB])
  | cons a r =>
    unfold Dt.rightAll at hr
    rw [Bool.and_eq_true] at hr
    obtain ⟨hb, hm⟩ := h a (by simp)
    obtain ⟨c, q, hc, hh⟩ := text_heads hr.1 hm
    have h1 := (hb deep hr.1 hm).1 (Dt.moreB textL r ++ 41 :: x) (ends_del (del_more r x))
    have h2 := more_back r [a] deep x (fun t ht => h t (by simp [ht])) hr.2
    rw [seqB_cons, List.append_assoc]
    obtain ⟨s1, s2, s3⟩ := heads_skip hh (q ++ (Dt.moreB textL r ++ 41 :: x))
    rw [hc, List.cons_append] at h1 ⊢
    exact .vMore (c := c) (r := q ++ (Dt.moreB textL r ++ 41 :: x)) s1 s2 h1 h2
theorem back_all (N : Nat) : ∀ t : Dt, t.size ≤ N → Back t := by
  induction N with
  | zero => intro t h; have := t.size_pos; omega
  | succ N ih =>
    intro t hN deep h hm
    have one : ∀ x, Ends x → Rd .one (t.text textL ++ x) (.ok t x) := by
      intro x hx
      obtain ⟨c0, q0, hc0, hh0⟩ := text_heads h hm
      have hsk := fun y => (heads_skip hh0 (q0 ++ y)).1
      cases view_of h with
      | num n d hr =>
        rw [text_num] at hc0 ⊢
        have hw := word_num hr hx
        rw [hc0, List.cons_append] at hw ⊢
        have hwc : wordChar c0 = true := text_word hr c0 (by rw [hc0]; simp)
        rw [← hw]
        exact .word (hsk x) (fun e => by rw [e] at hwc; exact absurd hwc (by decide)) (fun e => by rw [e] at hwc; exact absurd hwc (by decide)) (fun e => by rw [e] at hwc; exact absurd hwc (by decide)) (fun e => by rw [e] at hwc; exact absurd hwc (by decide))
      | bool n hn =>
        rw [text_bool]
        rcases hn with rfl | rfl
        · exact .hashLeaf (m := 102) (r := x) rfl rfl
        · exact .hashLeaf (m := 116) (r := x) rfl rfl
      | sym s hs =>
        rw [text_sym] at hc0 ⊢
        have hm2 : s.data.toList.any (fun c => c == 37) = false := by simpa [Dt.marked, Dt.markedAll] using hm
        have hw := word_sym hs hm2 hx
        have hwc : wordChar c0 = true := by
          have h3 := (sound.sym s hs).2
          unfold wordChar
          rw [List.all_eq_true.1 h3 c0 (by rw [hc0]; simp), Bool.true_and, bne_iff_ne]
          intro e
          rw [List.any_eq_false] at hm2
          exact hm2 c0 (by rw [hc0]; simp) (by rw [e]; rfl)
        rw [hc0, List.cons_append] at hw ⊢
        rw [← hw]
        exact .word (hsk x) (fun e => by rw [e] at hwc; exact absurd hwc (by decide)) (fun e => by rw [e] at hwc; exact absurd hwc (by decide)) (fun e => by rw [e] at hwc; exact absurd hwc (by decide)) (fun e => by rw [e] at hwc; exact absurd hwc (by decide))
      | str s hs =>
        rw [text_str, List.cons_append, List.append_assoc]
        rw [← str_back hs x]
        exact .str rfl
      | null =>
        rw [text_null]
        exact .list (r := 41 :: x) rfl (.lShut rfl)
      | void =>
        rw [text_void]
        exact .hashLeaf (m := 118) (r := x) rfl rfl
      | pair a b ha hb =>
        have hsa : a.size ≤ N := by simp only [Dt.size, Dt.sizes] at hN; omega
        have hsb : b.size ≤ N := by simp only [Dt.size, Dt.sizes] at hN; omega
        have hma := marked_kid hm a (by simp)
        have hmb := marked_kid hm b (by simp)
        obtain ⟨c, q, hc, hh⟩ := text_heads ha hma
        have h1 := (ih a hsa _ ha hma).1 (b.tail textL ++ 41 :: x) (ends_del (del_tail x hb))
        have h2 := (ih b hsb _ hb hmb).2 [a] x (by simp)
        rw [text_pair]
        obtain ⟨s1, s2, s3⟩ := heads_skip hh (q ++ (b.tail textL ++ 41 :: x))
        rw [hc, List.cons_append] at h1
        refine .list (r := a.text textL ++ (b.tail textL ++ 41 :: x)) (by simp [skipB]) ?_
        rw [hc, List.cons_append]
        exact .lMore (c := c) (r := q ++ (b.tail textL ++ 41 :: x)) s1 s2 (Or.inl rfl) h1 h2
      | vec l hl =>
        rw [text_vec]
        refine .hashVec (r := Dt.seqB textL l ++ 41 :: x) (by simp [skipB]) ?_
        exact seq_back l _ x (fun t ht => ⟨ih t (by have := Dt.size_mem ht; simp only [Dt.size] at hN; omega), marked_kid hm t ht⟩) hl
    refine ⟨one, fun acc x hacc => ?_⟩
    by_cases h6 : t.kind = 6
    · cases view_of h with
      | pair a b ha hb =>
        have hsa : a.size ≤ N := by simp only [Dt.size, Dt.sizes] at hN; omega
        have hsb : b.size ≤ N := by simp only [Dt.size, Dt.sizes] at hN; omega
        have hma := marked_kid hm a (by simp)
        have hmb := marked_kid hm b (by simp)
        obtain ⟨c, q, hc, hh⟩ := text_heads ha hma
        have h1 := (ih a hsa _ ha hma).1 (b.tail textL ++ 41 :: x) (ends_del (del_tail x hb))
        have h2 := (ih b hsb _ hb hmb).2 (acc ++ [a]) x (by simp)
        rw [tail_pair, List.cons_append, List.append_assoc, ← chain_snoc]
        obtain ⟨s1, s2, s3⟩ := heads_skip hh (q ++ (b.tail textL ++ 41 :: x))
        rw [hc, List.cons_append] at h1 ⊢
        exact .lMore (c := c) (r := q ++ (b.tail textL ++ 41 :: x)) (by simp only [skipB]; exact s1) s2 (Or.inr s3) h1 h2
      | _ => simp [Dt.kind] at h6
    · by_cases h4 : t.kind = 4
      · cases view_of h with
        | null => rw [tail_null]; exact .lShut rfl
        | _ => simp [Dt.kind] at h4
      · obtain ⟨c, q, hc, hh⟩ := text_heads h hm
        have h1 := one (41 :: x) (fun c y e => by obtain ⟨rfl, _⟩ := List.cons.inj e; decide)
        obtain ⟨s1, s2, s3⟩ := heads_skip hh (q ++ 41 :: x)
        rw [tail_else h6 h4]
        refine .lDot (r := 32 :: (t.text textL ++ 41 :: x)) (d := t) (q := 41 :: x) (by simp [skipB]) hacc (rd_from (m := []) h1 (by simp [skipB])) rfl
theorem text_reads {t : Dt} {deep : Nat} (h : t.right rightB nameB deep = true) (hm : t.marked = false) {x : List UInt8} (hx : Ends x) : Rd .one (t.text textL ++ x) (.ok t x) := (back_all t.size t (Nat.le_refl _) deep h hm).1 x hx
end Go.Proofs.YtabofebepefbgaaDoor.Dat
