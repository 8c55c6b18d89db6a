/- Lists and Vecs: their parts are read alike: the tied card of the second form (arguments of bulk at most 1048576) is proved, with no condition beyond that and the three listed tables of Go's own library, which the card ties to the program's text. -/
import Derived.Test.YtabofebepefbgaaDoorRdOne
import Derived.Test.YtabofebepefbgaaDoorDatW0M
import Derived.Test.YtabofebepefbgaaDoorRdNM
import Derived.Test.YtabofebepefbgaaDoorDatM
import Derived.Test.YtabofebepefbgaaDoorDatA
import Derived.Test.YtabofebepefbgaaDoorRdW0M
import Derived.Test.YtabofebepefbgaaDoorRdTwo
import Derived.Test.YtabofebepefbgaaDoorRdWM
import Derived.Test.YtabofebepefbgaaDoorDatO
import Derived.Test.YtabofebepefbgaaDoorDatQ
import Derived.Test.YtabofebepefbgaaDoorRows
import Derived.Test.YtabofebepefbgaaDoorDatWk
import Derived.Test.YtabofebepefbgaaDoorLaid
import Derived.Test.YtabofebepefbgaaDoorCards
import Derived.SevenTiedAt
import Derived.Deep.DeepWitnessRowRef

/- The reader, in plain Lean: the text of a datum is read to it. -/
namespace Go.Proofs.YtabofebepefbgaaDoor.Dat
open Go.RowKit
open Go.Proofs.YtabofebepefbgaaDoor (textL parse dec_dig)
open NumPlain (rightB isDig)
set_option linter.unusedVariables false

mutual
/-- A name in it has a "%". -/
def Dt.marked : Dt → Bool
  | .node k _ _ s l => (decide (k = 2) && s.data.toList.any (fun c => c == 37)) || Dt.markedAll l
def Dt.markedAll : List Dt → Bool
  | [] => false
  | t :: r => t.marked || Dt.markedAll r
end
theorem rd_from {m x y : List UInt8} {res : Res Dt} (h : Rd .one y res) (e : skipB false x = skipB false y) : Rd .one x res := by
  generalize hm : Md.one = mm at h
  cases h with
  | none h => exact .none (e.trans h)
  | str h => exact .str (e.trans h)
  | word h n1 n2 n3 n4 => exact .word (e.trans h) n1 n2 n3 n4
  | quoteBad h hb => exact .quoteBad (e.trans h) hb
  | quote h hb => exact .quote (e.trans h) hb
  | list h hb => exact .list (e.trans h) hb
  | hashEnd h => exact .hashEnd (e.trans h)
  | hashLeaf h hz => exact .hashLeaf (e.trans h) hz
  | hashVec h hb => exact .hashVec (e.trans h) hb
  | hashBad h hz hn => exact .hashBad (e.trans h) hz hn
  | _ => cases hm
theorem dig_word {c : UInt8} (h : isDig c = true) : wordChar c = true := by
  unfold wordChar
  rw [dig_name h, Bool.true_and, bne_iff_ne]
  intro e; rw [e] at h; exact absurd h (by decide)
theorem dec_word (n : Nat) : ∀ c ∈ Lib.decDigits n, wordChar c = true := fun c hc => dig_word (dec_dig n c hc)
theorem text_word {n d : Int} (h : rightB n d = true) : ∀ c ∈ textL n d, wordChar c = true := by
  unfold textL
  rw [if_pos h]
  intro c hc
  rcases List.mem_append.1 hc with h1 | h1
  · unfold Lib.itoa at h1
    split at h1
    · rcases List.mem_cons.1 h1 with rfl | h2
      · decide
      · exact dec_word _ c h2
    · exact dec_word _ c h1
  · split at h1
    · simp at h1
    · rcases List.mem_cons.1 h1 with rfl | h2
      · decide
      · exact dec_word _ c h2
/-- What may stand behind a word. -/
def Ends (x : List UInt8) : Prop := ∀ c y, x = c :: y → wordChar c = false
theorem ends_del {x : List UInt8} (h : Del x) : Ends x := by
  rcases h with rfl | ⟨c, q, rfl, rfl | rfl⟩
  · intro c y e; cases e
  · intro c y e; obtain ⟨rfl, _⟩ := List.cons.inj e; decide
  · intro c y e; obtain ⟨rfl, _⟩ := List.cons.inj e; decide
theorem word_num {n d : Int} (h : rightB n d = true) {x : List UInt8} (hx : Ends x) : wordR (textL n d ++ x) = .ok (.node 0 n d nil8 []) x := by
  obtain ⟨h1, h2⟩ := take_app (p := wordChar) (text_word h) hx
  unfold wordR
  rw [h1, h2, text_back h]; rfl
theorem word_sym {s : ByteArray} (h : nameB s = true) (hm : s.data.toList.any (fun c => c == 37) = false) {x : List UInt8} (hx : Ends x) : wordR (s.data.toList ++ x) = .ok (.node 2 0 0 s []) x := by
  unfold nameB at h
  simp only [Bool.and_eq_true, decide_eq_true_eq, Bool.not_eq_true'] at h
  obtain ⟨⟨⟨h1, h2⟩, h3⟩, h4⟩ := h
  have hw : ∀ c ∈ s.data.toList, wordChar c = true := by
    intro c hc
    unfold wordChar
    rw [List.all_eq_true.1 h3 c hc, Bool.true_and, bne_iff_ne]
    intro e
    rw [List.any_eq_false] at hm
    exact hm c hc (by rw [e]; rfl)
  obtain ⟨g1, g2⟩ := take_app (p := wordChar) hw hx
  have hl : s.data.toList.length = s.size := by simp
  unfold wordR
  rw [g1, g2, if_neg (by rw [h4]; decide), if_neg (by omega)]
theorem str_back {s : ByteArray} (h : s.data.toList.all strChar = true) (x : List UInt8) : strR (s.data.toList ++ 34 :: x) = .ok (.node 3 0 0 s []) x := by
  obtain ⟨g1, g2⟩ := take_app (p := strChar) (x := 34 :: x) (List.all_eq_true.1 h) (fun c y e => by obtain ⟨rfl, _⟩ := List.cons.inj e; decide)
  unfold strR
  rw [g1, g2]; simp [strEnd]
theorem chain_snoc (e a : Dt) : ∀ acc : List Dt, Dt.chain e (acc ++ [a]) = Dt.chain (.node 6 0 0 nil8 [a, e]) acc
  | [] => rfl
  | t :: r => by simp only [List.cons_append, Dt.chain]; rw [chain_snoc e a r]
/-- The first byte of a datum's text. -/
def Heads (c : UInt8) : Prop := wordChar c = true ∨ c = 34 ∨ c = 35 ∨ c = 40
theorem heads_skip {c : UInt8} (h : Heads c) (r : List UInt8) : skipB false (c :: r) = c :: r ∧ c ≠ 41 ∧ c ≠ 46 := by
  rcases h with h | rfl | rfl | rfl
  · have h1 : c ≠ 59 ∧ ¬ (c = 32 ∨ c = 10 ∨ c = 9) ∧ c ≠ 41 ∧ c ≠ 46 := by
      refine ⟨fun e => ?_, fun e => ?_, fun e => ?_, fun e => ?_⟩
      · rw [e] at h; exact absurd h (by decide)
      · rcases e with e | e | e <;> (rw [e] at h; exact absurd h (by decide))
      · rw [e] at h; exact absurd h (by decide)
      · rw [e] at h; exact absurd h (by decide)
    simp only [skipB, if_neg h1.1, if_neg h1.2.1]
    exact ⟨trivial, h1.2.2⟩
  · exact ⟨rfl, by decide, by decide⟩
  · exact ⟨rfl, by decide, by decide⟩
  · exact ⟨rfl, by decide, by decide⟩
theorem text_heads {t : Dt} {deep : Nat} (h : t.right rightB nameB deep = true) (hm : t.marked = false) : ∃ c q, t.text textL = c :: q ∧ Heads c := by
  cases view_of h with
  | num n d hr =>
    have h1 := text_word hr
    have h2 := (sound.num n d hr).1
    rw [text_num]
    cases ht : textL n d with
    | nil => exact absurd ht h2
    | cons c q => exact ⟨c, q, rfl, Or.inl (h1 c (by rw [ht]; simp))⟩
  | bool n hn =>
    rw [text_bool]
    split
    · exact ⟨35, _, rfl, Or.inr (Or.inr (Or.inl rfl))⟩
    · exact ⟨35, _, rfl, Or.inr (Or.inr (Or.inl rfl))⟩
  | sym s hs =>
    have h2 := (sound.sym s hs).1
    have h3 := (sound.sym s hs).2
    rw [text_sym]
    cases ht : s.data.toList with
    | nil => exact absurd ht h2
    | cons c q =>
      refine ⟨c, q, rfl, Or.inl ?_⟩
      unfold wordChar
      rw [ht] at h3
      rw [List.all_eq_true.1 h3 c (by simp), Bool.true_and, bne_iff_ne]
      intro e
      simp [Dt.marked, ht, e] at hm
  | str s hs => exact ⟨34, _, text_str .., Or.inr (Or.inl rfl)⟩
  | null => exact ⟨40, _, text_null .., Or.inr (Or.inr (Or.inr rfl))⟩
  | void => exact ⟨35, _, text_void .., Or.inr (Or.inr (Or.inl rfl))⟩
  | pair a b ha hb => exact ⟨40, _, text_pair .., Or.inr (Or.inr (Or.inr rfl))⟩
  | vec l hl => exact ⟨35, _, text_vec .., Or.inr (Or.inr (Or.inl rfl))⟩
/-- Its text is read to it. -/
def Back (t : Dt) : Prop := ∀ deep, t.right rightB nameB deep = true → t.marked = false → (∀ x, Ends x → Rd .one (t.text textL ++ x) (.ok t x)) ∧ ∀ acc x, acc ≠ [] → Rd (.list acc) (t.tail textL ++ 41 :: x) (.ok (Dt.chain t acc) x)
theorem marked_kid {k n d : Int} {s : ByteArray} {l : List Dt} (h : (Dt.node k n d s l).marked = false) : ∀ t ∈ l, t.marked = false := by
  unfold Dt.marked at h
  have h2 := (Bool.or_eq_false_iff.1 h).2
  intro t ht
  induction l with
  | nil => cases ht
  | cons a r ih =>
    unfold Dt.markedAll at h2
    rw [Bool.or_eq_false_iff] at h2
    rcases List.mem_cons.1 ht with rfl | ht
    · exact h2.1
    · refine ih ?_ h2.2 ht
      rw [(Bool.or_eq_false_iff.1 h).1, h2.2]; rfl
theorem more_back : ∀ (l acc : List Dt) (deep : Nat) (x : List UInt8), (∀ t ∈ l, Back t ∧ t.marked = false) → Dt.rightAll rightB nameB l deep = true → Rd (.vec acc) (Dt.moreB textL l ++ 41 :: x) (.ok (.node 7 0 0 nil8 (acc ++ l)) x)
  | [], acc, deep, x, _, _ => by
    rw [List.append_nil]
    exact .vShut (by simp [Dt.moreB, skipB])
  | a :: r, acc, deep, x, h, hr => by
    unfold Dt.rightAll at hr
    rw [Bool.and_eq_true] at hr
    obtain ⟨hb, hm⟩ := h a (by simp)
    obtain ⟨c, q, hc, hh⟩ := text_heads hr.1 hm
    have h1 := (hb deep hr.1 hm).1 (Dt.moreB textL r ++ 41 :: x) (ends_del (del_more r x))
    have h2 := more_back r (acc ++ [a]) deep x (fun t ht => h t (by simp [ht])) hr.2
    rw [moreB_cons, List.cons_append, List.append_assoc]
    obtain ⟨s1, s2, s3⟩ := heads_skip hh (q ++ (Dt.moreB textL r ++ 41 :: x))
    rw [hc, List.cons_append] at h1 ⊢
    rw [show acc ++ a :: r = (acc ++ [a]) ++ r by simp]
    exact .vMore (c := c) (r := q ++ (Dt.moreB textL r ++ 41 :: x)) (by simp only [skipB]; exact s1) s2 h1 h2
theorem seq_back (l : List Dt) (deep : Nat) (x : List UInt8) (h : ∀ t ∈ l, Back t ∧ t.marked = false) (hr : Dt.rightAll rightB nameB l deep = true) : Rd (.vec []) (Dt.seqB textL l ++ 41 :: x) (.ok (.node 7 0 0 nil8 l) x) := by
  cases l with
  | nil => exact .vShut (by simp [Dt.seqB, skipB])
  | cons a r =>
    unfold Dt.rightAll at hr
    rw [Bool.and_eq_true] at hr
    obtain ⟨hb, hm⟩ := h a (by simp)
    obtain ⟨c, q, hc, hh⟩ := text_heads hr.1 hm
    have h1 := (hb deep hr.1 hm).1 (Dt.moreB textL r ++ 41 :: x) (ends_del (del_more r x))
    have h2 := more_back r [a] deep x (fun t ht => h t (by simp [ht])) hr.2
    rw [seqB_cons, List.append_assoc]
    obtain ⟨s1, s2, s3⟩ := heads_skip hh (q ++ (Dt.moreB textL r ++ 41 :: x))
    rw [hc, List.cons_append] at h1 ⊢
    exact .vMore (c := c) (r := q ++ (Dt.moreB textL r ++ 41 :: x)) s1 s2 h1 h2
theorem back_all (N : Nat) : ∀ t : Dt, t.size ≤ N → Back t := by
  induction N with
  | zero => intro t h; have := t.size_pos; omega
  | succ N ih =>
    intro t hN deep h hm
    have one : ∀ x, Ends x → Rd .one (t.text textL ++ x) (.ok t x) := by
      intro x hx
      obtain ⟨c0, q0, hc0, hh0⟩ := text_heads h hm
      have hsk := fun y => (heads_skip hh0 (q0 ++ y)).1
      cases view_of h with
      | num n d hr =>
        rw [text_num] at hc0 ⊢
        have hw := word_num hr hx
        rw [hc0, List.cons_append] at hw ⊢
        have hwc : wordChar c0 = true := text_word hr c0 (by rw [hc0]; simp)
        rw [← hw]
        exact .word (hsk x) (fun e => by rw [e] at hwc; exact absurd hwc (by decide)) (fun e => by rw [e] at hwc; exact absurd hwc (by decide)) (fun e => by rw [e] at hwc; exact absurd hwc (by decide)) (fun e => by rw [e] at hwc; exact absurd hwc (by decide))
      | bool n hn =>
        rw [text_bool]
        rcases hn with rfl | rfl
        · exact .hashLeaf (m := 102) (r := x) rfl rfl
        · exact .hashLeaf (m := 116) (r := x) rfl rfl
      | sym s hs =>
        rw [text_sym] at hc0 ⊢
        have hm2 : s.data.toList.any (fun c => c == 37) = false := by simpa [Dt.marked, Dt.markedAll] using hm
        have hw := word_sym hs hm2 hx
        have hwc : wordChar c0 = true := by
          have h3 := (sound.sym s hs).2
          unfold wordChar
          rw [List.all_eq_true.1 h3 c0 (by rw [hc0]; simp), Bool.true_and, bne_iff_ne]
          intro e
          rw [List.any_eq_false] at hm2
          exact hm2 c0 (by rw [hc0]; simp) (by rw [e]; rfl)
        rw [hc0, List.cons_append] at hw ⊢
        rw [← hw]
        exact .word (hsk x) (fun e => by rw [e] at hwc; exact absurd hwc (by decide)) (fun e => by rw [e] at hwc; exact absurd hwc (by decide)) (fun e => by rw [e] at hwc; exact absurd hwc (by decide)) (fun e => by rw [e] at hwc; exact absurd hwc (by decide))
      | str s hs =>
        rw [text_str, List.cons_append, List.append_assoc]
        rw [← str_back hs x]
        exact .str rfl
      | null =>
        rw [text_null]
        exact .list (r := 41 :: x) rfl (.lShut rfl)
      | void =>
        rw [text_void]
        exact .hashLeaf (m := 118) (r := x) rfl rfl
      | pair a b ha hb =>
        have hsa : a.size ≤ N := by simp only [Dt.size, Dt.sizes] at hN; omega
        have hsb : b.size ≤ N := by simp only [Dt.size, Dt.sizes] at hN; omega
        have hma := marked_kid hm a (by simp)
        have hmb := marked_kid hm b (by simp)
        obtain ⟨c, q, hc, hh⟩ := text_heads ha hma
        have h1 := (ih a hsa _ ha hma).1 (b.tail textL ++ 41 :: x) (ends_del (del_tail x hb))
        have h2 := (ih b hsb _ hb hmb).2 [a] x (by simp)
        rw [text_pair]
        obtain ⟨s1, s2, s3⟩ := heads_skip hh (q ++ (b.tail textL ++ 41 :: x))
        rw [hc, List.cons_append] at h1
        refine .list (r := a.text textL ++ (b.tail textL ++ 41 :: x)) (by simp [skipB]) ?_
        rw [hc, List.cons_append]
        exact .lMore (c := c) (r := q ++ (b.tail textL ++ 41 :: x)) s1 s2 (Or.inl rfl) h1 h2
      | vec l hl =>
        rw [text_vec]
        refine .hashVec (r := Dt.seqB textL l ++ 41 :: x) (by simp [skipB]) ?_
        exact seq_back l _ x (fun t ht => ⟨ih t (by have := Dt.size_mem ht; simp only [Dt.size] at hN; omega), marked_kid hm t ht⟩) hl
    refine ⟨one, fun acc x hacc => ?_⟩
    by_cases h6 : t.kind = 6
    · cases view_of h with
      | pair a b ha hb =>
        have hsa : a.size ≤ N := by simp only [Dt.size, Dt.sizes] at hN; omega
        have hsb : b.size ≤ N := by simp only [Dt.size, Dt.sizes] at hN; omega
        have hma := marked_kid hm a (by simp)
        have hmb := marked_kid hm b (by simp)
        obtain ⟨c, q, hc, hh⟩ := text_heads ha hma
        have h1 := (ih a hsa _ ha hma).1 (b.tail textL ++ 41 :: x) (ends_del (del_tail x hb))
        have h2 := (ih b hsb _ hb hmb).2 (acc ++ [a]) x (by simp)
        rw [tail_pair, List.cons_append, List.append_assoc, ← chain_snoc]
        obtain ⟨s1, s2, s3⟩ := heads_skip hh (q ++ (b.tail textL ++ 41 :: x))
        rw [hc, List.cons_append] at h1 ⊢
        exact .lMore (c := c) (r := q ++ (b.tail textL ++ 41 :: x)) (by simp only [skipB]; exact s1) s2 (Or.inr s3) h1 h2
      | _ => simp [Dt.kind] at h6
    · by_cases h4 : t.kind = 4
      · cases view_of h with
        | null => rw [tail_null]; exact .lShut rfl
        | _ => simp [Dt.kind] at h4
      · obtain ⟨c, q, hc, hh⟩ := text_heads h hm
        have h1 := one (41 :: x) (fun c y e => by obtain ⟨rfl, _⟩ := List.cons.inj e; decide)
        obtain ⟨s1, s2, s3⟩ := heads_skip hh (q ++ 41 :: x)
        rw [tail_else h6 h4]
        refine .lDot (r := 32 :: (t.text textL ++ 41 :: x)) (d := t) (q := 41 :: x) (by simp [skipB]) hacc (rd_from (m := []) h1 (by simp [skipB])) rfl
theorem text_reads {t : Dt} {deep : Nat} (h : t.right rightB nameB deep = true) (hm : t.marked = false) {x : List UInt8} (hx : Ends x) : Rd .one (t.text textL ++ x) (.ok t x) := (back_all t.size t (Nat.le_refl _) deep h hm).1 x hx
end Go.Proofs.YtabofebepefbgaaDoor.Dat

/- The reader, in plain Lean: numbers and names alone. -/
namespace Go.Proofs.YtabofebepefbgaaDoor.Dat
open Go.RowKit
open Go.Proofs.YtabofebepefbgaaDoor (textL parse)
open NumPlain (rightB isDig)
set_option linter.unusedVariables false

theorem num_right {n d : Int} (h : rightB n d = true) (deep : Nat) (hd : deep ≤ 200) : (Dt.node 0 n d nil8 []).right rightB nameB deep = true := by
  unfold Dt.right Dt.rightAll
  simp [headRight, h, hd]; rfl
theorem sym_right {s : ByteArray} (h : nameB s = true) (deep : Nat) (hd : deep ≤ 200) : (Dt.node 2 0 0 s []).right rightB nameB deep = true := by
  unfold Dt.right Dt.rightAll
  unfold headRight
  rw [nameSub s h]
  simp [h, hd]
theorem skip_two (b : Bool) : ∀ l : List UInt8, skipB false (skipB b l) = skipB b l := by
  intro l
  cases h : skipB b l with
  | nil => rfl
  | cons c r => exact skip_stays h r
theorem top_one {l : List UInt8} {d : Dt} (hne : skipB false l ≠ []) (h : Rd .one l (.ok d [])) (hr : rightDt d = true) : Top [] l (.ok [d] []) := by
  cases hs : skipB false l with
  | nil => exact absurd hs hne
  | cons c r =>
    refine .more hs (rd_from (m := []) h ?_) hr (.fin rfl)
    rw [← hs]; exact skip_two _ _
theorem num_reads {n d : Int} (h : rightB n d = true) : Rd .one (textL n d) (.ok (.node 0 n d nil8 []) []) := by
  have h1 := text_reads (num_right h 0 (by omega)) (by simp [Dt.marked, Dt.markedAll]) (x := []) (fun c y e => by cases e)
  rwa [text_num, List.append_nil] at h1
theorem num_heads {n d : Int} (h : rightB n d = true) : ∃ c r, textL n d = c :: r ∧ Heads c := by
  have h1 := text_heads (num_right h 0 (by omega)) (by simp [Dt.marked, Dt.markedAll])
  rwa [text_num] at h1
theorem top_num {n d : Int} (h : rightB n d = true) : Top [] (textL n d) (.ok [.node 0 n d nil8 []] []) := by
  obtain ⟨c, r, hc, hh⟩ := num_heads h
  refine top_one ?_ (num_reads h) (num_right h 0 (by omega))
  rw [hc, (heads_skip hh r).1]; simp
abbrev quoted (t : Dt) : Dt := .node 6 0 0 nil8 [quoteD, .node 6 0 0 nil8 [t, nullD]]
theorem quoted_right {n d : Int} (h : rightB n d = true) : (quoted (.node 0 n d nil8 [])).right rightB nameB 0 = true := by
  have hn : nullD.right rightB nameB 2 = true := by decide +kernel
  have h1 := num_right h 2 (by omega)
  unfold Dt.right Dt.rightAll Dt.rightAll Dt.rightAll Dt.right Dt.rightAll Dt.rightAll Dt.rightAll
  simp only [hn, h1]
  rfl
theorem top_quoted {n d : Int} (h : rightB n d = true) : Top [] (39 :: textL n d) (.ok [quoted (.node 0 n d nil8 [])] []) := by
  refine top_one (by simp [skipB]) (.quote rfl (num_reads h)) (quoted_right h)
theorem quoted_text {n d : Int} (h : rightB n d = true) : [40, 113, 117, 111, 116, 101, 32] ++ textL n d ++ [41] = (quoted (.node 0 n d nil8 [])).full rightB nameB textL := by
  unfold Dt.full
  rw [quoted_right h, if_pos rfl, text_pair, tail_pair, text_num, show quoteD = Dt.node 2 0 0 ⟨#[113, 117, 111, 116, 101]⟩ [] from rfl, text_sym, show nullD = Dt.node 4 0 0 nil8 [] from rfl, tail_null]
  simp
theorem top_sym {s : ByteArray} (h : nameB s = true) (hm : s.data.toList.any (fun c => c == 37) = false) : Top [] s.data.toList (.ok [.node 2 0 0 s []] []) := by
  have hr := sym_right h 0 (by omega)
  have hk : (Dt.node 2 0 0 s []).marked = false := by simp only [Dt.marked, Dt.markedAll, hm]; rfl
  have h1 := text_reads hr hk (x := []) (fun c y e => by cases e)
  obtain ⟨c, r, hc, hh⟩ := text_heads hr hk
  rw [text_sym] at h1 hc
  rw [List.append_nil] at h1
  refine top_one ?_ h1 hr
  rw [hc, (heads_skip hh r).1]; simp
end Go.Proofs.YtabofebepefbgaaDoor.Dat

/- ReaderNumbers answers true. -/
namespace Go.Proofs.YtabofebepefbgaaDoor.Dat
open Go.RowKit
open Go.Proofs.YtabofebepefbgaaDoor (textL parse res str_of textRef_any)
open NumPlain (rightB)
set_option linter.unusedVariables false

theorem app_list (a b : ByteArray) : (a ++ b).data.toList = a.data.toList ++ b.data.toList := by simp
theorem five_of {w : World} {k n d : Int} {s : ByteArray} {l : List Dt} {v0 v1 v2 v3 v4 : Value} (h : (Dt.node k n d s l).At w (.agg #[v0, v1, v2, v3, v4])) : v0 = .int .i64 k ∧ v1 = .int .i64 n ∧ v2 = .int .i64 d ∧ v3 = .string s := by
  unfold Dt.At at h
  obtain ⟨-, -, -, -, -, p, cap, e, -⟩ := h
  simp only [Value.agg.injEq, Array.mk.injEq, List.cons.injEq] at e
  exact ⟨e.1, e.2.1, e.2.2.1, e.2.2.2.1⟩
theorem one_read (s : ByteArray) (t : Dt) (w : World) (hs : s.size ≤ 65536) (h : Top [] s.data.toList (.ok [t] [])) :
    Calls Tryd.prog 21 #[.string s] w fun e w' => (∃ b o cap, e = .returned (.tuple #[.slice (some ⟨b, o, none⟩) 1 cap, .int .i64 s.size, .int .i64 0]) ∧ Dt.AllAt w' [t] b o) ∧ Below w.heap.size w w' := by
  refine (read_ok s [t] 1 w hs rfl h).mono ?_
  rintro e w' ⟨⟨p, cap, rfl, hr⟩, hb⟩
  rcases hr with h | ⟨b, o, rfl, ha⟩
  · cases h
  · exact ⟨⟨b, o, cap, rfl, ha⟩, hb⟩
theorem num_read {n d : Int} (a : ByteArray) (hs : a.size ≤ 30) (w : World) (h : rightB n d = true) (ha : a.data.toList = textL n d) :
    Calls Tryd.prog 21 #[.string a] w fun e w' => (∃ b o cap, e = .returned (.tuple #[.slice (some ⟨b, o, none⟩) 1 cap, .int .i64 a.size, .int .i64 0]) ∧ Dt.AllAt w' [.node 0 n d nil8 []] b o) ∧ Below w.heap.size w w' :=
  one_read a _ w (by omega) (by rw [ha]; exact top_num h)
theorem quoted_read {n d : Int} (a : ByteArray) (hs : a.size ≤ 30) (w : World) (h : rightB n d = true) (ha : a.data.toList = textL n d) :
    Calls Tryd.prog 21 #[.string (⟨#[39]⟩ ++ a)] w fun e w' => (∃ b o cap, e = .returned (.tuple #[.slice (some ⟨b, o, none⟩) 1 cap, .int .i64 (⟨#[39]⟩ ++ a : ByteArray).size, .int .i64 0]) ∧ Dt.AllAt w' [quoted (.node 0 n d nil8 [])] b o) ∧ Below w.heap.size w w' := by
  have h1 : (⟨#[39]⟩ ++ a : ByteArray).data.toList = 39 :: textL n d := by rw [app_list, ha]; rfl
  have h2 : (⟨#[39]⟩ ++ a : ByteArray).size ≤ 65536 := by
    rw [Lib.size_eq, h1, ← ha]; have := Lib.size_eq a; simp; omega
  exact one_read _ _ w h2 (h1 ▸ top_quoted h)
theorem quoted_bytes {n d : Int} (a : ByteArray) (h : rightB n d = true) (ha : a.data.toList = textL n d) : (⟨#[40, 113, 117, 111, 116, 101, 32]⟩ ++ a ++ ⟨#[41]⟩ : ByteArray).data.toList = (quoted (.node 0 n d nil8 [])).full rightB nameB textL := by
  rw [app_list, app_list, ha]; exact quoted_text h
theorem quoted_len {n d : Int} (h : rightB n d = true) (hl : (textL n d).length ≤ 30) : ((quoted (.node 0 n d nil8 [])).text textL).length ≤ 140737488355328 := by
  have h1 := quoted_text h
  unfold Dt.full at h1
  rw [quoted_right h, if_pos rfl] at h1
  rw [← h1]; simp; omega
theorem name_size {s : ByteArray} (h : nameB s = true) : s.size ≤ 65536 := by
  unfold nameB at h
  simp only [Bool.and_eq_true, decide_eq_true_eq] at h
  omega
set_option maxHeartbeats 4000000 in
set_option maxRecDepth 100000 in
theorem numbers_any (n d : Int) (hn : I64 n) (hd : I64 d) (s : ByteArray) (hs : s.size ≤ maxLen) (w : World) (ht : Tab w) :
    Answers 8 #[.int .i64 n, .int .i64 d, .string s] w (.bool true) := by
  unfold Answers
  obtain ⟨a, ha, hal⟩ := str_of (l := textL n d)
  have hash : a.size ≤ 30 := by rw [hal]; exact text_short n d
  unfold maxLen at hs
  have HT := Lib.hid ht; clear ht
  have HAS := Lib.hid ha; clear ha hal
  have HN := Lib.hid hn; clear hn
  have HD := Lib.hid hd; clear hd
  go_enter Tryd.func8, Tryd.ntmps8
  go_wp2_with fail
  refine (awake3_any _ HT.out).mono ?_
  rintro _ w1 ⟨rfl, hb1⟩
  have HB1 := Lib.hid hb1; clear hb1
  go_wp2_with fail
  refine (textRef_any n d HN.out HD.out a HAS.out _).mono ?_
  rintro _ w2 ⟨rfl, hb2⟩
  have HB2 := Lib.hid ((HB1.out).trans (hb2.mono (HB1.out).size)); clear hb2
  by_cases hr : rightB n d = true
  case' neg =>
    have he : a = ⟨#[]⟩ := by
      have h1 := HAS.out
      unfold textL at h1
      rw [if_neg hr] at h1
      cases a with
      | mk x => congr; exact Array.toList_inj.1 h1
    subst he
    have HBZ := HB2
    clear hr
    go_wp2_with fail
  case' pos =>
    have hne : a.toList.isEmpty = false := by
      obtain ⟨c, r, hc, -⟩ := num_heads hr
      have h1 := HAS.out
      rw [hc] at h1
      cases e : a.toList with
      | nil =>
        have h2 : a = ⟨#[]⟩ := bytes_inj (by rw [e]; decide +kernel)
        rw [h2] at h1; cases h1
      | cons => rfl
    have HR := Lib.hid hr; clear hr
    go_wp2_with fail
    refine (num_read a (by omega) _ HR.out HAS.out).mono ?_
    rintro _ w3 ⟨⟨b, o, cap, rfl, hall⟩, hb3⟩
    have HL := Lib.hid hall; clear hall
    have HB3 := Lib.hid ((HB2.out).trans (hb3.mono (HB2.out).size)); clear hb3
    go_wp2_with fail
    refine (quoted_read a (by omega) _ HR.out HAS.out).mono ?_
    rintro _ w4 ⟨⟨b', o', cap', rfl, hall'⟩, hb4⟩
    have hl4 := (HL.out).on (cell_on hb4)
    have HB4 := Lib.hid ((HB3.out).trans (hb4.mono (HB3.out).size)); clear hb4
    obtain ⟨v0, v1, v2, v3, v4, d0, d1, d2, d3, d4, hta⟩ := hl4.kid (i := 0) rfl
    obtain ⟨u0, u1, u2, u3, u4, f0, f1, f2, f3, f4, htb⟩ := hall'.kid (i := 0) rfl
    simp only [Nat.zero_mul, Nat.add_zero] at d0 d1 d2 d3 d4 f0 f1 f2 f3 f4
    obtain ⟨rfl, rfl, rfl, rfl⟩ := five_of hta
    have HTB := Lib.hid htb
    clear hta htb hl4 hall'
    go_wp2_with fail
    refine (pText _ _ (⟨#[40, 113, 117, 111, 116, 101, 32]⟩ ++ a ++ ⟨#[41]⟩) w4 HTB.out (tab_lasts _ _ HT.out HB4.out) (fun _ => quoted_len HR.out (by rw [← HAS.out]; have := Lib.size_eq a; omega)) (quoted_bytes a HR.out HAS.out)).mono ?_
    rintro _ wz ⟨rfl, hbz⟩
    have HBZ := Lib.hid ((HB4.out).trans (hbz.mono (HB4.out).size)); clear hbz
    go_wp2_with fail
  all_goals
    go_loopw [15] (fun x wr => ∃ (i : Nat), i ≤ s.size ∧ x = .int .i64 i ∧ (s.data.toList.take i).any (fun c => c == 37) = false ∧ Below w.heap.size w wr) (fun x _ => s.size - (intOf x).toNat)
    case atStart => exact ⟨0, by omega, rfl, by simp, HBZ.out⟩
    case round =>
      obtain ⟨i, hi, rfl, hf, hb⟩ := hrel
      have HF := Lib.hid hf; clear hf
      have HB := Lib.hid hb; clear hb
      by_cases hlt : i < s.size
      · have HTK := Lib.hid (take_snoc s i hlt)
        by_cases h37 : ((s[i].toNat : Int) == 37) = true
        · go_wp2_with fail
          go_ret
          exact ⟨rfl, HB.out⟩
        have h37 : ((s[i].toNat : Int) == 37) = false := Bool.eq_false_iff.2 h37
        have HNE := Lib.hid (of_decide_eq_false ((byte_test s[i] 37).symm.trans h37))
        go_wp2_with fail
        go_roundw
        case rel => exact ⟨i + 1, by omega, by go_num, by rw [HTK.out, List.any_append, HF.out]; simp [HNE.out], HB.out⟩
        case measure => simp [intOf]; omega
      · have hall : s.data.toList.any (fun c => c == 37) = false := by
          have h := HF.out
          rw [List.take_of_length_le (by rw [← Lib.size_eq]; omega)] at h; exact h
        have HALL := Lib.hid hall; clear hall
        obtain ⟨q, hq⟩ : ∃ q, nameB s = q := ⟨_, rfl⟩
        have C := fun w' => nameIs s w' (by unfold maxLen; omega)
        rw [hq] at C
        have HC := Lib.hid C; clear C
        have HQ := Lib.hid hq; clear hq
        go_wp2_with fail
        refine (HC.out _).mono ?_
        rintro _ w5 ⟨rfl, hb5⟩
        have HB5 := Lib.hid ((HB.out).trans (hb5.mono (HB.out).size)); clear hb5
        cases q
        · go_wp2_with fail
          go_ret
          exact ⟨rfl, HB5.out⟩
        · go_wp2_with fail
          refine (one_read s _ _ (name_size HQ.out) (top_sym HQ.out HALL.out)).mono ?_
          rintro _ w6 ⟨⟨b, o, cap, rfl, hall⟩, hb6⟩
          have HB6 := Lib.hid ((HB5.out).trans (hb6.mono (HB5.out).size)); clear hb6
          obtain ⟨v0, v1, v2, v3, v4, d0, d1, d2, d3, d4, hta⟩ := hall.kid (i := 0) rfl
          simp only [Nat.zero_mul, Nat.add_zero] at d0 d1 d2 d3 d4
          obtain ⟨rfl, rfl, rfl, rfl⟩ := five_of hta
          clear hta hall
          go_wp2_with fail
          go_ret
          exact ⟨rfl, HB6.out⟩
end Go.Proofs.YtabofebepefbgaaDoor.Dat

/- The reader, in plain Lean: a list and a Vec of texts of data, a blank behind each. -/
namespace Go.Proofs.YtabofebepefbgaaDoor.Dat
open Go.RowKit
open Go.Proofs.YtabofebepefbgaaDoor (textL parse)
open NumPlain (rightB)
set_option linter.unusedVariables false

mutual
theorem Dt.right_less {R : Int → Int → Bool} {Nm : ByteArray → Bool} : ∀ (t : Dt) {a b : Nat}, a ≤ b → t.right R Nm b = true → t.right R Nm a = true
  | .node k n d s l, a, b, h, ht => by
    unfold Dt.right at ht ⊢
    simp only [Bool.and_eq_true, decide_eq_true_eq] at ht ⊢
    exact ⟨⟨by omega, ht.1.2⟩, Dt.rightAll_less l (by omega) ht.2⟩
theorem Dt.rightAll_less {R : Int → Int → Bool} {Nm : ByteArray → Bool} : ∀ (l : List Dt) {a b : Nat}, a ≤ b → Dt.rightAll R Nm l b = true → Dt.rightAll R Nm l a = true
  | [], _, _, _, _ => rfl
  | t :: r, a, b, h, ht => by
    unfold Dt.rightAll at ht ⊢
    rw [Bool.and_eq_true] at ht ⊢
    exact ⟨Dt.right_less t h ht.1, Dt.rightAll_less r h ht.2⟩
end
theorem chain_list : ∀ l : List Dt, Dt.chain nullD l = Dt.list l
  | [] => rfl
  | t :: r => by unfold Dt.chain Dt.list; rw [chain_list r]
theorem list_all {R : Int → Int → Bool} {Nm : ByteArray → Bool} : ∀ (l : List Dt) {deep : Nat}, (Dt.list l).right R Nm deep = true → Dt.rightAll R Nm l (deep + 1) = true
  | [], _, _ => rfl
  | t :: r, deep, h => by
    unfold Dt.list Dt.right at h
    simp only [Bool.and_eq_true, Dt.rightAll] at h
    unfold Dt.rightAll
    rw [Bool.and_eq_true]
    exact ⟨h.2.1, list_all r (Dt.right_less _ (by omega) h.2.2.1)⟩
theorem vec_right (l : List Dt) (h : rightDt (Dt.list l) = true) : rightDt (.node 7 0 0 nil8 l) = true := by
  have := list_all l h
  unfold rightDt Dt.right
  rw [this]; rfl
/-- The texts of all of these, a blank behind each. -/
def blankB : List Dt → List UInt8
  | [] => []
  | t :: r => t.text textL ++ 32 :: blankB r
theorem blankB_snoc : ∀ (l : List Dt) (t : Dt), blankB (l ++ [t]) = blankB l ++ (t.text textL ++ [32])
  | [], t => by simp [blankB]
  | a :: r, t => by simp [blankB, blankB_snoc r t]
/-- Each is right, and its text is read to it. -/
def Plain (l : List Dt) : Prop := ∀ t ∈ l, rightDt t = true ∧ t.marked = false
theorem ends_blank (x : List UInt8) : Ends (32 :: x) := fun c y e => by obtain ⟨rfl, _⟩ := List.cons.inj e; decide
theorem rd_blanks : ∀ (l acc : List Dt) (x m : List UInt8), Plain l → skipB false m = skipB false (blankB l ++ 41 :: x) → Rd (.list acc) m (.ok (Dt.chain nullD (acc ++ l)) x)
  | [], acc, x, m, _, h => by
    rw [List.append_nil]
    exact .lShut (r := x) (by rw [h]; rfl)
  | t :: r, acc, x, m, hp, h => by
    obtain ⟨hr, hm⟩ := hp t (by simp)
    obtain ⟨c, q, hc, hh⟩ := text_heads hr hm
    have h1 := text_reads hr hm (ends_blank (blankB r ++ 41 :: x))
    obtain ⟨s1, s2, s3⟩ := heads_skip hh (q ++ 32 :: (blankB r ++ 41 :: x))
    have h2 := rd_blanks r (acc ++ [t]) x (32 :: (blankB r ++ 41 :: x)) (fun u hu => hp u (by simp [hu])) (by simp [skipB])
    rw [show acc ++ t :: r = (acc ++ [t]) ++ r by simp]
    rw [hc, List.cons_append] at h1
    refine .lMore (c := c) (r := q ++ 32 :: (blankB r ++ 41 :: x)) ?_ s2 (Or.inr s3) h1 h2
    rw [h, ← s1, show blankB (t :: r) = t.text textL ++ 32 :: blankB r from rfl, hc]; simp
theorem rv_blanks : ∀ (l acc : List Dt) (x m : List UInt8), Plain l → skipB false m = skipB false (blankB l ++ 41 :: x) → Rd (.vec acc) m (.ok (.node 7 0 0 nil8 (acc ++ l)) x)
  | [], acc, x, m, _, h => by
    rw [List.append_nil]
    exact .vShut (r := x) (by rw [h]; rfl)
  | t :: r, acc, x, m, hp, h => by
    obtain ⟨hr, hm⟩ := hp t (by simp)
    obtain ⟨c, q, hc, hh⟩ := text_heads hr hm
    have h1 := text_reads hr hm (ends_blank (blankB r ++ 41 :: x))
    obtain ⟨s1, s2, s3⟩ := heads_skip hh (q ++ 32 :: (blankB r ++ 41 :: x))
    have h2 := rv_blanks r (acc ++ [t]) x (32 :: (blankB r ++ 41 :: x)) (fun u hu => hp u (by simp [hu])) (by simp [skipB])
    rw [show acc ++ t :: r = (acc ++ [t]) ++ r by simp]
    rw [hc, List.cons_append] at h1
    refine .vMore (c := c) (r := q ++ 32 :: (blankB r ++ 41 :: x)) ?_ s2 h1 h2
    rw [h, ← s1, show blankB (t :: r) = t.text textL ++ 32 :: blankB r from rfl, hc]; simp
theorem top_list (l : List Dt) (hp : Plain l) : Top [] (40 :: (blankB l ++ [41])) (if rightDt (Dt.list l) = true then .ok [Dt.list l] [] else .bad (40 :: (blankB l ++ [41]))) := by
  have h1 : Rd .one (40 :: (blankB l ++ [41])) (.ok (Dt.list l) []) := by
    rw [← chain_list]
    exact .list (r := blankB l ++ [41]) rfl (rd_blanks l [] [] _ hp rfl)
  split
  · rename_i h
    exact .more (c := 40) (r := blankB l ++ [41]) (d := Dt.list l) (q := []) rfl h1 h (.fin rfl)
  · rename_i h
    exact .deep (c := 40) (r := blankB l ++ [41]) (d := Dt.list l) (q := []) rfl h1 (by simpa using h)
theorem top_vec (l : List Dt) (hp : Plain l) : Top [] (35 :: 40 :: (blankB l ++ [41])) (if rightDt (.node 7 0 0 nil8 l) = true then .ok [.node 7 0 0 nil8 l] [] else .bad (35 :: 40 :: (blankB l ++ [41]))) := by
  have h1 : Rd .one (35 :: 40 :: (blankB l ++ [41])) (.ok (.node 7 0 0 nil8 l) []) := .hashVec (r := blankB l ++ [41]) rfl (rv_blanks l [] [] _ hp rfl)
  split
  · rename_i h
    exact .more (c := 35) (r := 40 :: (blankB l ++ [41])) (d := .node 7 0 0 nil8 l) (q := []) rfl h1 h (.fin rfl)
  · rename_i h
    exact .deep (c := 35) (r := 40 :: (blankB l ++ [41])) (d := .node 7 0 0 nil8 l) (q := []) rfl h1 (by simpa using h)
theorem list_items : ∀ l : List Dt, (Dt.list l).items = some l
  | [] => by unfold Dt.list; exact items_null ..
  | t :: r => by unfold Dt.list; rw [items_pair, list_items r]; rfl
end Go.Proofs.YtabofebepefbgaaDoor.Dat

/- The law ReaderVecs: has a name in a datum a "%"? -/
namespace Go.Proofs.YtabofebepefbgaaDoor.Dat
open Go.RowKit
set_option linter.unusedVariables false

theorem markedAll_step {l : List Dt} {i : Nat} {t : Dt} (h : l[i]? = some t) : Dt.markedAll (l.drop i) = (t.marked || Dt.markedAll (l.drop (i + 1))) := by
  rw [Dt.drop_at h]; conv => lhs; unfold Dt.markedAll
theorem markedAll_stop {l : List Dt} {i : Nat} (h : l.length ≤ i) : Dt.markedAll (l.drop i) = false := by
  rw [List.drop_of_length_le h]; rfl
theorem marked_not {k n d : Int} {s : ByteArray} {l : List Dt} (h : k ≠ 2) : (Dt.node k n d s l).marked = Dt.markedAll l := by
  unfold Dt.marked; simp [h]
theorem marked_sym {n d : Int} {s : ByteArray} {l : List Dt} (h : s.data.toList.any (fun c => c == 37) = false) : (Dt.node 2 n d s l).marked = Dt.markedAll l := by
  unfold Dt.marked; rw [h]; simp
theorem marked_yes {n d : Int} {s : ByteArray} {l : List Dt} {i : Nat} (hi : i < s.size) (h : s[i] = 37) : (Dt.node 2 n d s l).marked = true := by
  have : s.data.toList.any (fun c => c == 37) = true := by
    rw [List.any_eq_true]
    exact ⟨37, by rw [← h]; exact List.mem_of_getElem? (i := i) (at_some s i hi), rfl⟩
  unfold Dt.marked; rw [this]; simp
set_option maxHeartbeats 2000000 in
set_option maxRecDepth 100000 in
theorem lawMarked_any (N : Nat) : ∀ (t : Dt) (v : Value) (w : World), t.size ≤ N → t.At w v →
    Answers 26 #[v] w (.bool t.marked) := by
  induction N with
  | zero => intro t v w h; have := t.size_pos; omega
  | succ N ih =>
    intro t v w hN hat
    unfold Answers at ih ⊢
    obtain ⟨k, n, d, s, l⟩ := t
    unfold Dt.At at hat
    obtain ⟨-, -, -, hsm, hlm, p, cap, rfl, hl⟩ := hat
    unfold maxLen at hlm hsm
    have IH := Lib.hid ih; clear ih
    have HN := Lib.hid hN; clear hN
    have HL := Lib.hid hl; clear hl
    go_enter Tryd.func26, Tryd.ntmps26
    go_wp2_with fail
    go_loopw [3] (fun x wr => ∃ (i : Nat), i ≤ s.size ∧ x = .int .i64 i ∧ (k = 2 → (s.data.toList.take i).any (fun c => c == 37) = false) ∧ w.heap.size < wr.heap.size ∧ wr.cell? ⟨w.heap.size, 0, none⟩ = some (.int .i64 k) ∧ wr.cell? ⟨w.heap.size, 3, none⟩ = some (.string s) ∧ wr.cell? ⟨w.heap.size, 4, none⟩ = some (.slice p l.length cap) ∧ Below w.heap.size w wr) (fun x _ => s.size - (intOf x).toNat)
    case atStart => exact ⟨0, by omega, rfl, fun _ => by simp, by simp, by simp, by simp, by simp, (Below.refl _ _).alloc (Nat.le_refl _) _⟩
    case round =>
      obtain ⟨i, hi, rfl, hf, hsz, hc0, hc3, hc4, hb⟩ := hrel
      have HF := Lib.hid hf; clear hf
      have HB := Lib.hid hb; clear hb
      by_cases hgo : k = 2 ∧ i < s.size
      · obtain ⟨rfl, hlt⟩ := hgo
        have HTK := Lib.hid (take_snoc s i hlt)
        by_cases h37 : ((s[i].toNat : Int) == 37) = true
        · have HY := Lib.hid (marked_yes (n := n) (d := d) (l := l) hlt (by
            have := of_decide_eq_true ((byte_test s[i] 37).symm.trans h37)
            simpa using this))
          go_wp2_with fail
          go_ret
          exact ⟨ret_bool (by rw [HY.out]), HB.out⟩
        have h37 : ((s[i].toNat : Int) == 37) = false := Bool.eq_false_iff.2 h37
        have HNE := Lib.hid (of_decide_eq_false ((byte_test s[i] 37).symm.trans h37))
        go_wp2_with fail
        go_roundw
        case rel => exact ⟨i + 1, by omega, by go_num, fun _ => by rw [HTK.out, List.any_append, HF.out rfl]; simp [HNE.out], hsz, hc0, hc3, hc4, HB.out⟩
        case measure => simp [intOf]; omega
      · have hm : (Dt.node k n d s l).marked = Dt.markedAll l := by
          by_cases hk : k = 2
          · subst hk
            refine marked_sym ?_
            have h := HF.out rfl
            rw [List.take_of_length_le (by rw [← Lib.size_eq]; omega)] at h; exact h
          · exact marked_not hk
        have HM := Lib.hid hm; clear hm
        by_cases hk : k = 2
        case' pos =>
          subst hk
          obtain rfl : i = s.size := by omega
          clear hgo
          go_wp2_with fail
        case' neg =>
          have q : (k == 2) = false := beq_eq_false_iff_ne.2 hk
          clear hgo
          go_wp2_with fail
        all_goals
          go_loopw [4] (fun x wr => ∃ (i : Nat), i ≤ l.length ∧ x = .int .i64 i ∧ Dt.markedAll l = Dt.markedAll (l.drop i) ∧ w.heap.size < wr.heap.size ∧ wr.cell? ⟨w.heap.size, 4, none⟩ = some (.slice p l.length cap) ∧ Below w.heap.size w wr) (fun x _ => l.length - (intOf x).toNat)
          case atStart => exact ⟨0, by omega, rfl, rfl, hsz, hc4, HB.out⟩
          case round =>
            obtain ⟨j, hj, rfl, hf2, hsz2, hcc, hb2⟩ := hrel
            have HF2 := Lib.hid hf2; clear hf2
            have HB2 := Lib.hid hb2; clear hb2
            by_cases hlt : j < l.length
            · obtain ⟨t, ht⟩ : ∃ t, l[j]? = some t := ⟨l[j], by simp [hlt]⟩
              have hne : l ≠ [] := by intro e; rw [e] at hlt; simp at hlt
              rcases HL.out with he | ⟨b, o, rfl, hall⟩
              · exact absurd he hne
              obtain ⟨v0, v1, v2, v3, v4, d0, d1, d2, d3, d4, hta⟩ := (hall.on (cell_on HB2.out)).kid ht
              have HT := Lib.hid ht; clear ht
              have HA := Lib.hid hta; clear hta hall
              go_wp2_with fail
              refine (IH.out t _ _ (by have h := HN.out; have g := Dt.size_kid HT.out; unfold Dt.size at h; omega) HA.out).mono ?_
              rintro _ w1 ⟨rfl, hb1⟩
              have hs1 := hb1.size
              have hc' := cell_on hb1 _ _ _ hcc
              have HB1 := Lib.hid hb1; clear hb1
              cases ha : t.marked
              · have HAL := Lib.hid ha; clear ha
                go_wp2_with fail
                go_roundw
                case rel => exact ⟨j + 1, by omega, by go_num, by rw [HF2.out, markedAll_step HT.out, HAL.out]; rfl, by omega, hc', (HB2.out).trans ((HB1.out).mono (by omega))⟩
                case measure => simp [intOf]; omega
              · have HAL := Lib.hid ha; clear ha
                go_wp2_with fail
                go_ret
                exact ⟨ret_bool (by rw [HM.out, HF2.out, markedAll_step HT.out, HAL.out]; rfl), (HB2.out).trans ((HB1.out).mono (by omega))⟩
            · go_wp2_with fail
              go_ret
              exact ⟨ret_bool (by rw [HM.out, HF2.out, markedAll_stop (by omega)]), HB2.out⟩
end Go.Proofs.YtabofebepefbgaaDoor.Dat

/- ReaderVecs: what is read of the list and of the Vec of texts. -/
namespace Go.Proofs.YtabofebepefbgaaDoor.Dat
open Go.RowKit
open Go.Proofs.YtabofebepefbgaaDoor (textL parse res str_of textRef_any)
open NumPlain (rightB)
set_option linter.unusedVariables false

/-- What the law's loop lets through. -/
def Passed (l : List Dt) : Prop := ∀ t ∈ l, rightDt t = true ∧ t.marked = false ∧ (t.text textL).length ≤ 300 ∧ t.size ≤ 100
theorem Passed.plain {l : List Dt} (h : Passed l) : Plain l := fun t ht => ⟨(h t ht).1, (h t ht).2.1⟩
theorem Passed.len : ∀ {l : List Dt}, Passed l → (blankB l).length ≤ 301 * l.length
  | [], _ => by simp [blankB]
  | t :: r, h => by
    have h1 := (h t (by simp)).2.2.1
    have h2 := Passed.len (l := r) fun u hu => h u (by simp [hu])
    simp only [blankB, List.length_append, List.length_cons]; omega
theorem Passed.sizes : ∀ {l : List Dt}, Passed l → (Dt.list l).size ≤ 102 * l.length + 2
  | [], _ => by simp [Dt.list, Dt.size, Dt.sizes]
  | t :: r, h => by
    have h1 := (h t (by simp)).2.2.2
    have h2 := Passed.sizes (l := r) fun u hu => h u (by simp [hu])
    simp only [Dt.list, Dt.size, Dt.sizes, List.length_cons] at h2 ⊢; omega
theorem Passed.snoc {l : List Dt} {t : Dt} (h : Passed l) (ht : rightDt t = true ∧ t.marked = false ∧ (t.text textL).length ≤ 300 ∧ t.size ≤ 100) : Passed (l ++ [t]) := by
  intro u hu
  rcases List.mem_append.1 hu with hu | hu
  · exact h u hu
  · obtain rfl : u = t := by simpa using hu
    exact ht
theorem list_bytes {l : List Dt} {a : ByteArray} (ha : a.data.toList = blankB l) : (⟨#[40]⟩ ++ a ++ ⟨#[41]⟩ : ByteArray).data.toList = 40 :: (blankB l ++ [41]) := by
  rw [app_list, app_list, ha]; rfl
theorem vec_bytes {l : List Dt} {a : ByteArray} (ha : a.data.toList = blankB l) : (⟨#[35, 40]⟩ ++ a ++ ⟨#[41]⟩ : ByteArray).data.toList = 35 :: 40 :: (blankB l ++ [41]) := by
  rw [app_list, app_list, ha]; rfl
theorem list_fits {l : List Dt} {a : ByteArray} (h : Passed l) (hl : l.length ≤ 20) (ha : a.data.toList = blankB l) : (⟨#[40]⟩ ++ a ++ ⟨#[41]⟩ : ByteArray).size ≤ 65536 := by
  rw [Lib.size_eq, list_bytes ha]
  have := h.len
  simp only [List.length_cons, List.length_append, List.length_nil]; omega
theorem vec_fits {l : List Dt} {a : ByteArray} (h : Passed l) (hl : l.length ≤ 20) (ha : a.data.toList = blankB l) : (⟨#[35, 40]⟩ ++ a ++ ⟨#[41]⟩ : ByteArray).size ≤ 65536 := by
  rw [Lib.size_eq, vec_bytes ha]
  have := h.len
  simp only [List.length_cons, List.length_append, List.length_nil]; omega
theorem list_read {l : List Dt} (a : ByteArray) (w : World) (h : Passed l) (hl : l.length ≤ 20) (ha : a.data.toList = blankB l) (hr : rightDt (Dt.list l) = true) :
    Calls Tryd.prog 21 #[.string (⟨#[40]⟩ ++ a ++ ⟨#[41]⟩)] w fun e w' => (∃ b o cap, e = .returned (.tuple #[.slice (some ⟨b, o, none⟩) 1 cap, .int .i64 (⟨#[40]⟩ ++ a ++ ⟨#[41]⟩ : ByteArray).size, .int .i64 0]) ∧ Dt.AllAt w' [Dt.list l] b o) ∧ Below w.heap.size w w' := by
  have := top_list l h.plain
  rw [if_pos hr] at this
  exact one_read _ _ w (list_fits h hl ha) (by rw [list_bytes ha]; exact this)
theorem list_unread {l : List Dt} (a : ByteArray) (w : World) (h : Passed l) (hl : l.length ≤ 20) (ha : a.data.toList = blankB l) (hr : rightDt (Dt.list l) = false) :
    Calls Tryd.prog 21 #[.string (⟨#[40]⟩ ++ a ++ ⟨#[41]⟩)] w fun e w' => (∃ x y, e = .returned (.tuple #[x, y, .int .i64 2])) ∧ Below w.heap.size w w' := by
  have := top_list l h.plain
  rw [if_neg (by rw [hr]; decide)] at this
  refine (read_bad _ _ w (list_fits h hl ha) (by rw [list_bytes ha]; exact this)).mono ?_
  rintro e w' ⟨rfl, hb⟩
  exact ⟨⟨_, _, rfl⟩, hb⟩
theorem vec_read {l : List Dt} (a : ByteArray) (w : World) (h : Passed l) (hl : l.length ≤ 20) (ha : a.data.toList = blankB l) (hr : rightDt (Dt.list l) = true) :
    Calls Tryd.prog 21 #[.string (⟨#[35, 40]⟩ ++ a ++ ⟨#[41]⟩)] w fun e w' => (∃ b o cap, e = .returned (.tuple #[.slice (some ⟨b, o, none⟩) 1 cap, .int .i64 (⟨#[35, 40]⟩ ++ a ++ ⟨#[41]⟩ : ByteArray).size, .int .i64 0]) ∧ Dt.AllAt w' [.node 7 0 0 nil8 l] b o) ∧ Below w.heap.size w w' := by
  have := top_vec l h.plain
  rw [if_pos (vec_right l hr)] at this
  exact one_read _ _ w (vec_fits h hl ha) (by rw [vec_bytes ha]; exact this)
theorem row_of {w : World} {k n d : Int} {s : ByteArray} {l : List Dt} {v0 v1 v2 v3 v4 : Value} (h : (Dt.node k n d s l).At w (.agg #[v0, v1, v2, v3, v4])) : v0 = .int .i64 k ∧ ∃ p cap, v4 = .slice p l.length cap ∧ Rowed w l p := by
  unfold Dt.At at h
  obtain ⟨-, -, -, -, -, p, cap, e, hr⟩ := h
  simp only [Value.agg.injEq, Array.mk.injEq, List.cons.injEq] at e
  exact ⟨e.1, p, cap, e.2.2.2.2.1, hr⟩
theorem list_items_any {l : List Dt} {v : Value} {w : World} (h : Passed l) (hl : l.length ≤ 20) (hr : rightDt (Dt.list l) = true) (hat : (Dt.list l).At w v) :
    Calls Tryd.prog 12 #[v] w fun e w' => (∃ p cap, e = .returned (.tuple #[.slice p l.length cap, .bool true]) ∧ Rowed w' l p) ∧ Below w.heap.size w w' := by
  have hs := h.sizes
  refine (ownItems_any pRight (Dt.list l) v w (by omega) hat).mono ?_
  rintro e w' ⟨⟨h1 | h1, rfl⟩ | ⟨-, l', v', h1, rfl, hsl⟩, hb⟩
  · exact absurd h1 (by rw [show (Dt.list l).right rightB nameB 0 = true from hr]; decide)
  · rw [list_items] at h1; cases h1
  · rw [list_items] at h1
    obtain rfl := Option.some.inj h1
    obtain ⟨p, cap, rfl, hrow⟩ := hsl
    exact ⟨⟨p, cap, rfl, hrow⟩, hb⟩
theorem same_self (l : List Dt) (p p' : Option Addr) (cap cap' : Nat) (w : World) (hm : l.length ≤ 20) (hl : Rowed w l p) (hl' : Rowed w l p') :
    Answers 23 #[.slice p l.length cap, .slice p' l.length cap'] w (.bool true) := by
  have := rows_same l l p p' cap cap' w (by unfold maxLen; omega) (by unfold maxLen; omega) hl hl'
  rwa [(Dt.alikeAll_iff l l).2 rfl] at this
theorem rListR {l : List Dt} (p : Option Addr) (cap : Nat) (w : World) (hm : l.length ≤ 20) (hl : Rowed w l p) :
    Calls Tryd.prog 29 #[.slice p l.length cap] w fun e w' => (∃ u, e = .returned u ∧ (Dt.list l).At w' u) ∧ Below w.heap.size w w' := by
  refine (List_any (fun _ => false) l p cap w (fun _ _ => rfl) (by unfold maxLen; omega) (hl.on fun b o v h => off_cell.2 ⟨rfl, h⟩)).mono ?_
  rintro e w' ⟨⟨u, rfl, hu⟩, hb⟩
  exact ⟨⟨u, rfl, hu.on fun b o v h => (off_cell.1 h).2⟩, hb⟩
theorem rRightNot {l : List Dt} {v : Value} {w : World} (hr : rightDt (Dt.list l) = false) (hat : (Dt.list l).At w v) : Answers 28 #[v] w (.bool false) := by
  have := rRight (Dt.list l) v w hat
  rwa [show (Dt.list l).right rightB nameB 0 = false from hr] at this
theorem few100 {t : Dt} {v : Value} {w : World} (hat : t.At w v) : Answers 27 #[v, .int .i64 100] w (.bool (decide (t.size ≤ 100))) := by
  have := Few_any t v 100 w (by omega) (by omega) hat
  rwa [show decide (0 ≤ t.few 100) = decide (t.size ≤ 100) from by rw [decide_eq_decide]; rw [t.few_iff 100 (by omega)]; omega] at this
end Go.Proofs.YtabofebepefbgaaDoor.Dat

/- ReaderVecs answers true, where no element's text is longer than Go can hold. -/
namespace Go.Proofs.YtabofebepefbgaaDoor.Dat
open Go.RowKit
open Go.Proofs.YtabofebepefbgaaDoor (textL parse res str_of textRef_any)
open NumPlain (rightB)
set_option linter.unusedVariables false

theorem take_next {l : List Dt} {i : Nat} {t : Dt} (h : l[i]? = some t) : l.take (i + 1) = l.take i ++ [t] := by
  rw [List.take_add_one, h]; rfl
theorem next_bytes {l : List Dt} {i : Nat} {t : Dt} {a x : ByteArray} (h : l[i]? = some t) (ha : a.data.toList = blankB (l.take i)) (hx : x.data.toList = t.text textL) : (a ++ x ++ ⟨#[32]⟩ : ByteArray).data.toList = blankB (l.take (i + 1)) := by
  rw [take_next h, blankB_snoc, app_list, app_list, ha, hx, List.append_assoc]
set_option maxHeartbeats 4000000 in
set_option maxRecDepth 100000 in
theorem vecs_any (l : List Dt) (p : Option Addr) (cap : Nat) (w : World) (hm : l.length ≤ maxLen) (hl : Rowed w l p) (ht : Tab w) (hroom : ∀ t ∈ l, t.right rightB nameB 0 = true → (t.text textL).length ≤ 140737488355328) :
    Answers 9 #[.slice p l.length cap] w (.bool true) := by
  unfold Answers
  unfold maxLen at hm
  have HT := Lib.hid ht; clear ht
  have HL := Lib.hid hl; clear hl
  have HR := Lib.hid hroom; clear hroom
  go_enter Tryd.func9, Tryd.ntmps9
  go_wp2_with fail
  refine (awake3_any _ HT.out).mono ?_
  rintro _ w1 ⟨rfl, hb1⟩
  have HB1 := Lib.hid hb1; clear hb1
  by_cases h20 : l.length ≤ 20
  case neg =>
    have q1 : (decide ((20 : Int) < l.length)) = true := by rw [decide_eq_true_iff]; omega
    go_wp2_with fail
    go_ret
    exact ⟨rfl, HB1.out⟩
  have q1 : (decide ((20 : Int) < l.length)) = false := by rw [decide_eq_false_iff_not]; omega
  go_wp2_with fail
  go_loopw [4, 5] (fun u x wr => ∃ (i : Nat) (a : ByteArray), i ≤ l.length ∧ u = .string a ∧ x = .int .i64 i ∧ a.data.toList = blankB (l.take i) ∧ Passed (l.take i) ∧ Below w.heap.size w wr) (fun _ x _ => l.length - (intOf x).toNat)
  case atStart => exact ⟨0, ⟨#[]⟩, by omega, rfl, rfl, rfl, (fun t ht => by simp at ht), HB1.out⟩
  case round =>
    obtain ⟨i, a, hi, rfl, rfl, ha, hp, hb⟩ := hrel
    have hal : a.size ≤ 6020 := by
      have h1 := hp.len
      rw [← ha, ← Lib.size_eq] at h1
      simp only [List.length_take] at h1
      omega
    have HA := Lib.hid ha; clear ha
    have HP := Lib.hid hp; clear hp
    have HB := Lib.hid hb; clear hb
    by_cases hlt : i < l.length
    · obtain ⟨t, ht⟩ : ∃ t, l[i]? = some t := ⟨l[i], by simp [hlt]⟩
      rcases HL.out with he | ⟨b, o, rfl, hall⟩
      · rw [he] at hlt; simp at hlt
      obtain ⟨v0, v1, v2, v3, v4, d0, d1, d2, d3, d4, hta⟩ := (hall.on (cell_on HB.out)).kid ht
      obtain ⟨x, hx, hxl⟩ := str_of (l := t.full rightB nameB textL)
      have HX := Lib.hid hx; clear hx hxl
      have HTM := Lib.hid (HR.out t (List.mem_of_getElem? ht))
      have HTT := Lib.hid ht; clear ht
      have HTA := Lib.hid hta; clear hta hall
      have HTAB := Lib.hid (tab_lasts _ _ HT.out HB.out)
      go_wp2_with fail
      refine (pText t _ x wr HTA.out HTAB.out HTM.out HX.out).mono ?_
      rintro _ w2 ⟨rfl, hb2⟩
      have e0 := cell_on hb2 _ _ _ d0
      have e1 := cell_on hb2 _ _ _ d1
      have e2 := cell_on hb2 _ _ _ d2
      have e3 := cell_on hb2 _ _ _ d3
      have e4 := cell_on hb2 _ _ _ d4
      have HTA2 := Lib.hid ((HTA.out).below hb2)
      have HB2 := Lib.hid ((HB.out).trans (hb2.mono (HB.out).size)); clear hb2 d0 d1 d2 d3 d4
      by_cases hr : rightDt t = true
      case neg =>
        have hx0 : x = ⟨#[]⟩ := by
          have h1 := HX.out
          unfold Dt.full at h1
          rw [if_neg hr] at h1
          cases x with
          | mk y => congr; exact Array.toList_inj.1 h1
        subst hx0
        go_wp2_with fail
        go_ret
        exact ⟨rfl, HB2.out⟩
      have hxt : x.data.toList = t.text textL := by
        have h1 := HX.out
        unfold Dt.full at h1
        rwa [if_pos hr] at h1
      have hne : x.toList.isEmpty = false := by
        obtain ⟨c, r, hc, -⟩ := text_first sound hr
        cases e : x.toList with
        | nil =>
          have h2 : x = ⟨#[]⟩ := bytes_inj (by rw [e]; decide +kernel)
          rw [h2, hc] at hxt; cases hxt
        | cons => rfl
      have HRT := Lib.hid hr; clear hr
      have HXT := Lib.hid hxt; clear hxt
      by_cases h3 : x.size ≤ 300
      case neg =>
        have q2 : (decide ((300 : Int) < x.size)) = true := by rw [decide_eq_true_iff]; omega
        go_wp2_with fail
        go_ret
        exact ⟨rfl, HB2.out⟩
      have q2 : (decide ((300 : Int) < x.size)) = false := by rw [decide_eq_false_iff_not]; omega
      go_wp2_with fail
      refine (lawMarked_any t.size t _ _ (Nat.le_refl _) HTA2.out).mono ?_
      rintro _ w3 ⟨rfl, hb3⟩
      have f0 := cell_on hb3 _ _ _ e0
      have f1 := cell_on hb3 _ _ _ e1
      have f2 := cell_on hb3 _ _ _ e2
      have f3 := cell_on hb3 _ _ _ e3
      have f4 := cell_on hb3 _ _ _ e4
      have HTA3 := Lib.hid ((HTA2.out).below hb3)
      have HB3 := Lib.hid ((HB2.out).trans (hb3.mono (HB2.out).size)); clear hb3 e0 e1 e2 e3 e4
      obtain ⟨fw, hfw⟩ : ∃ b, decide (t.size ≤ 100) = b := ⟨_, rfl⟩
      have C := few100 HTA3.out
      rw [hfw] at C
      have HFC := Lib.hid C
      have HFW := Lib.hid hfw
      clear C hfw
      cases hmk : t.marked
      case true =>
        clear hmk
        go_wp2_with fail
        go_ret
        exact ⟨rfl, HB3.out⟩
      have HMK := Lib.hid hmk; clear hmk
      go_wp2_with fail
      refine (HFC.out).mono ?_
      rintro _ w4 ⟨rfl, hb4⟩
      have HB4 := Lib.hid ((HB3.out).trans (hb4.mono (HB3.out).size)); clear hb4 f0 f1 f2 f3 f4
      cases fw
      case false =>
        go_wp2_with fail
        go_ret
        exact ⟨rfl, HB4.out⟩
      have HNB := Lib.hid (next_bytes HTT.out HA.out HXT.out)
      have HNP := Lib.hid (show Passed (l.take (i + 1)) from by
        rw [take_next HTT.out]
        exact (HP.out).snoc ⟨HRT.out, HMK.out, by rw [← HXT.out, ← Lib.size_eq]; exact h3, of_decide_eq_true HFW.out⟩)
      go_wp2_with fail
      go_roundw
      case rel => exact ⟨i + 1, _, by omega, rfl, by go_num, HNB.out, HNP.out, HB4.out⟩
      case measure => simp [intOf]; omega
    · have hp : Passed l := by
        have h := HP.out
        rwa [List.take_of_length_le (by omega)] at h
      have ha : a.data.toList = blankB l := by
        have h := HA.out
        rwa [List.take_of_length_le (by omega)] at h
      have HPA := Lib.hid hp; clear hp
      have HAB := Lib.hid ha; clear ha
      have HLR := Lib.hid ((HL.out).below HB.out)
      by_cases hr : rightDt (Dt.list l) = true
      · have HRI := Lib.hid hr; clear hr
        go_wp2_with fail
        refine (list_read a _ HPA.out h20 HAB.out HRI.out).mono ?_
        rintro _ w2 ⟨⟨b1, o1, cap1, rfl, hat1⟩, hb2⟩
        have HL2 := Lib.hid ((HLR.out).below hb2)
        have HB2 := Lib.hid ((HB.out).trans (hb2.mono (HB.out).size)); clear hb2
        have HAT := Lib.hid hat1; clear hat1
        go_wp2_with fail
        refine (vec_read a _ HPA.out h20 HAB.out HRI.out).mono ?_
        rintro _ w3 ⟨⟨b2, o2, cap2, rfl, hat2⟩, hb3⟩
        have HL3 := Lib.hid ((HL2.out).below hb3)
        have HB3 := Lib.hid ((HB2.out).trans (hb3.mono (HB2.out).size))
        obtain ⟨v0, v1, v2, v3, v4, d0, d1, d2, d3, d4, hta⟩ := ((HAT.out).on (cell_on hb3)).kid (i := 0) rfl
        obtain ⟨u0, u1, u2, u3, u4, f0, f1, f2, f3, f4, htb⟩ := hat2.kid (i := 0) rfl
        simp only [Nat.zero_mul, Nat.add_zero] at d0 d1 d2 d3 d4 f0 f1 f2 f3 f4
        obtain ⟨rfl, pv, cv, rfl, hrv⟩ := row_of htb
        have HTA := Lib.hid hta
        have HRV := Lib.hid hrv
        clear hb3 hat2 hta htb hrv
        go_wp2_with fail
        refine (list_items_any HPA.out h20 HRI.out HTA.out).mono ?_
        rintro _ w4 ⟨⟨pk, ck, rfl, hrk⟩, hb4⟩
        have g0 := cell_on hb4 _ _ _ f0
        have g4 := cell_on hb4 _ _ _ f4
        have HRV4 := Lib.hid ((HRV.out).below hb4)
        have HL4 := Lib.hid ((HL3.out).below hb4)
        have HB4 := Lib.hid ((HB3.out).trans (hb4.mono (HB3.out).size))
        have HRK := Lib.hid hrk
        clear hb4 hrk d0 d1 d2 d3 d4 f0 f1 f2 f3 f4
        go_wp2_with fail
        refine (same_self l _ _ _ _ _ h20 HRK.out HL4.out).mono ?_
        rintro _ w5 ⟨rfl, hb5⟩
        have k0 := cell_on hb5 _ _ _ g0
        have k4 := cell_on hb5 _ _ _ g4
        have HRV5 := Lib.hid ((HRV4.out).below hb5)
        have HL5 := Lib.hid ((HL4.out).below hb5)
        have HB5 := Lib.hid ((HB4.out).trans (hb5.mono (HB4.out).size))
        clear hb5 g0 g4
        go_wp2_with fail
        refine (same_self l _ _ _ _ _ h20 HRV5.out HL5.out).mono ?_
        rintro _ w6 ⟨rfl, hb6⟩
        have m0 := cell_on hb6 _ _ _ k0
        have HB6 := Lib.hid ((HB5.out).trans (hb6.mono (HB5.out).size))
        clear hb6 k0 k4
        go_wp2_with fail
        go_ret
        exact ⟨rfl, HB6.out⟩
      · have HRI := Lib.hid (Bool.eq_false_iff.2 hr); clear hr
        go_wp2_with fail
        refine (list_unread a _ HPA.out h20 HAB.out HRI.out).mono ?_
        rintro _ w2 ⟨⟨x, y, rfl⟩, hb2⟩
        have HL2 := Lib.hid ((HLR.out).below hb2)
        have HB2 := Lib.hid ((HB.out).trans (hb2.mono (HB.out).size)); clear hb2
        have HF := Lib.hid (vec_fits HPA.out h20 HAB.out)
        go_wp2_with fail
        refine (red_some _ _ HF.out).mono ?_
        rintro _ w3 ⟨⟨x', y', z', rfl⟩, hb3⟩
        have HL3 := Lib.hid ((HL2.out).below hb3)
        have HB3 := Lib.hid ((HB2.out).trans (hb3.mono (HB2.out).size)); clear hb3
        go_wp2_with fail
        refine (rListR _ _ _ h20 HL3.out).mono ?_
        rintro _ w4 ⟨⟨u, rfl, hat⟩, hb4⟩
        have HB4 := Lib.hid ((HB3.out).trans (hb4.mono (HB3.out).size)); clear hb4
        have HU := Lib.hid hat; clear hat
        go_wp2_with fail
        refine (rRightNot HRI.out HU.out).mono ?_
        rintro _ w5 ⟨rfl, hb5⟩
        have HB5 := Lib.hid ((HB4.out).trans (hb5.mono (HB4.out).size)); clear hb5
        go_wp2_with fail
        go_ret
        exact ⟨rfl, HB5.out⟩
end Go.Proofs.YtabofebepefbgaaDoor.Dat

/- A datum that comes in by value is opened: how many data and letters it has is told by the form's own count; its text is no longer than six times that. -/
namespace Go.Proofs.YtabofebepefbgaaDoor.Dat
open Go.ChangeShapes Go.WideShapes Go.ChangeAt Go.RowKit Go.Deep
open Go.Proofs.YtabofebepefbgaaDoor (textL)
open NumPlain (rightB)
set_option linter.unusedVariables false

mutual
/-- How many data and letters there are. -/
def Dt.bulk : Dt → Nat
  | .node _ _ _ s l => s.size + Dt.bulks l + 6
def Dt.bulks : List Dt → Nat
  | [] => 0
  | t :: r => t.bulk + Dt.bulks r
end
theorem bulk_mem {l : List Dt} {t : Dt} (h : t ∈ l) : t.bulk ≤ Dt.bulks l := by
  induction l with
  | nil => cases h
  | cons a r ih =>
    unfold Dt.bulks
    rcases List.mem_cons.1 h with rfl | h
    · omega
    · have := ih h; omega
theorem tail_long (t : Dt) : (t.tail textL).length ≤ (t.text textL).length + 3 := by
  unfold Dt.tail Dt.text tailT wrapT
  split
  · simp
  · split
    · simp
    · simp
theorem text_long (N : Nat) : ∀ (t : Dt) (deep : Nat), t.size ≤ N → t.right rightB nameB deep = true → (t.text textL).length + 4 ≤ 6 * t.bulk := by
  induction N with
  | zero => intro t deep h; have := t.size_pos; omega
  | succ N ih =>
    intro t deep hN h
    have more : ∀ (l : List Dt) (deep : Nat), Dt.sizes l ≤ N → Dt.rightAll rightB nameB l deep = true → (Dt.moreB textL l).length ≤ 6 * Dt.bulks l := by
      intro l
      induction l with
      | nil => intro deep _ _; simp [Dt.moreB, Dt.bulks]
      | cons a r ihl =>
        intro deep hs hr
        unfold Dt.rightAll at hr
        rw [Bool.and_eq_true] at hr
        simp only [Dt.sizes] at hs
        have h1 := ih a deep (by omega) hr.1
        have h2 := ihl deep (by omega) hr.2
        rw [moreB_cons]
        simp only [Dt.bulks, List.length_cons, List.length_append]
        omega
    cases view_of h with
    | num n d hr =>
      rw [text_num]
      have := text_short n d
      simp only [Dt.bulk, Dt.bulks]; omega
    | bool n hn => rw [text_bool]; simp only [Dt.bulk, Dt.bulks]; split <;> simp <;> omega
    | sym s hs =>
      rw [text_sym]
      have := Lib.size_eq s
      simp only [Dt.bulk, Dt.bulks]; omega
    | str s hs =>
      rw [text_str]
      have := Lib.size_eq s
      simp only [Dt.bulk, Dt.bulks, List.length_cons, List.length_append, List.length_nil]; omega
    | null => rw [text_null]; simp only [Dt.bulk, Dt.bulks, List.length_cons, List.length_nil]; omega
    | void => rw [text_void]; simp only [Dt.bulk, Dt.bulks, List.length_cons, List.length_nil]; omega
    | pair a b ha hb =>
      simp only [Dt.size, Dt.sizes] at hN
      have h1 := ih a _ (by omega) ha
      have h2 := ih b _ (by omega) hb
      have h3 := tail_long b
      rw [text_pair]
      simp only [Dt.bulk, Dt.bulks, List.length_cons, List.length_append, List.length_nil]; omega
    | vec l hl =>
      simp only [Dt.size] at hN
      have h1 := more l _ (by omega) hl
      rw [text_vec]
      have h2 : (Dt.seqB textL l).length ≤ (Dt.moreB textL l).length := by
        cases l with
        | nil => simp [Dt.seqB]
        | cons a r => rw [seqB_cons, moreB_cons]; simp only [List.length_cons, List.length_append]; omega
      simp only [Dt.bulk, List.length_cons, List.length_append, List.length_nil]; omega
theorem text_room {t : Dt} {b : Nat} (hb : t.bulk ≤ b) (h1 : b ≤ 1048576) : t.right rightB nameB 0 = true → (t.text textL).length ≤ 140737488355328 := fun h => by
  have := text_long t.size t 0 (Nat.le_refl _) h
  omega

theorem up_mem {H : Type} {l : List (DataW H)} : ∀ {L : List Dt}, L.length = l.length → (∀ (i : Nat) (t : Dt) (d : DataW H), L[i]? = some t → l[i]? = some d → t.bulk ≤ Rows.uptoBulk d) → Dt.bulks L ≤ Rows.uptoBulkAll l := by
  induction l with
  | nil => intro L hl _; obtain rfl : L = [] := List.eq_nil_of_length_eq_zero hl; simp [Dt.bulks]
  | cons d r ih =>
    intro L hl h
    cases L with
    | nil => simp at hl
    | cons t R =>
      have h1 := h 0 t d rfl rfl
      have h2 := ih (L := R) (by simpa using hl) fun i t d ht hd => h (i + 1) t d (by simpa using ht) (by simpa using hd)
      simp only [Dt.bulks, Rows.uptoBulkAll]; omega

def OpensAtB {H : Type} (enc : TypeId × Value → H) (w : World) (base : Nat) (spare : Nat → Bool) (held : Bool) (fuel : Nat) : Prop := ∀ (cs : List Value) (x : DataW H × List MemPlace),
    DataW.trod enc Tryd.prog w base spare held fuel 24 cs = some x → ∃ t : Dt, t.At w (.agg cs.toArray) ∧ t.bulk ≤ Rows.uptoBulk x.1

theorem open_dtsB {H : Type} {enc : TypeId × Value → H} {w : World} {base : Nat} {spare : Nat → Bool} {held : Bool} {fuel : Nat} (ih : ∀ n, n < fuel → OpensAtB enc w base spare held n) {cs : List Value} {x : DataW H × List MemPlace}
    (h : DataW.trod enc Tryd.prog w base spare held fuel 22 cs = some x) :
    ∃ (l : List Dt) (p : Option Addr) (cap : Nat), cs = [.slice p l.length cap] ∧ l.length ≤ maxLen ∧ (l = [] ∨ ∃ b o, p = some ⟨b, o, none⟩ ∧ Dt.AllAt w l b o) ∧ Dt.bulks l + 1 ≤ Rows.uptoBulk x.1 := by
  rcases DataW.trod_slice Tryd.underlying22 h with ⟨rfl, hx⟩ | ⟨a, len, cap, elems, rest, n2, rfl, rfl, hx, hb, hl, hm, hlen2, hel, _, _⟩
  · exact ⟨[], none, 0, rfl, by simp, Or.inl rfl, by rw [hx]; simp [Dt.bulks, Rows.uptoBulk]⟩
  · rw [Tryd.cellsDt] at hel
    have hall : ∀ i, i < len → ∃ t : Dt, (∃ v0 v1 v2 v3 v4, (a.add (i * 5)).spot = none ∧ w.cell? ⟨a.block, a.off + i * 5, none⟩ = some v0 ∧ w.cell? ⟨a.block, a.off + i * 5 + 1, none⟩ = some v1 ∧ w.cell? ⟨a.block, a.off + i * 5 + 2, none⟩ = some v2 ∧ w.cell? ⟨a.block, a.off + i * 5 + 3, none⟩ = some v3 ∧ w.cell? ⟨a.block, a.off + i * 5 + 4, none⟩ = some v4 ∧ t.At w (.agg #[v0, v1, v2, v3, v4])) ∧ (∀ z, elems[i]? = some z → t.bulk ≤ Rows.uptoBulk z.1) := by
      intro i hi
      have he := hel i hi
      have hsome : elems[i]? = some (elems[i]'(by omega)) := List.getElem?_eq_getElem (by omega)
      rw [hsome, Option.bind_eq_some_iff] at he
      obtain ⟨cs', hcs, htr⟩ := he
      obtain ⟨t, ht, hthin⟩ := ih n2 (by omega) cs' _ htr
      obtain ⟨v0, v1, v2, v3, v4, rfl, hsp, q0, q1, q2, q3, q4⟩ := five_cells hcs
      have e : (a.add (i * 5)).block = a.block ∧ (a.add (i * 5)).off = a.off + i * 5 := by
        unfold Addr.add; split <;> simp_all
      rw [e.1, e.2] at q0 q1 q2 q3 q4
      refine ⟨t, ⟨v0, v1, v2, v3, v4, hsp, q0, q1, q2, q3, q4, ht⟩, fun z hz => ?_⟩
      rw [hsome] at hz
      obtain rfl := Option.some.inj hz
      exact hthin
    obtain ⟨T, hT⟩ := choose_lt hall
    have hll : ((List.range len).map T).length = len := by simp
    refine ⟨(List.range len).map T, some a, cap, by rw [hll], by rw [hll]; omega, ?_, ?_⟩
    · by_cases hz : len = 0
      · left; rw [hz]; rfl
      · right
        have hsp : a.spot = none := by
          obtain ⟨⟨_, _, _, _, _, h, _⟩, _⟩ := hT 0 (by omega)
          simpa [Addr.add] using h
        refine ⟨a.block, a.off, by obtain ⟨b, o, sp⟩ := a; simp only at hsp; subst hsp; rfl, Dt.AllAt.of ?_⟩
        intro i t hit
        rw [List.getElem?_map] at hit
        have hi : i < len := by
          rcases Nat.lt_or_ge i len with h | h
          · exact h
          · rw [List.getElem?_eq_none (by simpa using h)] at hit; cases hit
        rw [List.getElem?_range hi] at hit
        obtain rfl : T i = t := by simpa using hit
        obtain ⟨⟨v0, v1, v2, v3, v4, _, q0, q1, q2, q3, q4, ht⟩, _⟩ := hT i hi
        exact ⟨v0, v1, v2, v3, v4, q0, q1, q2, q3, q4, ht⟩
    · have h1 : Dt.bulks ((List.range len).map T) ≤ Rows.uptoBulkAll (elems.map (·.1)) := by
        refine up_mem (by rw [hll]; simp; omega) fun i t d ht hd => ?_
        rw [List.getElem?_map] at ht hd
        have hi : i < len := by
          rcases Nat.lt_or_ge i len with h | h
          · exact h
          · rw [List.getElem?_eq_none (by simpa using h)] at ht; cases ht
        rw [List.getElem?_range hi] at ht
        obtain rfl : T i = t := by simpa using ht
        obtain ⟨z, hz, rfl⟩ := Option.map_eq_some_iff.1 hd
        exact (hT i hi).2 z hz
      rw [hx]
      simp only [Rows.uptoBulk]
      omega

theorem open_dtB {H : Type} {enc : TypeId × Value → H} {w : World} {base : Nat} {spare : Nat → Bool} {held : Bool} (N : Nat) : ∀ fuel, fuel ≤ N → OpensAtB enc w base spare held fuel := by
  induction N with
  | zero =>
    intro fuel hf cs x h
    obtain rfl : fuel = 0 := by omega
    simp [DataW.trod] at h
  | succ N ih =>
    intro fuel hf cs x h
    obtain ⟨xs, n, rfl, hx, hlen, hxs, hat⟩ := DataW.trod_struct Tryd.underlying24 h
    rw [Tryd.cellsDt] at hlen
    obtain ⟨c0, c1, c2, c3, c4, rfl⟩ := list5 cs hlen
    obtain ⟨x0, x1, x2, x3, x4, rfl⟩ := list5 xs (by simpa using hxs)
    have h0 := hat 0 _ rfl
    have h1 := hat 1 _ rfl
    have h2 := hat 2 _ rfl
    have h3 := hat 3 _ rfl
    have h4 := hat 4 _ rfl
    simp [Tryd.cellsInt, Tryd.cellsStr, Tryd.cellsDts] at h0 h1 h2 h3 h4
    obtain ⟨k, e0, rfl, w0⟩ := DataW.trod_int Tryd.underlying3 h0
    obtain ⟨m, e1, rfl, w1⟩ := DataW.trod_int Tryd.underlying3 h1
    obtain ⟨d, e2, rfl, w2⟩ := DataW.trod_int Tryd.underlying3 h2
    simp at e0 e1 e2
    subst e0 e1 e2
    obtain ⟨s, rfl, hs, hx3⟩ : ∃ s : ByteArray, c3 = .string s ∧ s.size ≤ maxLen ∧ x3.1 = .lit (.string s.data.toList) := by
      cases n with
      | zero => simp [DataW.trod] at h3
      | succ n =>
        cases c3 <;> simp [DataW.trod, Tryd.underlying9] at h3
        rename_i s
        exact ⟨s, rfl, h3.1, by rw [← h3.2]⟩
    obtain ⟨l, p, cap, hc4, hlm, hl, hth⟩ := open_dtsB (fun m hm => ih m (by omega)) h4
    simp at hc4; subst hc4
    refine ⟨.node k m d s l, ?_, ?_⟩
    · unfold Dt.At
      exact ⟨wf64 w0, wf64 w1, wf64 w2, hs, hlm, p, cap, rfl, hl⟩
    · rw [hx]
      simp only [List.map_cons, List.map_nil, Rows.uptoBulk, Rows.uptoBulkAll, hx3, Dt.bulk]
      have := Lib.size_eq s
      omega
set_option maxRecDepth 100000 in
theorem open_datumB {H : Type} {enc : TypeId × Value → H} {w : World} {base : Nat} {b2 : Nat} {sp : Nat → Bool} {held : Bool} {v : Value} {d : DataW H} {p : List MemPlace} (hval : Value.okWide Tryd.prog w .any b2 24 v) (hd : DataW.Trod enc Tryd.prog w base sp held 24 v d p) :
    ∃ t : Dt, t.At w v ∧ t.bulk ≤ Rows.uptoBulk d := by
  obtain ⟨cs, rfl, _⟩ := okWide_struct Tryd.underlying24 hval
  obtain ⟨fuel, hf⟩ := hd
  obtain ⟨t, h1, h2⟩ := open_dtB (enc := enc) (w := w) (base := base) (spare := sp) (held := held) fuel fuel (Nat.le_refl _) _ _ hf
  exact ⟨t, by simpa [Value.cells] using h1, h2⟩
set_option maxRecDepth 100000 in
theorem open_dataB {H : Type} {enc : TypeId × Value → H} {w : World} {base : Nat} {b2 : Nat} {sp : Nat → Bool} {held : Bool} {v : Value} {d : DataW H} {p : List MemPlace} (hval : Value.okWide Tryd.prog w .any b2 22 v) (hd : DataW.Trod enc Tryd.prog w base sp held 22 v d p) :
    ∃ (l : List Dt) (q : Option Addr) (cap : Nat), v = .slice q l.length cap ∧ l.length ≤ maxLen ∧ (l = [] ∨ ∃ b o, q = some ⟨b, o, none⟩ ∧ Dt.AllAt w l b o) ∧ Dt.bulks l + 1 ≤ Rows.uptoBulk d := by
  obtain ⟨a0, len, cap, rfl⟩ := okWide_slice Tryd.underlying22 hval
  obtain ⟨fuel, hf⟩ := hd
  obtain ⟨l, q, c, h1, h2, h3, h4⟩ := open_dtsB (enc := enc) (w := w) (base := base) (spare := sp) (held := held) (fun n hn => open_dtB n n (Nat.le_refl _)) hf
  refine ⟨l, q, c, ?_, h2, h3, h4⟩
  simpa [Value.cells] using h1
end Go.Proofs.YtabofebepefbgaaDoor.Dat


namespace Go.Proofs.YtabofebepefbgaaDoor.readerVecs
open Go.ChangeShapes Go.WideShapes Go.ChangeAt Go.RowKit
open Go.Proofs.YtabofebepefbgaaDoor.Dat

theorem reads (os : Os) {H : Type} (enc : TypeId × Value → H) : ∃ places, DataW.whole enc Tryd.prog ((World.doorLaid Tryd.prog 24 os).forCall (fun _ _ => 0) ⟨#[], #[.slice none 0 0], []⟩).memory Tryd.f9.params.toList Rows.readerVecsSpec.vars false #[.slice none 0 0].toList 8 = some ([.nil], [], places) :=
  ⟨[], by kernel_rfl⟩

set_option maxRecDepth 100000 in
theorem contract (H : Type) (enc : TypeId × Value → H) (W : World) (base : Nat) (args : Array Value) (ds gs : List (DataW H)) (before : List MemPlace)
    (hval0 : ∀ (j : Nat) t v, Tryd.f9.params[j]? = some t → args[j]? = some v → Value.okWide Tryd.prog W .any base t v)
    (hW : DataW.Whole enc Tryd.prog Tryd.f9.params.toList Rows.readerVecsSpec.vars false W args.toList ds gs before) (hbulk : Rows.uptoSmall H (ds ++ gs) = true) (hL : laidMetH Tryd.prog laid3 W) :
    Calls Tryd.prog 9 args W fun e W' => ∃ v, e = .returned v ∧ Rows.readerVecsSpec.post enc Tryd.prog Tryd.f9 false true false false W args v W' := by
  have hval : ∀ (j : Nat) t v, Tryd.f9.params[j]? = some t → args[j]? = some v → Value.okWide Tryd.prog W .any base t v := hval0
  have hbk := of_decide_eq_true hbulk
  have hW' := hW
  obtain ⟨p, q, hA0, hV, rfl, hfz, hnd⟩ := hW
  have hA : DataW.TrodAll enc Tryd.prog W 0 (fun _ => true) true Tryd.f9.params.toList args.toList ds p := hA0
  rw [Tryd.params9] at hA hval
  obtain ⟨v0, vs0, d0, ds0, p0, q0, hargs, rfl, rfl, h0, r0⟩ := trodAll_cons hA
  obtain ⟨rfl, rfl, rfl⟩ := trodAll_nil r0
  obtain rfl : args = #[v0] := by cases args; simp_all
  obtain ⟨rfl, rfl⟩ := trodVars_none hV
  have h0k := h0
  obtain ⟨l0, a0, cap0, rfl, hlm0, hl0, hb0⟩ := open_dataB (hval 0 22 v0 rfl rfl) h0
  clear hA0 hval0
  simp only [List.append_nil] at hW'
  simp only [List.append_nil, Rows.uptoBulkAll] at hbk
  have hlt : ∀ x ∈ p0, x.block < W.heap.size := fun x hx => by simpa using hW'.lt x hx
  refine (vecs_any l0 a0 cap0 W hlm0 hl0 (tab_of_laid hL) (fun t ht => text_room (b := 1048576) (by have := bulk_mem ht; omega) (Nat.le_refl _))).mono fun e W' ⟨he, hnx⟩ => ?_
  subst he
  refine ⟨_, rfl, _, _, _, [], p0 ++ [], [], hW', ?_, ?_, rfl, hnx.frame _, fun h => by cases h⟩
  · exact trodAll_cons_mk (shut_bool Tryd.underlying4 _) trodAll_mk0
  · exact trodAll_cons_mk (data_stay h0k hnx fun x hx => hlt x (by simp [hx])) trodAll_mk0

set_option maxRecDepth 100000 in
theorem lifted (os : Os) (started : os.Started) (H : Type) (enc : TypeId × Value → H) (F : Stop.Interp) :
    ReturnsInHanded {} Tryd.checked os 9 .any ((Rows.OpenSpec.upto Rows.readerVecsSpec).preRow enc Tryd.prog Tryd.f9 Rows.readerVecsUptoRow.domain false Rows.readerVecsUptoRow.laid) (((Rows.OpenSpec.upto Rows.readerVecsSpec).at F).post enc Tryd.prog Tryd.f9 false true false false) := by
  obtain ⟨places, hx⟩ := reads os enc
  refine returnsInHanded_of_row (C := Tryd.checked) (s := (Rows.OpenSpec.upto Rows.readerVecsSpec)) own started (by kernel_rfl) Tryd.func9
    (witness_row_atRef (enc := enc) (C := Tryd.checked) false (World.doorLaid Tryd.prog 24 os) #[.slice none 0 0] rfl (by kernel_rfl) (by kernel_rfl) (by kernel_rfl)
      (OpenSpec.preRow_of_cond 8 hx (by kernel_rfl) (fun k hk => by cases hk; kernel_rfl) (by kernel_rfl) (door_met os _))) ?_
  intro W base args ds gs before hval hW _ hcond _ hL _ _
  exact contract H enc W base args ds gs before hval hW (hcond _ rfl) hL

theorem row_holds : Rows.ReaderVecsUptoSaid :=
  OpenClaim.holds_of_cond 9 Tryd.f9 rfl rfl rfl rfl rfl rfl rfl ⟨rfl, rfl, rfl, rfl, rfl⟩ rfl rfl rfl rfl rfl (by kernel_rfl) Tryd.func9 (by kernel_rfl)
    (of_decide_eq_true (by kernel_rfl)) (by unfold Func.isWrapper; first | (rw [if_pos (by decide +kernel)]; kernel_rfl) | (rw [if_neg (by decide +kernel)]; exact ⟨rfl, rfl⟩))
    (fun os started H enc _ F => by rw [OpenClaim.pre_eq_preRow]; exact lifted os started H enc F)

theorem proved : Rows.ReaderVecsUptoCardSaid :=
  Claim7.holds_tied_plain_at .later [] [.data, .data, .data] true (true, "b5aab2e4575c67165dee852d4a059ea827c416131030dee3c0fa9ff6b191e51b") true
    row_holds (fun _ h => by cases h) (by kernel_rfl) (fun _ h => by cases h) readerVecsUpto_row_tie rfl ⟨rfl, rfl⟩ (by kernel_rfl) rfl
    (fun f fn hf hfn => by
      obtain rfl : f = 9 := Option.some.inj ((show Tryd.prog.funcNamed "corbel/corbellaw03.ReaderVecs" = some 9 by kernel_rfl).symm.trans hf) |>.symm
      obtain rfl : fn = Tryd.f9 := (Option.some.inj (Tryd.func9.symm.trans hfn)).symm
      exact ⟨by kernel_rfl, fun j t ht => by
        rw [Tryd.params9] at ht
        have hm : t ∈ [22] := by simpa using Array.mem_of_getElem? ht
        have hall : ([22].all fun u => !Tryd.prog.wantsStandIn u) = true := by kernel_rfl
        exact (show Tryd.prog.wantsStandIn t = false by simpa using List.all_eq_true.1 hall t hm)⟩)
    (by kernel_rfl)
#print axioms proved
end Go.Proofs.YtabofebepefbgaaDoor.readerVecs
