/- The reader, in plain Lean: what a text is read to, and where it is none. -/
import Derived.Test.YtabofebepefbgaaDoorDatM
import Derived.Test.YtabofebepefbgaaDoorDatQ


namespace Go.Proofs.YtabofebepefbgaaDoor.Dat
open Go.RowKit
open Go.Proofs.YtabofebepefbgaaDoor (textL parse)
open NumPlain (rightB)
set_option linter.unusedVariables false

theorem parse_nil : (parse []).2.2 = false := by decide +kernel
/-- Right, as chapter 2 has it. -/
abbrev rightDt (t : Dt) : Bool := t.right rightB nameB 0
/-- What reading answers: where a text is none; or what is read, and what is left. -/
inductive Res (α : Type) where
  | bad (q : List UInt8)
  | ok (a : α) (q : List UInt8)

/-- A byte of a word. -/
def wordChar (c : UInt8) : Bool := nameChar c && c != 37
/-- What stands behind blanks (in a remark, or not). -/
def skipB : Bool → List UInt8 → List UInt8
  | _, [] => []
  | true, c :: r => skipB (c != 10) r
  | false, c :: r => if c = 59 then skipB true r else if c = 32 ∨ c = 10 ∨ c = 9 then skipB false r else c :: r
def wordR (l : List UInt8) : Res Dt :=
  if (parse (l.takeWhile wordChar)).2.2 then .ok (.node 0 (parse (l.takeWhile wordChar)).1 (parse (l.takeWhile wordChar)).2.1 nil8 []) (l.dropWhile wordChar)
  else if (l.takeWhile wordChar).length = 0 ∨ 40 < (l.takeWhile wordChar).length then .bad l
  else .ok (.node 2 0 0 ⟨(l.takeWhile wordChar).toArray⟩ []) (l.dropWhile wordChar)
def strEnd (s : List UInt8) : List UInt8 → Res Dt
  | [] => .bad []
  | c :: r => if c = 34 then .ok (.node 3 0 0 ⟨s.toArray⟩ []) r else .bad (c :: r)
def strR (l : List UInt8) : Res Dt := strEnd (l.takeWhile strChar) (l.dropWhile strChar)
def leafH (c : UInt8) : Option Dt :=
  if c = 116 then some (.node 1 1 0 nil8 []) else if c = 102 then some (.node 1 0 0 nil8 []) else if c = 118 then some (.node 5 0 0 nil8 []) else none
/-- Pairs of all of these, and an end. -/
def Dt.chain (e : Dt) : List Dt → Dt
  | [] => e
  | t :: r => .node 6 0 0 nil8 [t, Dt.chain e r]
def nullD : Dt := .node 4 0 0 nil8 []
def quoteD : Dt := .node 2 0 0 ⟨#[113, 117, 111, 116, 101]⟩ []
/-- What is read: one datum; a list, from behind these on; a Vec, from behind these on. -/
inductive Md where
  | one
  | list (acc : List Dt)
  | vec (acc : List Dt)

inductive Rd : Md → List UInt8 → Res Dt → Prop
  | none {l} : skipB false l = [] → Rd .one l (.bad [])
  | str {l r} : skipB false l = 34 :: r → Rd .one l (strR r)
  | word {l c r} : skipB false l = c :: r → c ≠ 40 → c ≠ 39 → c ≠ 34 → c ≠ 35 → Rd .one l (wordR (c :: r))
  | quoteBad {l r q} : skipB false l = 39 :: r → Rd .one r (.bad q) → Rd .one l (.bad q)
  | quote {l r d q} : skipB false l = 39 :: r → Rd .one r (.ok d q) → Rd .one l (.ok (Dt.chain nullD [quoteD, d]) q)
  | list {l r res} : skipB false l = 40 :: r → Rd (.list []) r res → Rd .one l res
  | hashEnd {l} : skipB false l = [35] → Rd .one l (.bad [])
  | hashLeaf {l m r d} : skipB false l = 35 :: m :: r → leafH m = some d → Rd .one l (.ok d r)
  | hashVec {l r res} : skipB false l = 35 :: 40 :: r → Rd (.vec []) r res → Rd .one l res
  | hashBad {l m r} : skipB false l = 35 :: m :: r → leafH m = Option.none → m ≠ 40 → Rd .one l (.bad (m :: r))
  | lNone {acc l} : skipB false l = [] → Rd (.list acc) l (.bad [])
  | lShut {acc l r} : skipB false l = 41 :: r → Rd (.list acc) l (.ok (Dt.chain nullD acc) r)
  | lDotBad {acc l r q} : skipB false l = 46 :: r → acc ≠ [] → Rd .one r (.bad q) → Rd (.list acc) l (.bad q)
  | lDotNone {acc l r d q} : skipB false l = 46 :: r → acc ≠ [] → Rd .one r (.ok d q) → skipB false q = [] → Rd (.list acc) l (.bad [])
  | lDotNo {acc l r d q c z} : skipB false l = 46 :: r → acc ≠ [] → Rd .one r (.ok d q) → skipB false q = c :: z → c ≠ 41 → Rd (.list acc) l (.bad (c :: z))
  | lDot {acc l r d q z} : skipB false l = 46 :: r → acc ≠ [] → Rd .one r (.ok d q) → skipB false q = 41 :: z → Rd (.list acc) l (.ok (Dt.chain d acc) z)
  | lBad {acc l c r q} : skipB false l = c :: r → c ≠ 41 → (acc = [] ∨ c ≠ 46) → Rd .one (c :: r) (.bad q) → Rd (.list acc) l (.bad q)
  | lMore {acc l c r d q res} : skipB false l = c :: r → c ≠ 41 → (acc = [] ∨ c ≠ 46) → Rd .one (c :: r) (.ok d q) → Rd (.list (acc ++ [d])) q res → Rd (.list acc) l res
  | vNone {acc l} : skipB false l = [] → Rd (.vec acc) l (.bad [])
  | vShut {acc l r} : skipB false l = 41 :: r → Rd (.vec acc) l (.ok (.node 7 0 0 nil8 acc) r)
  | vBad {acc l c r q} : skipB false l = c :: r → c ≠ 41 → Rd .one (c :: r) (.bad q) → Rd (.vec acc) l (.bad q)
  | vMore {acc l c r d q res} : skipB false l = c :: r → c ≠ 41 → Rd .one (c :: r) (.ok d q) → Rd (.vec (acc ++ [d])) q res → Rd (.vec acc) l res

/-- All data of a text. -/
inductive Top : List Dt → List UInt8 → Res (List Dt) → Prop
  | fin {acc l} : skipB false l = [] → Top acc l (.ok acc [])
  | bad {acc l c r q} : skipB false l = c :: r → Rd .one (c :: r) (.bad q) → Top acc l (.bad q)
  | deep {acc l c r d q} : skipB false l = c :: r → Rd .one (c :: r) (.ok d q) → rightDt d = false → Top acc l (.bad (c :: r))
  | more {acc l c r d q res} : skipB false l = c :: r → Rd .one (c :: r) (.ok d q) → rightDt d = true → Top (acc ++ [d]) q res → Top acc l res

theorem skip_in : ∀ (b : Bool) (l : List UInt8) {c : UInt8} {r : List UInt8}, skipB b l = c :: r → ∃ p, l = p ++ c :: r ∧ (∀ x, skipB b (p ++ c :: x) = c :: x) ∧ skipB b p = []
  | _, [], c, r, h => by simp [skipB] at h
  | true, a :: l, c, r, h => by
    simp only [skipB] at h
    obtain ⟨p, h1, h2, h3⟩ := skip_in _ l h
    exact ⟨a :: p, by rw [h1]; rfl, fun x => by simp only [List.cons_append, skipB]; exact h2 x, by simp only [skipB]; exact h3⟩
  | false, a :: l, c, r, h => by
    simp only [skipB] at h
    split at h
    · rename_i ha
      obtain ⟨p, h1, h2, h3⟩ := skip_in _ l h
      exact ⟨a :: p, by rw [h1]; rfl, fun x => by simp only [List.cons_append, skipB, if_pos ha]; exact h2 x, by simp only [skipB, if_pos ha]; exact h3⟩
    · rename_i ha
      split at h
      · rename_i hb
        obtain ⟨p, h1, h2, h3⟩ := skip_in _ l h
        exact ⟨a :: p, by rw [h1]; rfl, fun x => by simp only [List.cons_append, skipB, if_neg ha, if_pos hb]; exact h2 x, by simp only [skipB, if_neg ha, if_pos hb]; exact h3⟩
      · rename_i hb
        obtain ⟨rfl, rfl⟩ := List.cons.inj h
        exact ⟨[], rfl, fun x => by simp only [List.nil_append, skipB, if_neg ha, if_neg hb], rfl⟩
theorem skip_out : ∀ (b : Bool) (l : List UInt8), skipB b l = [] → ∀ e, skipB b (l ++ 10 :: e) = skipB false e
  | true, [], _, e => by simp [skipB]
  | false, [], _, e => by simp [skipB]
  | true, a :: l, h, e => by
    simp only [skipB] at h
    simp only [List.cons_append, skipB]
    exact skip_out _ l h e
  | false, a :: l, h, e => by
    simp only [skipB] at h
    simp only [List.cons_append, skipB]
    split at h
    · rename_i ha
      rw [if_pos ha]; exact skip_out _ l h e
    · rename_i ha
      split at h
      · rename_i hb
        rw [if_neg ha, if_pos hb]; exact skip_out _ l h e
      · cases h
theorem skip_stays {b : Bool} {l : List UInt8} {c : UInt8} {r : List UInt8} (h : skipB b l = c :: r) (x : List UInt8) : skipB false (c :: x) = c :: x := by
  have : ∀ (b : Bool) (l : List UInt8), skipB b l = c :: r → c ≠ 59 ∧ ¬ (c = 32 ∨ c = 10 ∨ c = 9) := by
    intro b l
    induction l generalizing b with
    | nil => intro h; cases b <;> simp [skipB] at h
    | cons a l ih =>
      intro h
      cases b
      · simp only [skipB] at h
        split at h
        · exact ih _ h
        · rename_i ha
          split at h
          · exact ih _ h
          · rename_i hb
            obtain ⟨rfl, rfl⟩ := List.cons.inj h
            exact ⟨ha, hb⟩
      · simp only [skipB] at h; exact ih _ h
  obtain ⟨h1, h2⟩ := this b l h
  simp only [skipB, if_neg h1, if_neg h2]

/-- What may stand behind a datum in another one's place. -/
def Fit (r x : List UInt8) : Prop := ∀ c y, x = c :: y → wordChar c = false ∨ ∃ z, r = c :: z
theorem fit_nil (r : List UInt8) : Fit r [] := fun _ _ h => by cases h
theorem fit_more {r x : List UInt8} (p : List UInt8) (h : Fit r x) : Fit (p ++ r) (p ++ x) := by
  cases p with
  | nil => exact h
  | cons a p => intro c y e; obtain ⟨rfl, _⟩ := List.cons.inj e; exact Or.inr ⟨_, rfl⟩
theorem fit_same (c : UInt8) (r x : List UInt8) : Fit (c :: r) (c :: x) := fun a y e => by obtain ⟨rfl, _⟩ := List.cons.inj e; exact Or.inr ⟨_, rfl⟩
theorem fit_cut (p r : List UInt8) : Fit (p ++ r) p := by
  cases p with
  | nil => exact fit_nil _
  | cons a p => exact fit_same a _ _
theorem fit_line (r e : List UInt8) : Fit r (r ++ 10 :: e) := by
  cases r with
  | nil => intro c y h; obtain ⟨rfl, _⟩ := List.cons.inj h; exact Or.inl (by decide)
  | cons a r => exact fit_same a _ _
theorem drop_head {p : UInt8 → Bool} : ∀ {l : List UInt8} {c : UInt8} {r : List UInt8}, l.dropWhile p = c :: r → p c = false
  | [], _, _, h => by simp at h
  | a :: l, c, r, h => by
    rw [List.dropWhile_cons] at h
    split at h
    · exact drop_head h
    · rename_i ha
      obtain ⟨rfl, _⟩ := List.cons.inj h
      simpa using ha
theorem take_app {p : UInt8 → Bool} {l x : List UInt8} (hl : ∀ c ∈ l, p c = true) (hx : ∀ c y, x = c :: y → p c = false) : (l ++ x).takeWhile p = l ∧ (l ++ x).dropWhile p = x := by
  induction l with
  | nil =>
    cases x with
    | nil => exact ⟨rfl, rfl⟩
    | cons c y => exact ⟨by rw [List.nil_append, List.takeWhile_cons, hx c y rfl]; rfl, by rw [List.nil_append, List.dropWhile_cons, hx c y rfl]; rfl⟩
  | cons a l ih =>
    obtain ⟨h1, h2⟩ := ih fun c hc => hl c (List.mem_cons_of_mem _ hc)
    exact ⟨by rw [List.cons_append, List.takeWhile_cons, hl a List.mem_cons_self, if_pos rfl, h1], by rw [List.cons_append, List.dropWhile_cons, hl a List.mem_cons_self, if_pos rfl, h2]⟩
theorem take_all {p : UInt8 → Bool} {l : List UInt8} : ∀ c ∈ l.takeWhile p, p c = true := by
  induction l with
  | nil => simp
  | cons a l ih =>
    intro c hc
    rw [List.takeWhile_cons] at hc
    split at hc
    · rename_i ha
      rcases List.mem_cons.1 hc with rfl | hc
      · exact ha
      · exact ih c hc
    · simp at hc
theorem word_ok {l : List UInt8} {d : Dt} {q : List UInt8} (h : wordR l = .ok d q) : q = l.dropWhile wordChar ∧ l.takeWhile wordChar ≠ [] ∧ ∀ x, (∀ c y, x = c :: y → wordChar c = false) → wordR (l.takeWhile wordChar ++ x) = .ok d x := by
  unfold wordR at h
  split at h
  · rename_i hp
    obtain ⟨rfl, rfl⟩ := Res.ok.inj h
    refine ⟨rfl, fun e => ?_, fun x hx => ?_⟩
    · rw [e, parse_nil] at hp; cases hp
    · obtain ⟨h1, h2⟩ := take_app (p := wordChar) (take_all (l := l)) hx
      unfold wordR
      rw [h1, h2, if_pos hp]
  · rename_i hp
    split at h
    · cases h
    · rename_i hn
      obtain ⟨rfl, rfl⟩ := Res.ok.inj h
      refine ⟨rfl, fun e => hn (Or.inl (by rw [e]; rfl)), fun x hx => ?_⟩
      obtain ⟨h1, h2⟩ := take_app (p := wordChar) (take_all (l := l)) hx
      unfold wordR
      rw [h1, h2, if_neg hp, if_neg hn]
theorem word_bad {l q : List UInt8} (h : wordR l = .bad q) : q = l ∧ (∀ e, wordR (l ++ 10 :: e) = .bad (l ++ 10 :: e)) := by
  have ht : ∀ e, (l ++ 10 :: e).takeWhile wordChar = l.takeWhile wordChar := by
    intro e
    have : ∀ z : List UInt8, (z ++ 10 :: e).takeWhile wordChar = z.takeWhile wordChar := by
      intro z
      induction z with
      | nil => rw [List.nil_append, List.takeWhile_cons, show wordChar 10 = false from by decide]; rfl
      | cons a z ih => simp only [List.cons_append, List.takeWhile_cons, ih]
    exact this l
  unfold wordR at h
  split at h
  · cases h
  · rename_i hp
    split at h
    · rename_i hn
      refine ⟨(Res.bad.inj h).symm, fun e => ?_⟩
      unfold wordR
      rw [ht e, if_neg hp, if_pos hn]
    · cases h
theorem word_none {c : UInt8} (h : wordChar c = false) (x : List UInt8) : wordR (c :: x) = .bad (c :: x) := by
  unfold wordR
  have : (c :: x).takeWhile wordChar = [] := by rw [List.takeWhile_cons, h]; rfl
  rw [this, parse_nil]; simp
theorem str_ok {l : List UInt8} {d : Dt} {q : List UInt8} (h : strR l = .ok d q) : l = l.takeWhile strChar ++ 34 :: q ∧ ∀ x, strR (l.takeWhile strChar ++ 34 :: x) = .ok d x := by
  have hs := List.takeWhile_append_dropWhile (p := strChar) (l := l)
  unfold strR at h
  cases hd : l.dropWhile strChar with
  | nil => rw [hd] at h; cases h
  | cons c r =>
    rw [hd] at h hs
    simp only [strEnd] at h
    split at h
    · rename_i hc
      subst hc
      obtain ⟨rfl, rfl⟩ := Res.ok.inj h
      refine ⟨hs.symm, fun x => ?_⟩
      obtain ⟨h1, h2⟩ := take_app (p := strChar) (x := 34 :: x) (take_all (l := l)) (fun c y e => by obtain ⟨rfl, _⟩ := List.cons.inj e; decide)
      unfold strR
      rw [h1, h2]; simp [strEnd]
    · cases h
theorem str_bad {l q : List UInt8} (h : strR l = .bad q) : l = l.takeWhile strChar ++ q ∧ strR (l.takeWhile strChar) = .bad [] ∧ (∀ c r x, q = c :: r → strR (l.takeWhile strChar ++ c :: x) = .bad (c :: x)) := by
  have hs := List.takeWhile_append_dropWhile (p := strChar) (l := l)
  have h0 : strR (l.takeWhile strChar) = .bad [] := by
    obtain ⟨h1, h2⟩ := take_app (p := strChar) (x := []) (take_all (l := l)) (fun c y e => by cases e)
    rw [List.append_nil] at h1 h2
    unfold strR
    rw [h2]; rfl
  unfold strR at h
  cases hd : l.dropWhile strChar with
  | nil =>
    rw [hd] at h hs
    obtain rfl := Res.bad.inj h
    exact ⟨hs.symm, h0, fun c r x e => by cases e⟩
  | cons c r =>
    rw [hd] at h hs
    simp only [strEnd] at h
    split at h
    · cases h
    · rename_i hc
      obtain rfl := Res.bad.inj h
      refine ⟨hs.symm, h0, fun c' r' x e => ?_⟩
      obtain ⟨rfl, rfl⟩ := List.cons.inj e
      obtain ⟨h1, h2⟩ := take_app (p := strChar) (x := c :: x) (take_all (l := l)) (fun a y e => by obtain ⟨rfl, _⟩ := List.cons.inj e; exact drop_head hd)
      unfold strR
      rw [h1, h2]; simp [strEnd, hc]

/-- WHAT IS READ IS READ IN EACH SUCH PLACE. -/
theorem rd_ok {m : Md} {l : List UInt8} {res : Res Dt} (h : Rd m l res) : ∀ {d : Dt} {q : List UInt8}, res = .ok d q → ∃ p, l = p ++ q ∧ p ≠ [] ∧ ∀ x, Fit q x → Rd m (p ++ x) (.ok d x) := by
  induction h with
  | none h => intro d q e; cases e
  | @str l r h =>
    intro d q e
    obtain ⟨p0, rfl, h2, -⟩ := skip_in _ _ h
    obtain ⟨h3, h4⟩ := str_ok e
    refine ⟨p0 ++ 34 :: r.takeWhile strChar ++ [34], ?_, by simp, fun x hx => ?_⟩
    · simp only [List.append_assoc, List.cons_append, List.nil_append]; rw [← h3]
    · simp only [List.append_assoc, List.cons_append, List.nil_append]
      rw [← h4 x]
      exact .str (h2 _)
  | @word l c r h n1 n2 n3 n4 =>
    intro d q e
    obtain ⟨p0, rfl, h2, -⟩ := skip_in _ _ h
    obtain ⟨rfl, h4, h5⟩ := word_ok e
    have hs := List.takeWhile_append_dropWhile (p := wordChar) (l := c :: r)
    refine ⟨p0 ++ (c :: r).takeWhile wordChar, by rw [List.append_assoc, hs], by simp [h4], fun x hx => ?_⟩
    have hx' : ∀ a y, x = a :: y → wordChar a = false := fun a y e => by
      rcases hx a y e with h | ⟨z, hz⟩
      · exact h
      · exact drop_head hz
    have h6 := h5 x hx'
    cases ht : (c :: r).takeWhile wordChar with
    | nil => exact absurd ht h4
    | cons a t =>
      rw [ht] at h6 hs
      obtain ⟨rfl, _⟩ := List.cons.inj hs
      rw [List.append_assoc, List.cons_append, ← h6]
      exact .word (h2 _) n1 n2 n3 n4
  | quoteBad h hb ih => intro d q e; cases e
  | @quote l r d q h hd ih =>
    intro d' q' e
    obtain ⟨rfl, rfl⟩ := Res.ok.inj e
    obtain ⟨p0, rfl, h2, -⟩ := skip_in _ _ h
    obtain ⟨p1, rfl, -, h4⟩ := ih rfl
    exact ⟨p0 ++ 39 :: p1, by simp, by simp, fun x hx => by rw [List.append_assoc]; exact .quote (h2 _) (h4 x hx)⟩
  | @list l r res h hd ih =>
    intro d' q' e
    obtain ⟨p0, rfl, h2, -⟩ := skip_in _ _ h
    obtain ⟨p1, rfl, -, h4⟩ := ih e
    exact ⟨p0 ++ 40 :: p1, by simp, by simp, fun x hx => by rw [List.append_assoc]; exact .list (h2 _) (h4 x hx)⟩
  | hashEnd h => intro d q e; cases e
  | @hashLeaf l m r d h hm =>
    intro d' q' e
    obtain ⟨rfl, rfl⟩ := Res.ok.inj e
    obtain ⟨p0, rfl, h2, -⟩ := skip_in _ _ h
    exact ⟨p0 ++ [35, m], by simp, by simp, fun x hx => by rw [List.append_assoc]; exact .hashLeaf (h2 _) hm⟩
  | @hashVec l r res h hd ih =>
    intro d' q' e
    obtain ⟨p0, rfl, h2, -⟩ := skip_in _ _ h
    obtain ⟨p1, rfl, -, h4⟩ := ih e
    exact ⟨p0 ++ 35 :: 40 :: p1, by simp, by simp, fun x hx => by rw [List.append_assoc]; exact .hashVec (h2 _) (h4 x hx)⟩
  | hashBad h hm hn => intro d q e; cases e
  | lNone h => intro d q e; cases e
  | @lShut acc l r h =>
    intro d' q' e
    obtain ⟨rfl, rfl⟩ := Res.ok.inj e
    obtain ⟨p0, rfl, h2, -⟩ := skip_in _ _ h
    exact ⟨p0 ++ [41], by simp, by simp, fun x hx => by rw [List.append_assoc]; exact .lShut (h2 _)⟩
  | lDotBad h ha hb ih => intro d q e; cases e
  | lDotNone h ha hd hs ih => intro d q e; cases e
  | lDotNo h ha hd hs hc ih => intro d q e; cases e
  | @lDot acc l r d q z h ha hd hs ih =>
    intro d' q' e
    obtain ⟨rfl, rfl⟩ := Res.ok.inj e
    obtain ⟨p0, rfl, h2, -⟩ := skip_in _ _ h
    obtain ⟨p1, rfl, -, h4⟩ := ih rfl
    obtain ⟨p2, rfl, h5, -⟩ := skip_in _ _ hs
    refine ⟨p0 ++ 46 :: (p1 ++ (p2 ++ [41])), by simp, by simp, fun x hx => ?_⟩
    have h6 := h4 (p2 ++ 41 :: x) (fit_more p2 (fit_same 41 _ _))
    refine .lDot (q := p2 ++ 41 :: x) ?_ ha h6 (h5 x)
    have := h2 (p1 ++ (p2 ++ 41 :: x))
    simpa using this
  | lBad h hc hb hr ih => intro d q e; cases e
  | @lMore acc l c r d q res h hc hb hd hr ih ihr =>
    intro d' q' e
    obtain ⟨p0, rfl, h2, -⟩ := skip_in _ _ h
    obtain ⟨p1, h3, h3', h4⟩ := ih rfl
    obtain ⟨p2, rfl, -, h5⟩ := ihr e
    cases p1 with
    | nil => exact absurd rfl h3'
    | cons a p1 =>
      obtain ⟨rfl, rfl⟩ := List.cons.inj h3
      refine ⟨p0 ++ c :: (p1 ++ p2), by simp, by simp, fun x hx => ?_⟩
      refine .lMore (r := p1 ++ (p2 ++ x)) (q := p2 ++ x) ?_ hc hb (h4 _ (fit_more p2 hx)) (h5 x hx)
      have := h2 (p1 ++ (p2 ++ x))
      simpa using this
  | vNone h => intro d q e; cases e
  | @vShut acc l r h =>
    intro d' q' e
    obtain ⟨rfl, rfl⟩ := Res.ok.inj e
    obtain ⟨p0, rfl, h2, -⟩ := skip_in _ _ h
    exact ⟨p0 ++ [41], by simp, by simp, fun x hx => by rw [List.append_assoc]; exact .vShut (h2 _)⟩
  | vBad h hc hr ih => intro d q e; cases e
  | @vMore acc l c r d q res h hc hd hr ih ihr =>
    intro d' q' e
    obtain ⟨p0, rfl, h2, -⟩ := skip_in _ _ h
    obtain ⟨p1, h3, h3', h4⟩ := ih rfl
    obtain ⟨p2, rfl, -, h5⟩ := ihr e
    cases p1 with
    | nil => exact absurd rfl h3'
    | cons a p1 =>
      obtain ⟨rfl, rfl⟩ := List.cons.inj h3
      refine ⟨p0 ++ c :: (p1 ++ p2), by simp, by simp, fun x hx => ?_⟩
      refine .vMore (r := p1 ++ (p2 ++ x)) (q := p2 ++ x) ?_ hc (h4 _ (fit_more p2 hx)) (h5 x hx)
      have := h2 (p1 ++ (p2 ++ x))
      simpa using this

/-- The same byte first, and it ends a word, or the same and a line's end. -/
def Sim (q x : List UInt8) : Prop := ∃ c y z, q = c :: y ∧ x = c :: z ∧ (wordChar c = false ∨ ∃ e, z = y ++ 10 :: e)
theorem sim_head {q x : List UInt8} (h : Sim q x) (p : List UInt8) : Fit (p ++ q) (p ++ x) := by
  obtain ⟨c, y, z, rfl, rfl, -⟩ := h
  exact fit_more p (fit_same c _ _)
/-- WHERE A TEXT IS NONE: what stands ahead is the beginning of one, and it is none with whatever begins alike. -/
theorem rd_bad {m : Md} {l : List UInt8} {res : Res Dt} (h : Rd m l res) : ∀ {q : List UInt8}, res = .bad q → ∃ p, l = p ++ q ∧ Rd m p (.bad []) ∧ ∀ x, Sim q x → Rd m (p ++ x) (.bad x) := by
  have nosim : ∀ {x : List UInt8} {P : Prop}, Sim [] x → P := fun h => by obtain ⟨_, _, _, e, _⟩ := h; cases e
  induction h with
  | @none l h =>
    intro q e
    obtain rfl := Res.bad.inj e
    exact ⟨l, by simp, .none h, fun x hx => nosim hx⟩
  | @str l r h =>
    intro q e
    obtain ⟨p0, rfl, h2, -⟩ := skip_in _ _ h
    obtain ⟨h3, h4, h5⟩ := str_bad e
    refine ⟨p0 ++ 34 :: r.takeWhile strChar, ?_, ?_, fun x hx => ?_⟩
    · simp only [List.append_assoc, List.cons_append]; rw [← h3]
    · rw [← h4]; exact .str (h2 _)
    · obtain ⟨c, y, z, rfl, rfl, -⟩ := hx
      rw [List.append_assoc, List.cons_append, ← h5 c y z rfl]
      exact .str (h2 _)
  | @word l c r h n1 n2 n3 n4 =>
    intro q e
    obtain ⟨p0, rfl, h2, h0⟩ := skip_in _ _ h
    obtain ⟨rfl, h4⟩ := word_bad e
    refine ⟨p0, rfl, .none h0, fun x hx => ?_⟩
    obtain ⟨c', y, z, he, rfl, hw⟩ := hx
    obtain ⟨rfl, rfl⟩ := List.cons.inj he
    rcases hw with hw | ⟨e', rfl⟩
    · rw [← word_none hw z]; exact .word (h2 _) n1 n2 n3 n4
    · have := h4 e'
      rw [List.cons_append] at this
      rw [← this]; exact .word (h2 _) n1 n2 n3 n4
  | @quoteBad l r q h hb ih =>
    intro q' e
    obtain rfl := Res.bad.inj e
    obtain ⟨p0, rfl, h2, -⟩ := skip_in _ _ h
    obtain ⟨p1, rfl, h3, h4⟩ := ih rfl
    exact ⟨p0 ++ 39 :: p1, by simp, .quoteBad (h2 _) h3, fun x hx => by rw [List.append_assoc]; exact .quoteBad (h2 _) (h4 x hx)⟩
  | quote h hd ih => intro q e; cases e
  | @list l r res h hd ih =>
    intro q e
    obtain ⟨p0, rfl, h2, -⟩ := skip_in _ _ h
    obtain ⟨p1, rfl, h3, h4⟩ := ih e
    exact ⟨p0 ++ 40 :: p1, by simp, .list (h2 _) h3, fun x hx => by rw [List.append_assoc]; exact .list (h2 _) (h4 x hx)⟩
  | @hashEnd l h =>
    intro q e
    obtain rfl := Res.bad.inj e
    exact ⟨l, by simp, .hashEnd h, fun x hx => nosim hx⟩
  | hashLeaf h hm => intro q e; cases e
  | @hashVec l r res h hd ih =>
    intro q e
    obtain ⟨p0, rfl, h2, -⟩ := skip_in _ _ h
    obtain ⟨p1, rfl, h3, h4⟩ := ih e
    exact ⟨p0 ++ 35 :: 40 :: p1, by simp, .hashVec (h2 _) h3, fun x hx => by rw [List.append_assoc]; exact .hashVec (h2 _) (h4 x hx)⟩
  | @hashBad l m r h hm hn =>
    intro q e
    obtain rfl := Res.bad.inj e
    obtain ⟨p0, rfl, h2, -⟩ := skip_in _ _ h
    refine ⟨p0 ++ [35], by simp, .hashEnd (h2 _), fun x hx => ?_⟩
    obtain ⟨c, y, z, he, rfl, -⟩ := hx
    obtain ⟨rfl, rfl⟩ := List.cons.inj he
    rw [List.append_assoc]; exact .hashBad (h2 _) hm hn
  | @lNone acc l h =>
    intro q e
    obtain rfl := Res.bad.inj e
    exact ⟨l, by simp, .lNone h, fun x hx => nosim hx⟩
  | lShut h => intro q e; cases e
  | @lDotBad acc l r q h ha hb ih =>
    intro q' e
    obtain rfl := Res.bad.inj e
    obtain ⟨p0, rfl, h2, -⟩ := skip_in _ _ h
    obtain ⟨p1, rfl, h3, h4⟩ := ih rfl
    exact ⟨p0 ++ 46 :: p1, by simp, .lDotBad (h2 _) ha h3, fun x hx => by rw [List.append_assoc]; exact .lDotBad (h2 _) ha (h4 x hx)⟩
  | @lDotNone acc l r d q h ha hd hs ih =>
    intro q' e
    obtain rfl := Res.bad.inj e
    exact ⟨l, by simp, .lDotNone h ha hd hs, fun x hx => nosim hx⟩
  | @lDotNo acc l r d q c z h ha hd hs hc ih =>
    intro q' e
    obtain rfl := Res.bad.inj e
    obtain ⟨p0, rfl, h2, -⟩ := skip_in _ _ h
    obtain ⟨p1, rfl, -, h4⟩ := rd_ok hd rfl
    obtain ⟨p2, rfl, h5, h6⟩ := skip_in _ _ hs
    refine ⟨p0 ++ 46 :: (p1 ++ p2), by simp, .lDotNone (h2 _) ha (h4 p2 (fit_cut _ _)) h6, fun x hx => ?_⟩
    have hf := sim_head hx p2
    obtain ⟨c', y', z', he, rfl, -⟩ := hx
    obtain ⟨rfl, rfl⟩ := List.cons.inj he
    refine .lDotNo (r := p1 ++ (p2 ++ c :: z')) (q := p2 ++ c :: z') ?_ ha (h4 _ hf) (h5 _) hc
    have := h2 (p1 ++ (p2 ++ c :: z'))
    simpa using this
  | lDot h ha hd hs ih => intro q e; cases e
  | @lBad acc l c r q h hc hb hr ih =>
    intro q' e
    obtain rfl := Res.bad.inj e
    obtain ⟨p0, rfl, h2, h0⟩ := skip_in _ _ h
    obtain ⟨p1, h3, h4, h5⟩ := ih rfl
    cases p1 with
    | nil =>
      rw [List.nil_append] at h3
      subst h3
      refine ⟨p0, rfl, .lNone h0, fun x hx => ?_⟩
      have h6 := h5 x hx
      obtain ⟨c', y', z', he, rfl, -⟩ := hx
      obtain ⟨rfl, rfl⟩ := List.cons.inj he
      exact .lBad (h2 _) hc hb h6
    | cons a p1 =>
      obtain ⟨rfl, rfl⟩ := List.cons.inj h3
      refine ⟨p0 ++ c :: p1, by simp, .lBad (h2 _) hc hb h4, fun x hx => ?_⟩
      refine .lBad (r := p1 ++ x) ?_ hc hb (h5 x hx)
      have := h2 (p1 ++ x)
      simpa using this
  | @lMore acc l c r d q res h hc hb hd hr ih ihr =>
    intro q' e
    obtain ⟨p0, rfl, h2, h0⟩ := skip_in _ _ h
    obtain ⟨p1, h3, h3', h4⟩ := rd_ok hd rfl
    obtain ⟨p2, rfl, h5, h6⟩ := ihr e
    cases p1 with
    | nil => exact absurd rfl h3'
    | cons a p1 =>
      obtain ⟨rfl, rfl⟩ := List.cons.inj h3
      refine ⟨p0 ++ c :: (p1 ++ p2), by simp, .lMore (h2 _) hc hb (h4 p2 (fit_cut _ _)) h5, fun x hx => ?_⟩
      refine .lMore (r := p1 ++ (p2 ++ x)) (q := p2 ++ x) ?_ hc hb (h4 _ (sim_head hx p2)) (h6 x hx)
      have := h2 (p1 ++ (p2 ++ x))
      simpa using this
  | @vNone acc l h =>
    intro q e
    obtain rfl := Res.bad.inj e
    exact ⟨l, by simp, .vNone h, fun x hx => nosim hx⟩
  | vShut h => intro q e; cases e
  | @vBad acc l c r q h hc hr ih =>
    intro q' e
    obtain rfl := Res.bad.inj e
    obtain ⟨p0, rfl, h2, h0⟩ := skip_in _ _ h
    obtain ⟨p1, h3, h4, h5⟩ := ih rfl
    cases p1 with
    | nil =>
      rw [List.nil_append] at h3
      subst h3
      refine ⟨p0, rfl, .vNone h0, fun x hx => ?_⟩
      have h6 := h5 x hx
      obtain ⟨c', y', z', he, rfl, -⟩ := hx
      obtain ⟨rfl, rfl⟩ := List.cons.inj he
      exact .vBad (h2 _) hc h6
    | cons a p1 =>
      obtain ⟨rfl, rfl⟩ := List.cons.inj h3
      refine ⟨p0 ++ c :: p1, by simp, .vBad (h2 _) hc h4, fun x hx => ?_⟩
      refine .vBad (r := p1 ++ x) ?_ hc (h5 x hx)
      have := h2 (p1 ++ x)
      simpa using this
  | @vMore acc l c r d q res h hc hd hr ih ihr =>
    intro q' e
    obtain ⟨p0, rfl, h2, h0⟩ := skip_in _ _ h
    obtain ⟨p1, h3, h3', h4⟩ := rd_ok hd rfl
    obtain ⟨p2, rfl, h5, h6⟩ := ihr e
    cases p1 with
    | nil => exact absurd rfl h3'
    | cons a p1 =>
      obtain ⟨rfl, rfl⟩ := List.cons.inj h3
      refine ⟨p0 ++ c :: (p1 ++ p2), by simp, .vMore (h2 _) hc (h4 p2 (fit_cut _ _)) h5, fun x hx => ?_⟩
      refine .vMore (r := p1 ++ (p2 ++ x)) (q := p2 ++ x) ?_ hc (h4 _ (sim_head hx p2)) (h6 x hx)
      have := h2 (p1 ++ (p2 ++ x))
      simpa using this
end Go.Proofs.YtabofebepefbgaaDoor.Dat

/- The reader, in plain Lean: texts ahead of and behind one another. -/
namespace Go.Proofs.YtabofebepefbgaaDoor.Dat
open Go.RowKit
open Go.Proofs.YtabofebepefbgaaDoor (textL parse)
open NumPlain (rightB)
set_option linter.unusedVariables false

/-- What a line's end, a remark to the text's end, do behind one that ends too early. -/
theorem rd_tail {m : Md} {l : List UInt8} {res : Res Dt} (h : Rd m l res) (e : List UInt8) (he : skipB false (10 :: e) = []) : res = .bad [] → ∃ q, Rd m (l ++ 10 :: e) (.bad q) := by
  have he' : skipB false e = [] := by simpa [skipB] using he
  induction h with
  | @none l h => intro _; exact ⟨[], .none (by rw [skip_out _ _ h]; exact he')⟩
  | @str l r h =>
    intro hr
    obtain ⟨p0, rfl, h2, -⟩ := skip_in _ _ h
    obtain ⟨h3, -, -⟩ := str_bad hr
    rw [List.append_nil] at h3
    refine ⟨10 :: e, ?_⟩
    have h4 : strR (r ++ 10 :: e) = .bad (10 :: e) := by
      obtain ⟨h5, h6⟩ := take_app (p := strChar) (l := r) (x := 10 :: e) (fun c hc => take_all c (h3 ▸ hc)) (fun c y e => by obtain ⟨rfl, _⟩ := List.cons.inj e; decide)
      unfold strR
      rw [h6]; simp [strEnd]
    rw [← h4, List.append_assoc]
    exact .str (h2 _)
  | @word l c r h n1 n2 n3 n4 => intro hr; obtain ⟨h, -⟩ := word_bad hr; cases h
  | @quoteBad l r q h hb ih =>
    intro hr
    obtain ⟨p0, rfl, h2, -⟩ := skip_in _ _ h
    obtain ⟨q', h3⟩ := ih hr
    exact ⟨q', by rw [List.append_assoc]; exact .quoteBad (h2 _) h3⟩
  | quote h hd ih => intro hr; cases hr
  | @list l r res h hd ih =>
    intro hr
    obtain ⟨p0, rfl, h2, -⟩ := skip_in _ _ h
    obtain ⟨q', h3⟩ := ih hr
    exact ⟨q', by rw [List.append_assoc]; exact .list (h2 _) h3⟩
  | @hashEnd l h =>
    intro _
    obtain ⟨p0, rfl, h2, -⟩ := skip_in _ _ h
    exact ⟨10 :: e, by rw [List.append_assoc]; exact .hashBad (h2 _) (by decide) (by decide)⟩
  | hashLeaf h hm => intro hr; cases hr
  | @hashVec l r res h hd ih =>
    intro hr
    obtain ⟨p0, rfl, h2, -⟩ := skip_in _ _ h
    obtain ⟨q', h3⟩ := ih hr
    exact ⟨q', by rw [List.append_assoc]; exact .hashVec (h2 _) h3⟩
  | hashBad h hm hn => intro hr; cases hr
  | @lNone acc l h => intro _; exact ⟨[], .lNone (by rw [skip_out _ _ h]; exact he')⟩
  | lShut h => intro hr; cases hr
  | @lDotBad acc l r q h ha hb ih =>
    intro hr
    obtain ⟨p0, rfl, h2, -⟩ := skip_in _ _ h
    obtain ⟨q', h3⟩ := ih hr
    exact ⟨q', by rw [List.append_assoc]; exact .lDotBad (h2 _) ha h3⟩
  | @lDotNone acc l r d q h ha hd hs ih =>
    intro _
    obtain ⟨p0, rfl, h2, -⟩ := skip_in _ _ h
    obtain ⟨p1, rfl, -, h4⟩ := rd_ok hd rfl
    refine ⟨[], ?_⟩
    rw [List.append_assoc, List.cons_append, List.append_assoc]
    exact .lDotNone (h2 _) ha (h4 _ (fit_line q e)) (by rw [skip_out _ _ hs]; exact he')
  | lDotNo h ha hd hs hc ih => intro hr; cases hr
  | lDot h ha hd hs ih => intro hr; cases hr
  | @lBad acc l c r q h hc hb hr ih =>
    intro hq
    obtain ⟨p0, rfl, h2, -⟩ := skip_in _ _ h
    obtain ⟨q', h3⟩ := ih hq
    exact ⟨q', by rw [List.append_assoc]; exact .lBad (h2 _) hc hb h3⟩
  | @lMore acc l c r d q res h hc hb hd hr ih ihr =>
    intro hq
    obtain ⟨p0, rfl, h2, -⟩ := skip_in _ _ h
    obtain ⟨p1, h3, h3', h4⟩ := rd_ok hd rfl
    obtain ⟨q', h5⟩ := ihr hq
    cases p1 with
    | nil => exact absurd rfl h3'
    | cons a p1 =>
      obtain ⟨rfl, rfl⟩ := List.cons.inj h3
      refine ⟨q', ?_⟩
      rw [List.append_assoc]
      refine .lMore (r := p1 ++ (q ++ 10 :: e)) (h2 _ |>.trans (by simp)) hc hb (h4 _ (fit_line q e)) h5
  | @vNone acc l h => intro _; exact ⟨[], .vNone (by rw [skip_out _ _ h]; exact he')⟩
  | vShut h => intro hr; cases hr
  | @vBad acc l c r q h hc hr ih =>
    intro hq
    obtain ⟨p0, rfl, h2, -⟩ := skip_in _ _ h
    obtain ⟨q', h3⟩ := ih hq
    exact ⟨q', by rw [List.append_assoc]; exact .vBad (h2 _) hc h3⟩
  | @vMore acc l c r d q res h hc hd hr ih ihr =>
    intro hq
    obtain ⟨p0, rfl, h2, -⟩ := skip_in _ _ h
    obtain ⟨p1, h3, h3', h4⟩ := rd_ok hd rfl
    obtain ⟨q', h5⟩ := ihr hq
    cases p1 with
    | nil => exact absurd rfl h3'
    | cons a p1 =>
      obtain ⟨rfl, rfl⟩ := List.cons.inj h3
      refine ⟨q', ?_⟩
      rw [List.append_assoc]
      refine .vMore (r := p1 ++ (q ++ 10 :: e)) (h2 _ |>.trans (by simp)) hc (h4 _ (fit_line q e)) h5

/-! ### What is read is read in one way; and there is always one. -/
theorem rd_shorter {m : Md} {l : List UInt8} {d : Dt} {q : List UInt8} (h : Rd m l (.ok d q)) : q.length < l.length := by
  obtain ⟨p, rfl, h2, -⟩ := rd_ok h rfl
  have : 0 < p.length := List.length_pos_iff.2 h2
  simp; omega
theorem skip_len (b : Bool) (l : List UInt8) : (skipB b l).length ≤ l.length := by
  induction l generalizing b with
  | nil => simp [skipB]
  | cons a l ih =>
    cases b
    · simp only [skipB]
      split
      · have := ih true; simp; omega
      · split
        · have := ih false; simp; omega
        · simp
    · simp only [skipB]
      have := ih (a != 10); simp; omega
theorem skip_len' {l : List UInt8} {c : UInt8} {r : List UInt8} (h : skipB false l = c :: r) : r.length < l.length := by
  have := skip_len false l
  rw [h] at this; simp at this; omega
theorem rd_total (N : Nat) : ∀ l : List UInt8, l.length < N → (∃ res, Rd .one l res) ∧ (∀ acc, ∃ res, Rd (.list acc) l res) ∧ (∀ acc, ∃ res, Rd (.vec acc) l res) := by
  induction N with
  | zero => intro l h; omega
  | succ N ih =>
    intro l hl
    have one : ∃ res, Rd .one l res := by
      cases hs : skipB false l with
      | nil => exact ⟨_, .none hs⟩
      | cons c r =>
        have hlt := skip_len' hs
        by_cases h1 : c = 40
        · subst h1
          obtain ⟨res, h⟩ := (ih r (by omega)).2.1 []
          exact ⟨res, .list hs h⟩
        by_cases h2 : c = 39
        · subst h2
          obtain ⟨res, h⟩ := (ih r (by omega)).1
          cases res with
          | bad q => exact ⟨_, .quoteBad hs h⟩
          | ok d q => exact ⟨_, .quote hs h⟩
        by_cases h3 : c = 34
        · subst h3; exact ⟨_, .str hs⟩
        by_cases h4 : c = 35
        · subst h4
          cases r with
          | nil => exact ⟨_, .hashEnd hs⟩
          | cons m q =>
            cases hm : leafH m with
            | some d => exact ⟨_, .hashLeaf hs hm⟩
            | none =>
              by_cases h5 : m = 40
              · subst h5
                obtain ⟨res, h⟩ := (ih q (by simp at hlt; omega)).2.2 []
                exact ⟨res, .hashVec hs h⟩
              · exact ⟨_, .hashBad hs hm h5⟩
        exact ⟨_, .word hs h1 h2 h3 h4⟩
    have ones : ∀ {c r}, skipB false l = c :: r → ∃ res, Rd .one (c :: r) res := by
      intro c r hs
      obtain ⟨res, h⟩ := one
      have hss := skip_stays hs r
      refine ⟨res, ?_⟩
      have : ∀ {m x res}, Rd m x res → m = .one → skipB false x = c :: r → Rd .one (c :: r) res := by
        intro m x res h hmd hx
        cases h with
        | none h => rw [h] at hx; cases hx
        | str h => rw [h] at hx; exact .str (by rw [hss, hx])
        | word h n1 n2 n3 n4 => rw [h] at hx; obtain ⟨rfl, rfl⟩ := List.cons.inj hx; exact .word hss n1 n2 n3 n4
        | quoteBad h hb => rw [h] at hx; exact .quoteBad (by rw [hss, hx]) hb
        | quote h hb => rw [h] at hx; exact .quote (by rw [hss, hx]) hb
        | list h hb => rw [h] at hx; exact .list (by rw [hss, hx]) hb
        | hashEnd h => rw [h] at hx; exact .hashEnd (by rw [hss, hx])
        | hashLeaf h hm => rw [h] at hx; exact .hashLeaf (by rw [hss, hx]) hm
        | hashVec h hb => rw [h] at hx; exact .hashVec (by rw [hss, hx]) hb
        | hashBad h hm hn => rw [h] at hx; exact .hashBad (by rw [hss, hx]) hm hn
        | _ => cases hmd
      exact this h rfl hs
    refine ⟨one, fun acc => ?_, fun acc => ?_⟩
    · cases hs : skipB false l with
      | nil => exact ⟨_, .lNone hs⟩
      | cons c r =>
        have hlt := skip_len' hs
        by_cases h1 : c = 41
        · subst h1; exact ⟨_, .lShut hs⟩
        by_cases h2 : acc ≠ [] ∧ c = 46
        · obtain ⟨ha, rfl⟩ := h2
          obtain ⟨res, h⟩ := (ih r (by omega)).1
          cases res with
          | bad q => exact ⟨_, .lDotBad hs ha h⟩
          | ok d q =>
            cases hq : skipB false q with
            | nil => exact ⟨_, .lDotNone hs ha h hq⟩
            | cons c z =>
              by_cases h3 : c = 41
              · subst h3; exact ⟨_, .lDot hs ha h hq⟩
              · exact ⟨_, .lDotNo hs ha h hq h3⟩
        · have hb : acc = [] ∨ c ≠ 46 := by
            by_cases ha : acc = []
            · exact Or.inl ha
            · exact Or.inr fun e => h2 ⟨ha, e⟩
          obtain ⟨res, h⟩ := ones hs
          cases res with
          | bad q => exact ⟨_, .lBad hs h1 hb h⟩
          | ok d q =>
            have := rd_shorter h
            obtain ⟨res, hr⟩ := (ih q (by simp at this; omega)).2.1 (acc ++ [d])
            exact ⟨res, .lMore hs h1 hb h hr⟩
    · cases hs : skipB false l with
      | nil => exact ⟨_, .vNone hs⟩
      | cons c r =>
        have hlt := skip_len' hs
        by_cases h1 : c = 41
        · subst h1; exact ⟨_, .vShut hs⟩
        obtain ⟨res, h⟩ := ones hs
        cases res with
        | bad q => exact ⟨_, .vBad hs h1 h⟩
        | ok d q =>
          have := rd_shorter h
          obtain ⟨res, hr⟩ := (ih q (by simp at this; omega)).2.2 (acc ++ [d])
          exact ⟨res, .vMore hs h1 h hr⟩
theorem rd_some (m : Md) (l : List UInt8) : ∃ res, Rd m l res := by
  obtain ⟨h1, h2, h3⟩ := rd_total (l.length + 1) l (by omega)
  cases m with
  | one => exact h1
  | list acc => exact h2 acc
  | vec acc => exact h3 acc
theorem top_total (N : Nat) : ∀ (l : List UInt8) (acc : List Dt), l.length < N → ∃ res, Top acc l res := by
  induction N with
  | zero => intro l acc h; omega
  | succ N ih =>
    intro l acc hl
    cases hs : skipB false l with
    | nil => exact ⟨_, .fin hs⟩
    | cons c r =>
      have hlt := skip_len' hs
      obtain ⟨res, h⟩ := rd_some .one (c :: r)
      cases res with
      | bad q => exact ⟨_, .bad hs h⟩
      | ok d q =>
        cases hr : rightDt d with
        | false => exact ⟨_, .deep hs h hr⟩
        | true =>
          have := rd_shorter h
          obtain ⟨res, h2⟩ := ih q (acc ++ [d]) (by simp at this; omega)
          exact ⟨res, .more hs h hr h2⟩
theorem top_some (l : List UInt8) : ∃ res, Top [] l res := top_total (l.length + 1) l [] (by omega)

/-! ### All data of a text -/
theorem top_skip {acc : List Dt} {x y : List UInt8} {res : Res (List Dt)} (h : Top acc x res) (e : skipB false y = skipB false x) : Top acc y res := by
  cases h with
  | fin h => exact .fin (e.trans h)
  | bad h hb => exact .bad (e.trans h) hb
  | deep h hd hr => exact .deep (e.trans h) hd hr
  | more h hd hr hm => exact .more (e.trans h) hd hr hm
/-- Ahead of what has been read. -/
def Res.ahead (k : List Dt) : Res (List Dt) → Res (List Dt)
  | .bad q => .bad q
  | .ok l q => .ok (k ++ l) q
theorem top_ahead {acc : List Dt} {l : List UInt8} {res : Res (List Dt)} (k : List Dt) (h : Top acc l res) : Top (k ++ acc) l (res.ahead k) := by
  induction h with
  | fin h => exact .fin h
  | bad h hb => exact .bad h hb
  | deep h hd hr => exact .deep h hd hr
  | more h hd hr hm ih => rw [← List.append_assoc] at ih; exact .more h hd hr ih
theorem top_left {acc : List Dt} {l : List UInt8} {res : Res (List Dt)} (h : Top acc l res) {k : List Dt} {q : List UInt8} (e : res = .ok k q) : q = [] := by
  induction h with
  | fin h => exact (Res.ok.inj e).2.symm
  | bad h hb => cases e
  | deep h hd hr => cases e
  | more h hd hr hm ih => exact ih e
/-- A text, a line's end, and another one. -/
theorem top_then {acc : List Dt} {l : List UInt8} {r : Res (List Dt)} (h : Top acc l r) : ∀ {k : List Dt} {q : List UInt8}, r = .ok k q → ∀ {y : List UInt8} {res : Res (List Dt)}, Top k y res → Top acc (l ++ 10 :: y) res := by
  induction h with
  | fin h =>
    intro k q e y res hy
    obtain ⟨rfl, _⟩ := Res.ok.inj e
    exact top_skip hy (skip_out _ _ h y)
  | bad h hb => intro k q e; cases e
  | deep h hd hr => intro k q e; cases e
  | @more acc l c r d q res h hd hr hm ih =>
    intro k q' e y res' hy
    obtain ⟨p0, rfl, h2, -⟩ := skip_in _ _ h
    obtain ⟨p1, h3, h3', h4⟩ := rd_ok hd rfl
    cases p1 with
    | nil => exact absurd rfl h3'
    | cons a p1 =>
      obtain ⟨rfl, rfl⟩ := List.cons.inj h3
      rw [List.append_assoc]
      exact .more (r := p1 ++ (q ++ 10 :: y)) (h2 _ |>.trans (by simp)) (h4 _ (fit_line q y)) hr (ih e hy)
/-- A text that is none is none with a line's end and a remark behind it. -/
theorem top_none {acc : List Dt} {l : List UInt8} {r : Res (List Dt)} (h : Top acc l r) (e : List UInt8) (he : skipB false (10 :: e) = []) : ∀ {q : List UInt8}, r = .bad q → ∃ q', Top acc (l ++ 10 :: e) (.bad q') := by
  induction h with
  | fin h => intro q hq; cases hq
  | @bad acc l c r q h hb =>
    intro q' hq
    obtain ⟨p0, rfl, h2, -⟩ := skip_in _ _ h
    rw [List.append_assoc]
    cases q with
    | nil =>
      obtain ⟨q'', h3⟩ := rd_tail hb e he rfl
      exact ⟨q'', .bad (h2 _) h3⟩
    | cons a q =>
      obtain ⟨p1, h3, -, h4⟩ := rd_bad hb rfl
      have h5 := h4 (a :: (q ++ 10 :: e)) ⟨a, q, _, rfl, rfl, Or.inr ⟨e, rfl⟩⟩
      refine ⟨a :: (q ++ 10 :: e), .bad (r := r ++ 10 :: e) (h2 _) ?_⟩
      rw [← List.cons_append, h3, List.append_assoc]; exact h5
  | @deep acc l c r d q h hd hr =>
    intro q' hq
    obtain ⟨p0, rfl, h2, -⟩ := skip_in _ _ h
    obtain ⟨p1, h3, -, h4⟩ := rd_ok hd rfl
    rw [List.append_assoc]
    refine ⟨_, .deep (r := r ++ 10 :: e) (q := q ++ 10 :: e) (h2 _) ?_ hr⟩
    rw [← List.cons_append, h3, List.append_assoc]; exact h4 _ (fit_line q e)
  | @more acc l c r d q res h hd hr hm ih =>
    intro q' hq
    obtain ⟨p0, rfl, h2, -⟩ := skip_in _ _ h
    obtain ⟨p1, h3, h3', h4⟩ := rd_ok hd rfl
    obtain ⟨q'', h5⟩ := ih hq
    refine ⟨q'', ?_⟩
    rw [List.append_assoc]
    refine .more (r := r ++ 10 :: e) (q := q ++ 10 :: e) (h2 _) ?_ hr h5
    rw [← List.cons_append, h3, List.append_assoc]; exact h4 _ (fit_line q e)
end Go.Proofs.YtabofebepefbgaaDoor.Dat
