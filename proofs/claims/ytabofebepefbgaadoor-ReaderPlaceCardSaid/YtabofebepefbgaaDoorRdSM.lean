/- The reader, in plain Lean: where a text is none. -/
import Derived.Test.YtabofebepefbgaaDoorRdOne

namespace Go.Proofs.YtabofebepefbgaaDoor.Dat
open Go.RowKit
open NumPlain (rightB)
set_option linter.unusedVariables false

/-! ### Where a text is none -/
theorem deep_first {c : UInt8} {r : List UInt8} {d : Dt} {q : List UInt8} (hs : skipB false (c :: r) = c :: r) (h : Rd .one (c :: r) (.ok d q)) (hd : rightDt d = false) (hstr : ∀ s : ByteArray, s.data.toList.all strChar = true → rightDt (.node 3 0 0 s []) = true) : wordChar c = true ∨ c = 40 ∨ c = 35 ∨ c = 39 := by
  generalize hl : c :: r = l at h hs
  generalize hres : Res.ok d q = res at h
  cases h with
  | none h => rw [hs, ← hl] at h; cases h
  | @str _ r' h =>
    exfalso
    rw [hs] at h
    have h1 := hres.symm
    unfold strR at h1
    cases hdw : r'.dropWhile strChar with
    | nil => rw [hdw] at h1; cases h1
    | cons a z =>
      rw [hdw] at h1
      simp only [strEnd] at h1
      split at h1
      · obtain ⟨h2, -⟩ := Res.ok.inj h1
        rw [← h2, hstr _ (List.all_eq_true.2 take_all)] at hd
        cases hd
      · cases h1
  | @word _ c' r' h n1 n2 n3 n4 =>
    left
    rw [hs, ← hl] at h
    obtain ⟨rfl, rfl⟩ := List.cons.inj h
    obtain ⟨-, h2, -⟩ := word_ok hres.symm
    rw [List.takeWhile_cons] at h2
    split at h2
    · assumption
    · exact absurd rfl h2
  | quoteBad h hb => cases hres
  | quote h hd => rw [hs, ← hl] at h; obtain ⟨rfl, _⟩ := List.cons.inj h; exact Or.inr (Or.inr (Or.inr rfl))
  | list h hd => rw [hs, ← hl] at h; obtain ⟨rfl, _⟩ := List.cons.inj h; exact Or.inr (Or.inl rfl)
  | hashEnd h => cases hres
  | hashLeaf h hm => rw [hs, ← hl] at h; obtain ⟨rfl, _⟩ := List.cons.inj h; exact Or.inr (Or.inr (Or.inl rfl))
  | hashVec h hd => rw [hs, ← hl] at h; obtain ⟨rfl, _⟩ := List.cons.inj h; exact Or.inr (Or.inr (Or.inl rfl))
  | hashBad h hm hn => cases hres
/-- What stands ahead of the place is the beginning of a text; with one byte more it is none, but where a word is too long, or a datum too deep. -/
theorem top_place {acc : List Dt} {l : List UInt8} {res : Res (List Dt)} (hstr : ∀ s : ByteArray, s.data.toList.all strChar = true → rightDt (.node 3 0 0 s []) = true) (h : Top acc l res) : ∀ {q : List UInt8}, res = .bad q → ∃ p, l = p ++ q ∧ ((∃ k, Top acc p (.ok k [])) ∨ Top acc p (.bad [])) ∧
    ∀ c y, q = c :: y → (wordChar c = true ∨ c = 40 ∨ c = 35 ∨ c = 39) ∨ Top acc (p ++ [c]) (.bad [c]) := by
  induction h with
  | fin h => intro q e; cases e
  | @bad acc l c0 r q h hb =>
    intro q' e
    obtain rfl := Res.bad.inj e
    obtain ⟨p0, rfl, h2, h0⟩ := skip_in _ _ h
    obtain ⟨p1, h3, h4, h5⟩ := rd_bad hb rfl
    cases p1 with
    | nil =>
      rw [List.nil_append] at h3
      subst h3
      refine ⟨p0, rfl, Or.inl ⟨acc, .fin h0⟩, fun c y e => ?_⟩
      obtain ⟨rfl, rfl⟩ := List.cons.inj e
      by_cases hw : wordChar c0 = true
      · exact Or.inl (Or.inl hw)
      · have h6 := h5 [c0] ⟨c0, r, [], rfl, rfl, Or.inl (by simpa using hw)⟩
        exact Or.inr (.bad (h2 []) h6)
    | cons a p1 =>
      obtain ⟨rfl, rfl⟩ := List.cons.inj h3
      refine ⟨p0 ++ c0 :: p1, by simp, Or.inr (.bad (h2 p1) h4), fun c y e => ?_⟩
      subst e
      by_cases hw : wordChar c = true
      · exact Or.inl (Or.inl hw)
      · have h6 := h5 [c] ⟨c, y, [], rfl, rfl, Or.inl (by simpa using hw)⟩
        refine Or.inr (.bad (r := p1 ++ [c]) ?_ h6)
        have := h2 (p1 ++ [c])
        simpa using this
  | @deep acc l c0 r d q h hd hr =>
    intro q' e
    obtain rfl := Res.bad.inj e
    obtain ⟨p0, rfl, h2, h0⟩ := skip_in _ _ h
    refine ⟨p0, rfl, Or.inl ⟨acc, .fin h0⟩, fun c y e => ?_⟩
    obtain ⟨rfl, rfl⟩ := List.cons.inj e
    exact Or.inl (deep_first (skip_stays h r) hd hr hstr)
  | @more acc l c0 r d q res h hd hr hm ih =>
    intro q' e
    obtain ⟨p0, rfl, h2, h0⟩ := skip_in _ _ h
    obtain ⟨p1, h3, h3', h4⟩ := rd_ok hd rfl
    obtain ⟨p2, rfl, h5, h6⟩ := ih e
    cases p1 with
    | nil => exact absurd rfl h3'
    | cons a p1 =>
      obtain ⟨rfl, rfl⟩ := List.cons.inj h3
      have h7 := h4 p2 (fit_cut _ _)
      refine ⟨p0 ++ c0 :: (p1 ++ p2), by simp, ?_, fun c y e => ?_⟩
      · rcases h5 with ⟨k, hk⟩ | hk
        · exact Or.inl ⟨k, .more (h2 _) h7 hr hk⟩
        · exact Or.inr (.more (h2 _) h7 hr hk)
      · rcases h6 c y e with h8 | h8
        · exact Or.inl h8
        · subst e
          have h9 := h4 (p2 ++ [c]) (fit_more p2 (fit_same c y []))
          refine Or.inr (.more (r := p1 ++ (p2 ++ [c])) ?_ h9 hr h8)
          have := h2 (p1 ++ (p2 ++ [c]))
          simpa using this
end Go.Proofs.YtabofebepefbgaaDoor.Dat
