/- The reader, in plain Lean: two texts, blanks and remarks ahead, between and behind. -/
import Derived.Test.YtabofebepefbgaaDoorRdOne

namespace Go.Proofs.YtabofebepefbgaaDoor.Dat
open Go.RowKit
set_option linter.unusedVariables false

theorem top_count {acc : List Dt} {l : List UInt8} {res : Res (List Dt)} (h : Top acc l res) : ∀ {k : List Dt} {q : List UInt8}, res = .ok k q → k.length ≤ acc.length + l.length := by
  induction h with
  | fin h => intro k q e; obtain ⟨rfl, _⟩ := Res.ok.inj e; omega
  | bad h hb => intro k q e; cases e
  | deep h hd hr => intro k q e; cases e
  | @more acc l c r d q res h hd hr hm ih =>
    intro k q' e
    have h1 := ih e
    have h2 := rd_shorter hd
    have h3 := skip_len false l
    rw [h] at h3
    simp only [List.length_append, List.length_cons, List.length_nil] at h1 h2 h3 ⊢
    omega
abbrev wrapped (a b : List UInt8) : List UInt8 := [32, 59, 32, 41, 40, 10, 9] ++ a ++ [10, 32, 59, 40] ++ [10] ++ b ++ [10, 59, 34]
theorem wrapped_is (a b : List UInt8) : wrapped a b = 32 :: 59 :: 32 :: 41 :: 40 :: 10 :: 9 :: (a ++ 10 :: (32 :: 59 :: 40 :: 10 :: (b ++ 10 :: [59, 34]))) := by simp [wrapped]
theorem wrapped_top {a b : List UInt8} {l : List Dt} {res : Res (List Dt)} (ha : Top [] a (.ok l [])) (hb : Top l (b ++ 10 :: [59, 34]) res) : Top [] (wrapped a b) res := by
  rw [wrapped_is]
  have h1 : Top l (32 :: 59 :: 40 :: 10 :: (b ++ 10 :: [59, 34])) res := top_skip hb (by simp [skipB])
  exact top_skip (top_then ha rfl h1) (by simp [skipB])
theorem wrapped_ok {a b : List UInt8} {l k : List Dt} (ha : Top [] a (.ok l [])) (hb : Top [] b (.ok k [])) : Top [] (wrapped a b) (.ok (l ++ k) []) := by
  refine wrapped_top ha ?_
  have h1 := top_then hb rfl (y := [59, 34]) (res := .ok k []) (.fin (by simp [skipB]))
  have h2 := top_ahead l h1
  rwa [List.append_nil] at h2
theorem wrapped_bad {a b : List UInt8} {l : List Dt} {q : List UInt8} (ha : Top [] a (.ok l [])) (hb : Top [] b (.bad q)) : ∃ q', Top [] (wrapped a b) (.bad q') := by
  obtain ⟨q', h1⟩ := top_none hb [59, 34] (by simp [skipB]) rfl
  have h2 := top_ahead l h1
  rw [List.append_nil] at h2
  exact ⟨q', wrapped_top ha h2⟩
end Go.Proofs.YtabofebepefbgaaDoor.Dat
