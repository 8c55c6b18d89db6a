/- The laws' common part: what Read answers where it is known; the laws' example answers true. -/
import Derived.Test.YtabofebepefbgaaDoorRdKM
import Derived.Test.YtabofebepefbgaaDoorRdOne
import Derived.Test.YtabofebepefbgaaDoorRdMM
import Derived.Test.YtabofebepefbgaaDoorDatW1M

namespace Go.Proofs.YtabofebepefbgaaDoor.Dat
open Go.RowKit
open Go.Proofs.YtabofebepefbgaaDoor (textL parse res)
open NumPlain (rightB)
set_option linter.unusedVariables false

theorem read_ok (s : ByteArray) (l : List Dt) (n : Nat) (w : World) (hs : s.size ≤ 65536) (hn : l.length = n) (h : Top [] s.data.toList (.ok l [])) :
    Calls Tryd.prog 21 #[.string s] w fun e w' => (∃ p cap, e = .returned (.tuple #[.slice p n cap, .int .i64 s.size, .int .i64 0]) ∧ Rowed w' l p) ∧ Below w.heap.size w w' := by
  subst hn
  refine (read_any s w _ hs h).mono ?_
  rintro e w' ⟨⟨q, he, _⟩ | ⟨l', q, v, he, rfl, p, cap, rfl, hr⟩, hb⟩
  · cases he
  · obtain ⟨rfl, rfl⟩ := Res.ok.inj he
    exact ⟨⟨p, cap, rfl, hr⟩, hb⟩
theorem read_bad (s : ByteArray) (q : List UInt8) (w : World) (hs : s.size ≤ 65536) (h : Top [] s.data.toList (.bad q)) :
    Calls Tryd.prog 21 #[.string s] w fun e w' => e = .returned (.tuple #[.slice none 0 0, .int .i64 (s.size - q.length : Nat), .int .i64 2]) ∧ Below w.heap.size w w' := by
  refine (read_any s w _ hs h).mono ?_
  rintro e w' ⟨⟨q', he, rfl⟩ | ⟨l', q', v, he, _⟩, hb⟩
  · obtain rfl := Res.bad.inj he
    exact ⟨rfl, hb⟩
  · cases he

abbrev symD (c : UInt8) : Dt := .node 2 0 0 ⟨#[c]⟩ []
abbrev exA : Dt := .node 6 0 0 nil8 [symD 97, .node 6 0 0 nil8 [quoteD, .node 6 0 0 nil8 [symD 98, nullD]]]
abbrev exB : Dt := .node 7 0 0 nil8 [.node 0 1 1 nil8 []]
theorem ex_word1 : wordR [97, 32, 46, 32, 39, 98, 41, 32, 35, 40, 49, 41] = .ok (symD 97) [32, 46, 32, 39, 98, 41, 32, 35, 40, 49, 41] := by kernel_rfl
theorem ex_word2 : wordR [98, 41, 32, 35, 40, 49, 41] = .ok (symD 98) [41, 32, 35, 40, 49, 41] := by kernel_rfl
theorem ex_word3 : wordR [49, 41] = .ok (.node 0 1 1 nil8 []) [41] := by kernel_rfl
theorem ex_word4 : wordR [46, 32, 97, 41] = .bad [46, 32, 97, 41] := by kernel_rfl
theorem ex_one : Top [] [40, 97, 32, 46, 32, 39, 98, 41, 32, 35, 40, 49, 41] (.ok [exA, exB] []) := by
  have h1 : Rd .one [97, 32, 46, 32, 39, 98, 41, 32, 35, 40, 49, 41] (.ok (symD 97) [32, 46, 32, 39, 98, 41, 32, 35, 40, 49, 41]) := by
    rw [← ex_word1]; exact .word (by decide) (by decide) (by decide) (by decide) (by decide)
  have h2 : Rd .one [98, 41, 32, 35, 40, 49, 41] (.ok (symD 98) [41, 32, 35, 40, 49, 41]) := by
    rw [← ex_word2]; exact .word (by decide) (by decide) (by decide) (by decide) (by decide)
  have h3 : Rd .one [49, 41] (.ok (.node 0 1 1 nil8 []) [41]) := by
    rw [← ex_word3]; exact .word (by decide) (by decide) (by decide) (by decide) (by decide)
  refine .more (c := 40) (r := [97, 32, 46, 32, 39, 98, 41, 32, 35, 40, 49, 41]) (d := exA) (q := [32, 35, 40, 49, 41]) (by decide) ?_ (by decide +kernel) ?_
  · refine .list (r := [97, 32, 46, 32, 39, 98, 41, 32, 35, 40, 49, 41]) (by decide) (.lMore (c := 97) (r := [32, 46, 32, 39, 98, 41, 32, 35, 40, 49, 41]) (by decide) (by decide) (Or.inl rfl) h1 ?_)
    exact .lDot (r := [32, 39, 98, 41, 32, 35, 40, 49, 41]) (by decide) (by simp) (.quote (by decide) h2) (by decide)
  · refine .more (c := 35) (r := [40, 49, 41]) (d := exB) (q := []) (by decide) ?_ (by decide +kernel) (.fin (by decide))
    exact .hashVec (r := [49, 41]) (by decide) (.vMore (c := 49) (r := [41]) (by decide) (by decide) h3 (.vShut (by decide)))
theorem ex_two : Top [] [40, 46, 32, 97, 41] (.bad [46, 32, 97, 41]) := by
  refine .bad (c := 40) (r := [46, 32, 97, 41]) (by decide) (.list (r := [46, 32, 97, 41]) (by decide) (.lBad (c := 46) (r := [32, 97, 41]) (by decide) (by decide) (Or.inl rfl) ?_))
  rw [← ex_word4]; exact .word (by decide) (by decide) (by decide) (by decide) (by decide)
end Go.Proofs.YtabofebepefbgaaDoor.Dat
