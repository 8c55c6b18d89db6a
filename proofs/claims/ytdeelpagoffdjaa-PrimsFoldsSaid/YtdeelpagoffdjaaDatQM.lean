/- What is asked of numbers and names, of chapter 1's numbers. -/
import Derived.Test.YtdeelpagoffdjaaDatPz
import Derived.Test.YtdeelpagoffdjaaNumTwo

namespace Go.Proofs.Ytdeelpagoffdjaa.Dat
open Go.RowKit
open Go.Proofs.Ytdeelpagoffdjaa (textL parse back_text dec_dig dec_pos text_len)
open NumPlain (rightB fits right_num isDig)

/-- What Name answers. -/
def nameB (s : ByteArray) : Bool := decide (1 ≤ s.size) && decide (s.size ≤ 40) && s.data.toList.all nameChar && !(parse s.data.toList).2.2
theorem dig_name {c : UInt8} (h : isDig c = true) : nameChar c = true := by
  unfold isDig at h
  unfold nameChar plainChar
  simp only [Bool.and_eq_true, decide_eq_true_eq] at h
  rw [decide_eq_true h.1, decide_eq_true h.2]
  simp
theorem dec_name (n : Nat) : (Lib.decDigits n).all nameChar = true := by
  rw [List.all_eq_true]
  intro c hc
  exact dig_name (dec_dig n c hc)
theorem itoa_name (n : Int) : (Lib.itoa n).all nameChar = true ∧ Lib.itoa n ≠ [] := by
  unfold Lib.itoa
  split
  · exact ⟨by rw [List.all_cons, dec_name, Bool.and_true]; decide, by simp⟩
  · refine ⟨dec_name _, fun h => ?_⟩
    have := dec_pos n.toNat
    rw [h] at this; simp at this
theorem text_back {n d : Int} (h : rightB n d = true) : parse (textL n d) = (n, d, true) := by
  obtain ⟨hf, hn, hd, _⟩ := right_num h
  have := back_text hf
  rwa [hn, hd] at this
theorem text_short (n d : Int) : (textL n d).length ≤ 30 := by
  cases h : rightB n d
  · unfold textL; rw [h]; simp
  · obtain ⟨hf, hn, hd, _⟩ := right_num h
    have := text_len hf
    rwa [hn, hd] at this
/-- NUMBERS AND NAMES ARE AS THEY MUST BE. -/
theorem sound : Sound rightB nameB textL where
  num n d h := by
    have hi := itoa_name n
    unfold textL
    rw [h, if_pos rfl]
    refine ⟨by simp [hi.2], ?_⟩
    rw [List.all_append, hi.1, Bool.true_and]
    split
    · rfl
    · rw [List.all_cons, dec_name, Bool.and_true]; decide
  one n d m e h1 h2 h := by
    have a := text_back h1
    have b := text_back h2
    rw [h, b] at a
    simp only [Prod.mk.injEq, and_true] at a
    exact ⟨a.1.symm, a.2.symm⟩
  sym s h := by
    unfold nameB at h
    simp only [Bool.and_eq_true, decide_eq_true_eq] at h
    refine ⟨fun e => ?_, h.1.2⟩
    have := h.1.1.1
    rw [Lib.size_eq, e] at this; simp at this
  other n d s h1 h2 h := by
    unfold nameB at h2
    simp only [Bool.and_eq_true] at h2
    have := h2.2
    rw [← h, text_back h1] at this
    simp at this
end Go.Proofs.Ytdeelpagoffdjaa.Dat
