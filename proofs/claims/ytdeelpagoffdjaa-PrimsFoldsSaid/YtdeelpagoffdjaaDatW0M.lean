/- What the program's and the reference's Right and Name answer at this seat. -/
import Derived.Test.YtdeelpagoffdjaaDatVx
import Derived.Test.YtdeelpagoffdjaaDatQM
import Derived.Test.YtdeelpagoffdjaaDatPz
import Derived.Test.YtdeelpagoffdjaaShelf

namespace Go.Proofs.Ytdeelpagoffdjaa.Dat
open Go.RowKit
open Go.Proofs.Ytdeelpagoffdjaa (textL parse res)
open NumPlain (rightB)
set_option linter.unusedVariables false

theorem drew_below (w : World) (k : Nat) : Below w.heap.size w (w.drewN k) := ⟨rfl, rfl, rfl, Nat.le_refl _, fun _ _ => rfl⟩
theorem numRight : NumRight rightB := fun n d w hn hd => Go.Proofs.Ytdeelpagoffdjaa.right_any n d _ rfl w hn.1 hn.2 hd.1 hd.2
theorem refRight : RCall rightB := fun n d w hn hd => Go.Proofs.Ytdeelpagoffdjaa.rightRef_any n d _ rfl w hn.1 hn.2 hd.1 hd.2
theorem idx : IdxCall := fun c w => Try.strings_IndexByte _ c w
theorem nameIs : NameIs nameB := fun s w hs => (Name_any idx (fun s => parse s.data.toList) (fun s w hs => parse_any s hs w) s hs w).mono fun e w' ⟨he, k, hk⟩ => ⟨he, hk ▸ drew_below w k⟩
theorem refName : NCall nameB := fun s w hs => name_any (fun s => parse s.data.toList) (fun s w hs => parseRef_any s hs w) s hs w
theorem refNameB (s : ByteArray) (w : World) (hs : s.size ≤ maxLen) : Calls Try.prog 81 #[.string s] w fun e w' => e = .returned (.bool (nameB s)) ∧ Below w.heap.size w w' := (refName s w hs).mono fun e w' ⟨he, k, hk⟩ => ⟨he, hk ▸ drew_below w k⟩
theorem char_sub {c : UInt8} (h : nameChar c = true) : strChar c = true := by
  have all : ∀ n : Fin 256, nameChar ⟨⟨n⟩⟩ = true → strChar ⟨⟨n⟩⟩ = true := by decide +kernel
  exact all c.toBitVec.toFin h
theorem nameSub : NameSub nameB := fun s h => by
  unfold nameB at h
  simp only [Bool.and_eq_true] at h
  have := h.1.2
  rw [List.all_eq_true] at this ⊢
  exact fun c hc => char_sub (this c hc)

theorem pRight (t : Dt) (v : Value) (w : World) (hat : t.At w v) : Calls Try.prog 21 #[v] w fun e w' => e = .returned (.bool (t.right rightB nameB 0)) ∧ Below w.heap.size w w' := ownRight_any rightB nameB numRight nameIs nameSub t v w hat
theorem rRight (t : Dt) (v : Value) (w : World) (hat : t.At w v) : Calls Try.prog 32 #[v] w fun e w' => e = .returned (.bool (t.right rightB nameB 0)) ∧ Below w.heap.size w w' := Right_any rightB nameB refRight refName t v w hat
/-- What a call answers, whatever memory it makes. -/
abbrev Answers (f : FuncId) (args : Array Value) (w : World) (r : Value) : Prop := Calls Try.prog f args w fun e w' => e = .returned r ∧ Below w.heap.size w w'

theorem below_then {w w1 w2 : World} (h : Below w.heap.size w w1) (h2 : Below w1.heap.size w1 w2) : Below w.heap.size w w2 := h.trans (h2.mono h.size)
end Go.Proofs.Ytdeelpagoffdjaa.Dat
