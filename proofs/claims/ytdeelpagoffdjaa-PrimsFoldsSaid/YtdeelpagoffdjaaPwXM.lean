/- Data that come in, opened: a row, a datum. -/
import Derived.Test.YtdeelpagoffdjaaDatWkM
import Derived.Test.YtdeelpagoffdjaaPrMs

namespace Go.Proofs.Ytdeelpagoffdjaa.Dat
open Go.ChangeShapes Go.WideShapes Go.ChangeAt Go.RowKit
set_option linter.unusedVariables false
variable {H : Type} {enc : TypeId × Value → H}

set_option maxRecDepth 100000 in
theorem open_rowP {w : World} {base : Nat} {b2 : Nat} {sp : Nat → Bool} {held : Bool} {v : Value} {d : DataW H} {p : List MemPlace} (hval : Value.okWide Try.prog w .any b2 34 v) (hd : DataW.Trod enc Try.prog w base sp held 34 v d p) :
    ∃ (l : List Dt) (q : Option Addr) (cap : Nat), v = .slice q l.length cap ∧ l.length ≤ maxLen ∧ l.length ≤ cap ∧ Lies w l q := by
  obtain ⟨l, q, cap, rfl, h2, h3, -⟩ := open_data hval hd
  refine ⟨l, q, cap, rfl, h2, ?_, h3⟩
  obtain ⟨fuel, hf⟩ := hd
  rcases DataW.trod_slice Try.underlying34 hf with ⟨e1, _⟩ | ⟨a, len, cap', elems, rest, n2, e1, e2, hx, hb, hl, hm, hlen2, hel, _, _⟩
  · simp [Value.cells] at e1
    simp [e1]
  · simp [Value.cells] at e2
    obtain ⟨_, r1, r2⟩ := e2
    rw [r1, r2]; exact hl
set_option maxRecDepth 100000 in
theorem open_datumP {w : World} {base : Nat} {b2 : Nat} {sp : Nat → Bool} {held : Bool} {v : Value} {d : DataW H} {p : List MemPlace} (hval : Value.okWide Try.prog w .any b2 37 v) (hd : DataW.Trod enc Try.prog w base sp held 37 v d p) :
    ∃ t : Dt, t.At w v := by
  obtain ⟨t, h, _⟩ := open_datum hval hd
  exact ⟨t, h⟩
end Go.Proofs.Ytdeelpagoffdjaa.Dat
