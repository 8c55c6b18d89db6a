/- An array of six ints that comes in by value, taken apart and put together; and NumRing's and NumOrder's common frame. -/
import Derived.Test.YtfkeiokoghaciaaLaws
import Derived.ProofKit
import Derived.OpenShut
namespace Go.Proofs.Ytfkeiokoghaciaa
open Go.ChangeShapes Go.WideShapes Go.ChangeAt Go.RowKit

theorem Try.cells3 : Try.prog.cellsOf 3 = 1 := by kernel_rfl
theorem Try.cells28 : Try.prog.cellsOf 28 = 6 := by kernel_rfl

theorem list6 {α : Type} (l : List α) (h : (⟨l⟩ : Array α).size = 6) : ∃ a b c d e f, l = [a, b, c, d, e, f] := by
  match l, h with
  | [a, b, c, d, e, f], _ => exact ⟨a, b, c, d, e, f, rfl⟩

/-- The six cells of such an array, and the datum as which it reads. -/
def cells6 (x0 x1 x2 x3 x4 x5 : Int) : Array Value := #[.int .i64 x0, .int .i64 x1, .int .i64 x2, .int .i64 x3, .int .i64 x4, .int .i64 x5]
def reads6 (H : Type) (x0 x1 x2 x3 x4 x5 : Int) : DataW H := .agg [.lit (.int .i64 x0), .lit (.int .i64 x1), .lit (.int .i64 x2), .lit (.int .i64 x3), .lit (.int .i64 x4), .lit (.int .i64 x5)]

theorem open_six {H : Type} {enc : TypeId × Value → H} {W : World} {base : Nat} {spare : Nat → Bool} {v : Value} {d : DataW H} {p : List MemPlace} {r : Reach} {b0 : Nat}
    (hv : Value.okWide Try.prog W r b0 28 v) (h : DataW.Trod enc Try.prog W base spare true 28 v d p) :
    ∃ x0 x1 x2 x3 x4 x5 : Int, v = .agg (cells6 x0 x1 x2 x3 x4 x5) ∧ d = reads6 H x0 x1 x2 x3 x4 x5 ∧ p = [] ∧ (Lit.int .i64 x0).wf = true ∧ (Lit.int .i64 x1).wf = true ∧ (Lit.int .i64 x2).wf = true ∧ (Lit.int .i64 x3).wf = true ∧ (Lit.int .i64 x4).wf = true ∧ (Lit.int .i64 x5).wf = true := by
  obtain ⟨cs, rfl, hsz, _⟩ : ∃ cs, v = .agg cs ∧ cs.size = Try.prog.cellsOf 28 ∧ Row.okWide Try.prog W r b0 28 cs := by
    simpa [Value.okWide, Try.underlying28] using hv
  rw [Try.cells28] at hsz
  obtain ⟨l⟩ := cs
  obtain ⟨c0, c1, c2, c3, c4, c5, rfl⟩ := list6 l hsz
  obtain ⟨fuel, hf⟩ := h
  obtain ⟨xs, m, _, hx, _, hlen, hat⟩ := DataW.trod_array Try.underlying28 hf
  match xs, hlen with
  | [y0, y1, y2, y3, y4, y5], _ =>
    have h0 := hat 0 (by omega)
    have h1 := hat 1 (by omega)
    have h2 := hat 2 (by omega)
    have h3 := hat 3 (by omega)
    have h4 := hat 4 (by omega)
    have h5 := hat 5 (by omega)
    simp [Try.cells3, Value.cells] at h0 h1 h2 h3 h4 h5
    obtain ⟨x0, e0, rfl, w0⟩ := DataW.trod_int Try.underlying3 h0
    obtain ⟨x1, e1, rfl, w1⟩ := DataW.trod_int Try.underlying3 h1
    obtain ⟨x2, e2, rfl, w2⟩ := DataW.trod_int Try.underlying3 h2
    obtain ⟨x3, e3, rfl, w3⟩ := DataW.trod_int Try.underlying3 h3
    obtain ⟨x4, e4, rfl, w4⟩ := DataW.trod_int Try.underlying3 h4
    obtain ⟨x5, e5, rfl, w5⟩ := DataW.trod_int Try.underlying3 h5
    simp at e0 e1 e2 e3 e4 e5
    subst e0 e1 e2 e3 e4 e5
    simp only [Prod.mk.injEq] at hx
    obtain ⟨rfl, rfl⟩ := hx
    exact ⟨x0, x1, x2, x3, x4, x5, rfl, rfl, rfl, w0, w1, w2, w3, w4, w5⟩

theorem shut_six {H : Type} {enc : TypeId × Value → H} {W : World} {spare : Nat → Bool} {base : Nat} {x0 x1 x2 x3 x4 x5 : Int} (w0 : (Lit.int .i64 x0).wf = true) (w1 : (Lit.int .i64 x1).wf = true) (w2 : (Lit.int .i64 x2).wf = true) (w3 : (Lit.int .i64 x3).wf = true) (w4 : (Lit.int .i64 x4).wf = true) (w5 : (Lit.int .i64 x5).wf = true) :
    DataW.Trod enc Try.prog W base spare true 28 (.agg (cells6 x0 x1 x2 x3 x4 x5)) (reads6 H x0 x1 x2 x3 x4 x5) [] :=
  ⟨2, by simp [DataW.trod, Value.cells, cells6, reads6, Try.underlying28, Try.underlying3, Try.cells28, Try.cells3, w0, w1, w2, w3, w4, w5, show List.range 6 = [0, 1, 2, 3, 4, 5] from rfl]⟩
end Go.Proofs.Ytfkeiokoghaciaa
