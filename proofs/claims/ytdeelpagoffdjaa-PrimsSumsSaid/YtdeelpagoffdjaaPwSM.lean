/- A row of pairs of ints that comes in, opened. -/
import Derived.Test.YtdeelpagoffdjaaDatWkM
import Derived.Test.YtdeelpagoffdjaaPrMs
import Derived.Deep.Slices

namespace Go.Proofs.Ytdeelpagoffdjaa.Dat
open Go.ChangeShapes Go.WideShapes Go.ChangeAt Go.RowKit
open Go.Deep
set_option linter.unusedVariables false
variable {H : Type} {enc : TypeId × Value → H}

/-- Where the pairs lie. -/
def PairsAt (w : World) (l : List (Int × Int)) (b o : Nat) : Prop := ∀ i x y, l[i]? = some (x, y) → I64 x ∧ I64 y ∧ w.cell? ⟨b, o + i * 2, none⟩ = some (.int .i64 x) ∧ w.cell? ⟨b, o + i * 2 + 1, none⟩ = some (.int .i64 y)
theorem two_cells {w : World} {base : Nat} {a : Addr} {cs : List Value} (h : w.cells? base a 2 = some cs) :
    ∃ v0 v1, cs = [v0, v1] ∧ a.spot = none ∧ w.cell? ⟨a.block, a.off, none⟩ = some v0 ∧ w.cell? ⟨a.block, a.off + 1, none⟩ = some v1 := by
  unfold World.cells? at h
  split at h
  · have r5 : List.range 2 = [0, 1] := rfl
    rw [r5] at h
    simp only [List.mapM_cons, List.mapM_nil, Option.bind_eq_bind, Option.bind_eq_some_iff, Option.pure_def, Option.some.injEq] at h
    obtain ⟨v0, h0, _, ⟨v1, h1, _, rfl, rfl⟩, rfl⟩ := h
    have hs : a.spot = none := by simpa [Addr.add] using World.cell?_spot h0
    obtain ⟨b, o, sp⟩ := a
    simp only at hs; subst hs
    exact ⟨v0, v1, rfl, rfl, by simpa [Addr.add] using h0, by simpa [Addr.add] using h1⟩
  · cases h
theorem cells48 : Try.prog.cellsOf 48 = 2 := by kernel_rfl
theorem cells3' : Try.prog.cellsOf 3 = 1 := by kernel_rfl

set_option maxRecDepth 100000 in
theorem open_pairs {w : World} {base : Nat} {b2 : Nat} {sp : Nat → Bool} {held : Bool} {v : Value} {d : DataW H} {p : List MemPlace} (hval : Value.okWide Try.prog w .any b2 45 v) (hd : DataW.Trod enc Try.prog w base sp held 45 v d p) :
    ∃ (l : List (Int × Int)) (q : Option Addr) (cap : Nat), v = .slice q l.length cap ∧ l.length ≤ maxLen ∧ (l = [] ∨ ∃ b o, q = some ⟨b, o, none⟩ ∧ PairsAt w l b o) := by
  obtain ⟨a0, len0, cap0, rfl⟩ := okWide_slice Try.underlying45 hval
  obtain ⟨fuel, hf⟩ := hd
  rcases DataW.trod_slice Try.underlying45 hf with ⟨e1, _⟩ | ⟨a, len, cap, elems, rest, n2, e1, e2, hx, hb, hl, hm, hlen2, hel, _, _⟩
  · simp [Value.cells] at e1
    exact ⟨[], a0, cap0, by simp [e1], by simp, Or.inl rfl⟩
  · simp [Value.cells] at e2
    obtain ⟨rfl, rfl, rfl⟩ := e2
    rw [cells48] at hel
    have hall : ∀ i, i < len0 → ∃ t : Int × Int, I64 t.1 ∧ I64 t.2 ∧ (a.add (i * 2)).spot = none ∧ w.cell? ⟨a.block, a.off + i * 2, none⟩ = some (.int .i64 t.1) ∧ w.cell? ⟨a.block, a.off + i * 2 + 1, none⟩ = some (.int .i64 t.2) := by
      intro i hi
      have he := hel i hi
      have hsome : elems[i]? = some (elems[i]'(by omega)) := List.getElem?_eq_getElem (by omega)
      rw [hsome, Option.bind_eq_some_iff] at he
      obtain ⟨cs', hcs, htr⟩ := he
      obtain ⟨v0, v1, rfl, hsp, q0, q1⟩ := two_cells hcs
      have e : (a.add (i * 2)).block = a.block ∧ (a.add (i * 2)).off = a.off + i * 2 := by
        unfold Addr.add; split <;> simp_all
      rw [e.1, e.2] at q0 q1
      obtain ⟨xs, m, _, _, _, hlen, hat⟩ := DataW.trod_array Try.underlying48 htr
      match xs, hlen with
      | [y0, y1], _ =>
        have h0 := hat 0 (by omega)
        have h1 := hat 1 (by omega)
        simp [cells3'] at h0 h1
        obtain ⟨x0, e0, _, w0⟩ := DataW.trod_int Try.underlying3 h0
        obtain ⟨x1, e1, _, w1⟩ := DataW.trod_int Try.underlying3 h1
        simp at e0 e1
        subst e0 e1
        exact ⟨(x0, x1), bounds_i64 w0, bounds_i64 w1, hsp, q0, q1⟩
    obtain ⟨T, hT⟩ := choose_lt hall
    have hll : ((List.range len0).map T).length = len0 := by simp
    refine ⟨(List.range len0).map T, some a, cap0, by rw [hll], by rw [hll]; omega, ?_⟩
    by_cases hz : len0 = 0
    · left; rw [hz]; rfl
    · right
      have hsp : a.spot = none := by
        obtain ⟨_, _, h, _⟩ := hT 0 (by omega)
        simpa [Addr.add] using h
      refine ⟨a.block, a.off, by obtain ⟨b, o, sp⟩ := a; simp only at hsp; subst hsp; rfl, ?_⟩
      intro i x y hit
      rw [List.getElem?_map] at hit
      have hi : i < len0 := by
        rcases Nat.lt_or_ge i len0 with h | h
        · exact h
        · rw [List.getElem?_eq_none (by simpa using h)] at hit; cases hit
      rw [List.getElem?_range hi] at hit
      have hxy : T i = (x, y) := by simpa using hit
      obtain ⟨h1, h2, _, q0, q1⟩ := hT i hi
      rw [hxy] at h1 h2 q0 q1
      exact ⟨h1, h2, q0, q1⟩
set_option maxRecDepth 100000 in
theorem pairs_stay {W W' : World} {v : Value} {d : DataW H} {p : List MemPlace} (h : DataW.Trod enc Try.prog W 0 (fun _ => true) true 45 v d p) (hb : Below W.heap.size W W') (hlt : ∀ x ∈ p, x.block < W.heap.size) :
    DataW.Trod enc Try.prog W' 0 (fun b => decide (b < W.heap.size)) true 45 v d p := Below.trod laidOut (by kernel_rfl) (of_decide_eq_true (by kernel_rfl)) h hb hlt
end Go.Proofs.Ytdeelpagoffdjaa.Dat
