/- A datum that comes in by value is opened: it lies in memory as a tree. -/
import Derived.Test.YtabofebepefbgaaDoorDatZ
import Derived.ProofKit
import Derived.OpenShut
import Derived.Deep.Slices
namespace Go.Proofs.YtabofebepefbgaaDoor.Dat
open Go.ChangeShapes Go.WideShapes Go.ChangeAt Go.RowKit Go.Deep

mutual
def Dt.thin (M : Nat) : Dt → Prop
  | .node _ _ _ s l => s.size ≤ M ∧ Dt.thinAll M l
def Dt.thinAll (M : Nat) : List Dt → Prop
  | [] => True
  | t :: r => t.thin M ∧ Dt.thinAll M r
end
theorem Dt.thinAll_iff {M : Nat} {l : List Dt} : Dt.thinAll M l ↔ ∀ x, x ∈ l → x.thin M := by
  induction l with
  | nil => simp [Dt.thinAll]
  | cons t r ih => unfold Dt.thinAll; rw [ih]; simp
theorem Tryd.cellsDt : Tryd.prog.cellsOf 24 = 5 := by kernel_rfl
theorem Tryd.cellsDts : Tryd.prog.cellsOf 22 = 1 := by kernel_rfl
theorem Tryd.cellsStr : Tryd.prog.cellsOf 9 = 1 := by kernel_rfl
theorem Tryd.cellsInt : Tryd.prog.cellsOf 3 = 1 := by kernel_rfl

theorem wf64 {n : Int} (h : (Lit.int .i64 n).wf = true) : I64 n := by
  simp only [Lit.wf, Bool.and_eq_true, decide_eq_true_eq] at h
  exact ⟨h.1, h.2⟩
theorem list5 {α : Type} (l : List α) (h : l.length = 5) : ∃ a b c d e, l = [a, b, c, d, e] := by
  match l, h with
  | [a, b, c, d, e], _ => exact ⟨a, b, c, d, e, rfl⟩
instance : Inhabited Dt := ⟨.node 0 0 0 ⟨#[]⟩ []⟩
theorem Dt.AllAt.of {w : World} : ∀ {l : List Dt} {b o : Nat}, (∀ i t, l[i]? = some t →
    ∃ v0 v1 v2 v3 v4, w.cell? ⟨b, o + i * 5, none⟩ = some v0 ∧ w.cell? ⟨b, o + i * 5 + 1, none⟩ = some v1 ∧ w.cell? ⟨b, o + i * 5 + 2, none⟩ = some v2 ∧ w.cell? ⟨b, o + i * 5 + 3, none⟩ = some v3 ∧ w.cell? ⟨b, o + i * 5 + 4, none⟩ = some v4 ∧ t.At w (.agg #[v0, v1, v2, v3, v4])) → Dt.AllAt w l b o
  | [], _, _, _ => by unfold Dt.AllAt; trivial
  | t :: r, b, o, h => by
    unfold Dt.AllAt
    refine ⟨by simpa using h 0 t rfl, Dt.AllAt.of fun i x hx => ?_⟩
    have := h (i + 1) x (by simpa using hx)
    rw [show o + (i + 1) * 5 = o + 5 + i * 5 from by omega] at this
    exact this

theorem five_cells {w : World} {base : Nat} {a : Addr} {cs : List Value} (h : w.cells? base a 5 = some cs) :
    ∃ v0 v1 v2 v3 v4, cs = [v0, v1, v2, v3, v4] ∧ a.spot = none ∧ w.cell? ⟨a.block, a.off, none⟩ = some v0 ∧ w.cell? ⟨a.block, a.off + 1, none⟩ = some v1 ∧ w.cell? ⟨a.block, a.off + 2, none⟩ = some v2 ∧ w.cell? ⟨a.block, a.off + 3, none⟩ = some v3 ∧ w.cell? ⟨a.block, a.off + 4, none⟩ = some v4 := by
  unfold World.cells? at h
  split at h
  · have r5 : List.range 5 = [0, 1, 2, 3, 4] := rfl
    rw [r5] at h
    simp only [List.mapM_cons, List.mapM_nil, Option.bind_eq_bind, Option.bind_eq_some_iff, Option.pure_def, Option.some.injEq] at h
    obtain ⟨v0, h0, _, ⟨v1, h1, _, ⟨v2, h2, _, ⟨v3, h3, _, ⟨v4, h4, _, rfl, rfl⟩, rfl⟩, rfl⟩, rfl⟩, rfl⟩ := h
    have hs : a.spot = none := by simpa [Addr.add] using World.cell?_spot h0
    obtain ⟨b, o, sp⟩ := a
    simp only at hs; subst hs
    exact ⟨v0, v1, v2, v3, v4, rfl, rfl, by simpa [Addr.add] using h0, by simpa [Addr.add] using h1, by simpa [Addr.add] using h2, by simpa [Addr.add] using h3, by simpa [Addr.add] using h4⟩
  · cases h


/-- Each string and slice that is read fits a machine. -/
def Light {H : Type} (t : TypeId) (d : DataW H) : Prop := ∀ n, n ∈ d.weights Tryd.prog t → n ≤ reachBytes
theorem weights_all {H : Type} {e : TypeId} {l : List (DataW H)} {d : DataW H} (h : d ∈ l) {n : Nat} (hn : n ∈ d.weights Tryd.prog e) : n ∈ DataW.weightsAll Tryd.prog e l := by
  induction l with
  | nil => cases h
  | cons x r ih =>
    unfold DataW.weightsAll
    rw [List.mem_append]
    rcases List.mem_cons.1 h with rfl | h
    · exact Or.inl hn
    · exact Or.inr (ih h)
def OpensAt {H : Type} (enc : TypeId × Value → H) (w : World) (base : Nat) (spare : Nat → Bool) (held : Bool) (fuel : Nat) : Prop := ∀ (cs : List Value) (x : DataW H × List MemPlace),
    DataW.trod enc Tryd.prog w base spare held fuel 24 cs = some x → ∃ t : Dt, t.At w (.agg cs.toArray) ∧ (Light 24 x.1 → t.thin reachBytes)

theorem open_dts {H : Type} {enc : TypeId × Value → H} {w : World} {base : Nat} {spare : Nat → Bool} {held : Bool} {fuel : Nat} (ih : ∀ n, n < fuel → OpensAt enc w base spare held n) {cs : List Value} {x : DataW H × List MemPlace}
    (h : DataW.trod enc Tryd.prog w base spare held fuel 22 cs = some x) :
    ∃ (l : List Dt) (p : Option Addr) (cap : Nat), cs = [.slice p l.length cap] ∧ l.length ≤ maxLen ∧ (l = [] ∨ ∃ b o, p = some ⟨b, o, none⟩ ∧ Dt.AllAt w l b o) ∧ (Light 22 x.1 → Dt.thinAll reachBytes l) := by
  rcases DataW.trod_slice Tryd.underlying22 h with ⟨rfl, _⟩ | ⟨a, len, cap, elems, rest, n2, rfl, rfl, hx, hb, hl, hm, hlen2, hel, _, _⟩
  · exact ⟨[], none, 0, rfl, by simp, Or.inl rfl, fun _ => trivial⟩
  · rw [Tryd.cellsDt] at hel
    have hall : ∀ i, i < len → ∃ t : Dt, (∃ v0 v1 v2 v3 v4, (a.add (i * 5)).spot = none ∧ w.cell? ⟨a.block, a.off + i * 5, none⟩ = some v0 ∧ w.cell? ⟨a.block, a.off + i * 5 + 1, none⟩ = some v1 ∧ w.cell? ⟨a.block, a.off + i * 5 + 2, none⟩ = some v2 ∧ w.cell? ⟨a.block, a.off + i * 5 + 3, none⟩ = some v3 ∧ w.cell? ⟨a.block, a.off + i * 5 + 4, none⟩ = some v4 ∧ t.At w (.agg #[v0, v1, v2, v3, v4])) ∧ (Light 22 x.1 → t.thin reachBytes) := by
      intro i hi
      have he := hel i hi
      have hsome : elems[i]? = some (elems[i]'(by omega)) := List.getElem?_eq_getElem (by omega)
      rw [hsome, Option.bind_eq_some_iff] at he
      obtain ⟨cs', hcs, htr⟩ := he
      obtain ⟨t, ht, hthin⟩ := ih n2 (by omega) cs' _ htr
      obtain ⟨v0, v1, v2, v3, v4, rfl, hsp, q0, q1, q2, q3, q4⟩ := five_cells hcs
      have e : (a.add (i * 5)).block = a.block ∧ (a.add (i * 5)).off = a.off + i * 5 := by
        unfold Addr.add; split <;> simp_all
      rw [e.1, e.2] at q0 q1 q2 q3 q4
      refine ⟨t, ⟨v0, v1, v2, v3, v4, hsp, q0, q1, q2, q3, q4, ht⟩, fun hw => hthin fun n hn => hw n ?_⟩
      rw [hx]
      simp only [DataW.weights, Tryd.underlying22, List.mem_cons, List.mem_append]
      exact Or.inr (Or.inl (weights_all (List.mem_map.2 ⟨_, List.getElem_mem (by omega), rfl⟩) hn))
    obtain ⟨T, hT⟩ := choose_lt hall
    have hll : ((List.range len).map T).length = len := by simp
    refine ⟨(List.range len).map T, some a, cap, by rw [hll], by rw [hll]; omega, ?_, ?_⟩
    · by_cases hz : len = 0
      · left; rw [hz]; rfl
      · right
        have hsp : a.spot = none := by
          obtain ⟨⟨_, _, _, _, _, h, _⟩, _⟩ := hT 0 (by omega)
          simpa [Addr.add] using h
        refine ⟨a.block, a.off, by obtain ⟨b, o, sp⟩ := a; simp only at hsp; subst hsp; rfl, Dt.AllAt.of ?_⟩
        intro i t hit
        rw [List.getElem?_map] at hit
        have hi : i < len := by
          rcases Nat.lt_or_ge i len with h | h
          · exact h
          · rw [List.getElem?_eq_none (by simpa using h)] at hit; cases hit
        rw [List.getElem?_range hi] at hit
        obtain rfl : T i = t := by simpa using hit
        obtain ⟨⟨v0, v1, v2, v3, v4, _, q0, q1, q2, q3, q4, ht⟩, _⟩ := hT i hi
        exact ⟨v0, v1, v2, v3, v4, q0, q1, q2, q3, q4, ht⟩
    · intro hw
      rw [Dt.thinAll_iff]
      intro t ht
      obtain ⟨i, hi, rfl⟩ := List.mem_map.1 ht
      exact (hT i (List.mem_range.1 hi)).2 hw

theorem open_dt {H : Type} {enc : TypeId × Value → H} {w : World} {base : Nat} {spare : Nat → Bool} {held : Bool} (N : Nat) : ∀ fuel, fuel ≤ N → OpensAt enc w base spare held fuel := by
  induction N with
  | zero =>
    intro fuel hf cs x h
    obtain rfl : fuel = 0 := by omega
    simp [DataW.trod] at h
  | succ N ih =>
    intro fuel hf cs x h
    obtain ⟨xs, n, rfl, hx, hlen, hxs, hat⟩ := DataW.trod_struct Tryd.underlying24 h
    rw [Tryd.cellsDt] at hlen
    obtain ⟨c0, c1, c2, c3, c4, rfl⟩ := list5 cs hlen
    obtain ⟨x0, x1, x2, x3, x4, rfl⟩ := list5 xs (by simpa using hxs)
    have h0 := hat 0 _ rfl
    have h1 := hat 1 _ rfl
    have h2 := hat 2 _ rfl
    have h3 := hat 3 _ rfl
    have h4 := hat 4 _ rfl
    simp [Tryd.cellsInt, Tryd.cellsStr, Tryd.cellsDts] at h0 h1 h2 h3 h4
    obtain ⟨k, e0, rfl, w0⟩ := DataW.trod_int Tryd.underlying3 h0
    obtain ⟨m, e1, rfl, w1⟩ := DataW.trod_int Tryd.underlying3 h1
    obtain ⟨d, e2, rfl, w2⟩ := DataW.trod_int Tryd.underlying3 h2
    simp at e0 e1 e2
    subst e0 e1 e2
    obtain ⟨s, rfl, hs, hx3⟩ : ∃ s : ByteArray, c3 = .string s ∧ s.size ≤ maxLen ∧ x3.1 = .lit (.string s.data.toList) := by
      cases n with
      | zero => simp [DataW.trod] at h3
      | succ n =>
        cases c3 <;> simp [DataW.trod, Tryd.underlying9] at h3
        rename_i s
        exact ⟨s, rfl, h3.1, by rw [← h3.2]⟩
    obtain ⟨l, p, cap, hc4, hlm, hl, hth⟩ := open_dts (fun m hm => ih m (by omega)) h4
    simp at hc4; subst hc4
    refine ⟨.node k m d s l, ?_, ?_⟩
    · unfold Dt.At
      exact ⟨wf64 w0, wf64 w1, wf64 w2, hs, hlm, p, cap, rfl, hl⟩
    · intro hw
      have hwt : ∀ z, z ∈ x3.1.weights Tryd.prog 9 ∨ z ∈ x4.1.weights Tryd.prog 22 → z ≤ reachBytes := by
        intro z hz
        apply hw z
        rw [hx]
        simp only [DataW.weights, Tryd.underlying24, List.map_cons, List.map_nil, DataW.weightsEach, List.mem_append]
        rcases hz with h | h <;> simp [h]
      unfold Dt.thin
      exact ⟨hwt _ (Or.inl (by rw [hx3, Lib.size_eq]; simp [DataW.weights])), hth fun z hz => hwt z (Or.inr hz)⟩
end Go.Proofs.YtabofebepefbgaaDoor.Dat
