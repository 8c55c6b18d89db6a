/- A datum that comes in by value is opened: how many data and letters it has is told by the form's own count; its text is no longer than six times that. -/
import Derived.Test.YtabofebepefbgaaDoorDatO
import Derived.Test.YtabofebepefbgaaDoorDatQ
import Derived.Test.YtabofebepefbgaaDoorRows
namespace Go.Proofs.YtabofebepefbgaaDoor.Dat
open Go.ChangeShapes Go.WideShapes Go.ChangeAt Go.RowKit Go.Deep
open Go.Proofs.YtabofebepefbgaaDoor (textL)
open NumPlain (rightB)
set_option linter.unusedVariables false

mutual
/-- How many data and letters there are. -/
def Dt.bulk : Dt → Nat
  | .node _ _ _ s l => s.size + Dt.bulks l + 6
def Dt.bulks : List Dt → Nat
  | [] => 0
  | t :: r => t.bulk + Dt.bulks r
end
theorem bulk_mem {l : List Dt} {t : Dt} (h : t ∈ l) : t.bulk ≤ Dt.bulks l := by
  induction l with
  | nil => cases h
  | cons a r ih =>
    unfold Dt.bulks
    rcases List.mem_cons.1 h with rfl | h
    · omega
    · have := ih h; omega
theorem tail_long (t : Dt) : (t.tail textL).length ≤ (t.text textL).length + 3 := by
  unfold Dt.tail Dt.text tailT wrapT
  split
  · simp
  · split
    · simp
    · simp
theorem text_long (N : Nat) : ∀ (t : Dt) (deep : Nat), t.size ≤ N → t.right rightB nameB deep = true → (t.text textL).length + 4 ≤ 6 * t.bulk := by
  induction N with
  | zero => intro t deep h; have := t.size_pos; omega
  | succ N ih =>
    intro t deep hN h
    have more : ∀ (l : List Dt) (deep : Nat), Dt.sizes l ≤ N → Dt.rightAll rightB nameB l deep = true → (Dt.moreB textL l).length ≤ 6 * Dt.bulks l := by
      intro l
      induction l with
      | nil => intro deep _ _; simp [Dt.moreB, Dt.bulks]
      | cons a r ihl =>
        intro deep hs hr
        unfold Dt.rightAll at hr
        rw [Bool.and_eq_true] at hr
        simp only [Dt.sizes] at hs
        have h1 := ih a deep (by omega) hr.1
        have h2 := ihl deep (by omega) hr.2
        rw [moreB_cons]
        simp only [Dt.bulks, List.length_cons, List.length_append]
        omega
    cases view_of h with
    | num n d hr =>
      rw [text_num]
      have := text_short n d
      simp only [Dt.bulk, Dt.bulks]; omega
    | bool n hn => rw [text_bool]; simp only [Dt.bulk, Dt.bulks]; split <;> simp <;> omega
    | sym s hs =>
      rw [text_sym]
      have := Lib.size_eq s
      simp only [Dt.bulk, Dt.bulks]; omega
    | str s hs =>
      rw [text_str]
      have := Lib.size_eq s
      simp only [Dt.bulk, Dt.bulks, List.length_cons, List.length_append, List.length_nil]; omega
    | null => rw [text_null]; simp only [Dt.bulk, Dt.bulks, List.length_cons, List.length_nil]; omega
    | void => rw [text_void]; simp only [Dt.bulk, Dt.bulks, List.length_cons, List.length_nil]; omega
    | pair a b ha hb =>
      simp only [Dt.size, Dt.sizes] at hN
      have h1 := ih a _ (by omega) ha
      have h2 := ih b _ (by omega) hb
      have h3 := tail_long b
      rw [text_pair]
      simp only [Dt.bulk, Dt.bulks, List.length_cons, List.length_append, List.length_nil]; omega
    | vec l hl =>
      simp only [Dt.size] at hN
      have h1 := more l _ (by omega) hl
      rw [text_vec]
      have h2 : (Dt.seqB textL l).length ≤ (Dt.moreB textL l).length := by
        cases l with
        | nil => simp [Dt.seqB]
        | cons a r => rw [seqB_cons, moreB_cons]; simp only [List.length_cons, List.length_append]; omega
      simp only [Dt.bulk, List.length_cons, List.length_append, List.length_nil]; omega
theorem text_room {t : Dt} {b : Nat} (hb : t.bulk ≤ b) (h1 : b ≤ 1048576) : t.right rightB nameB 0 = true → (t.text textL).length ≤ 140737488355328 := fun h => by
  have := text_long t.size t 0 (Nat.le_refl _) h
  omega

theorem up_mem {H : Type} {l : List (DataW H)} : ∀ {L : List Dt}, L.length = l.length → (∀ (i : Nat) (t : Dt) (d : DataW H), L[i]? = some t → l[i]? = some d → t.bulk ≤ Rows.uptoBulk d) → Dt.bulks L ≤ Rows.uptoBulkAll l := by
  induction l with
  | nil => intro L hl _; obtain rfl : L = [] := List.eq_nil_of_length_eq_zero hl; simp [Dt.bulks]
  | cons d r ih =>
    intro L hl h
    cases L with
    | nil => simp at hl
    | cons t R =>
      have h1 := h 0 t d rfl rfl
      have h2 := ih (L := R) (by simpa using hl) fun i t d ht hd => h (i + 1) t d (by simpa using ht) (by simpa using hd)
      simp only [Dt.bulks, Rows.uptoBulkAll]; omega

def OpensAtB {H : Type} (enc : TypeId × Value → H) (w : World) (base : Nat) (spare : Nat → Bool) (held : Bool) (fuel : Nat) : Prop := ∀ (cs : List Value) (x : DataW H × List MemPlace),
    DataW.trod enc Tryd.prog w base spare held fuel 24 cs = some x → ∃ t : Dt, t.At w (.agg cs.toArray) ∧ t.bulk ≤ Rows.uptoBulk x.1

theorem open_dtsB {H : Type} {enc : TypeId × Value → H} {w : World} {base : Nat} {spare : Nat → Bool} {held : Bool} {fuel : Nat} (ih : ∀ n, n < fuel → OpensAtB enc w base spare held n) {cs : List Value} {x : DataW H × List MemPlace}
    (h : DataW.trod enc Tryd.prog w base spare held fuel 22 cs = some x) :
    ∃ (l : List Dt) (p : Option Addr) (cap : Nat), cs = [.slice p l.length cap] ∧ l.length ≤ maxLen ∧ (l = [] ∨ ∃ b o, p = some ⟨b, o, none⟩ ∧ Dt.AllAt w l b o) ∧ Dt.bulks l + 1 ≤ Rows.uptoBulk x.1 := by
  rcases DataW.trod_slice Tryd.underlying22 h with ⟨rfl, hx⟩ | ⟨a, len, cap, elems, rest, n2, rfl, rfl, hx, hb, hl, hm, hlen2, hel, _, _⟩
  · exact ⟨[], none, 0, rfl, by simp, Or.inl rfl, by rw [hx]; simp [Dt.bulks, Rows.uptoBulk]⟩
  · rw [Tryd.cellsDt] at hel
    have hall : ∀ i, i < len → ∃ t : Dt, (∃ v0 v1 v2 v3 v4, (a.add (i * 5)).spot = none ∧ w.cell? ⟨a.block, a.off + i * 5, none⟩ = some v0 ∧ w.cell? ⟨a.block, a.off + i * 5 + 1, none⟩ = some v1 ∧ w.cell? ⟨a.block, a.off + i * 5 + 2, none⟩ = some v2 ∧ w.cell? ⟨a.block, a.off + i * 5 + 3, none⟩ = some v3 ∧ w.cell? ⟨a.block, a.off + i * 5 + 4, none⟩ = some v4 ∧ t.At w (.agg #[v0, v1, v2, v3, v4])) ∧ (∀ z, elems[i]? = some z → t.bulk ≤ Rows.uptoBulk z.1) := by
      intro i hi
      have he := hel i hi
      have hsome : elems[i]? = some (elems[i]'(by omega)) := List.getElem?_eq_getElem (by omega)
      rw [hsome, Option.bind_eq_some_iff] at he
      obtain ⟨cs', hcs, htr⟩ := he
      obtain ⟨t, ht, hthin⟩ := ih n2 (by omega) cs' _ htr
      obtain ⟨v0, v1, v2, v3, v4, rfl, hsp, q0, q1, q2, q3, q4⟩ := five_cells hcs
      have e : (a.add (i * 5)).block = a.block ∧ (a.add (i * 5)).off = a.off + i * 5 := by
        unfold Addr.add; split <;> simp_all
      rw [e.1, e.2] at q0 q1 q2 q3 q4
      refine ⟨t, ⟨v0, v1, v2, v3, v4, hsp, q0, q1, q2, q3, q4, ht⟩, fun z hz => ?_⟩
      rw [hsome] at hz
      obtain rfl := Option.some.inj hz
      exact hthin
    obtain ⟨T, hT⟩ := choose_lt hall
    have hll : ((List.range len).map T).length = len := by simp
    refine ⟨(List.range len).map T, some a, cap, by rw [hll], by rw [hll]; omega, ?_, ?_⟩
    · by_cases hz : len = 0
      · left; rw [hz]; rfl
      · right
        have hsp : a.spot = none := by
          obtain ⟨⟨_, _, _, _, _, h, _⟩, _⟩ := hT 0 (by omega)
          simpa [Addr.add] using h
        refine ⟨a.block, a.off, by obtain ⟨b, o, sp⟩ := a; simp only at hsp; subst hsp; rfl, Dt.AllAt.of ?_⟩
        intro i t hit
        rw [List.getElem?_map] at hit
        have hi : i < len := by
          rcases Nat.lt_or_ge i len with h | h
          · exact h
          · rw [List.getElem?_eq_none (by simpa using h)] at hit; cases hit
        rw [List.getElem?_range hi] at hit
        obtain rfl : T i = t := by simpa using hit
        obtain ⟨⟨v0, v1, v2, v3, v4, _, q0, q1, q2, q3, q4, ht⟩, _⟩ := hT i hi
        exact ⟨v0, v1, v2, v3, v4, q0, q1, q2, q3, q4, ht⟩
    · have h1 : Dt.bulks ((List.range len).map T) ≤ Rows.uptoBulkAll (elems.map (·.1)) := by
        refine up_mem (by rw [hll]; simp; omega) fun i t d ht hd => ?_
        rw [List.getElem?_map] at ht hd
        have hi : i < len := by
          rcases Nat.lt_or_ge i len with h | h
          · exact h
          · rw [List.getElem?_eq_none (by simpa using h)] at ht; cases ht
        rw [List.getElem?_range hi] at ht
        obtain rfl : T i = t := by simpa using ht
        obtain ⟨z, hz, rfl⟩ := Option.map_eq_some_iff.1 hd
        exact (hT i hi).2 z hz
      rw [hx]
      simp only [Rows.uptoBulk]
      omega

theorem open_dtB {H : Type} {enc : TypeId × Value → H} {w : World} {base : Nat} {spare : Nat → Bool} {held : Bool} (N : Nat) : ∀ fuel, fuel ≤ N → OpensAtB enc w base spare held fuel := by
  induction N with
  | zero =>
    intro fuel hf cs x h
    obtain rfl : fuel = 0 := by omega
    simp [DataW.trod] at h
  | succ N ih =>
    intro fuel hf cs x h
    obtain ⟨xs, n, rfl, hx, hlen, hxs, hat⟩ := DataW.trod_struct Tryd.underlying24 h
    rw [Tryd.cellsDt] at hlen
    obtain ⟨c0, c1, c2, c3, c4, rfl⟩ := list5 cs hlen
    obtain ⟨x0, x1, x2, x3, x4, rfl⟩ := list5 xs (by simpa using hxs)
    have h0 := hat 0 _ rfl
    have h1 := hat 1 _ rfl
    have h2 := hat 2 _ rfl
    have h3 := hat 3 _ rfl
    have h4 := hat 4 _ rfl
    simp [Tryd.cellsInt, Tryd.cellsStr, Tryd.cellsDts] at h0 h1 h2 h3 h4
    obtain ⟨k, e0, rfl, w0⟩ := DataW.trod_int Tryd.underlying3 h0
    obtain ⟨m, e1, rfl, w1⟩ := DataW.trod_int Tryd.underlying3 h1
    obtain ⟨d, e2, rfl, w2⟩ := DataW.trod_int Tryd.underlying3 h2
    simp at e0 e1 e2
    subst e0 e1 e2
    obtain ⟨s, rfl, hs, hx3⟩ : ∃ s : ByteArray, c3 = .string s ∧ s.size ≤ maxLen ∧ x3.1 = .lit (.string s.data.toList) := by
      cases n with
      | zero => simp [DataW.trod] at h3
      | succ n =>
        cases c3 <;> simp [DataW.trod, Tryd.underlying9] at h3
        rename_i s
        exact ⟨s, rfl, h3.1, by rw [← h3.2]⟩
    obtain ⟨l, p, cap, hc4, hlm, hl, hth⟩ := open_dtsB (fun m hm => ih m (by omega)) h4
    simp at hc4; subst hc4
    refine ⟨.node k m d s l, ?_, ?_⟩
    · unfold Dt.At
      exact ⟨wf64 w0, wf64 w1, wf64 w2, hs, hlm, p, cap, rfl, hl⟩
    · rw [hx]
      simp only [List.map_cons, List.map_nil, Rows.uptoBulk, Rows.uptoBulkAll, hx3, Dt.bulk]
      have := Lib.size_eq s
      omega
set_option maxRecDepth 100000 in
theorem open_datumB {H : Type} {enc : TypeId × Value → H} {w : World} {base : Nat} {b2 : Nat} {sp : Nat → Bool} {held : Bool} {v : Value} {d : DataW H} {p : List MemPlace} (hval : Value.okWide Tryd.prog w .any b2 24 v) (hd : DataW.Trod enc Tryd.prog w base sp held 24 v d p) :
    ∃ t : Dt, t.At w v ∧ t.bulk ≤ Rows.uptoBulk d := by
  obtain ⟨cs, rfl, _⟩ := okWide_struct Tryd.underlying24 hval
  obtain ⟨fuel, hf⟩ := hd
  obtain ⟨t, h1, h2⟩ := open_dtB (enc := enc) (w := w) (base := base) (spare := sp) (held := held) fuel fuel (Nat.le_refl _) _ _ hf
  exact ⟨t, by simpa [Value.cells] using h1, h2⟩
set_option maxRecDepth 100000 in
theorem open_dataB {H : Type} {enc : TypeId × Value → H} {w : World} {base : Nat} {b2 : Nat} {sp : Nat → Bool} {held : Bool} {v : Value} {d : DataW H} {p : List MemPlace} (hval : Value.okWide Tryd.prog w .any b2 22 v) (hd : DataW.Trod enc Tryd.prog w base sp held 22 v d p) :
    ∃ (l : List Dt) (q : Option Addr) (cap : Nat), v = .slice q l.length cap ∧ l.length ≤ maxLen ∧ (l = [] ∨ ∃ b o, q = some ⟨b, o, none⟩ ∧ Dt.AllAt w l b o) ∧ Dt.bulks l + 1 ≤ Rows.uptoBulk d := by
  obtain ⟨a0, len, cap, rfl⟩ := okWide_slice Tryd.underlying22 hval
  obtain ⟨fuel, hf⟩ := hd
  obtain ⟨l, q, c, h1, h2, h3, h4⟩ := open_dtsB (enc := enc) (w := w) (base := base) (spare := sp) (held := held) (fun n hn => open_dtB n n (Nat.le_refl _)) hf
  refine ⟨l, q, c, ?_, h2, h3, h4⟩
  simpa [Value.cells] using h1
end Go.Proofs.YtabofebepefbgaaDoor.Dat
