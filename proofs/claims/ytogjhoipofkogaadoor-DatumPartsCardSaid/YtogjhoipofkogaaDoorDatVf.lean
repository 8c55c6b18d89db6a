/- The program's own Same. -/
import Derived.Test.YtogjhoipofkogaaDoorDatVd
namespace Go.Proofs.YtogjhoipofkogaaDoor.Dat
open Go.RowKit
set_option linter.unusedVariables false

/-- The closure that compares two, captured by itself. -/
abbrev sameF (Bs : Nat) : Value := .func (.func 43) #[] #[.pointer (some ⟨Bs, 0, none⟩)]
def SameAt (t : Dt) : Prop := ∀ (t' : Dt) (v v' : Value) (w : World) (Bs : Nat), t.At w v → t'.At w v' → w.cell? ⟨Bs, 0, none⟩ = some (sameF Bs) →
    Calls Tryd.prog 43 #[v, v', .pointer (some ⟨Bs, 0, none⟩)] w fun e w' => e = .returned (.bool (t.alike t')) ∧ Below w.heap.size w w'
theorem Dt.alikeAll_ne {l l' : List Dt} (h : l.length ≠ l'.length) : Dt.alikeAll l l' = false := by
  cases ha : Dt.alikeAll l l'
  · rfl
  · exact absurd (Dt.alikeAll_len ha) h

set_option maxHeartbeats 1000000 in
set_option maxRecDepth 100000 in
theorem eqf_any (l l' : List Dt) (ih : ∀ t, t ∈ l → SameAt t) (p p' : Option Addr) (cap cap' : Nat) (w : World) (Bs : Nat) (hlm : l.length ≤ maxLen) (hlm' : l'.length ≤ maxLen)
    (hl : l = [] ∨ ∃ b o, p = some ⟨b, o, none⟩ ∧ Dt.AllAt w l b o) (hl' : l' = [] ∨ ∃ b o, p' = some ⟨b, o, none⟩ ∧ Dt.AllAt w l' b o) (hs : w.cell? ⟨Bs, 0, none⟩ = some (sameF Bs)) :
    Calls Tryd.prog 44 #[.slice p l.length cap, .slice p' l'.length cap', sameF Bs] w fun e w' => e = .returned (.bool (Dt.alikeAll l l')) ∧ Below w.heap.size w w' := by
  unfold maxLen at hlm hlm'
  have IH := Lib.hid ih; clear ih
  have HL := Lib.hid hl; clear hl
  have HL' := Lib.hid hl'; clear hl'
  by_cases hne : l.length = l'.length
  case neg =>
    rw [Dt.alikeAll_ne hne]
    have q : ((l.length : Int) != (l'.length : Int)) = true := by rw [bne_iff_ne]; omega
    clear hne
    go_enter Tryd.func44, Tryd.ntmps44
    go_wp2_with fail
    go_ret
    exact ⟨rfl, Below.refl _ _⟩
  have q : ((l.length : Int) != (l'.length : Int)) = false := by rw [bne_eq_false_iff_eq]; omega
  have EL := Lib.hid hne; clear hne
  obtain ⟨r, hr⟩ : ∃ r, Dt.alikeAll l l' = r := ⟨_, rfl⟩
  rw [hr]
  have HR := Lib.hid hr; clear hr
  go_enter Tryd.func44, Tryd.ntmps44
  go_wp2_with fail
  go_loopw [17] (fun x wr => ∃ (i : Nat), i ≤ l.length ∧ x = .int .i64 i ∧ Dt.alikeAll l l' = Dt.alikeAll (l.drop i) (l'.drop i) ∧ wr.cell? ⟨Bs, 0, none⟩ = some (sameF Bs) ∧ Below w.heap.size w wr) (fun x _ => l.length - (intOf x).toNat)
  case atStart => exact ⟨0, by omega, rfl, by simp, hs, Below.refl _ _⟩
  case round =>
    obtain ⟨i, hi, rfl, hf, hsw, hb⟩ := hrel
    have HF := Lib.hid hf; clear hf
    have HB := Lib.hid hb; clear hb
    by_cases hlt : i < l.length
    · obtain ⟨t, ht⟩ : ∃ t, l[i]? = some t := ⟨l[i], by simp [hlt]⟩
      have hlt' : i < l'.length := by have := EL.out; omega
      obtain ⟨t', ht'⟩ : ∃ t, l'[i]? = some t := ⟨l'[i], by simp [hlt']⟩
      rcases HL.out with he | ⟨b, o, rfl, hall⟩
      · rw [he] at hlt; simp at hlt
      rcases HL'.out with he | ⟨b', o', rfl, hall'⟩
      · rw [he] at hlt'; simp at hlt'
      obtain ⟨v0, v1, v2, v3, v4, d0, d1, d2, d3, d4, hta⟩ := (hall.on (cell_on HB.out)).kid ht
      obtain ⟨u0, u1, u2, u3, u4, f0, f1, f2, f3, f4, hta'⟩ := (hall'.on (cell_on HB.out)).kid ht'
      obtain ⟨kt, nt, dt, st, lt, pt, capt, hte, rfl, rfl, rfl, rfl, rfl, _, _⟩ := hta.open5
      obtain ⟨ku, nu, du, su, lu, pu, capu, hue, rfl, rfl, rfl, rfl, rfl, _, _⟩ := hta'.open5
      replace f0 := cell_on (box_below wr (.cells #[.int .i64 kt, .int .i64 nt, .int .i64 dt, .string st, .slice pt lt.length capt] 24)) _ _ _ f0
      replace f1 := cell_on (box_below wr (.cells #[.int .i64 kt, .int .i64 nt, .int .i64 dt, .string st, .slice pt lt.length capt] 24)) _ _ _ f1
      replace f2 := cell_on (box_below wr (.cells #[.int .i64 kt, .int .i64 nt, .int .i64 dt, .string st, .slice pt lt.length capt] 24)) _ _ _ f2
      replace f3 := cell_on (box_below wr (.cells #[.int .i64 kt, .int .i64 nt, .int .i64 dt, .string st, .slice pt lt.length capt] 24)) _ _ _ f3
      replace f4 := cell_on (box_below wr (.cells #[.int .i64 kt, .int .i64 nt, .int .i64 dt, .string st, .slice pt lt.length capt] 24)) _ _ _ f4
      have hbt := two_below wr (.cells #[.int .i64 kt, .int .i64 nt, .int .i64 dt, .string st, .slice pt lt.length capt] 24) (.cells #[.int .i64 ku, .int .i64 nu, .int .i64 du, .string su, .slice pu lu.length capu] 24)
      have C := IH.out t (List.mem_of_getElem? ht) t' _ _ _ Bs (hta.below hbt) (hta'.below hbt) (cell_on hbt _ _ _ hsw)
      have HC := Lib.hid C
      have HSW := Lib.hid (cell_on hbt _ _ _ hsw)
      have HBT := Lib.hid hbt
      have HT := Lib.hid ht
      have HT' := Lib.hid ht'
      clear C hta hta' hall hall' hte hue hbt ht ht' hsw
      go_wp2_with fail
      refine (HC.out).mono ?_
      rintro _ w1 ⟨rfl, hb1⟩
      have hsw1 := cell_on hb1 _ _ _ HSW.out
      have HB1 := Lib.hid (below_seq HB.out (below_seq HBT.out hb1)); clear hb1
      cases ha : t.alike t'
      · have HAL := Lib.hid ha; clear ha
        go_wp2_with fail
        go_ret
        exact ⟨ret_bool (by rw [← HR.out, HF.out, Dt.alikeAll_step HT.out HT'.out, HAL.out]; rfl), HB1.out⟩
      · have HAL := Lib.hid ha; clear ha
        go_wp2_with fail
        go_roundw
        case rel => exact ⟨i + 1, by omega, by go_num, by rw [HF.out, Dt.alikeAll_step HT.out HT'.out, HAL.out]; rfl, hsw1, HB1.out⟩
        case measure => simp [intOf]; omega
    · go_wp2_with fail
      go_ret
      exact ⟨ret_bool (by rw [← HR.out, HF.out, Dt.alikeAll_stop (by omega) (by have := EL.out; omega)]), HB.out⟩

set_option maxHeartbeats 2000000 in
set_option maxRecDepth 100000 in
theorem same_any (N : Nat) : ∀ t : Dt, t.size ≤ N → SameAt t := by
  induction N with
  | zero => intro t h; have := t.size_pos; omega
  | succ N ih =>
    intro t hN t' v v' w Bs hat hat' hs
    obtain ⟨k, n, d, s, l⟩ := t
    obtain ⟨k', n', d', s', l'⟩ := t'
    have HAT := Lib.hid hat
    have HAT' := Lib.hid hat'
    unfold Dt.At at hat hat'
    obtain ⟨-, -, -, -, hlm, p, cap, rfl, hl⟩ := hat
    obtain ⟨-, -, -, -, hlm', p', cap', rfl, hl'⟩ := hat'
    have hbt := two_below w (.cells #[.int .i64 k, .int .i64 n, .int .i64 d, .string s, .slice p l.length cap] 24) (.cells #[.int .i64 k', .int .i64 n', .int .i64 d', .string s', .slice p' l'.length cap'] 24)
    by_cases ek : k = k'
    case neg =>
      have q : (k == k') = false := by rw [beq_eq_false_iff_ne]; exact ek
      rw [show (Dt.node k n d s l).alike (.node k' n' d' s' l') = false by unfold Dt.alike; simp [ek]]
      have HBT := Lib.hid hbt
      clear ek hbt hl hl'
      go_enter Tryd.func43, Tryd.ntmps43
      go_wp2_with fail
      go_ret
      exact ⟨rfl, HBT.out⟩
    subst ek
    by_cases en : n = n'
    case neg =>
      have q : (n == n') = false := by rw [beq_eq_false_iff_ne]; exact en
      rw [show (Dt.node k n d s l).alike (.node k n' d' s' l') = false by unfold Dt.alike; simp [en]]
      have HBT := Lib.hid hbt
      clear en hbt hl hl'
      go_enter Tryd.func43, Tryd.ntmps43
      go_wp2_with fail
      go_ret
      exact ⟨rfl, HBT.out⟩
    subst en
    by_cases ed : d = d'
    case neg =>
      have q : (d == d') = false := by rw [beq_eq_false_iff_ne]; exact ed
      rw [show (Dt.node k n d s l).alike (.node k n d' s' l') = false by unfold Dt.alike; simp [ed]]
      have HBT := Lib.hid hbt
      clear ed hbt hl hl'
      go_enter Tryd.func43, Tryd.ntmps43
      go_wp2_with fail
      go_ret
      exact ⟨rfl, HBT.out⟩
    subst ed
    by_cases es : s = s'
    case neg =>
      have q : ¬ s.toList = s'.toList := fun e => es (bytes_inj e)
      rw [show (Dt.node k n d s l).alike (.node k n d s' l') = false by unfold Dt.alike; simp [es]]
      have HBT := Lib.hid hbt
      clear es hbt hl hl'
      go_enter Tryd.func43, Tryd.ntmps43
      go_wp2_with fail
      go_ret
      exact ⟨rfl, HBT.out⟩
    subst es
    rw [show (Dt.node k n d s l).alike (.node k n d s l') = Dt.alikeAll l l' by unfold Dt.alike; simp]
    have C := eqf_any l l' (fun t ht => ih t (by obtain ⟨i, hi⟩ := List.mem_iff_getElem?.1 ht; have h1 := Dt.size_kid hi; unfold Dt.size at hN; omega)) p p' cap cap' _ Bs hlm hlm'
      (by rcases hl with hl | ⟨b, o, hp, hall⟩
          · exact Or.inl hl
          · exact Or.inr ⟨b, o, hp, hall.on (cell_on hbt)⟩)
      (by rcases hl' with hl | ⟨b, o, hp, hall⟩
          · exact Or.inl hl
          · exact Or.inr ⟨b, o, hp, hall.on (cell_on hbt)⟩) (cell_on hbt _ _ _ hs)
    have HC := Lib.hid C
    have hs2 := cell_on hbt _ _ _ hs
    have HBT := Lib.hid hbt
    obtain ⟨r, hr⟩ : ∃ r, Dt.alikeAll l l' = r := ⟨_, rfl⟩
    rw [hr] at C ⊢
    have HC := Lib.hid C
    clear C hbt hl hl' ih hN hr hs
    go_enter Tryd.func43, Tryd.ntmps43
    go_wp2_with fail
    refine (HC.out).mono ?_
    rintro _ w1 ⟨rfl, hb1⟩
    have HB1 := Lib.hid (below_seq HBT.out hb1); clear hb1
    go_wp2_with fail
    go_ret
    exact ⟨rfl, HB1.out⟩
theorem at_new (w : World) (o : Obj) : (w.alloc o).heap[w.heap.size]? = some o := by
  show (w.heap.push o)[w.heap.size]? = _
  simp
theorem two_first (w : World) (a b : Obj) : ((w.alloc a).alloc b).heap[w.heap.size]? = some a := by
  show ((w.heap.push a).push b)[w.heap.size]? = _
  rw [Array.getElem?_push, if_neg (by simp), Array.getElem?_push, if_pos rfl]
theorem two_second (w : World) (a b : Obj) : ((w.alloc a).alloc b).heap[w.heap.size + 1]? = some b := by
  show ((w.heap.push a).push b)[w.heap.size + 1]? = _
  rw [Array.getElem?_push, if_pos (by simp)]
theorem block_on {w w' : World} {b : Nat} {o : Obj} (h : Below w.heap.size w w') (hb : w.heap[b]? = some o) : w'.heap[b]? = some o :=
  (h.block b (lt_of_block hb)).trans hb

set_option maxHeartbeats 1000000 in
/-- The program's Same, out of what its Right answers. -/
theorem ownSame_any (Q : Dt → Bool) (hQ : ∀ (t : Dt) (v : Value) (w : World), t.At w v → Calls Tryd.prog 12 #[v] w fun e w' => e = .returned (.bool (Q t)) ∧ Below w.heap.size w w')
    (t t' : Dt) (v v' : Value) (w : World) (hat : t.At w v) (hat' : t'.At w v') :
    Calls Tryd.prog 23 #[v, v'] w fun e w' => e = .returned (.bool (Q t && Q t' && t.alike t')) ∧ Below w.heap.size w w' := by
  have hmf : ∀ (fn : Fn) (first cap : Array Value) (w : World), (Instr.makeFunc fn first cap).run Tryd.prog w = .ok (.func fn first cap) w := fun _ _ _ _ => rfl
  have HAT := Lib.hid hat
  have HAT' := Lib.hid hat'
  have C1 := fun w' (h : Below w.heap.size w w') => hQ t v w' (hat.below h)
  have C2 := fun w' (h : Below w.heap.size w w') => hQ t' v' w' (hat'.below h)
  have C3 := fun w' (h : Below w.heap.size w w') Bs hs => same_any _ t (Nat.le_refl _) t' v v' w' Bs (hat.below h) (hat'.below h) hs
  obtain ⟨q1, hq1⟩ : ∃ r, Q t = r := ⟨_, rfl⟩
  obtain ⟨q2, hq2⟩ : ∃ r, Q t' = r := ⟨_, rfl⟩
  obtain ⟨q3, hq3⟩ : ∃ r, t.alike t' = r := ⟨_, rfl⟩
  rw [hq1] at C1 ⊢
  rw [hq2] at C2 ⊢
  rw [hq3] at C3 ⊢
  have HC1 := Lib.hid C1
  have HC2 := Lib.hid C2
  have HC3 := Lib.hid C3
  clear C1 C2 C3 hq1 hq2 hq3 hQ
  obtain ⟨k, n, d, s, l⟩ := t
  obtain ⟨k', n', d', s', l'⟩ := t'
  unfold Dt.At at hat hat'
  obtain ⟨-, -, -, -, hlm, p, cap, rfl, hl⟩ := hat
  obtain ⟨-, -, -, -, hlm', p', cap', rfl, hl'⟩ := hat'
  clear hl hl' hlm hlm'
  have hbt := two_below w (.cells #[.int .i64 k, .int .i64 n, .int .i64 d, .string s, .slice p l.length cap] 24) (.cells #[.int .i64 k', .int .i64 n', .int .i64 d', .string s', .slice p' l'.length cap'] 24)
  have hx1 := two_first w (.cells #[.int .i64 k, .int .i64 n, .int .i64 d, .string s, .slice p l.length cap] 24) (.cells #[.int .i64 k', .int .i64 n', .int .i64 d', .string s', .slice p' l'.length cap'] 24)
  have hx2 := two_second w (.cells #[.int .i64 k, .int .i64 n, .int .i64 d, .string s, .slice p l.length cap] 24) (.cells #[.int .i64 k', .int .i64 n', .int .i64 d', .string s', .slice p' l'.length cap'] 24)
  have HBT := Lib.hid hbt
  have HX1 := Lib.hid hx1
  have HX2 := Lib.hid hx2
  clear hbt hx1 hx2
  go_enter Tryd.func23, Tryd.ntmps23
  go_wp2_with fail
  refine (HC1.out _ HBT.out).mono ?_
  rintro _ w1 ⟨rfl, hb1⟩
  have h1 := block_on hb1 HX1.out
  have h2 := block_on hb1 HX2.out
  have HB1 := Lib.hid (below_seq HBT.out hb1); clear hb1
  cases q1
  · clear h1 h2
    go_wp2_with fail
    go_ret
    exact ⟨rfl, HB1.out⟩
  obtain ⟨c0, c1, c2, c3, c4⟩ := box_cells h2
  have H1 := Lib.hid h1
  have H2 := Lib.hid h2
  clear h1 h2
  go_wp2_with fail
  refine (HC2.out _ HB1.out).mono ?_
  rintro _ w2 ⟨rfl, hb2⟩
  have h1 := block_on hb2 H1.out
  have h2 := block_on hb2 H2.out
  have HB2 := Lib.hid (below_seq HB1.out hb2); clear hb2
  clear c0 c1 c2 c3 c4
  cases q2
  · clear h1 h2
    go_wp2_with fail
    go_ret
    exact ⟨rfl, HB2.out⟩
  obtain ⟨c0, c1, c2, c3, c4⟩ := box_cells (block_on (box_below w2 (.cells #[sameF w2.heap.size] 33)) h1)
  obtain ⟨d0, d1, d2, d3, d4⟩ := box_cells (block_on (box_below w2 (.cells #[sameF w2.heap.size] 33)) h2)
  clear h1 h2
  go_wp2_with fail
  refine (HC3.out _ (below_seq HB2.out (box_below _ _)) w2.heap.size ?_).mono ?_
  · exact cell_of_one (at_new _ _)
  rintro _ w3 ⟨rfl, hb3⟩
  have HB3 := Lib.hid (below_seq HB2.out (below_after hb3)); clear hb3
  go_wp2_with fail
  go_ret
  exact ⟨rfl, HB3.out⟩
end Go.Proofs.YtogjhoipofkogaaDoor.Dat
