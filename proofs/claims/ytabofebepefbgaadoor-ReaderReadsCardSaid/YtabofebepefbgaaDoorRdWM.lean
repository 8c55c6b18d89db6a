/- ReaderBlanks answers true. -/
import Derived.Test.YtabofebepefbgaaDoorRdNM
import Derived.Test.YtabofebepefbgaaDoorRdV0M
import Derived.Test.YtabofebepefbgaaDoorRdW0M
import Derived.Deep.Upon
import Derived.Test.YtabofebepefbgaaDoorDatVv

namespace Go.Proofs.YtabofebepefbgaaDoor.Dat
open Go.RowKit
open Go.Proofs.YtabofebepefbgaaDoor (textL parse res str_of textRef_any)
open NumPlain (rightB)
set_option linter.unusedVariables false

/-- What Read answers of any text of no more than 65536 bytes. -/
def Red (s : ByteArray) (r : Res (List Dt)) (e : Ending) (w' : World) : Prop :=
  (∃ q, r = .bad q ∧ e = .returned (.tuple #[.slice none 0 0, .int .i64 (s.size - q.length : Nat), .int .i64 2])) ∨
  ∃ l p cap, r = .ok l [] ∧ l.length ≤ s.size ∧ e = .returned (.tuple #[.slice p l.length cap, .int .i64 s.size, .int .i64 0]) ∧ Rowed w' l p
theorem red_any (s : ByteArray) (w : World) (hs : s.size ≤ 65536) : ∃ r, Top [] s.data.toList r ∧ Calls Tryd.prog 21 #[.string s] w fun e w' => Red s r e w' ∧ Below w.heap.size w w' := by
  obtain ⟨r, hr⟩ := top_some s.data.toList
  refine ⟨r, hr, ?_⟩
  cases r with
  | bad q => exact (read_bad s q w hs hr).mono fun e w' ⟨he, hb⟩ => ⟨Or.inl ⟨q, rfl, he⟩, hb⟩
  | ok l q =>
    obtain rfl := top_left hr rfl
    have hc := top_count hr rfl
    exact (read_ok s l _ w hs rfl hr).mono fun e w' ⟨⟨p, cap, he, ha⟩, hb⟩ => ⟨Or.inr ⟨l, p, cap, rfl, by simpa using hc, he, ha⟩, hb⟩
theorem red_some (s : ByteArray) (w : World) (hs : s.size ≤ 65536) : Calls Tryd.prog 21 #[.string s] w fun e w' => (∃ x y z, e = .returned (.tuple #[x, y, .int .i64 z])) ∧ Below w.heap.size w w' := by
  obtain ⟨r, -, C⟩ := red_any s w hs
  refine C.mono ?_
  rintro e w' ⟨⟨q, rfl, rfl⟩ | ⟨l, p, cap, rfl, hl, rfl, hrow⟩, hb⟩
  · exact ⟨⟨_, _, _, rfl⟩, hb⟩
  · exact ⟨⟨_, _, _, rfl⟩, hb⟩
abbrev wrapS (a b : ByteArray) : ByteArray := (⟨#[32, 59, 32, 41, 40, 10, 9]⟩ ++ a) ++ ⟨#[10, 32, 59, 40]⟩ ++ ⟨#[10]⟩ ++ b ++ ⟨#[10, 59, 34]⟩
theorem wrapS_is (a b : ByteArray) : (wrapS a b).data.toList = wrapped a.data.toList b.data.toList := by simp [wrapS, wrapped]
theorem wrapS_size {a b : ByteArray} (ha : a.size ≤ 400) (hb : b.size ≤ 400) : (wrapS a b).size ≤ 65536 := by
  rw [Lib.size_eq, wrapS_is, wrapped_is]
  have h1 := Lib.size_eq a
  have h2 := Lib.size_eq b
  simp; omega
theorem Dt.Row.append {w : World} : ∀ {l k : List Dt} {xs ys : List Value}, Dt.Row w l xs → Dt.Row w k ys → Dt.Row w (l ++ k) (xs ++ ys)
  | [], k, xs, ys, h, hk => by
    unfold Dt.Row at h; subst h; exact hk
  | t :: r, k, xs, ys, h, hk => by
    unfold Dt.Row at h
    obtain ⟨u0, u1, u2, u3, u4, zs, rfl, hx, hr⟩ := h
    rw [List.cons_append]
    unfold Dt.Row
    exact ⟨u0, u1, u2, u3, u4, zs ++ ys, rfl, hx, hr.append hk⟩
theorem add_at (b o j : Nat) : (⟨b, o, none⟩ : Addr).add j = ⟨b, o + j, none⟩ := by
  unfold Addr.add
  by_cases h : j = 0
  · subst h; simp
  · simp [h]
/-- A row of data, appended to a row that the call owns. -/
theorem rows_append {base : Nat} (w wr : World) (hb : Below w.heap.size w wr) (hbase : base ≤ wr.heap.size) (hlow : w.heap.size ≤ base) (v : Value) (n : Nat) (xs : List Value) (hown : wr.ownsRow base 24 5 v n xs)
    (l : List Dt) (p : Option Addr) (cap : Nat) (hrow : Rowed w l p) (hs : n + l.length ≤ 100000) :
    ∃ v' w' news, (Builtin.append_ #[22, 22] 22 #[v, .slice p l.length cap]).run Tryd.prog wr = .ok v' w' ∧ w'.ownsRow base 24 5 v' (n + l.length) (xs ++ news) ∧ Dt.Row w l news ∧ Below w.heap.size w w' ∧ base ≤ w'.heap.size := by
  obtain ⟨i0, hi, hz⟩ := Option.map_eq_some_iff.1 Tryd.infoDt
  simp only [Prod.mk.injEq] at hz
  obtain ⟨hz0, hz1, hz2⟩ := hz
  rcases hrow with rfl | ⟨b, o, rfl, hall⟩
  · have hx : Src Tryd.prog i0.size 22 (.slice p 0 cap) 0 [] wr := by
      cases p with
      | none => exact Src.ofNil _ Tryd.underlying22 cap
      | some a => exact Src.ofSlice _ Tryd.underlying22 a 0 cap [] (by simp) (by simp) (by simp)
    obtain ⟨a, c, rfl, hc⟩ : ∃ a c, v = .slice a n c ∧ n ≤ c := by
      rcases hown.2 with ⟨rfl, h0⟩ | ⟨g, c, cur, rfl, -, -, hc, -⟩
      · exact ⟨none, 0, by rw [h0], by omega⟩
      · exact ⟨_, c, rfl, hc⟩
    refine ⟨_, wr, [], run_append_nothing wr 22 22 22 24 i0 Tryd.underlying22 hi a n c hc _ hx, ?_, rfl, hb, hbase⟩
    simpa using hown
  · obtain ⟨news, hl, hr, hn, h1⟩ := hall.row
    obtain ⟨v', w', hrun, ho, hg, -, ht⟩ := run_append_own_at (P := Tryd.prog) wr base 22 22 24 i0 _ 5 64 Tryd.underlying22 hi hz0 hz1 hz2 (by rfl) (by decide) v n xs hown ⟨b, o, none⟩ l.length cap news hl
      (fun j u hj => by rw [add_at]; exact cell_on hb _ _ _ (hn j u hj)) h1 (by unfold maxLen; omega) (by omega) hbase
    refine ⟨v', w', news, hrun, ho, hr, hb.grown hg hb.size (fun k hk => Nat.le_trans hlow (own_lt hown k hk).1), Nat.le_trans hbase hg.size⟩
/-- An append that stands under a condition. -/
theorem guarded_append {P : Program} {w : World} {ops : Array Oper} {rest : List Oper} {o : Oper} {a : Act} {Q : Exit → Act → World → Prop} (hw : Region.wanted o (yielded ops a.tmps) = true) (s x : Operand) (t : TypeId)
    (ho : o.op = .call { callee := .builtin .append, args := #[s, x], argTypes := #[t, t] }) {v xv : Value} (hv : a.eval s = v) (hx : a.eval x = xv) {v' : Value} {w' : World}
    (hrun : (Builtin.append_ #[t, t] o.type #[v, xv]).run P w = .ok v' w') (hK : wpList P ops Q rest (a.put o.dst v') w') : wpList P ops Q (o :: rest) a w := by
  unfold wpList
  rw [if_pos hw]
  refine Or.inl ?_
  unfold Oper.wp
  simp [execOp, ho, resolve, invoke, builtin, hv, hx, hrun, Result.andThen]
  exact hK
set_option maxHeartbeats 1000000 in
set_option maxRecDepth 100000 in
theorem blanks_any (a b : ByteArray) (ha : a.size ≤ maxLen) (hb : b.size ≤ maxLen) (w : World) (ht : Tab w) :
    Answers 7 #[.string a, .string b] w (.bool true) := by
  unfold Answers
  unfold maxLen at ha hb
  have HT := Lib.hid ht; clear ht
  go_enter Tryd.func7, Tryd.ntmps7
  go_wp2_with fail
  refine (awake3_any _ HT.out).mono ?_
  rintro _ w1 ⟨rfl, hb1⟩
  have HB1 := Lib.hid hb1; clear hb1
  by_cases h4 : a.size ≤ 400
  case neg =>
    have q1 : (decide ((400 : Int) < a.size)) = true := by rw [decide_eq_true_iff]; omega
    go_wp2_with fail
    go_ret
    exact ⟨rfl, HB1.out⟩
  by_cases h5 : b.size ≤ 400
  case neg =>
    have q1 : (decide ((400 : Int) < a.size)) = false := by rw [decide_eq_false_iff_not]; omega
    have q2 : (decide ((400 : Int) < b.size)) = true := by rw [decide_eq_true_iff]; omega
    go_wp2_with fail
    go_ret
    exact ⟨rfl, HB1.out⟩
  have q1 : (decide ((400 : Int) < a.size)) = false := by rw [decide_eq_false_iff_not]; omega
  have q2 : (decide ((400 : Int) < b.size)) = false := by rw [decide_eq_false_iff_not]; omega
  go_wp2_with fail
  refine (deep_any a (by omega) _).mono ?_
  rintro _ w2 ⟨⟨m, hm, rfl⟩, hb2⟩
  have HB2 := Lib.hid ((HB1.out).trans (hb2.mono (HB1.out).size)); clear hb2
  go_wp2_with fail
  refine (deep_any b (by omega) _).mono ?_
  rintro _ w3 ⟨⟨n, hn, rfl⟩, hb3⟩
  have HB3 := Lib.hid ((HB2.out).trans (hb3.mono (HB2.out).size)); clear hb3
  by_cases hmn : m + n ≤ 300
  case neg =>
    have q3 : (decide ((300 : Int) < (m : Int) + n)) = true := by rw [decide_eq_true_iff]; omega
    go_wp2_with fail
    go_ret
    exact ⟨rfl, HB3.out⟩
  have q3 : (decide ((300 : Int) < (m : Int) + n)) = false := by rw [decide_eq_false_iff_not]; omega
  go_wp2_with fail
  obtain ⟨r, hr, C1⟩ := red_any a w3 (by omega)
  have HR := Lib.hid hr; clear hr
  refine C1.mono ?_
  clear C1
  rintro e1 w4 ⟨⟨q, rfl, rfl⟩ | ⟨l, p, cap, rfl, hl, rfl, hrow⟩, hb4⟩
  · have HB4 := Lib.hid ((HB3.out).trans (hb4.mono (HB3.out).size)); clear hb4
    go_wp2_with fail
    refine (red_some b w4 (by omega)).mono ?_
    rintro _ w5 ⟨⟨x, y, z, rfl⟩, hb5⟩
    have HB5 := Lib.hid ((HB4.out).trans (hb5.mono (HB4.out).size)); clear hb5
    go_wp2_with fail
    refine (red_some (wrapS a b) w5 (wrapS_size h4 h5)).mono ?_
    rintro _ w6 ⟨⟨x', y', z', rfl⟩, hb6⟩
    have HB6 := Lib.hid ((HB5.out).trans (hb6.mono (HB5.out).size)); clear hb6
    go_wp2_with fail
    go_ret
    exact ⟨rfl, HB6.out⟩
  have HB4 := Lib.hid ((HB3.out).trans (hb4.mono (HB3.out).size)); clear hb4
  have HROW := Lib.hid hrow; clear hrow
  go_wp2_with fail
  obtain ⟨r, hr, C1⟩ := red_any b w4 (by omega)
  have HRB := Lib.hid hr; clear hr
  refine C1.mono ?_
  clear C1
  rintro e1 w5 ⟨⟨q, rfl, rfl⟩ | ⟨k, p', cap', rfl, hk, rfl, hrow'⟩, hb5⟩
  · have HROW5 := Lib.hid ((HROW.out).below hb5)
    have HB5 := Lib.hid ((HB4.out).trans (hb5.mono (HB4.out).size)); clear hb5
    obtain ⟨q', hq'⟩ := wrapped_bad HR.out HRB.out
    have C2 := read_bad (wrapS a b) q' w5 (wrapS_size h4 h5) (by rw [wrapS_is]; exact hq')
    have HC2 := Lib.hid C2; clear C2 hq'
    go_wp2_with fail
    refine (HC2.out).mono ?_
    rintro _ w6 ⟨rfl, hb6⟩
    have HB6 := Lib.hid ((HB5.out).trans (hb6.mono (HB5.out).size)); clear hb6
    go_wp2_with fail
    go_ret
    exact ⟨rfl, HB6.out⟩
  have HROW5 := Lib.hid ((HROW.out).below hb5)
  have HB5 := Lib.hid ((HB4.out).trans (hb5.mono (HB4.out).size))
  have HROWK := Lib.hid hrow'; clear hb5 hrow'
  have C2 := read_ok (wrapS a b) (l ++ k) _ w5 (wrapS_size h4 h5) rfl (by rw [wrapS_is]; exact wrapped_ok HR.out HRB.out)
  have HC2 := Lib.hid C2; clear C2
  go_wp2_with fail
  refine (HC2.out).mono ?_
  rintro _ w6 ⟨⟨p2, cap2, rfl, hrow2⟩, hb6⟩
  have HROW6 := Lib.hid ((HROW5.out).below hb6)
  have HROWK6 := Lib.hid ((HROWK.out).below hb6)
  have HROW2 := Lib.hid hrow2
  have HB6 := Lib.hid ((HB5.out).trans (hb6.mono (HB5.out).size)); clear hb6 hrow2
  obtain ⟨v1, W1, n1, hrun1, ho1, hr1, hbw1, hsz1⟩ := rows_append (base := w6.heap.size) w6 (w6.alloc (Obj.cells #[] 24)) (box_below w6 _) (by simp) (Nat.le_refl _) (.slice (some ⟨w6.heap.size, 0, none⟩) 0 0) 0 []
    ⟨rfl, Or.inr ⟨w6.heap.size, 0, #[], rfl, Nat.le_refl _, at_new w6 _, Nat.le_refl _, by unfold maxLen; omega, rfl, rfl⟩⟩ l p cap HROW6.out (by omega)
  obtain ⟨v2, W2, n2, hrun2, ho2, hr2, hbw2, hsz2⟩ := rows_append (base := w6.heap.size) w6 W1 hbw1 hsz1 (Nat.le_refl _) v1 _ _ ho1 k p' cap' HROWK6.out (by omega)
  have hsl : Dt.Slice W2 (l ++ k) v2 := own_slice hbw2 (by rw [List.length_append]; simpa using ho2) (hr1.append hr2)
  obtain ⟨p3, cap3, rfl, hrow3⟩ := hsl
  have C := rows_same (l ++ k) (l ++ k) p2 p3 cap2 cap3 W2 (by unfold maxLen; simp; omega) (by unfold maxLen; simp; omega) ((HROW2.out).below hbw2) hrow3
  rw [(Dt.alikeAll_iff _ _).2 rfl, List.length_append] at C
  have HC := Lib.hid C
  have HBW := Lib.hid ((HB6.out).trans (hbw2.mono (HB6.out).size))
  have HS := Lib.hid HBW.out.size
  have HR1 := Lib.hid hrun1
  have HR2 := Lib.hid hrun2
  clear C hrow3 ho1 ho2 hr1 hr2 hbw1 hbw2 hsz1 hsz2 hrun1 hrun2
  go_wp2_with (at_builtin; refine Go.RowKit.Hid.out ?_)
  refine Lib.hid ?_
  refine guarded_append (v := .slice (some ⟨w6.heap.size, 0, none⟩) 0 0) (xv := .slice p l.length cap) (v' := v1) (w' := W1) ?_ (.tmp 74) (.tmp 75) 22 ?_ ?_ ?_ ?_ ?_
  · exact (by rfl)
  · rfl
  · rfl
  · rfl
  · exact HR1.out
  go_wp2_with (at_builtin; refine Go.RowKit.Hid.out ?_)
  refine Lib.hid ?_
  refine guarded_append (v := v1) (xv := .slice p' k.length cap') (v' := .slice p3 (l ++ k).length cap3) (w' := W2) ?_ (.tmp 76) (.tmp 77) 22 ?_ ?_ ?_ ?_ ?_
  · exact (by rfl)
  · rfl
  · rfl
  · rfl
  · exact HR2.out
  rw [List.length_append]
  go_wp2_with fail
  refine (HC.out).mono ?_
  rintro _ w7 ⟨rfl, hb7⟩
  go_wp2_with fail
  go_ret
  exact ⟨rfl, (HBW.out).trans (hb7.mono (HBW.out).size)⟩
end Go.Proofs.YtabofebepefbgaaDoor.Dat
