/- The program's own Text. -/
import Derived.Test.YtogjhoipofkogaaDoorDatVk
import Derived.Test.YtogjhoipofkogaaDoorDatY
namespace Go.Proofs.YtogjhoipofkogaaDoor.Dat
open Go.RowKit
set_option linter.unusedVariables false
variable {R : Int → Int → Bool} {Nm : ByteArray → Bool} {NT : Int → Int → List UInt8}

/-- What telling a datum does. -/
def TellAt (T : World → Prop) (R : Int → Int → Bool) (Nm : ByteArray → Bool) (NT : Int → Int → List UInt8) (t : Dt) : Prop :=
  ∀ (v : Value) (deep : Nat) (acc : List UInt8) (w0 w : World) (B Bb Bt : Nat), t.At w0 v → t.right R Nm deep = true → T w0 → Telling w0 B Bb Bt acc w → acc.length + (t.text NT).length ≤ 140737488355328 →
    Calls Tryd.prog 37 #[v, .pointer (some ⟨Bb, 0, none⟩), .pointer (some ⟨Bt, 0, none⟩)] w fun e w' => e = .returned (.tuple #[]) ∧ Telling w0 B Bb Bt (acc ++ t.text NT) w' ∧ Lib.OthersKept 5 (some Bb) w w'

set_option maxHeartbeats 1000000 in
set_option maxRecDepth 100000 in
theorem tell_leaf (T : World → Prop) (hT : NumText T NT) (hL : Lasts T) (k n d : Int) (s : ByteArray) (l : List Dt) (h6 : k ≠ 6) (h7 : k ≠ 7) : TellAt T R Nm NT (.node k n d s l) := by
  intro v deep acc w0 w B Bb Bt hat hr ht htl hlen
  unfold Dt.At at hat
  obtain ⟨hk, hn, hd, hs, hlm, p, cap, rfl, -⟩ := hat
  obtain ⟨a, ha⟩ : ∃ a : ByteArray, a.data.toList = (Dt.node k n d s l).text NT := ⟨⟨((Dt.node k n d s l).text NT).toArray⟩, rfl⟩
  have hs2 : s.size ≤ 1152921504606846976 := by
    by_cases h2 : k = 2
    · subst h2; rw [text_sym] at hlen; rw [Lib.size_eq]; omega
    · by_cases h3 : k = 3
      · subst h3; rw [text_str] at hlen; rw [Lib.size_eq]; simp at hlen ⊢; omega
      · have := hr
        unfold Dt.right headRight at this
        simp [h2, h3] at this
        obtain ⟨⟨_, ⟨⟨_, he⟩, _⟩, _⟩, _⟩ := this
        simp [he]
  have C1 := fun w' (hb : Below w.heap.size w w') => word_any T hT hL k n d s l p l.length cap deep a w' hn hd (hL _ _ ht (below_seq htl.base hb)) hs2 hr h6 h7 ha
  have C2 := fun w' (hb : Below w.heap.size w w') => tellStr_any a w' (htl.below hb) (by rw [ha]; exact hlen)
  rw [ha] at C2
  have e6 : (k == 6) = false := by rw [beq_eq_false_iff_ne]; exact h6
  have e7 : (k == 7) = false := by rw [beq_eq_false_iff_ne]; exact h7
  have HC1 := Lib.hid C1
  have HC2 := Lib.hid C2
  clear C1 C2 ha hk hn hd hs hlm hr ht htl hlen h6 h7 hs2 hT hL
  go_enter Tryd.func37, Tryd.ntmps37
  go_wp2_with fail
  refine (HC1.out _ (box_below _ _)).mono ?_
  rintro _ w1 ⟨rfl, hb1⟩
  have HB1 := Lib.hid (below_after hb1); clear hb1
  go_wp2_with fail
  refine (HC2.out _ HB1.out).mono ?_
  rintro _ w2 ⟨rfl, ht2, ho2⟩
  have HT2 := Lib.hid ht2
  have HO2 := Lib.hid ho2
  clear ht2 ho2
  go_wp2_with fail
  go_end0
  exact ⟨rfl, HT2.out, (others_of HB1.out).trans HO2.out⟩

theorem right_mem {deep : Nat} : ∀ {l : List Dt}, Dt.rightAll R Nm l deep = true → ∀ x, x ∈ l → x.right R Nm deep = true
  | [], _, x, hx => by cases hx
  | q :: r, h, x, hx => by
    unfold Dt.rightAll at h
    rw [Bool.and_eq_true] at h
    rcases List.mem_cons.1 hx with rfl | hx
    · exact h.1
    · exact right_mem h.2 x hx

set_option maxHeartbeats 2000000 in
set_option maxRecDepth 100000 in
theorem tell_vec (T : World → Prop) (n d : Int) (s : ByteArray) (l : List Dt) (ih : ∀ x, x ∈ l → TellAt T R Nm NT x) : TellAt T R Nm NT (.node 7 n d s l) := by
  intro v deep acc w0 w B Bb Bt hat hr ht htl hlen
  have hra : Dt.rightAll R Nm l (deep + 1) = true := by
    unfold Dt.right at hr
    rw [Bool.and_eq_true] at hr
    exact hr.2
  unfold Dt.At at hat
  obtain ⟨-, -, -, -, hlm, p, cap, rfl, hl⟩ := hat
  rw [text_vec] at hlen ⊢
  have hlen' : acc.length + 3 + (seqFrom NT l 0).length ≤ 140737488355328 := by unfold seqFrom; simp at hlen ⊢; omega
  have he : acc ++ 35 :: 40 :: (Dt.seqB NT l ++ [41]) = acc ++ [35, 40] ++ seqFrom NT l 0 ++ [41] := by unfold seqFrom; simp
  rw [he]
  unfold maxLen at hlm
  have hlb := builder_lt htl.bld
  have C0 := fun w' (hb : Below w.heap.size w w') => tellStr_any ⟨#[35, 40]⟩ w' (htl.below hb) (by show acc.length + 2 ≤ _; omega)
  have HC0 := Lib.hid C0
  have HTL := Lib.hid htl
  have IH := Lib.hid ih
  have HL := Lib.hid hl
  have HRA := Lib.hid hra
  have HLEN := Lib.hid hlen'
  have HT := Lib.hid ht
  have HBX := Lib.hid (at_new w (.cells #[.int .i64 7, .int .i64 n, .int .i64 d, .string s, .slice p l.length cap] 24))
  have hne : w.heap.size ≠ Bb := by omega
  have HNE := Lib.hid hne
  clear C0 htl ih hl hra hlen hlen' he hr ht hne hlb
  go_enter Tryd.func37, Tryd.ntmps37
  go_wp2_with fail
  refine (HC0.out _ (box_below _ _)).mono ?_
  rintro _ w1 ⟨rfl, ht1, ho1⟩
  obtain ⟨c0, c1, c2, c3, c4⟩ := box_cells (kept_box ho1 HBX.out HNE.out)
  have HT1 := Lib.hid (show Telling w0 B Bb Bt (acc ++ [35, 40]) w1 from ht1)
  have HO1 := Lib.hid ((others_of (box_below w _)).trans ho1)
  clear ht1 ho1 c0 c1 c2 c3
  go_wp2_with fail
  go_loopw [4, 5, 18] (fun _ _ x wr => ∃ (i : Nat) (z : List UInt8), i ≤ l.length ∧ x = .int .i64 i ∧ acc ++ [35, 40] ++ seqFrom NT l 0 = z ++ seqFrom NT l i ∧ Telling w0 B Bb Bt z wr ∧ Lib.OthersKept 5 (some Bb) w wr) (fun _ _ x _ => l.length - (intOf x).toNat)
  case atStart => exact ⟨0, acc ++ [35, 40], by omega, rfl, rfl, HT1.out, HO1.out⟩
  case round =>
    obtain ⟨i, z, hi, rfl, hf, htz, hoz⟩ := hrel
    have hz : z.length + (seqFrom NT l i).length + 1 ≤ 140737488355328 := by
      have h := congrArg List.length hf
      have h2 := HLEN.out
      simp only [List.length_append, List.length_cons, List.length_nil] at h
      omega
    by_cases hlt : i < l.length
    · obtain ⟨t, ht⟩ : ∃ t, l[i]? = some t := ⟨l[i], by simp [hlt]⟩
      rcases HL.out with he | ⟨b, o, rfl, hall⟩
      · rw [he] at hlt; simp at hlt
      obtain ⟨v0, v1, v2, v3, v4, d0, d1, d2, d3, d4, hta⟩ := hall.kid ht
      replace d0 := cell_on htz.base _ _ _ d0
      replace d1 := cell_on htz.base _ _ _ d1
      replace d2 := cell_on htz.base _ _ _ d2
      replace d3 := cell_on htz.base _ _ _ d3
      replace d4 := cell_on htz.base _ _ _ d4
      have hright := right_mem HRA.out t (List.mem_of_getElem? ht)
      have hih := IH.out t (List.mem_of_getElem? ht)
      obtain ⟨kt, nt, dt, st, lt, pt, capt, hte, rfl, rfl, rfl, rfl, rfl, _, _⟩ := hta.open5
      have hbx := box_below wr (.cells #[.int .i64 kt, .int .i64 nt, .int .i64 dt, .string st, .slice pt lt.length capt] 24)
      have hbb := builder_lt htz.bld
      have HPX := Lib.hid (at_new wr (.cells #[.int .i64 kt, .int .i64 nt, .int .i64 dt, .string st, .slice pt lt.length capt] 24))
      have HPN := Lib.hid (show wr.heap.size ≠ Bb by omega)
      have htz1 := htz.below hbx
      have hoz1 := hoz.trans (others_of (b := Bb) hbx)
      by_cases hi0 : i = 0
      · subst hi0
        simp only [Nat.zero_mul, Nat.add_zero] at d0 d1 d2 d3 d4
        have hstep := seq_zero (NT := NT) ht
        have C := hih _ (deep + 1) z w0 (wr.alloc (.cells #[.int .i64 kt, .int .i64 nt, .int .i64 dt, .string st, .slice pt lt.length capt] 24)) B Bb Bt hta hright HT.out htz1 (by rw [hstep, List.length_append] at hz; omega)
        have HC := Lib.hid C
        have HS := Lib.hid hstep
        have HF := Lib.hid hf
        have HOZ := Lib.hid hoz1
        have hfn := cell_of_one htz1.fn
        clear C hta hall hte hright hih ht hf htz hoz htz1 hoz1 hz hbx hstep hbb
        go_wp2_with fail
        refine (HC.out).mono ?_
        rintro _ w2 ⟨rfl, ht2, ho2⟩
        have HT2 := Lib.hid ht2
        have HO2 := Lib.hid ho2
        clear ht2 ho2
        go_wp2_with fail
        go_roundw
        case rel => exact ⟨1, _, by omega, by go_num, by rw [HF.out, HS.out, List.append_assoc], HT2.out, (HOZ.out).trans HO2.out⟩
        case measure => simp [intOf]; omega
      · have hi1 : 0 < i := by omega
        have hi2 : (0 : Int) < (i : Int) := by omega
        have hstep := seq_step (NT := NT) ht hi1
        have C0 := tellByte_any 32 32 rfl (wr.alloc (.cells #[.int .i64 kt, .int .i64 nt, .int .i64 dt, .string st, .slice pt lt.length capt] 24)) htz1 (by omega)
        have HC0 := Lib.hid C0
        have HIH := Lib.hid (fun w' (h : Telling w0 B Bb Bt (z ++ [32]) w') => hih _ (deep + 1) (z ++ [32]) w0 w' B Bb Bt hta hright HT.out h (by rw [hstep, List.length_cons, List.length_append] at hz; rw [List.length_append]; simp; omega))
        have HS := Lib.hid hstep
        have HF := Lib.hid hf
        have HOZ := Lib.hid hoz1
        clear C0 hta hall hte hright hih ht hf htz hoz htz1 hoz1 hz hbx hstep hbb
        go_wp2_with fail
        refine (HC0.out).mono ?_
        rintro _ w2 ⟨rfl, ht2, ho2⟩
        obtain ⟨p0, p1, p2, p3, p4⟩ := box_cells (kept_box ho2 HPX.out HPN.out)
        have hfn := cell_of_one ht2.fn
        have HT2 := Lib.hid ht2
        have HO2 := Lib.hid ho2
        clear ht2 ho2
        go_wp2_with fail
        refine (HIH.out _ HT2.out).mono ?_
        rintro _ w3 ⟨rfl, ht3, ho3⟩
        have HT3 := Lib.hid ht3
        have HO3 := Lib.hid ho3
        clear ht3 ho3 p0 p1 p2 p3 p4 hfn
        go_wp2_with fail
        go_roundw
        case rel => exact ⟨i + 1, _, by omega, by go_num, by rw [HF.out, HS.out]; simp, HT3.out, ((HOZ.out).trans HO2.out).trans HO3.out⟩
        case measure => simp [intOf]; omega
    · have hstop := seq_stop (NT := NT) (show l.length ≤ i by omega)
      rw [hstop, List.append_nil] at hf
      have HF := Lib.hid hf
      have C0 := tellByte_any 41 41 rfl wr htz (by omega)
      have HC0 := Lib.hid C0
      have HOZ := Lib.hid hoz
      clear C0 hf htz hoz hz hstop
      go_wp2_with fail
      refine (HC0.out).mono ?_
      rintro _ w2 ⟨rfl, ht2, ho2⟩
      have HT2 := Lib.hid ht2
      have HO2 := Lib.hid ho2
      clear ht2 ho2
      go_wp2_with fail
      go_end0
      exact ⟨rfl, by rw [HF.out]; exact HT2.out, (HOZ.out).trans HO2.out⟩
end Go.Proofs.YtogjhoipofkogaaDoor.Dat
