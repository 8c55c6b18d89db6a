/- ReaderNumbers answers true. -/
import Derived.Test.YtabofebepefbgaaDoorRdNM
import Derived.Test.YtabofebepefbgaaDoorRdTM

namespace Go.Proofs.YtabofebepefbgaaDoor.Dat
open Go.RowKit
open Go.Proofs.YtabofebepefbgaaDoor (textL parse res str_of textRef_any)
open NumPlain (rightB)
set_option linter.unusedVariables false

theorem app_list (a b : ByteArray) : (a ++ b).data.toList = a.data.toList ++ b.data.toList := by simp
theorem five_of {w : World} {k n d : Int} {s : ByteArray} {l : List Dt} {v0 v1 v2 v3 v4 : Value} (h : (Dt.node k n d s l).At w (.agg #[v0, v1, v2, v3, v4])) : v0 = .int .i64 k ∧ v1 = .int .i64 n ∧ v2 = .int .i64 d ∧ v3 = .string s := by
  unfold Dt.At at h
  obtain ⟨-, -, -, -, -, p, cap, e, -⟩ := h
  simp only [Value.agg.injEq, Array.mk.injEq, List.cons.injEq] at e
  exact ⟨e.1, e.2.1, e.2.2.1, e.2.2.2.1⟩
theorem one_read (s : ByteArray) (t : Dt) (w : World) (hs : s.size ≤ 65536) (h : Top [] s.data.toList (.ok [t] [])) :
    Calls Tryd.prog 21 #[.string s] w fun e w' => (∃ b o cap, e = .returned (.tuple #[.slice (some ⟨b, o, none⟩) 1 cap, .int .i64 s.size, .int .i64 0]) ∧ Dt.AllAt w' [t] b o) ∧ Below w.heap.size w w' := by
  refine (read_ok s [t] 1 w hs rfl h).mono ?_
  rintro e w' ⟨⟨p, cap, rfl, hr⟩, hb⟩
  rcases hr with h | ⟨b, o, rfl, ha⟩
  · cases h
  · exact ⟨⟨b, o, cap, rfl, ha⟩, hb⟩
theorem num_read {n d : Int} (a : ByteArray) (hs : a.size ≤ 30) (w : World) (h : rightB n d = true) (ha : a.data.toList = textL n d) :
    Calls Tryd.prog 21 #[.string a] w fun e w' => (∃ b o cap, e = .returned (.tuple #[.slice (some ⟨b, o, none⟩) 1 cap, .int .i64 a.size, .int .i64 0]) ∧ Dt.AllAt w' [.node 0 n d nil8 []] b o) ∧ Below w.heap.size w w' :=
  one_read a _ w (by omega) (by rw [ha]; exact top_num h)
theorem quoted_read {n d : Int} (a : ByteArray) (hs : a.size ≤ 30) (w : World) (h : rightB n d = true) (ha : a.data.toList = textL n d) :
    Calls Tryd.prog 21 #[.string (⟨#[39]⟩ ++ a)] w fun e w' => (∃ b o cap, e = .returned (.tuple #[.slice (some ⟨b, o, none⟩) 1 cap, .int .i64 (⟨#[39]⟩ ++ a : ByteArray).size, .int .i64 0]) ∧ Dt.AllAt w' [quoted (.node 0 n d nil8 [])] b o) ∧ Below w.heap.size w w' := by
  have h1 : (⟨#[39]⟩ ++ a : ByteArray).data.toList = 39 :: textL n d := by rw [app_list, ha]; rfl
  have h2 : (⟨#[39]⟩ ++ a : ByteArray).size ≤ 65536 := by
    rw [Lib.size_eq, h1, ← ha]; have := Lib.size_eq a; simp; omega
  exact one_read _ _ w h2 (h1 ▸ top_quoted h)
theorem quoted_bytes {n d : Int} (a : ByteArray) (h : rightB n d = true) (ha : a.data.toList = textL n d) : (⟨#[40, 113, 117, 111, 116, 101, 32]⟩ ++ a ++ ⟨#[41]⟩ : ByteArray).data.toList = (quoted (.node 0 n d nil8 [])).full rightB nameB textL := by
  rw [app_list, app_list, ha]; exact quoted_text h
theorem quoted_len {n d : Int} (h : rightB n d = true) (hl : (textL n d).length ≤ 30) : ((quoted (.node 0 n d nil8 [])).text textL).length ≤ 140737488355328 := by
  have h1 := quoted_text h
  unfold Dt.full at h1
  rw [quoted_right h, if_pos rfl] at h1
  rw [← h1]; simp; omega
theorem name_size {s : ByteArray} (h : nameB s = true) : s.size ≤ 65536 := by
  unfold nameB at h
  simp only [Bool.and_eq_true, decide_eq_true_eq] at h
  omega
set_option maxHeartbeats 4000000 in
set_option maxRecDepth 100000 in
theorem numbers_any (n d : Int) (hn : I64 n) (hd : I64 d) (s : ByteArray) (hs : s.size ≤ maxLen) (w : World) (ht : Tab w) :
    Answers 8 #[.int .i64 n, .int .i64 d, .string s] w (.bool true) := by
  unfold Answers
  obtain ⟨a, ha, hal⟩ := str_of (l := textL n d)
  have hash : a.size ≤ 30 := by rw [hal]; exact text_short n d
  unfold maxLen at hs
  have HT := Lib.hid ht; clear ht
  have HAS := Lib.hid ha; clear ha hal
  have HN := Lib.hid hn; clear hn
  have HD := Lib.hid hd; clear hd
  go_enter Tryd.func8, Tryd.ntmps8
  go_wp2_with fail
  refine (awake3_any _ HT.out).mono ?_
  rintro _ w1 ⟨rfl, hb1⟩
  have HB1 := Lib.hid hb1; clear hb1
  go_wp2_with fail
  refine (textRef_any n d HN.out HD.out a HAS.out _).mono ?_
  rintro _ w2 ⟨rfl, hb2⟩
  have HB2 := Lib.hid ((HB1.out).trans (hb2.mono (HB1.out).size)); clear hb2
  by_cases hr : rightB n d = true
  case' neg =>
    have he : a = ⟨#[]⟩ := by
      have h1 := HAS.out
      unfold textL at h1
      rw [if_neg hr] at h1
      cases a with
      | mk x => congr; exact Array.toList_inj.1 h1
    subst he
    have HBZ := HB2
    clear hr
    go_wp2_with fail
  case' pos =>
    have hne : a.toList.isEmpty = false := by
      obtain ⟨c, r, hc, -⟩ := num_heads hr
      have h1 := HAS.out
      rw [hc] at h1
      cases e : a.toList with
      | nil =>
        have h2 : a = ⟨#[]⟩ := bytes_inj (by rw [e]; decide +kernel)
        rw [h2] at h1; cases h1
      | cons => rfl
    have HR := Lib.hid hr; clear hr
    go_wp2_with fail
    refine (num_read a (by omega) _ HR.out HAS.out).mono ?_
    rintro _ w3 ⟨⟨b, o, cap, rfl, hall⟩, hb3⟩
    have HL := Lib.hid hall; clear hall
    have HB3 := Lib.hid ((HB2.out).trans (hb3.mono (HB2.out).size)); clear hb3
    go_wp2_with fail
    refine (quoted_read a (by omega) _ HR.out HAS.out).mono ?_
    rintro _ w4 ⟨⟨b', o', cap', rfl, hall'⟩, hb4⟩
    have hl4 := (HL.out).on (cell_on hb4)
    have HB4 := Lib.hid ((HB3.out).trans (hb4.mono (HB3.out).size)); clear hb4
    obtain ⟨v0, v1, v2, v3, v4, d0, d1, d2, d3, d4, hta⟩ := hl4.kid (i := 0) rfl
    obtain ⟨u0, u1, u2, u3, u4, f0, f1, f2, f3, f4, htb⟩ := hall'.kid (i := 0) rfl
    simp only [Nat.zero_mul, Nat.add_zero] at d0 d1 d2 d3 d4 f0 f1 f2 f3 f4
    obtain ⟨rfl, rfl, rfl, rfl⟩ := five_of hta
    have HTB := Lib.hid htb
    clear hta htb hl4 hall'
    go_wp2_with fail
    refine (pText _ _ (⟨#[40, 113, 117, 111, 116, 101, 32]⟩ ++ a ++ ⟨#[41]⟩) w4 HTB.out (tab_lasts _ _ HT.out HB4.out) (fun _ => quoted_len HR.out (by rw [← HAS.out]; have := Lib.size_eq a; omega)) (quoted_bytes a HR.out HAS.out)).mono ?_
    rintro _ wz ⟨rfl, hbz⟩
    have HBZ := Lib.hid ((HB4.out).trans (hbz.mono (HB4.out).size)); clear hbz
    go_wp2_with fail
  all_goals
    go_loopw [15] (fun x wr => ∃ (i : Nat), i ≤ s.size ∧ x = .int .i64 i ∧ (s.data.toList.take i).any (fun c => c == 37) = false ∧ Below w.heap.size w wr) (fun x _ => s.size - (intOf x).toNat)
    case atStart => exact ⟨0, by omega, rfl, by simp, HBZ.out⟩
    case round =>
      obtain ⟨i, hi, rfl, hf, hb⟩ := hrel
      have HF := Lib.hid hf; clear hf
      have HB := Lib.hid hb; clear hb
      by_cases hlt : i < s.size
      · have HTK := Lib.hid (take_snoc s i hlt)
        by_cases h37 : ((s[i].toNat : Int) == 37) = true
        · go_wp2_with fail
          go_ret
          exact ⟨rfl, HB.out⟩
        have h37 : ((s[i].toNat : Int) == 37) = false := Bool.eq_false_iff.2 h37
        have HNE := Lib.hid (of_decide_eq_false ((byte_test s[i] 37).symm.trans h37))
        go_wp2_with fail
        go_roundw
        case rel => exact ⟨i + 1, by omega, by go_num, by rw [HTK.out, List.any_append, HF.out]; simp [HNE.out], HB.out⟩
        case measure => simp [intOf]; omega
      · have hall : s.data.toList.any (fun c => c == 37) = false := by
          have h := HF.out
          rw [List.take_of_length_le (by rw [← Lib.size_eq]; omega)] at h; exact h
        have HALL := Lib.hid hall; clear hall
        obtain ⟨q, hq⟩ : ∃ q, nameB s = q := ⟨_, rfl⟩
        have C := fun w' => nameIs s w' (by unfold maxLen; omega)
        rw [hq] at C
        have HC := Lib.hid C; clear C
        have HQ := Lib.hid hq; clear hq
        go_wp2_with fail
        refine (HC.out _).mono ?_
        rintro _ w5 ⟨rfl, hb5⟩
        have HB5 := Lib.hid ((HB.out).trans (hb5.mono (HB.out).size)); clear hb5
        cases q
        · go_wp2_with fail
          go_ret
          exact ⟨rfl, HB5.out⟩
        · go_wp2_with fail
          refine (one_read s _ _ (name_size HQ.out) (top_sym HQ.out HALL.out)).mono ?_
          rintro _ w6 ⟨⟨b, o, cap, rfl, hall⟩, hb6⟩
          have HB6 := Lib.hid ((HB5.out).trans (hb6.mono (HB5.out).size)); clear hb6
          obtain ⟨v0, v1, v2, v3, v4, d0, d1, d2, d3, d4, hta⟩ := hall.kid (i := 0) rfl
          simp only [Nat.zero_mul, Nat.add_zero] at d0 d1 d2 d3 d4
          obtain ⟨rfl, rfl, rfl, rfl⟩ := five_of hta
          clear hta hall
          go_wp2_with fail
          go_ret
          exact ⟨rfl, HB6.out⟩
end Go.Proofs.YtabofebepefbgaaDoor.Dat
