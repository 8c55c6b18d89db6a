/- What holds of a datum and of all that is in it: the program's own 'all'. -/
import Derived.Test.YtdeelpagoffdjaaDatH
import Derived.Test.YtdeelpagoffdjaaDatG
import Derived.Lib.Bytealg
import Derived.Laws.EntriesVeiled


namespace Go.Proofs.Ytdeelpagoffdjaa.Dat
open Go.RowKit
set_option linter.unusedVariables false

mutual
/-- Something holds of a datum and of all that is in it, and nothing lies deeper than 200. -/
def Dt.whole (h : Dt → Bool) : Dt → Nat → Bool
  | .node k n d s l, deep => decide (deep ≤ 200) && (h (.node k n d s l) && Dt.wholeAll h l (deep + 1))
def Dt.wholeAll (h : Dt → Bool) : List Dt → Nat → Bool
  | [], _ => true
  | t :: r, deep => t.whole h deep && Dt.wholeAll h r deep
end
theorem Dt.wholeAll_step {h : Dt → Bool} {l : List Dt} {i : Nat} {t : Dt} {deep : Nat} (g : l[i]? = some t) : Dt.wholeAll h (l.drop i) deep = (t.whole h deep && Dt.wholeAll h (l.drop (i + 1)) deep) := by
  rw [Dt.drop_at g]; conv => lhs; unfold Dt.wholeAll
theorem Dt.wholeAll_stop {h : Dt → Bool} {l : List Dt} {i : Nat} {deep : Nat} (g : l.length ≤ i) : Dt.wholeAll h (l.drop i) deep = true := by
  rw [List.drop_of_length_le g]; rfl
theorem Dt.whole_deep {h : Dt → Bool} {t : Dt} {deep : Nat} (g : 200 < deep) : t.whole h deep = false := by
  cases t; unfold Dt.whole; rw [decide_eq_false (by omega)]; rfl
theorem Dt.whole_not {h : Dt → Bool} {t : Dt} {deep : Nat} (g : h t = false) : t.whole h deep = false := by
  cases t; unfold Dt.whole; rw [g]; simp
theorem Dt.whole_yes {h : Dt → Bool} {k n d : Int} {s : ByteArray} {l : List Dt} {deep : Nat} (g : h (.node k n d s l) = true) (hd : deep ≤ 200) : (Dt.node k n d s l).whole h deep = Dt.wholeAll h l (deep + 1) := by
  conv => lhs; unfold Dt.whole
  rw [g, decide_eq_true hd]; rfl
def HoldsCall (g : FuncId) (h : Dt → Bool) : Prop := ∀ (t : Dt) (v : Value) (w : World), t.At w v → Calls Try.prog g #[v] w fun e w' => e = .returned (.bool (h t)) ∧ Below w.heap.size w w'
/-- A box, and then what a call leaves, from a world on. -/
theorem below_box_call {w wr w1 : World} {o : Obj} (hb : Below w.heap.size w wr) (h : Below (wr.alloc o).heap.size (wr.alloc o) w1) : Below w.heap.size w w1 :=
  hb.trans ((((Below.refl wr.heap.size wr).alloc (Nat.le_refl _) o).trans (h.mono (by show wr.heap.size ≤ (wr.heap.push o).size; simp))).mono hb.size)

theorem within_deep (h : Dt → Bool) (t : Dt) (v : Value) (D : Int) (deep : Nat) (w : World) (a b : Option Addr) (hat : t.At w v) (hD : D = (deep : Int)) (h1 : deep ≤ 201) (h2 : 200 < deep) :
    Calls Try.prog 69 #[v, .int .i64 D, .pointer a, .pointer b] w fun e w' => e = .returned (.bool (t.whole h deep)) ∧ Below w.heap.size w w' := by
  rw [Dt.whole_deep h2]
  have D0 : 200 < D := by omega
  have D1 : D ≤ 201 := by omega
  obtain ⟨k, n, d, s, l⟩ := t
  unfold Dt.At at hat
  obtain ⟨-, -, -, -, -, p, cap, rfl, -⟩ := hat
  clear hD h1 h2
  go_enter Try.func69, Try.ntmps69
  go_wp2
  go_ret
  exact ⟨rfl, box_below _ _⟩

set_option maxHeartbeats 1000000 in
theorem within29_any (h : Dt → Bool) (hh : HoldsCall 35 h) (N : Nat) : ∀ (t : Dt) (v : Value) (D : Int) (deep : Nat) (w : World) (Bh Bw : Nat), t.size ≤ N → t.At w v → D = (deep : Int) → deep ≤ 201 →
    w.cell? ⟨Bh, 0, none⟩ = some (.func (.func 35) #[] #[]) → w.cell? ⟨Bw, 0, none⟩ = some (.func (.func 69) #[] #[.pointer (some ⟨Bh, 0, none⟩), .pointer (some ⟨Bw, 0, none⟩)]) →
    Calls Try.prog 69 #[v, .int .i64 D, .pointer (some ⟨Bh, 0, none⟩), .pointer (some ⟨Bw, 0, none⟩)] w fun e w' => e = .returned (.bool (t.whole h deep)) ∧ Below w.heap.size w w' := by
  induction N with
  | zero => intro t v D deep w Bh Bw hN; have := t.size_pos; omega
  | succ N ih =>
    intro t v D deep w Bh Bw hN hat hD h1 hch hcw
    by_cases hdeep : 200 < deep
    · exact within_deep h t v D deep w _ _ hat hD h1 hdeep
    have D0 : 0 ≤ D := by omega
    have D1 : D ≤ 200 := by omega
    have HHC := Lib.hid hh; clear hh
    have IH := Lib.hid ih; clear ih
    have HN := Lib.hid hN; clear hN
    have HD := Lib.hid (show D = (deep : Int) ∧ deep ≤ 200 from ⟨hD, by omega⟩); clear hD h1 hdeep
    have HAT := Lib.hid hat
    obtain ⟨k, n, d, s, l⟩ := t
    unfold Dt.At at hat
    obtain ⟨-, -, -, -, hlm, p, cap, rfl, hl⟩ := hat
    unfold maxLen at hlm
    have HL := Lib.hid hl; clear hl
    have lth := cell_lt hch
    have ltw := cell_lt hcw
    cases hv : h (.node k n d s l)
    · have HV := Lib.hid hv; clear hv
      go_enter Try.func69, Try.ntmps69
      go_wp2_with fail
      refine (HHC.out _ _ _ ((HAT.out).below (box_below _ _))).mono ?_
      rintro _ w1 ⟨rfl, hb1⟩
      rw [HV.out]
      have HB1 := Lib.hid hb1; clear hb1
      go_wp2_with fail
      go_ret
      exact ⟨ret_bool (by rw [Dt.whole_not HV.out]), below_after HB1.out⟩
    · have HV := Lib.hid hv; clear hv
      go_enter Try.func69, Try.ntmps69
      go_wp2_with fail
      refine (HHC.out _ _ _ ((HAT.out).below (box_below _ _))).mono ?_
      rintro _ w1 ⟨rfl, hb1⟩
      rw [HV.out]
      have hch1 := cell_on (below_after hb1) _ _ _ hch
      have hcw1 := cell_on (below_after hb1) _ _ _ hcw
      have hc4 := cell_on hb1 w.heap.size 4 (.slice p l.length cap) (by simp)
      have HB1 := Lib.hid (below_after hb1); clear hb1
      go_wp2_with fail
      go_loopw [20] (fun x wr => ∃ (i : Nat), i ≤ l.length ∧ x = .int .i64 i ∧ Dt.wholeAll h l (deep + 1) = Dt.wholeAll h (l.drop i) (deep + 1) ∧ wr.cell? ⟨Bh, 0, none⟩ = some (.func (.func 35) #[] #[]) ∧ wr.cell? ⟨Bw, 0, none⟩ = some (.func (.func 69) #[] #[.pointer (some ⟨Bh, 0, none⟩), .pointer (some ⟨Bw, 0, none⟩)]) ∧ Below w.heap.size w wr) (fun x _ => l.length - (intOf x).toNat)
      case atStart => exact ⟨0, by omega, rfl, by simp, hch1, hcw1, HB1.out⟩
      case round =>
        obtain ⟨i, hi, rfl, hf, ch, cw, hb⟩ := hrel
        have HF := Lib.hid hf; clear hf
        have HB := Lib.hid hb; clear hb
        by_cases hlt : i < l.length
        · obtain ⟨t, ht⟩ : ∃ t, l[i]? = some t := ⟨l[i], by simp [hlt]⟩
          rcases HL.out with he | ⟨b, o, rfl, hall⟩
          · rw [he] at hlt; simp at hlt
          obtain ⟨v0, v1, v2, v3, v4, d0, d1, d2, d3, d4, hta⟩ := (hall.on (cell_on HB.out)).kid ht
          have HT := Lib.hid ht; clear ht
          obtain ⟨kt, nt, dt, st, lt, pt, capt, hte, rfl, rfl, rfl, rfl, rfl, _, _⟩ := hta.open5
          have HA := Lib.hid hta
          clear hta hall hte
          have ch' := cell_on (box_below wr (.cells #[.int .i64 kt, .int .i64 nt, .int .i64 dt, .string st, .slice pt lt.length capt] 37)) _ _ _ ch
          have cw' := cell_on (box_below wr (.cells #[.int .i64 kt, .int .i64 nt, .int .i64 dt, .string st, .slice pt lt.length capt] 37)) _ _ _ cw
          go_wp2_with fail
          refine (IH.out t _ (D + 1) (deep + 1) _ Bh Bw (by have h := HN.out; have g := Dt.size_kid HT.out; unfold Dt.size at h; omega) ((HA.out).below (box_below _ _)) (by have := HD.out; omega) (by have := HD.out; omega) ch' cw').mono ?_
          rintro _ w2 ⟨rfl, hb2⟩
          have ch2 := cell_on hb2 _ _ _ ch'
          have cw2 := cell_on hb2 _ _ _ cw'
          have HB2 := Lib.hid (below_box_call HB.out hb2); clear hb2 ch' cw'
          cases ha : t.whole h (deep + 1)
          · have HAL := Lib.hid ha; clear ha
            go_wp2_with fail
            go_ret
            exact ⟨ret_bool (by rw [Dt.whole_yes HV.out (HD.out).2, HF.out, Dt.wholeAll_step HT.out, HAL.out]; rfl), HB2.out⟩
          · have HAL := Lib.hid ha; clear ha
            go_wp2_with fail
            go_roundw
            case rel => exact ⟨i + 1, by omega, by go_num, by rw [HF.out, Dt.wholeAll_step HT.out, HAL.out]; rfl, ch2, cw2, HB2.out⟩
            case measure => simp [intOf]; omega
        · go_wp2
          go_ret
          exact ⟨ret_bool (by rw [Dt.whole_yes HV.out (HD.out).2, HF.out, Dt.wholeAll_stop (by omega)]), HB.out⟩
end Go.Proofs.Ytdeelpagoffdjaa.Dat

/- The program's own ofName, ofString, Name. -/
namespace Go.Proofs.Ytdeelpagoffdjaa.Dat
open Go.RowKit
set_option linter.unusedVariables false

theorem idx_any (l : List UInt8) (c : UInt8) : decide (0 ≤ Lib.indexByte l c) = l.any (fun m => c == m) := by
  induction l with
  | nil => rfl
  | cons b l ih =>
    unfold Lib.indexByte
    rw [List.any_cons, ← ih]
    have hg := Lib.indexByte_ge l c
    by_cases h : b = c
    · subst h; simp
    · have h1 : (b == c) = false := by rw [beq_eq_false_iff_ne]; exact h
      have h2 : (c == b) = false := by rw [beq_eq_false_iff_ne]; exact fun e => h e.symm
      rw [h1, h2]
      by_cases h3 : Lib.indexByte l c = -1
      · rw [h3]; simp
      · have h4 : (Lib.indexByte l c == -1) = false := by rw [beq_eq_false_iff_ne]; exact h3
        rw [h4, Bool.false_or]
        simp only [Bool.false_eq_true, if_false]
        rw [decide_eq_true (by omega), decide_eq_true (by omega)]
/-- What IndexByte of the library answers. -/
def IdxCall : Prop := ∀ (c : Int) (w : World), Calls Try.prog 92 #[.string ⟨#[45, 43, 42, 47, 60, 62, 61, 33, 63, 95, 37]⟩, .int .u8 c] w fun e w' => e = .returned (.int .i64 (Lib.indexByte [45, 43, 42, 47, 60, 62, 61, 33, 63, 95, 37] c.toNat.toUInt8)) ∧ w' = w

set_option maxHeartbeats 400000 in
theorem ofName_any (hI : IdxCall) (c : UInt8) (w : World) :
    Calls Try.prog 86 #[.int .u8 (c.toNat : Int)] w fun e w' => e = .returned (.bool (nameChar c)) ∧ w = w' := by
  have hc : c.toNat < 256 := c.toNat_lt
  obtain ⟨z, hz⟩ : ∃ z : Int, (c.toNat : Int) = z := ⟨_, rfl⟩
  have ways : ((97 ≤ z ∧ z ≤ 122) ∧ plainChar c = true) ∨ ((48 ≤ z ∧ z ≤ 57) ∧ plainChar c = true) ∨ (122 < z ∧ plainChar c = false) ∨ ((57 < z ∧ z < 97) ∧ plainChar c = false) ∨ (z < 48 ∧ plainChar c = false) := by
    unfold plainChar
    by_cases a1 : 97 ≤ c.toNat <;> by_cases a2 : c.toNat ≤ 122 <;> by_cases a3 : 48 ≤ c.toNat <;> by_cases a4 : c.toNat ≤ 57 <;> simp [a1, a2, a3, a4] <;> omega
  have hidx : decide (0 ≤ Lib.indexByte [45, 43, 42, 47, 60, 62, 61, 33, 63, 95, 37] c) = markB.data.toList.any (fun m => c == m) := idx_any _ c
  have C := hI z w
  have hzc : z.toNat.toUInt8 = c := by rw [← hz]; simp
  rw [hzc] at C
  have hge := Lib.indexByte_ge [45, 43, 42, 47, 60, 62, 61, 33, 63, 95, 37] c
  obtain ⟨r, hr⟩ : ∃ r, Lib.indexByte [45, 43, 42, 47, 60, 62, 61, 33, 63, 95, 37] c = r := ⟨_, rfl⟩
  rw [hr] at C hidx hge
  rw [hz]
  have HC := Lib.hid C; clear C
  have z0 : 0 ≤ z := by omega
  have z1 : z ≤ 255 := by omega
  clear hr hzc hI hz hc
  rcases ways with ⟨⟨q1, q2⟩, hp⟩ | ⟨⟨q1, q2⟩, hp⟩ | ways
  · have HP := Lib.hid hp; clear hp
    have HX := Lib.hid hidx; clear hidx
    go_enter Try.func86, Try.ntmps86
    go_wp2_with fail
    go_ret
    exact ⟨ret_bool (by unfold nameChar; rw [HP.out]; rfl), rfl⟩
  · have HP := Lib.hid hp; clear hp
    have HX := Lib.hid hidx; clear hidx
    go_enter Try.func86, Try.ntmps86
    go_wp2_with fail
    go_ret
    exact ⟨ret_bool (by unfold nameChar; rw [HP.out]; rfl), rfl⟩
  · by_cases hr0 : 0 ≤ r
    · have ht : nameChar c = true := by
        unfold nameChar; rw [← hidx, decide_eq_true hr0, Bool.or_true]
      have HT := Lib.hid ht; clear ht hidx
      rcases ways with ⟨q1, hp⟩ | ⟨⟨q1, q2⟩, hp⟩ | ⟨q1, hp⟩
      all_goals
        clear hp
        go_enter Try.func86, Try.ntmps86
        go_wp2_with fail
        refine (HC.out).mono ?_
        rintro _ w' ⟨rfl, rfl⟩
        go_wp2_with fail
        go_ret
        exact ⟨ret_bool (by rw [HT.out]), rfl⟩
    · have HX := Lib.hid hidx; clear hidx
      have hr1 : r < 0 := by omega
      rcases ways with ⟨q1, hp⟩ | ⟨⟨q1, q2⟩, hp⟩ | ⟨q1, hp⟩
      all_goals
        have ht : nameChar c = false := by
          unfold nameChar; rw [hp, ← HX.out, decide_eq_false hr0]; rfl
        have HT := Lib.hid ht; clear ht hp hr0
        go_enter Try.func86, Try.ntmps86
        go_wp2_with fail
        refine (HC.out).mono ?_
        rintro _ w' ⟨rfl, rfl⟩
        go_wp2_with fail
        go_ret
        exact ⟨ret_bool (by rw [HT.out]; first | (simp only [Bool.or_eq_false_iff, decide_eq_false_iff_not]; omega) | (rw [decide_eq_false_iff_not]; omega)), rfl⟩

set_option maxHeartbeats 1000000 in
theorem ofString_any (s : ByteArray) (r : Bool) (hr : s.data.toList.all strChar = r) (hs : s.size ≤ maxLen) (w : World) :
    Calls Try.prog 72 #[.string s] w fun e w' => e = .returned (.bool r) ∧ w = w' := by
  unfold maxLen at hs
  have HR := Lib.hid hr; clear hr
  go_enter Try.func72, Try.ntmps72
  go_wp2_with fail
  go_loop [6] (fun x => ∃ i : Nat, i ≤ s.size ∧ x = .int .i64 i ∧ (s.data.toList.take i).all strChar = true) (fun x => s.size - (intOf x).toNat)
  case atStart => exact ⟨0, by omega, rfl, rfl⟩
  case round =>
    obtain ⟨i, hi, rfl, hall⟩ := hrel
    have HA := Lib.hid hall; clear hall
    by_cases hlt : i < s.size
    · have HT := Lib.hid (take_snoc s i hlt)
      have hb : s[i].toNat < 256 := s[i].toNat_lt
      have ways : (((s[i].toNat : Int) < 32) ∧ strChar s[i] = false) ∨ ((126 < (s[i].toNat : Int)) ∧ strChar s[i] = false) ∨ ((s[i].toNat : Int) = 34 ∧ strChar s[i] = false) ∨ ((s[i].toNat : Int) = 92 ∧ strChar s[i] = false) ∨
          ((32 ≤ (s[i].toNat : Int) ∧ (s[i].toNat : Int) ≤ 126 ∧ (s[i].toNat : Int) ≠ 34 ∧ (s[i].toNat : Int) ≠ 92) ∧ strChar s[i] = true) := by
        unfold strChar
        by_cases a1 : 32 ≤ s[i].toNat <;> by_cases a2 : s[i].toNat ≤ 126 <;> by_cases a3 : s[i].toNat = 34 <;> by_cases a4 : s[i].toNat = 92 <;> simp [a1, a2, a3, a4] <;> omega
      rcases ways with ⟨q, hp⟩ | ⟨q, hp⟩ | ⟨q, hp⟩ | ⟨q, hp⟩ | ⟨⟨q1, q2, q3, q4⟩, hp⟩
      case inr.inr.inr.inr =>
        have HP := Lib.hid hp; clear hp
        have g3 : ((s[i].toNat : Int) == 34) = false := by rw [beq_eq_false_iff_ne]; exact q3
        have g4 : ((s[i].toNat : Int) == 92) = false := by rw [beq_eq_false_iff_ne]; exact q4
        clear q3 q4
        go_wp2_with fail
        go_round
        case rel => exact ⟨i + 1, by omega, by go_num, by rw [HT.out, List.all_append, HA.out]; simp [HP.out]⟩
        case measure => simp [intOf]; omega
      case inl =>
        have HN := Lib.hid (str_no hlt hp); clear hp
        go_wp2_with fail
        go_ret
        exact ⟨ret_bool (HN.out.symm.trans HR.out), rfl⟩
      case inr.inl =>
        have HN := Lib.hid (str_no hlt hp); clear hp
        have q0 : 32 ≤ (s[i].toNat : Int) := by omega
        go_wp2_with fail
        go_ret
        exact ⟨ret_bool (HN.out.symm.trans HR.out), rfl⟩
      case inr.inr.inl =>
        have HN := Lib.hid (str_no hlt hp); clear hp
        have q0 : 32 ≤ (s[i].toNat : Int) := by omega
        have q1 : (s[i].toNat : Int) ≤ 126 := by omega
        have g3 : ((s[i].toNat : Int) == 34) = true := by rw [beq_iff_eq]; exact q
        clear q
        go_wp2_with fail
        go_ret
        exact ⟨ret_bool (HN.out.symm.trans HR.out), rfl⟩
      case inr.inr.inr.inl =>
        have HN := Lib.hid (str_no hlt hp); clear hp
        have q0 : 32 ≤ (s[i].toNat : Int) := by omega
        have q1 : (s[i].toNat : Int) ≤ 126 := by omega
        have g3 : ((s[i].toNat : Int) == 34) = false := by rw [beq_eq_false_iff_ne]; omega
        have g4 : ((s[i].toNat : Int) == 92) = true := by rw [beq_iff_eq]; exact q
        clear q
        go_wp2_with fail
        go_ret
        exact ⟨ret_bool (HN.out.symm.trans HR.out), rfl⟩
    · go_wp2_with fail
      go_ret
      refine ⟨ret_bool ?_, rfl⟩
      have h := HA.out
      rw [List.take_of_length_le (by rw [← Lib.size_eq]; omega)] at h
      exact h.symm.trans HR.out

theorem name_no {s : ByteArray} {i : Nat} (h : i < s.size) (hc : nameChar s[i] = false) : s.data.toList.all nameChar = false := by
  rw [Bool.eq_false_iff]
  intro ha
  have := List.all_eq_true.1 ha s[i] (List.mem_of_getElem? (at_some s i h))
  rw [hc] at this; cases this

set_option maxHeartbeats 1000000 in
theorem Name_any (hI : IdxCall) (P : ByteArray → Int × Int × Bool) (hp : ∀ (s : ByteArray) (w : World), s.size ≤ maxLen → Calls Try.prog 87 #[.string s] w fun e w' => e = .returned (.tuple #[.int .i64 (P s).1, .int .i64 (P s).2.1, .bool (P s).2.2]) ∧ ∃ k, w' = w.drewN k)
    (s : ByteArray) (hs : s.size ≤ maxLen) (w : World) :
    Calls Try.prog 71 #[.string s] w fun e w' => e = .returned (.bool (decide (1 ≤ s.size) && decide (s.size ≤ 40) && s.data.toList.all nameChar && !(P s).2.2)) ∧ ∃ k, w' = w.drewN k := by
  have HP := Lib.hid hp; clear hp
  have HS := Lib.hid hs
  unfold maxLen at hs
  by_cases h0 : s.size < 1
  · go_enter Try.func71, Try.ntmps71
    go_wp2
    go_ret
    exact ⟨ret_bool (by rw [decide_eq_false (by omega : ¬ 1 ≤ s.size)]; rfl), 0, rfl⟩
  by_cases h1 : 40 < s.size
  · go_enter Try.func71, Try.ntmps71
    go_wp2
    go_ret
    exact ⟨ret_bool (by rw [decide_eq_false (by omega : ¬ s.size ≤ 40)]; simp), 0, rfl⟩
  go_enter Try.func71, Try.ntmps71
  go_wp2_with fail
  go_loop [17] (fun x => ∃ i : Nat, i ≤ s.size ∧ x = .int .i64 i ∧ (s.data.toList.take i).all nameChar = true) (fun x => s.size - (intOf x).toNat)
  case atStart => exact ⟨0, by omega, rfl, rfl⟩
  case round =>
    obtain ⟨i, hi, rfl, hall⟩ := hrel
    have HA := Lib.hid hall; clear hall
    by_cases hlt : i < s.size
    · have HT := Lib.hid (take_snoc s i hlt)
      cases hn : nameChar s[i]
      · have HN := Lib.hid (name_no hlt hn)
        have HH := Lib.hid hn; clear hn
        go_wp2_with fail
        refine (ofName_any hI s[i] _).mono ?_
        rintro _ w' ⟨rfl, rfl⟩
        rw [HH.out]
        go_wp2_with fail
        go_ret
        exact ⟨ret_bool (by rw [HN.out]; simp), 0, rfl⟩
      · have HH := Lib.hid hn; clear hn
        go_wp2_with fail
        refine (ofName_any hI s[i] _).mono ?_
        rintro _ w' ⟨rfl, rfl⟩
        rw [HH.out]
        go_wp2_with fail
        go_round
        case rel => exact ⟨i + 1, by omega, by go_num, by rw [HT.out, List.all_append, HA.out]; simp [HH.out]⟩
        case measure => simp [intOf]; omega
    · have hall : s.data.toList.all nameChar = true := by
        have h := HA.out
        rw [List.take_of_length_le (by rw [← Lib.size_eq]; omega)] at h; exact h
      have HALL := Lib.hid hall; clear hall
      have C := HP.out s w HS.out
      obtain ⟨r, hr⟩ : ∃ r, P s = r := ⟨_, rfl⟩
      rw [hr] at C
      have HC := Lib.hid C; clear C
      have HR := Lib.hid hr; clear hr
      go_wp2_with fail
      refine (HC.out).mono ?_
      rintro _ w' ⟨rfl, k, rfl⟩
      go_wp2_with fail
      go_ret
      refine ⟨ret_bool ?_, _, rfl⟩
      rw [HALL.out, HR.out, decide_eq_true (by omega : 1 ≤ s.size), decide_eq_true (by omega : s.size ≤ 40)]; rfl
end Go.Proofs.Ytdeelpagoffdjaa.Dat

/- The program's own apart: what is asked of a datum itself. -/
namespace Go.Proofs.Ytdeelpagoffdjaa.Dat
open Go.RowKit
set_option linter.unusedVariables false

/-- What the calls below answer: Right of numbers, Name. -/
def NumRight (R : Int → Int → Bool) : Prop := ∀ (n d : Int) (w : World), I64 n → I64 d → Calls Try.prog 70 #[.int .i64 n, .int .i64 d] w fun e w' => e = .returned (.bool (R n d)) ∧ w = w'
def NameIs (Nm : ByteArray → Bool) : Prop := ∀ (s : ByteArray) (w : World), s.size ≤ maxLen → Calls Try.prog 71 #[.string s] w fun e w' => e = .returned (.bool (Nm s)) ∧ Below w.heap.size w w'
/-- A name's bytes may stand in a string. -/
def NameSub (Nm : ByteArray → Bool) : Prop := ∀ s, Nm s = true → s.data.toList.all strChar = true
/-- What is asked of the datum itself. -/
def headOf (R : Int → Int → Bool) (Nm : ByteArray → Bool) : Dt → Bool
  | .node k n d s l => headRight R Nm k n d s l.length

set_option maxHeartbeats 4000000 in
set_option maxRecDepth 100000 in
theorem apart_k0 (R : Int → Int → Bool) (Nm : ByteArray → Bool) (hR : NumRight R) (hN : NameIs Nm) (hsub : NameSub Nm) (n d : Int) (s : ByteArray) (l : List Dt) (p : Option Addr) (cap : Nat) (w : World) (hn : I64 n) (hd : I64 d) (hs : s.size ≤ maxLen) (hlm : l.length ≤ maxLen) :
    Calls Try.prog 35 #[.agg #[.int .i64 0, .int .i64 n, .int .i64 d, .string s, .slice p l.length cap]] w fun e w' => e = .returned (.bool (headRight R Nm 0 n d s l.length)) ∧ Below w.heap.size w w' := by
  have HRC := Lib.hid hR; clear hR
  have HNC := Lib.hid hN; clear hN
  have HS := Lib.hid hs; clear hs
  unfold maxLen at hlm
  cases hv : R n d
  · have HV := Lib.hid hv
    have e := hv; clear hv
    rw [show headRight R Nm 0 _ _ _ _ = false from by unfold headRight; first | (simp [e]; done) | (simp [e]; rfl)]
    try clear hsub
    try clear hno
    try clear hstr
    go_enter Try.func35, Try.ntmps35
    go_wp2_with fail
    refine (HRC.out n d _ hn hd).mono ?_
    rintro _ w' ⟨rfl, rfl⟩
    rw [HV.out]
    go_wp2_with fail
    go_ret
    exact ⟨rfl, by first | exact box_below _ _ | exact below_box _ _ _⟩
  · have HV := Lib.hid hv
    have e := hv; clear hv
    by_cases hs0 : s.size = 0
    case neg =>
      have q : ¬ s.toList = (⟨#[]⟩ : ByteArray).toList := fun e => hs0 (by rw [bytes_inj e]; rfl)
      have q2 : s.toList ≠ [] := fun e => hs0 (by rw [Lib.size_eq, ← Lib.toList_data, e]; rfl)
      have q3 : s.toList.isEmpty = false := by cases hq : s.toList with
        | nil => exact absurd hq q2
        | cons _ _ => rfl
      rw [show headRight R Nm 0 _ _ _ _ = false from by unfold headRight; first | (simp [e, hs0]; done) | (simp [e, hs0]; rfl)]
      try clear hsub
      try clear hno
      try clear hstr
      go_enter Try.func35, Try.ntmps35
      go_wp2_with fail
      refine (HRC.out n d _ hn hd).mono ?_
      rintro _ w' ⟨rfl, rfl⟩
      rw [HV.out]
      go_wp2_with fail
      go_ret
      exact ⟨rfl, by first | exact box_below _ _ | exact below_box _ _ _⟩
    obtain rfl : s = ⟨#[]⟩ := bytes_empty hs0
    clear hs0
    by_cases hl0 : l.length = 0
    case neg =>
      have hl1 : 1 ≤ l.length := by omega
      have ql : ((l.length : Int) == 0) = false := by rw [beq_eq_false_iff_ne]; omega
      rw [show headRight R Nm 0 _ _ _ _ = false from by unfold headRight; first | (simp [e, hl0]; done) | (simp [e, hl0]; rfl)]
      try clear hsub
      try clear hno
      try clear hstr
      go_enter Try.func35, Try.ntmps35
      go_wp2_with fail
      refine (HRC.out n d _ hn hd).mono ?_
      rintro _ w' ⟨rfl, rfl⟩
      rw [HV.out]
      go_wp2_with fail
      go_ret
      exact ⟨rfl, by first | exact box_below _ _ | exact below_box _ _ _⟩
    obtain rfl : l = [] := List.length_eq_zero_iff.1 hl0
    clear hl0
    rw [show headRight R Nm 0 _ _ _ _ = true from by unfold headRight; first | (simp [e]; done) | (simp [e]; rfl)]
    try clear hsub
    try clear hno
    try clear hstr
    go_enter Try.func35, Try.ntmps35
    go_wp2_with fail
    refine (HRC.out n d _ hn hd).mono ?_
    rintro _ w' ⟨rfl, rfl⟩
    rw [HV.out]
    go_wp2_with fail
    go_ret
    exact ⟨rfl, by first | exact box_below _ _ | exact below_box _ _ _⟩

set_option maxHeartbeats 4000000 in
set_option maxRecDepth 100000 in
theorem apart_k1 (R : Int → Int → Bool) (Nm : ByteArray → Bool) (hR : NumRight R) (hN : NameIs Nm) (hsub : NameSub Nm) (n d : Int) (s : ByteArray) (l : List Dt) (p : Option Addr) (cap : Nat) (w : World) (hn : I64 n) (hd : I64 d) (hs : s.size ≤ maxLen) (hlm : l.length ≤ maxLen) :
    Calls Try.prog 35 #[.agg #[.int .i64 1, .int .i64 n, .int .i64 d, .string s, .slice p l.length cap]] w fun e w' => e = .returned (.bool (headRight R Nm 1 n d s l.length)) ∧ Below w.heap.size w w' := by
  have HRC := Lib.hid hR; clear hR
  have HNC := Lib.hid hN; clear hN
  have HS := Lib.hid hs; clear hs
  unfold maxLen at hlm
  by_cases en : n = 0 ∨ n = 1
  case neg =>
    obtain ⟨e0, e1⟩ := not_or.1 en
    have q0 : (n == 0) = false := by rw [beq_eq_false_iff_ne]; exact e0
    have q1 : (n == 1) = false := by rw [beq_eq_false_iff_ne]; exact e1
    clear en
    rw [show headRight R Nm 1 _ _ _ _ = false from by unfold headRight; first | (simp [e0, e1]; done) | (simp [e0, e1]; rfl)]
    try clear hsub
    try clear hno
    try clear hstr
    go_enter Try.func35, Try.ntmps35
    go_wp2_with fail
    go_ret
    exact ⟨rfl, by first | exact box_below _ _ | exact below_box _ _ _⟩
  rcases en with rfl | rfl
  ·
    by_cases ed : d = 0
    case neg =>
      have qd : (d == 0) = false := by rw [beq_eq_false_iff_ne]; exact ed
      rw [show headRight R Nm 1 _ _ _ _ = false from by unfold headRight; first | (simp [ed]; done) | (simp [ed]; rfl)]
      try clear hsub
      try clear hno
      try clear hstr
      go_enter Try.func35, Try.ntmps35
      go_wp2_with fail
      go_ret
      exact ⟨rfl, by first | exact box_below _ _ | exact below_box _ _ _⟩
    subst ed
    by_cases hs0 : s.size = 0
    case neg =>
      have q : ¬ s.toList = (⟨#[]⟩ : ByteArray).toList := fun e => hs0 (by rw [bytes_inj e]; rfl)
      have q2 : s.toList ≠ [] := fun e => hs0 (by rw [Lib.size_eq, ← Lib.toList_data, e]; rfl)
      have q3 : s.toList.isEmpty = false := by cases hq : s.toList with
        | nil => exact absurd hq q2
        | cons _ _ => rfl
      rw [show headRight R Nm 1 _ _ _ _ = false from by unfold headRight; first | (simp [hs0]; done) | (simp [hs0]; rfl)]
      try clear hsub
      try clear hno
      try clear hstr
      go_enter Try.func35, Try.ntmps35
      go_wp2_with fail
      go_ret
      exact ⟨rfl, by first | exact box_below _ _ | exact below_box _ _ _⟩
    obtain rfl : s = ⟨#[]⟩ := bytes_empty hs0
    clear hs0
    by_cases hl0 : l.length = 0
    case neg =>
      have hl1 : 1 ≤ l.length := by omega
      have ql : ((l.length : Int) == 0) = false := by rw [beq_eq_false_iff_ne]; omega
      rw [show headRight R Nm 1 _ _ _ _ = false from by unfold headRight; first | (simp [hl0]; done) | (simp [hl0]; rfl)]
      try clear hsub
      try clear hno
      try clear hstr
      go_enter Try.func35, Try.ntmps35
      go_wp2_with fail
      go_ret
      exact ⟨rfl, by first | exact box_below _ _ | exact below_box _ _ _⟩
    obtain rfl : l = [] := List.length_eq_zero_iff.1 hl0
    clear hl0
    rw [show headRight R Nm 1 _ _ _ _ = true from by unfold headRight; first | (simp; done) | (simp; rfl)]
    try clear hsub
    try clear hno
    try clear hstr
    go_enter Try.func35, Try.ntmps35
    go_wp2_with fail
    go_ret
    exact ⟨rfl, by first | exact box_below _ _ | exact below_box _ _ _⟩
  ·
    by_cases ed : d = 0
    case neg =>
      have qd : (d == 0) = false := by rw [beq_eq_false_iff_ne]; exact ed
      rw [show headRight R Nm 1 _ _ _ _ = false from by unfold headRight; first | (simp [ed]; done) | (simp [ed]; rfl)]
      try clear hsub
      try clear hno
      try clear hstr
      go_enter Try.func35, Try.ntmps35
      go_wp2_with fail
      go_ret
      exact ⟨rfl, by first | exact box_below _ _ | exact below_box _ _ _⟩
    subst ed
    by_cases hs0 : s.size = 0
    case neg =>
      have q : ¬ s.toList = (⟨#[]⟩ : ByteArray).toList := fun e => hs0 (by rw [bytes_inj e]; rfl)
      have q2 : s.toList ≠ [] := fun e => hs0 (by rw [Lib.size_eq, ← Lib.toList_data, e]; rfl)
      have q3 : s.toList.isEmpty = false := by cases hq : s.toList with
        | nil => exact absurd hq q2
        | cons _ _ => rfl
      rw [show headRight R Nm 1 _ _ _ _ = false from by unfold headRight; first | (simp [hs0]; done) | (simp [hs0]; rfl)]
      try clear hsub
      try clear hno
      try clear hstr
      go_enter Try.func35, Try.ntmps35
      go_wp2_with fail
      go_ret
      exact ⟨rfl, by first | exact box_below _ _ | exact below_box _ _ _⟩
    obtain rfl : s = ⟨#[]⟩ := bytes_empty hs0
    clear hs0
    by_cases hl0 : l.length = 0
    case neg =>
      have hl1 : 1 ≤ l.length := by omega
      have ql : ((l.length : Int) == 0) = false := by rw [beq_eq_false_iff_ne]; omega
      rw [show headRight R Nm 1 _ _ _ _ = false from by unfold headRight; first | (simp [hl0]; done) | (simp [hl0]; rfl)]
      try clear hsub
      try clear hno
      try clear hstr
      go_enter Try.func35, Try.ntmps35
      go_wp2_with fail
      go_ret
      exact ⟨rfl, by first | exact box_below _ _ | exact below_box _ _ _⟩
    obtain rfl : l = [] := List.length_eq_zero_iff.1 hl0
    clear hl0
    rw [show headRight R Nm 1 _ _ _ _ = true from by unfold headRight; first | (simp; done) | (simp; rfl)]
    try clear hsub
    try clear hno
    try clear hstr
    go_enter Try.func35, Try.ntmps35
    go_wp2_with fail
    go_ret
    exact ⟨rfl, by first | exact box_below _ _ | exact below_box _ _ _⟩

set_option maxHeartbeats 4000000 in
set_option maxRecDepth 100000 in
theorem apart_k2 (R : Int → Int → Bool) (Nm : ByteArray → Bool) (hR : NumRight R) (hN : NameIs Nm) (hsub : NameSub Nm) (n d : Int) (s : ByteArray) (l : List Dt) (p : Option Addr) (cap : Nat) (w : World) (hn : I64 n) (hd : I64 d) (hs : s.size ≤ maxLen) (hlm : l.length ≤ maxLen) :
    Calls Try.prog 35 #[.agg #[.int .i64 2, .int .i64 n, .int .i64 d, .string s, .slice p l.length cap]] w fun e w' => e = .returned (.bool (headRight R Nm 2 n d s l.length)) ∧ Below w.heap.size w w' := by
  have HRC := Lib.hid hR; clear hR
  have HNC := Lib.hid hN; clear hN
  have HS := Lib.hid hs; clear hs
  unfold maxLen at hlm
  cases hv : Nm s
  · have HV := Lib.hid hv
    have e := hv; clear hv
    rw [show headRight R Nm 2 _ _ _ _ = false from by unfold headRight; first | (simp [e]; done) | (simp [e]; rfl)]
    try clear hsub
    try clear hno
    try clear hstr
    go_enter Try.func35, Try.ntmps35
    go_wp2_with fail
    refine (HNC.out s _ HS.out).mono ?_
    rintro _ w1 ⟨rfl, hb1⟩
    rw [HV.out]
    obtain ⟨c0, c1, c2, c3, c4⟩ := box_cells (one_box hb1)
    have z3 := box_frozen (one_box hb1) 3
    have HB1 := Lib.hid (below_after hb1); clear hb1
    go_wp2_with fail
    go_ret
    exact ⟨rfl, (HB1.out).setCell (Nat.le_refl _) _⟩
  · have HV := Lib.hid hv
    have hstr := hsub s hv
    have e := hv; clear hv
    by_cases en : n = 0
    case neg =>
      have qn : (n == 0) = false := by rw [beq_eq_false_iff_ne]; exact en
      rw [show headRight R Nm 2 _ _ _ _ = false from by unfold headRight; first | (simp [e, hstr, en]; done) | (simp [e, hstr, en]; rfl)]
      try clear hsub
      try clear hno
      try clear hstr
      go_enter Try.func35, Try.ntmps35
      go_wp2_with fail
      refine (HNC.out s _ HS.out).mono ?_
      rintro _ w1 ⟨rfl, hb1⟩
      rw [HV.out]
      obtain ⟨c0, c1, c2, c3, c4⟩ := box_cells (one_box hb1)
      have z3 := box_frozen (one_box hb1) 3
      have HB1 := Lib.hid (below_after hb1); clear hb1
      go_wp2_with fail
      go_ret
      exact ⟨rfl, (HB1.out).setCell (Nat.le_refl _) _⟩
    subst en
    by_cases ed : d = 0
    case neg =>
      have qd : (d == 0) = false := by rw [beq_eq_false_iff_ne]; exact ed
      rw [show headRight R Nm 2 _ _ _ _ = false from by unfold headRight; first | (simp [e, hstr, ed]; done) | (simp [e, hstr, ed]; rfl)]
      try clear hsub
      try clear hno
      try clear hstr
      go_enter Try.func35, Try.ntmps35
      go_wp2_with fail
      refine (HNC.out s _ HS.out).mono ?_
      rintro _ w1 ⟨rfl, hb1⟩
      rw [HV.out]
      obtain ⟨c0, c1, c2, c3, c4⟩ := box_cells (one_box hb1)
      have z3 := box_frozen (one_box hb1) 3
      have HB1 := Lib.hid (below_after hb1); clear hb1
      go_wp2_with fail
      go_ret
      exact ⟨rfl, (HB1.out).setCell (Nat.le_refl _) _⟩
    subst ed
    by_cases hl0 : l.length = 0
    case neg =>
      have hl1 : 1 ≤ l.length := by omega
      have ql : ((l.length : Int) == 0) = false := by rw [beq_eq_false_iff_ne]; omega
      rw [show headRight R Nm 2 _ _ _ _ = false from by unfold headRight; first | (simp [e, hstr, hl0]; done) | (simp [e, hstr, hl0]; rfl)]
      try clear hsub
      try clear hno
      try clear hstr
      go_enter Try.func35, Try.ntmps35
      go_wp2_with fail
      refine (HNC.out s _ HS.out).mono ?_
      rintro _ w1 ⟨rfl, hb1⟩
      rw [HV.out]
      obtain ⟨c0, c1, c2, c3, c4⟩ := box_cells (one_box hb1)
      have z3 := box_frozen (one_box hb1) 3
      have HB1 := Lib.hid (below_after hb1); clear hb1
      go_wp2_with fail
      go_ret
      exact ⟨rfl, (HB1.out).setCell (Nat.le_refl _) _⟩
    obtain rfl : l = [] := List.length_eq_zero_iff.1 hl0
    clear hl0
    rw [show headRight R Nm 2 _ _ _ _ = true from by unfold headRight; first | (simp [e, hstr]; done) | (simp [e, hstr]; rfl)]
    try clear hsub
    try clear hno
    try clear hstr
    go_enter Try.func35, Try.ntmps35
    go_wp2_with fail
    refine (HNC.out s _ HS.out).mono ?_
    rintro _ w1 ⟨rfl, hb1⟩
    rw [HV.out]
    obtain ⟨c0, c1, c2, c3, c4⟩ := box_cells (one_box hb1)
    have z3 := box_frozen (one_box hb1) 3
    have HB1 := Lib.hid (below_after hb1); clear hb1
    go_wp2_with fail
    go_ret
    exact ⟨rfl, (HB1.out).setCell (Nat.le_refl _) _⟩

set_option maxHeartbeats 4000000 in
set_option maxRecDepth 100000 in
theorem apart_k3 (R : Int → Int → Bool) (Nm : ByteArray → Bool) (hR : NumRight R) (hN : NameIs Nm) (hsub : NameSub Nm) (n d : Int) (s : ByteArray) (l : List Dt) (p : Option Addr) (cap : Nat) (w : World) (hn : I64 n) (hd : I64 d) (hs : s.size ≤ maxLen) (hlm : l.length ≤ maxLen) :
    Calls Try.prog 35 #[.agg #[.int .i64 3, .int .i64 n, .int .i64 d, .string s, .slice p l.length cap]] w fun e w' => e = .returned (.bool (headRight R Nm 3 n d s l.length)) ∧ Below w.heap.size w w' := by
  have HRC := Lib.hid hR; clear hR
  have HNC := Lib.hid hN; clear hN
  have HS := Lib.hid hs; clear hs
  unfold maxLen at hlm
  cases hv : s.data.toList.all strChar
  · have HV := Lib.hid hv
    have e := hv; clear hv
    rw [show headRight R Nm 3 _ _ _ _ = false from by unfold headRight; first | (simp [e]; done) | (simp [e]; rfl)]
    try clear hsub
    try clear hno
    try clear hstr
    go_enter Try.func35, Try.ntmps35
    go_wp2_with fail
    refine (ofString_any s _ HV.out HS.out _).mono ?_
    rintro _ w' ⟨rfl, rfl⟩
    go_wp2_with fail
    go_ret
    exact ⟨rfl, by first | exact box_below _ _ | exact below_box _ _ _⟩
  · have HV := Lib.hid hv
    have e := hv; clear hv
    by_cases en : n = 0
    case neg =>
      have qn : (n == 0) = false := by rw [beq_eq_false_iff_ne]; exact en
      rw [show headRight R Nm 3 _ _ _ _ = false from by unfold headRight; first | (simp [e, en]; done) | (simp [e, en]; rfl)]
      try clear hsub
      try clear hno
      try clear hstr
      go_enter Try.func35, Try.ntmps35
      go_wp2_with fail
      refine (ofString_any s _ HV.out HS.out _).mono ?_
      rintro _ w' ⟨rfl, rfl⟩
      go_wp2_with fail
      go_ret
      exact ⟨rfl, by first | exact box_below _ _ | exact below_box _ _ _⟩
    subst en
    by_cases ed : d = 0
    case neg =>
      have qd : (d == 0) = false := by rw [beq_eq_false_iff_ne]; exact ed
      rw [show headRight R Nm 3 _ _ _ _ = false from by unfold headRight; first | (simp [e, ed]; done) | (simp [e, ed]; rfl)]
      try clear hsub
      try clear hno
      try clear hstr
      go_enter Try.func35, Try.ntmps35
      go_wp2_with fail
      refine (ofString_any s _ HV.out HS.out _).mono ?_
      rintro _ w' ⟨rfl, rfl⟩
      go_wp2_with fail
      go_ret
      exact ⟨rfl, by first | exact box_below _ _ | exact below_box _ _ _⟩
    subst ed
    by_cases hl0 : l.length = 0
    case neg =>
      have hl1 : 1 ≤ l.length := by omega
      have ql : ((l.length : Int) == 0) = false := by rw [beq_eq_false_iff_ne]; omega
      rw [show headRight R Nm 3 _ _ _ _ = false from by unfold headRight; first | (simp [e, hl0]; done) | (simp [e, hl0]; rfl)]
      try clear hsub
      try clear hno
      try clear hstr
      go_enter Try.func35, Try.ntmps35
      go_wp2_with fail
      refine (ofString_any s _ HV.out HS.out _).mono ?_
      rintro _ w' ⟨rfl, rfl⟩
      go_wp2_with fail
      go_ret
      exact ⟨rfl, by first | exact box_below _ _ | exact below_box _ _ _⟩
    obtain rfl : l = [] := List.length_eq_zero_iff.1 hl0
    clear hl0
    rw [show headRight R Nm 3 _ _ _ _ = true from by unfold headRight; first | (simp [e]; done) | (simp [e]; rfl)]
    try clear hsub
    try clear hno
    try clear hstr
    go_enter Try.func35, Try.ntmps35
    go_wp2_with fail
    refine (ofString_any s _ HV.out HS.out _).mono ?_
    rintro _ w' ⟨rfl, rfl⟩
    go_wp2_with fail
    go_ret
    exact ⟨rfl, by first | exact box_below _ _ | exact below_box _ _ _⟩

set_option maxHeartbeats 4000000 in
set_option maxRecDepth 100000 in
theorem apart_k4 (R : Int → Int → Bool) (Nm : ByteArray → Bool) (hR : NumRight R) (hN : NameIs Nm) (hsub : NameSub Nm) (n d : Int) (s : ByteArray) (l : List Dt) (p : Option Addr) (cap : Nat) (w : World) (hn : I64 n) (hd : I64 d) (hs : s.size ≤ maxLen) (hlm : l.length ≤ maxLen) :
    Calls Try.prog 35 #[.agg #[.int .i64 4, .int .i64 n, .int .i64 d, .string s, .slice p l.length cap]] w fun e w' => e = .returned (.bool (headRight R Nm 4 n d s l.length)) ∧ Below w.heap.size w w' := by
  have HRC := Lib.hid hR; clear hR
  have HNC := Lib.hid hN; clear hN
  have HS := Lib.hid hs; clear hs
  unfold maxLen at hlm
  by_cases en : n = 0
  case neg =>
    have qn : (n == 0) = false := by rw [beq_eq_false_iff_ne]; exact en
    rw [show headRight R Nm 4 _ _ _ _ = false from by unfold headRight; first | (simp [en]; done) | (simp [en]; rfl)]
    try clear hsub
    try clear hno
    try clear hstr
    go_enter Try.func35, Try.ntmps35
    go_wp2_with fail
    go_ret
    exact ⟨rfl, by first | exact box_below _ _ | exact below_box _ _ _⟩
  subst en
  by_cases ed : d = 0
  case neg =>
    have qd : (d == 0) = false := by rw [beq_eq_false_iff_ne]; exact ed
    rw [show headRight R Nm 4 _ _ _ _ = false from by unfold headRight; first | (simp [ed]; done) | (simp [ed]; rfl)]
    try clear hsub
    try clear hno
    try clear hstr
    go_enter Try.func35, Try.ntmps35
    go_wp2_with fail
    go_ret
    exact ⟨rfl, by first | exact box_below _ _ | exact below_box _ _ _⟩
  subst ed
  by_cases hs0 : s.size = 0
  case neg =>
    have q : ¬ s.toList = (⟨#[]⟩ : ByteArray).toList := fun e => hs0 (by rw [bytes_inj e]; rfl)
    have q2 : s.toList ≠ [] := fun e => hs0 (by rw [Lib.size_eq, ← Lib.toList_data, e]; rfl)
    have q3 : s.toList.isEmpty = false := by cases hq : s.toList with
      | nil => exact absurd hq q2
      | cons _ _ => rfl
    rw [show headRight R Nm 4 _ _ _ _ = false from by unfold headRight; first | (simp [hs0]; done) | (simp [hs0]; rfl)]
    try clear hsub
    try clear hno
    try clear hstr
    go_enter Try.func35, Try.ntmps35
    go_wp2_with fail
    go_ret
    exact ⟨rfl, by first | exact box_below _ _ | exact below_box _ _ _⟩
  obtain rfl : s = ⟨#[]⟩ := bytes_empty hs0
  clear hs0
  by_cases hl0 : l.length = 0
  case neg =>
    have hl1 : 1 ≤ l.length := by omega
    have ql : ((l.length : Int) == 0) = false := by rw [beq_eq_false_iff_ne]; omega
    rw [show headRight R Nm 4 _ _ _ _ = false from by unfold headRight; first | (simp [hl0]; done) | (simp [hl0]; rfl)]
    try clear hsub
    try clear hno
    try clear hstr
    go_enter Try.func35, Try.ntmps35
    go_wp2_with fail
    go_ret
    exact ⟨rfl, by first | exact box_below _ _ | exact below_box _ _ _⟩
  obtain rfl : l = [] := List.length_eq_zero_iff.1 hl0
  clear hl0
  rw [show headRight R Nm 4 _ _ _ _ = true from by unfold headRight; first | (simp; done) | (simp; rfl)]
  try clear hsub
  try clear hno
  try clear hstr
  go_enter Try.func35, Try.ntmps35
  go_wp2_with fail
  go_ret
  exact ⟨rfl, by first | exact box_below _ _ | exact below_box _ _ _⟩

set_option maxHeartbeats 4000000 in
set_option maxRecDepth 100000 in
theorem apart_k5 (R : Int → Int → Bool) (Nm : ByteArray → Bool) (hR : NumRight R) (hN : NameIs Nm) (hsub : NameSub Nm) (n d : Int) (s : ByteArray) (l : List Dt) (p : Option Addr) (cap : Nat) (w : World) (hn : I64 n) (hd : I64 d) (hs : s.size ≤ maxLen) (hlm : l.length ≤ maxLen) :
    Calls Try.prog 35 #[.agg #[.int .i64 5, .int .i64 n, .int .i64 d, .string s, .slice p l.length cap]] w fun e w' => e = .returned (.bool (headRight R Nm 5 n d s l.length)) ∧ Below w.heap.size w w' := by
  have HRC := Lib.hid hR; clear hR
  have HNC := Lib.hid hN; clear hN
  have HS := Lib.hid hs; clear hs
  unfold maxLen at hlm
  by_cases en : n = 0
  case neg =>
    have qn : (n == 0) = false := by rw [beq_eq_false_iff_ne]; exact en
    rw [show headRight R Nm 5 _ _ _ _ = false from by unfold headRight; first | (simp [en]; done) | (simp [en]; rfl)]
    try clear hsub
    try clear hno
    try clear hstr
    go_enter Try.func35, Try.ntmps35
    go_wp2_with fail
    go_ret
    exact ⟨rfl, by first | exact box_below _ _ | exact below_box _ _ _⟩
  subst en
  by_cases ed : d = 0
  case neg =>
    have qd : (d == 0) = false := by rw [beq_eq_false_iff_ne]; exact ed
    rw [show headRight R Nm 5 _ _ _ _ = false from by unfold headRight; first | (simp [ed]; done) | (simp [ed]; rfl)]
    try clear hsub
    try clear hno
    try clear hstr
    go_enter Try.func35, Try.ntmps35
    go_wp2_with fail
    go_ret
    exact ⟨rfl, by first | exact box_below _ _ | exact below_box _ _ _⟩
  subst ed
  by_cases hs0 : s.size = 0
  case neg =>
    have q : ¬ s.toList = (⟨#[]⟩ : ByteArray).toList := fun e => hs0 (by rw [bytes_inj e]; rfl)
    have q2 : s.toList ≠ [] := fun e => hs0 (by rw [Lib.size_eq, ← Lib.toList_data, e]; rfl)
    have q3 : s.toList.isEmpty = false := by cases hq : s.toList with
      | nil => exact absurd hq q2
      | cons _ _ => rfl
    rw [show headRight R Nm 5 _ _ _ _ = false from by unfold headRight; first | (simp [hs0]; done) | (simp [hs0]; rfl)]
    try clear hsub
    try clear hno
    try clear hstr
    go_enter Try.func35, Try.ntmps35
    go_wp2_with fail
    go_ret
    exact ⟨rfl, by first | exact box_below _ _ | exact below_box _ _ _⟩
  obtain rfl : s = ⟨#[]⟩ := bytes_empty hs0
  clear hs0
  by_cases hl0 : l.length = 0
  case neg =>
    have hl1 : 1 ≤ l.length := by omega
    have ql : ((l.length : Int) == 0) = false := by rw [beq_eq_false_iff_ne]; omega
    rw [show headRight R Nm 5 _ _ _ _ = false from by unfold headRight; first | (simp [hl0]; done) | (simp [hl0]; rfl)]
    try clear hsub
    try clear hno
    try clear hstr
    go_enter Try.func35, Try.ntmps35
    go_wp2_with fail
    go_ret
    exact ⟨rfl, by first | exact box_below _ _ | exact below_box _ _ _⟩
  obtain rfl : l = [] := List.length_eq_zero_iff.1 hl0
  clear hl0
  rw [show headRight R Nm 5 _ _ _ _ = true from by unfold headRight; first | (simp; done) | (simp; rfl)]
  try clear hsub
  try clear hno
  try clear hstr
  go_enter Try.func35, Try.ntmps35
  go_wp2_with fail
  go_ret
  exact ⟨rfl, by first | exact box_below _ _ | exact below_box _ _ _⟩

set_option maxHeartbeats 4000000 in
set_option maxRecDepth 100000 in
theorem apart_k6 (R : Int → Int → Bool) (Nm : ByteArray → Bool) (hR : NumRight R) (hN : NameIs Nm) (hsub : NameSub Nm) (n d : Int) (s : ByteArray) (l : List Dt) (p : Option Addr) (cap : Nat) (w : World) (hn : I64 n) (hd : I64 d) (hs : s.size ≤ maxLen) (hlm : l.length ≤ maxLen) :
    Calls Try.prog 35 #[.agg #[.int .i64 6, .int .i64 n, .int .i64 d, .string s, .slice p l.length cap]] w fun e w' => e = .returned (.bool (headRight R Nm 6 n d s l.length)) ∧ Below w.heap.size w w' := by
  have HRC := Lib.hid hR; clear hR
  have HNC := Lib.hid hN; clear hN
  have HS := Lib.hid hs; clear hs
  unfold maxLen at hlm
  by_cases hl0 : l.length = 2
  case neg =>
    have ql : ((l.length : Int) == 2) = false := by rw [beq_eq_false_iff_ne]; omega
    rw [show headRight R Nm 6 _ _ _ _ = false from by unfold headRight; first | (simp [hl0]; done) | (simp [hl0]; rfl)]
    try clear hsub
    try clear hno
    try clear hstr
    go_enter Try.func35, Try.ntmps35
    go_wp2_with fail
    go_ret
    exact ⟨rfl, by first | exact box_below _ _ | exact below_box _ _ _⟩
  have ql : ((l.length : Int) == 2) = true := by rw [beq_iff_eq]; omega
  by_cases en : n = 0
  case neg =>
    have qn : (n == 0) = false := by rw [beq_eq_false_iff_ne]; exact en
    rw [show headRight R Nm 6 _ _ _ _ = false from by unfold headRight; first | (simp [hl0, en]; done) | (simp [hl0, en]; rfl)]
    try clear hsub
    try clear hno
    try clear hstr
    go_enter Try.func35, Try.ntmps35
    go_wp2_with fail
    go_ret
    exact ⟨rfl, by first | exact box_below _ _ | exact below_box _ _ _⟩
  subst en
  by_cases ed : d = 0
  case neg =>
    have qd : (d == 0) = false := by rw [beq_eq_false_iff_ne]; exact ed
    rw [show headRight R Nm 6 _ _ _ _ = false from by unfold headRight; first | (simp [hl0, ed]; done) | (simp [hl0, ed]; rfl)]
    try clear hsub
    try clear hno
    try clear hstr
    go_enter Try.func35, Try.ntmps35
    go_wp2_with fail
    go_ret
    exact ⟨rfl, by first | exact box_below _ _ | exact below_box _ _ _⟩
  subst ed
  by_cases hs0 : s.size = 0
  case neg =>
    have q : ¬ s.toList = (⟨#[]⟩ : ByteArray).toList := fun e => hs0 (by rw [bytes_inj e]; rfl)
    have q2 : s.toList ≠ [] := fun e => hs0 (by rw [Lib.size_eq, ← Lib.toList_data, e]; rfl)
    have q3 : s.toList.isEmpty = false := by cases hq : s.toList with
      | nil => exact absurd hq q2
      | cons _ _ => rfl
    rw [show headRight R Nm 6 _ _ _ _ = false from by unfold headRight; first | (simp [hl0, hs0]; done) | (simp [hl0, hs0]; rfl)]
    try clear hsub
    try clear hno
    try clear hstr
    go_enter Try.func35, Try.ntmps35
    go_wp2_with fail
    go_ret
    exact ⟨rfl, by first | exact box_below _ _ | exact below_box _ _ _⟩
  obtain rfl : s = ⟨#[]⟩ := bytes_empty hs0
  clear hs0
  rw [show headRight R Nm 6 _ _ _ _ = true from by unfold headRight; first | (simp [hl0]; done) | (simp [hl0]; rfl)]
  try clear hsub
  try clear hno
  try clear hstr
  go_enter Try.func35, Try.ntmps35
  go_wp2_with fail
  go_ret
  exact ⟨rfl, by first | exact box_below _ _ | exact below_box _ _ _⟩

set_option maxHeartbeats 4000000 in
set_option maxRecDepth 100000 in
theorem apart_k7 (R : Int → Int → Bool) (Nm : ByteArray → Bool) (hR : NumRight R) (hN : NameIs Nm) (hsub : NameSub Nm) (n d : Int) (s : ByteArray) (l : List Dt) (p : Option Addr) (cap : Nat) (w : World) (hn : I64 n) (hd : I64 d) (hs : s.size ≤ maxLen) (hlm : l.length ≤ maxLen) :
    Calls Try.prog 35 #[.agg #[.int .i64 7, .int .i64 n, .int .i64 d, .string s, .slice p l.length cap]] w fun e w' => e = .returned (.bool (headRight R Nm 7 n d s l.length)) ∧ Below w.heap.size w w' := by
  have HRC := Lib.hid hR; clear hR
  have HNC := Lib.hid hN; clear hN
  have HS := Lib.hid hs; clear hs
  unfold maxLen at hlm
  by_cases en : n = 0
  case neg =>
    have qn : (n == 0) = false := by rw [beq_eq_false_iff_ne]; exact en
    rw [show headRight R Nm 7 _ _ _ _ = false from by unfold headRight; first | (simp [en]; done) | (simp [en]; rfl)]
    try clear hsub
    try clear hno
    try clear hstr
    go_enter Try.func35, Try.ntmps35
    go_wp2_with fail
    go_ret
    exact ⟨rfl, by first | exact box_below _ _ | exact below_box _ _ _⟩
  subst en
  by_cases ed : d = 0
  case neg =>
    have qd : (d == 0) = false := by rw [beq_eq_false_iff_ne]; exact ed
    rw [show headRight R Nm 7 _ _ _ _ = false from by unfold headRight; first | (simp [ed]; done) | (simp [ed]; rfl)]
    try clear hsub
    try clear hno
    try clear hstr
    go_enter Try.func35, Try.ntmps35
    go_wp2_with fail
    go_ret
    exact ⟨rfl, by first | exact box_below _ _ | exact below_box _ _ _⟩
  subst ed
  by_cases hs0 : s.size = 0
  case neg =>
    have q : ¬ s.toList = (⟨#[]⟩ : ByteArray).toList := fun e => hs0 (by rw [bytes_inj e]; rfl)
    have q2 : s.toList ≠ [] := fun e => hs0 (by rw [Lib.size_eq, ← Lib.toList_data, e]; rfl)
    have q3 : s.toList.isEmpty = false := by cases hq : s.toList with
      | nil => exact absurd hq q2
      | cons _ _ => rfl
    rw [show headRight R Nm 7 _ _ _ _ = false from by unfold headRight; first | (simp [hs0]; done) | (simp [hs0]; rfl)]
    try clear hsub
    try clear hno
    try clear hstr
    go_enter Try.func35, Try.ntmps35
    go_wp2_with fail
    go_ret
    exact ⟨rfl, by first | exact box_below _ _ | exact below_box _ _ _⟩
  obtain rfl : s = ⟨#[]⟩ := bytes_empty hs0
  clear hs0
  rw [show headRight R Nm 7 _ _ _ _ = true from by unfold headRight; first | (simp; done) | (simp; rfl)]
  try clear hsub
  try clear hno
  try clear hstr
  go_enter Try.func35, Try.ntmps35
  go_wp2_with fail
  go_ret
  exact ⟨rfl, by first | exact box_below _ _ | exact below_box _ _ _⟩

theorem apart_out (k : Int) (R : Int → Int → Bool) (Nm : ByteArray → Bool) (n d : Int) (s : ByteArray) (l : List Dt) (p : Option Addr) (cap : Nat) (w : World) (hk : I64 k) (h : k < 0 ∨ 7 < k) :
    Calls Try.prog 35 #[.agg #[.int .i64 k, .int .i64 n, .int .i64 d, .string s, .slice p l.length cap]] w fun e w' => e = .returned (.bool (headRight R Nm k n d s l.length)) ∧ Below w.heap.size w w' := by
  have hh : headRight R Nm k n d s l.length = false := by
    unfold headRight
    by_cases h0 : 0 ≤ k
    · rw [decide_eq_false (by omega : ¬ k ≤ 7)]; simp
    · rw [decide_eq_false h0]; simp
  rw [hh]; clear hh
  obtain ⟨k0, k1⟩ := hk
  have f0 : (k == 0) = false := by rw [beq_eq_false_iff_ne]; omega
  have f1 : (k == 1) = false := by rw [beq_eq_false_iff_ne]; omega
  have f2 : (k == 2) = false := by rw [beq_eq_false_iff_ne]; omega
  have f3 : (k == 3) = false := by rw [beq_eq_false_iff_ne]; omega
  have f4 : (k == 4) = false := by rw [beq_eq_false_iff_ne]; omega
  have f5 : (k == 5) = false := by rw [beq_eq_false_iff_ne]; omega
  have f6 : (k == 6) = false := by rw [beq_eq_false_iff_ne]; omega
  have f7 : (k == 7) = false := by rw [beq_eq_false_iff_ne]; omega
  clear h
  go_enter Try.func35, Try.ntmps35
  go_wp2_with fail
  go_ret
  exact ⟨rfl, box_below _ _⟩

/-- apart answers whether a datum itself is as it must be. -/
theorem apart_any (R : Int → Int → Bool) (Nm : ByteArray → Bool) (hR : NumRight R) (hN : NameIs Nm) (hsub : NameSub Nm) : HoldsCall 35 (headOf R Nm) := by
  intro t v w hat
  obtain ⟨k, n, d, s, l⟩ := t
  unfold Dt.At at hat
  obtain ⟨hk, hn, hd, hs, hlm, p, cap, rfl, _⟩ := hat
  by_cases hout : k < 0 ∨ 7 < k
  · exact apart_out k R Nm n d s l p cap w hk hout
  have h8 : k = 0 ∨ k = 1 ∨ k = 2 ∨ k = 3 ∨ k = 4 ∨ k = 5 ∨ k = 6 ∨ k = 7 := by omega
  rcases h8 with rfl | rfl | rfl | rfl | rfl | rfl | rfl | rfl
  · exact apart_k0 R Nm hR hN hsub n d s l p cap w hn hd hs hlm
  · exact apart_k1 R Nm hR hN hsub n d s l p cap w hn hd hs hlm
  · exact apart_k2 R Nm hR hN hsub n d s l p cap w hn hd hs hlm
  · exact apart_k3 R Nm hR hN hsub n d s l p cap w hn hd hs hlm
  · exact apart_k4 R Nm hR hN hsub n d s l p cap w hn hd hs hlm
  · exact apart_k5 R Nm hR hN hsub n d s l p cap w hn hd hs hlm
  · exact apart_k6 R Nm hR hN hsub n d s l p cap w hn hd hs hlm
  · exact apart_k7 R Nm hR hN hsub n d s l p cap w hn hd hs hlm
end Go.Proofs.Ytdeelpagoffdjaa.Dat

/- The program's own all, Right. -/
namespace Go.Proofs.Ytdeelpagoffdjaa.Dat
open Go.RowKit
set_option linter.unusedVariables false

theorem below_seq {w w1 w2 : World} (h : Below w.heap.size w w1) (h2 : Below w1.heap.size w1 w2) : Below w.heap.size w w2 := h.trans (h2.mono h.size)
theorem at_one (w : World) (a b c : Obj) : (((w.alloc a).alloc b).alloc c).heap[w.heap.size + 1]? = some b := by
  show (((w.heap.push a).push b).push c)[w.heap.size + 1]? = _
  rw [Array.getElem?_push, if_neg (by simp), Array.getElem?_push, if_pos (by simp)]
theorem at_two (w : World) (a b c : Obj) : (((w.alloc a).alloc b).alloc c).heap[w.heap.size + 2]? = some c := by
  show (((w.heap.push a).push b).push c)[w.heap.size + 2]? = _
  rw [Array.getElem?_push, if_pos (by simp)]
theorem three_below (w : World) (a b c : Obj) : Below w.heap.size w (((w.alloc a).alloc b).alloc c) := below_seq (two_below w a b) (box_below _ c)
set_option maxHeartbeats 1000000 in
theorem within58_any (h : Dt → Bool) (hh : HoldsCall 74 h) (N : Nat) : ∀ (t : Dt) (v : Value) (D : Int) (deep : Nat) (w : World) (Bh Bw : Nat), t.size ≤ N → t.At w v → D = (deep : Int) → deep ≤ 201 →
    w.cell? ⟨Bh, 0, none⟩ = some (.func (.func 74) #[] #[]) → w.cell? ⟨Bw, 0, none⟩ = some (.func (.func 69) #[] #[.pointer (some ⟨Bh, 0, none⟩), .pointer (some ⟨Bw, 0, none⟩)]) →
    Calls Try.prog 69 #[v, .int .i64 D, .pointer (some ⟨Bh, 0, none⟩), .pointer (some ⟨Bw, 0, none⟩)] w fun e w' => e = .returned (.bool (t.whole h deep)) ∧ Below w.heap.size w w' := by
  induction N with
  | zero => intro t v D deep w Bh Bw hN; have := t.size_pos; omega
  | succ N ih =>
    intro t v D deep w Bh Bw hN hat hD h1 hch hcw
    by_cases hdeep : 200 < deep
    · exact within_deep h t v D deep w _ _ hat hD h1 hdeep
    have D0 : 0 ≤ D := by omega
    have D1 : D ≤ 200 := by omega
    have HHC := Lib.hid hh; clear hh
    have IH := Lib.hid ih; clear ih
    have HN := Lib.hid hN; clear hN
    have HD := Lib.hid (show D = (deep : Int) ∧ deep ≤ 200 from ⟨hD, by omega⟩); clear hD h1 hdeep
    have HAT := Lib.hid hat
    obtain ⟨k, n, d, s, l⟩ := t
    unfold Dt.At at hat
    obtain ⟨-, -, -, -, hlm, p, cap, rfl, hl⟩ := hat
    unfold maxLen at hlm
    have HL := Lib.hid hl; clear hl
    have lth := cell_lt hch
    have ltw := cell_lt hcw
    cases hv : h (.node k n d s l)
    · have HV := Lib.hid hv; clear hv
      go_enter Try.func69, Try.ntmps69
      go_wp2_with fail
      refine (HHC.out _ _ _ ((HAT.out).below (box_below _ _))).mono ?_
      rintro _ w1 ⟨rfl, hb1⟩
      rw [HV.out]
      have HB1 := Lib.hid hb1; clear hb1
      go_wp2_with fail
      go_ret
      exact ⟨ret_bool (by rw [Dt.whole_not HV.out]), below_after HB1.out⟩
    · have HV := Lib.hid hv; clear hv
      go_enter Try.func69, Try.ntmps69
      go_wp2_with fail
      refine (HHC.out _ _ _ ((HAT.out).below (box_below _ _))).mono ?_
      rintro _ w1 ⟨rfl, hb1⟩
      rw [HV.out]
      have hch1 := cell_on (below_after hb1) _ _ _ hch
      have hcw1 := cell_on (below_after hb1) _ _ _ hcw
      have hc4 := cell_on hb1 w.heap.size 4 (.slice p l.length cap) (by simp)
      have HB1 := Lib.hid (below_after hb1); clear hb1
      go_wp2_with fail
      go_loopw [20] (fun x wr => ∃ (i : Nat), i ≤ l.length ∧ x = .int .i64 i ∧ Dt.wholeAll h l (deep + 1) = Dt.wholeAll h (l.drop i) (deep + 1) ∧ wr.cell? ⟨Bh, 0, none⟩ = some (.func (.func 74) #[] #[]) ∧ wr.cell? ⟨Bw, 0, none⟩ = some (.func (.func 69) #[] #[.pointer (some ⟨Bh, 0, none⟩), .pointer (some ⟨Bw, 0, none⟩)]) ∧ Below w.heap.size w wr) (fun x _ => l.length - (intOf x).toNat)
      case atStart => exact ⟨0, by omega, rfl, by simp, hch1, hcw1, HB1.out⟩
      case round =>
        obtain ⟨i, hi, rfl, hf, ch, cw, hb⟩ := hrel
        have HF := Lib.hid hf; clear hf
        have HB := Lib.hid hb; clear hb
        by_cases hlt : i < l.length
        · obtain ⟨t, ht⟩ : ∃ t, l[i]? = some t := ⟨l[i], by simp [hlt]⟩
          rcases HL.out with he | ⟨b, o, rfl, hall⟩
          · rw [he] at hlt; simp at hlt
          obtain ⟨v0, v1, v2, v3, v4, d0, d1, d2, d3, d4, hta⟩ := (hall.on (cell_on HB.out)).kid ht
          have HT := Lib.hid ht; clear ht
          obtain ⟨kt, nt, dt, st, lt, pt, capt, hte, rfl, rfl, rfl, rfl, rfl, _, _⟩ := hta.open5
          have HA := Lib.hid hta
          clear hta hall hte
          have ch' := cell_on (box_below wr (.cells #[.int .i64 kt, .int .i64 nt, .int .i64 dt, .string st, .slice pt lt.length capt] 37)) _ _ _ ch
          have cw' := cell_on (box_below wr (.cells #[.int .i64 kt, .int .i64 nt, .int .i64 dt, .string st, .slice pt lt.length capt] 37)) _ _ _ cw
          go_wp2_with fail
          refine (IH.out t _ (D + 1) (deep + 1) _ Bh Bw (by have h := HN.out; have g := Dt.size_kid HT.out; unfold Dt.size at h; omega) ((HA.out).below (box_below _ _)) (by have := HD.out; omega) (by have := HD.out; omega) ch' cw').mono ?_
          rintro _ w2 ⟨rfl, hb2⟩
          have ch2 := cell_on hb2 _ _ _ ch'
          have cw2 := cell_on hb2 _ _ _ cw'
          have HB2 := Lib.hid (below_box_call HB.out hb2); clear hb2 ch' cw'
          cases ha : t.whole h (deep + 1)
          · have HAL := Lib.hid ha; clear ha
            go_wp2_with fail
            go_ret
            exact ⟨ret_bool (by rw [Dt.whole_yes HV.out (HD.out).2, HF.out, Dt.wholeAll_step HT.out, HAL.out]; rfl), HB2.out⟩
          · have HAL := Lib.hid ha; clear ha
            go_wp2_with fail
            go_roundw
            case rel => exact ⟨i + 1, by omega, by go_num, by rw [HF.out, Dt.wholeAll_step HT.out, HAL.out]; rfl, ch2, cw2, HB2.out⟩
            case measure => simp [intOf]; omega
        · go_wp2
          go_ret
          exact ⟨ret_bool (by rw [Dt.whole_yes HV.out (HD.out).2, HF.out, Dt.wholeAll_stop (by omega)]), HB.out⟩

/-- Everything holds of it. -/
theorem hold58 : HoldsCall 74 (fun _ => true) := by
  intro t v w hat
  obtain ⟨k, n, d, s, l⟩ := t
  unfold Dt.At at hat
  obtain ⟨-, -, -, -, -, p, cap, rfl, -⟩ := hat
  go_enter Try.func74, Try.ntmps74
  go_wp2_with fail
  go_ret
  exact ⟨rfl, box_below _ _⟩

set_option maxHeartbeats 400000 in
theorem all29_any (h : Dt → Bool) (hh : HoldsCall 35 h) (t : Dt) (v : Value) (w : World) (hat : t.At w v) :
    Calls Try.prog 34 #[v, .func (.func 35) #[] #[]] w fun e w' => e = .returned (.bool (t.whole h 0)) ∧ Below w.heap.size w w' := by
  have HAT := Lib.hid hat
  have HHC := Lib.hid hh; clear hh
  have hmf : ∀ (fn : Fn) (first cap : Array Value) (w : World), (Instr.makeFunc fn first cap).run Try.prog w = .ok (.func fn first cap) w := fun _ _ _ _ => rfl
  obtain ⟨k, n, d, s, l⟩ := t
  unfold Dt.At at hat
  obtain ⟨-, -, -, -, -, p, cap, rfl, -⟩ := hat
  go_enter Try.func34, Try.ntmps34
  go_wp2_with fail
  refine (within29_any h HHC.out _ _ _ 0 0 _ (w.heap.size + 1) (w.heap.size + 2) (Nat.le_refl _) ((HAT.out).below (three_below _ _ _ _)) rfl (by omega) ?_ ?_).mono ?_
  · exact cell_of_one (at_one _ _ _ _)
  · exact cell_of_one (at_two _ _ _ _)
  rintro _ w1 ⟨rfl, hb1⟩
  have HB := Lib.hid (below_seq (three_below _ _ _ _) hb1); clear hb1
  go_wp2_with fail
  go_ret
  exact ⟨rfl, HB.out⟩


set_option maxHeartbeats 400000 in
theorem all58_any (h : Dt → Bool) (hh : HoldsCall 74 h) (t : Dt) (v : Value) (w : World) (hat : t.At w v) :
    Calls Try.prog 34 #[v, .func (.func 74) #[] #[]] w fun e w' => e = .returned (.bool (t.whole h 0)) ∧ Below w.heap.size w w' := by
  have HAT := Lib.hid hat
  have HHC := Lib.hid hh; clear hh
  have hmf : ∀ (fn : Fn) (first cap : Array Value) (w : World), (Instr.makeFunc fn first cap).run Try.prog w = .ok (.func fn first cap) w := fun _ _ _ _ => rfl
  obtain ⟨k, n, d, s, l⟩ := t
  unfold Dt.At at hat
  obtain ⟨-, -, -, -, -, p, cap, rfl, -⟩ := hat
  go_enter Try.func34, Try.ntmps34
  go_wp2_with fail
  refine (within58_any h HHC.out _ _ _ 0 0 _ (w.heap.size + 1) (w.heap.size + 2) (Nat.le_refl _) ((HAT.out).below (three_below _ _ _ _)) rfl (by omega) ?_ ?_).mono ?_
  · exact cell_of_one (at_one _ _ _ _)
  · exact cell_of_one (at_two _ _ _ _)
  rintro _ w1 ⟨rfl, hb1⟩
  have HB := Lib.hid (below_seq (three_below _ _ _ _) hb1); clear hb1
  go_wp2_with fail
  go_ret
  exact ⟨rfl, HB.out⟩

mutual
theorem Dt.whole_right (R : Int → Int → Bool) (Nm : ByteArray → Bool) : ∀ (t : Dt) (deep : Nat), t.whole (headOf R Nm) deep = t.right R Nm deep
  | .node k n d s l, deep => by
    unfold Dt.whole Dt.right
    rw [Dt.wholeAll_right R Nm l (deep + 1), Bool.and_assoc]
    rfl
theorem Dt.wholeAll_right (R : Int → Int → Bool) (Nm : ByteArray → Bool) : ∀ (l : List Dt) (deep : Nat), Dt.wholeAll (headOf R Nm) l deep = Dt.rightAll R Nm l deep
  | [], _ => rfl
  | t :: r, deep => by
    unfold Dt.wholeAll Dt.rightAll
    rw [Dt.whole_right R Nm t deep, Dt.wholeAll_right R Nm r deep]
end
set_option maxHeartbeats 400000 in
/-- The program's Right. -/
theorem ownRight_any (R : Int → Int → Bool) (Nm : ByteArray → Bool) (hR : NumRight R) (hN : NameIs Nm) (hsub : NameSub Nm) (t : Dt) (v : Value) (w : World) (hat : t.At w v) :
    Calls Try.prog 21 #[v] w fun e w' => e = .returned (.bool (t.right R Nm 0)) ∧ Below w.heap.size w w' := by
  rw [← Dt.whole_right R Nm t 0]
  have C := fun w' (h : t.At w' v) => all29_any _ (apart_any R Nm hR hN hsub) t v w' h
  have HAT := Lib.hid hat
  obtain ⟨r, hr⟩ : ∃ r, t.whole (headOf R Nm) 0 = r := ⟨_, rfl⟩
  rw [hr] at C ⊢
  have HC := Lib.hid C; clear C hr
  obtain ⟨k, n, d, s, l⟩ := t
  unfold Dt.At at hat
  obtain ⟨-, -, -, -, -, p, cap, rfl, -⟩ := hat
  go_enter Try.func21, Try.ntmps21
  go_wp2_with fail
  refine (HC.out _ ((HAT.out).below (box_below _ _))).mono ?_
  rintro _ w1 ⟨rfl, hb1⟩
  have HB := Lib.hid (below_after hb1); clear hb1
  go_wp2_with fail
  go_ret
  exact ⟨rfl, HB.out⟩
end Go.Proofs.Ytdeelpagoffdjaa.Dat

/- The program's own Same. -/
namespace Go.Proofs.Ytdeelpagoffdjaa.Dat
open Go.RowKit
set_option linter.unusedVariables false

/-- The closure that compares two, captured by itself. -/
abbrev sameF (Bs : Nat) : Value := .func (.func 38) #[] #[.pointer (some ⟨Bs, 0, none⟩)]
def SameAt (t : Dt) : Prop := ∀ (t' : Dt) (v v' : Value) (w : World) (Bs : Nat), t.At w v → t'.At w v' → w.cell? ⟨Bs, 0, none⟩ = some (sameF Bs) →
    Calls Try.prog 38 #[v, v', .pointer (some ⟨Bs, 0, none⟩)] w fun e w' => e = .returned (.bool (t.alike t')) ∧ Below w.heap.size w w'
theorem Dt.alikeAll_ne {l l' : List Dt} (h : l.length ≠ l'.length) : Dt.alikeAll l l' = false := by
  cases ha : Dt.alikeAll l l'
  · rfl
  · exact absurd (Dt.alikeAll_len ha) h

set_option maxHeartbeats 1000000 in
set_option maxRecDepth 100000 in
theorem eqf_any (l l' : List Dt) (ih : ∀ t, t ∈ l → SameAt t) (p p' : Option Addr) (cap cap' : Nat) (w : World) (Bs : Nat) (hlm : l.length ≤ maxLen) (hlm' : l'.length ≤ maxLen)
    (hl : l = [] ∨ ∃ b o, p = some ⟨b, o, none⟩ ∧ Dt.AllAt w l b o) (hl' : l' = [] ∨ ∃ b o, p' = some ⟨b, o, none⟩ ∧ Dt.AllAt w l' b o) (hs : w.cell? ⟨Bs, 0, none⟩ = some (sameF Bs)) :
    Calls Try.prog 39 #[.slice p l.length cap, .slice p' l'.length cap', sameF Bs] w fun e w' => e = .returned (.bool (Dt.alikeAll l l')) ∧ Below w.heap.size w w' := by
  unfold maxLen at hlm hlm'
  have IH := Lib.hid ih; clear ih
  have HL := Lib.hid hl; clear hl
  have HL' := Lib.hid hl'; clear hl'
  by_cases hne : l.length = l'.length
  case neg =>
    rw [Dt.alikeAll_ne hne]
    have q : ((l.length : Int) != (l'.length : Int)) = true := by rw [bne_iff_ne]; omega
    clear hne
    go_enter Try.func39, Try.ntmps39
    go_wp2_with fail
    go_ret
    exact ⟨rfl, Below.refl _ _⟩
  have q : ((l.length : Int) != (l'.length : Int)) = false := by rw [bne_eq_false_iff_eq]; omega
  have EL := Lib.hid hne; clear hne
  obtain ⟨r, hr⟩ : ∃ r, Dt.alikeAll l l' = r := ⟨_, rfl⟩
  rw [hr]
  have HR := Lib.hid hr; clear hr
  go_enter Try.func39, Try.ntmps39
  go_wp2_with fail
  go_loopw [17] (fun x wr => ∃ (i : Nat), i ≤ l.length ∧ x = .int .i64 i ∧ Dt.alikeAll l l' = Dt.alikeAll (l.drop i) (l'.drop i) ∧ wr.cell? ⟨Bs, 0, none⟩ = some (sameF Bs) ∧ Below w.heap.size w wr) (fun x _ => l.length - (intOf x).toNat)
  case atStart => exact ⟨0, by omega, rfl, by simp, hs, Below.refl _ _⟩
  case round =>
    obtain ⟨i, hi, rfl, hf, hsw, hb⟩ := hrel
    have HF := Lib.hid hf; clear hf
    have HB := Lib.hid hb; clear hb
    by_cases hlt : i < l.length
    · obtain ⟨t, ht⟩ : ∃ t, l[i]? = some t := ⟨l[i], by simp [hlt]⟩
      have hlt' : i < l'.length := by have := EL.out; omega
      obtain ⟨t', ht'⟩ : ∃ t, l'[i]? = some t := ⟨l'[i], by simp [hlt']⟩
      rcases HL.out with he | ⟨b, o, rfl, hall⟩
      · rw [he] at hlt; simp at hlt
      rcases HL'.out with he | ⟨b', o', rfl, hall'⟩
      · rw [he] at hlt'; simp at hlt'
      obtain ⟨v0, v1, v2, v3, v4, d0, d1, d2, d3, d4, hta⟩ := (hall.on (cell_on HB.out)).kid ht
      obtain ⟨u0, u1, u2, u3, u4, f0, f1, f2, f3, f4, hta'⟩ := (hall'.on (cell_on HB.out)).kid ht'
      obtain ⟨kt, nt, dt, st, lt, pt, capt, hte, rfl, rfl, rfl, rfl, rfl, _, _⟩ := hta.open5
      obtain ⟨ku, nu, du, su, lu, pu, capu, hue, rfl, rfl, rfl, rfl, rfl, _, _⟩ := hta'.open5
      replace f0 := cell_on (box_below wr (.cells #[.int .i64 kt, .int .i64 nt, .int .i64 dt, .string st, .slice pt lt.length capt] 37)) _ _ _ f0
      replace f1 := cell_on (box_below wr (.cells #[.int .i64 kt, .int .i64 nt, .int .i64 dt, .string st, .slice pt lt.length capt] 37)) _ _ _ f1
      replace f2 := cell_on (box_below wr (.cells #[.int .i64 kt, .int .i64 nt, .int .i64 dt, .string st, .slice pt lt.length capt] 37)) _ _ _ f2
      replace f3 := cell_on (box_below wr (.cells #[.int .i64 kt, .int .i64 nt, .int .i64 dt, .string st, .slice pt lt.length capt] 37)) _ _ _ f3
      replace f4 := cell_on (box_below wr (.cells #[.int .i64 kt, .int .i64 nt, .int .i64 dt, .string st, .slice pt lt.length capt] 37)) _ _ _ f4
      have hbt := two_below wr (.cells #[.int .i64 kt, .int .i64 nt, .int .i64 dt, .string st, .slice pt lt.length capt] 37) (.cells #[.int .i64 ku, .int .i64 nu, .int .i64 du, .string su, .slice pu lu.length capu] 37)
      have C := IH.out t (List.mem_of_getElem? ht) t' _ _ _ Bs (hta.below hbt) (hta'.below hbt) (cell_on hbt _ _ _ hsw)
      have HC := Lib.hid C
      have HSW := Lib.hid (cell_on hbt _ _ _ hsw)
      have HBT := Lib.hid hbt
      have HT := Lib.hid ht
      have HT' := Lib.hid ht'
      clear C hta hta' hall hall' hte hue hbt ht ht' hsw
      go_wp2_with fail
      refine (HC.out).mono ?_
      rintro _ w1 ⟨rfl, hb1⟩
      have hsw1 := cell_on hb1 _ _ _ HSW.out
      have HB1 := Lib.hid (below_seq HB.out (below_seq HBT.out hb1)); clear hb1
      cases ha : t.alike t'
      · have HAL := Lib.hid ha; clear ha
        go_wp2_with fail
        go_ret
        exact ⟨ret_bool (by rw [← HR.out, HF.out, Dt.alikeAll_step HT.out HT'.out, HAL.out]; rfl), HB1.out⟩
      · have HAL := Lib.hid ha; clear ha
        go_wp2_with fail
        go_roundw
        case rel => exact ⟨i + 1, by omega, by go_num, by rw [HF.out, Dt.alikeAll_step HT.out HT'.out, HAL.out]; rfl, hsw1, HB1.out⟩
        case measure => simp [intOf]; omega
    · go_wp2_with fail
      go_ret
      exact ⟨ret_bool (by rw [← HR.out, HF.out, Dt.alikeAll_stop (by omega) (by have := EL.out; omega)]), HB.out⟩

set_option maxHeartbeats 2000000 in
set_option maxRecDepth 100000 in
theorem same_any (N : Nat) : ∀ t : Dt, t.size ≤ N → SameAt t := by
  induction N with
  | zero => intro t h; have := t.size_pos; omega
  | succ N ih =>
    intro t hN t' v v' w Bs hat hat' hs
    obtain ⟨k, n, d, s, l⟩ := t
    obtain ⟨k', n', d', s', l'⟩ := t'
    have HAT := Lib.hid hat
    have HAT' := Lib.hid hat'
    unfold Dt.At at hat hat'
    obtain ⟨-, -, -, -, hlm, p, cap, rfl, hl⟩ := hat
    obtain ⟨-, -, -, -, hlm', p', cap', rfl, hl'⟩ := hat'
    have hbt := two_below w (.cells #[.int .i64 k, .int .i64 n, .int .i64 d, .string s, .slice p l.length cap] 37) (.cells #[.int .i64 k', .int .i64 n', .int .i64 d', .string s', .slice p' l'.length cap'] 37)
    by_cases ek : k = k'
    case neg =>
      have q : (k == k') = false := by rw [beq_eq_false_iff_ne]; exact ek
      rw [show (Dt.node k n d s l).alike (.node k' n' d' s' l') = false by unfold Dt.alike; simp [ek]]
      have HBT := Lib.hid hbt
      clear ek hbt hl hl'
      go_enter Try.func38, Try.ntmps38
      go_wp2_with fail
      go_ret
      exact ⟨rfl, HBT.out⟩
    subst ek
    by_cases en : n = n'
    case neg =>
      have q : (n == n') = false := by rw [beq_eq_false_iff_ne]; exact en
      rw [show (Dt.node k n d s l).alike (.node k n' d' s' l') = false by unfold Dt.alike; simp [en]]
      have HBT := Lib.hid hbt
      clear en hbt hl hl'
      go_enter Try.func38, Try.ntmps38
      go_wp2_with fail
      go_ret
      exact ⟨rfl, HBT.out⟩
    subst en
    by_cases ed : d = d'
    case neg =>
      have q : (d == d') = false := by rw [beq_eq_false_iff_ne]; exact ed
      rw [show (Dt.node k n d s l).alike (.node k n d' s' l') = false by unfold Dt.alike; simp [ed]]
      have HBT := Lib.hid hbt
      clear ed hbt hl hl'
      go_enter Try.func38, Try.ntmps38
      go_wp2_with fail
      go_ret
      exact ⟨rfl, HBT.out⟩
    subst ed
    by_cases es : s = s'
    case neg =>
      have q : ¬ s.toList = s'.toList := fun e => es (bytes_inj e)
      rw [show (Dt.node k n d s l).alike (.node k n d s' l') = false by unfold Dt.alike; simp [es]]
      have HBT := Lib.hid hbt
      clear es hbt hl hl'
      go_enter Try.func38, Try.ntmps38
      go_wp2_with fail
      go_ret
      exact ⟨rfl, HBT.out⟩
    subst es
    rw [show (Dt.node k n d s l).alike (.node k n d s l') = Dt.alikeAll l l' by unfold Dt.alike; simp]
    have C := eqf_any l l' (fun t ht => ih t (by obtain ⟨i, hi⟩ := List.mem_iff_getElem?.1 ht; have h1 := Dt.size_kid hi; unfold Dt.size at hN; omega)) p p' cap cap' _ Bs hlm hlm'
      (by rcases hl with hl | ⟨b, o, hp, hall⟩
          · exact Or.inl hl
          · exact Or.inr ⟨b, o, hp, hall.on (cell_on hbt)⟩)
      (by rcases hl' with hl | ⟨b, o, hp, hall⟩
          · exact Or.inl hl
          · exact Or.inr ⟨b, o, hp, hall.on (cell_on hbt)⟩) (cell_on hbt _ _ _ hs)
    have HC := Lib.hid C
    have hs2 := cell_on hbt _ _ _ hs
    have HBT := Lib.hid hbt
    obtain ⟨r, hr⟩ : ∃ r, Dt.alikeAll l l' = r := ⟨_, rfl⟩
    rw [hr] at C ⊢
    have HC := Lib.hid C
    clear C hbt hl hl' ih hN hr hs
    go_enter Try.func38, Try.ntmps38
    go_wp2_with fail
    refine (HC.out).mono ?_
    rintro _ w1 ⟨rfl, hb1⟩
    have HB1 := Lib.hid (below_seq HBT.out hb1); clear hb1
    go_wp2_with fail
    go_ret
    exact ⟨rfl, HB1.out⟩
theorem at_new (w : World) (o : Obj) : (w.alloc o).heap[w.heap.size]? = some o := by
  show (w.heap.push o)[w.heap.size]? = _
  simp
theorem two_first (w : World) (a b : Obj) : ((w.alloc a).alloc b).heap[w.heap.size]? = some a := by
  show ((w.heap.push a).push b)[w.heap.size]? = _
  rw [Array.getElem?_push, if_neg (by simp), Array.getElem?_push, if_pos rfl]
theorem two_second (w : World) (a b : Obj) : ((w.alloc a).alloc b).heap[w.heap.size + 1]? = some b := by
  show ((w.heap.push a).push b)[w.heap.size + 1]? = _
  rw [Array.getElem?_push, if_pos (by simp)]
theorem block_on {w w' : World} {b : Nat} {o : Obj} (h : Below w.heap.size w w') (hb : w.heap[b]? = some o) : w'.heap[b]? = some o :=
  (h.block b (lt_of_block hb)).trans hb

set_option maxHeartbeats 1000000 in
/-- The program's Same, out of what its Right answers. -/
theorem ownSame_any (Q : Dt → Bool) (hQ : ∀ (t : Dt) (v : Value) (w : World), t.At w v → Calls Try.prog 21 #[v] w fun e w' => e = .returned (.bool (Q t)) ∧ Below w.heap.size w w')
    (t t' : Dt) (v v' : Value) (w : World) (hat : t.At w v) (hat' : t'.At w v') :
    Calls Try.prog 23 #[v, v'] w fun e w' => e = .returned (.bool (Q t && Q t' && t.alike t')) ∧ Below w.heap.size w w' := by
  have hmf : ∀ (fn : Fn) (first cap : Array Value) (w : World), (Instr.makeFunc fn first cap).run Try.prog w = .ok (.func fn first cap) w := fun _ _ _ _ => rfl
  have HAT := Lib.hid hat
  have HAT' := Lib.hid hat'
  have C1 := fun w' (h : Below w.heap.size w w') => hQ t v w' (hat.below h)
  have C2 := fun w' (h : Below w.heap.size w w') => hQ t' v' w' (hat'.below h)
  have C3 := fun w' (h : Below w.heap.size w w') Bs hs => same_any _ t (Nat.le_refl _) t' v v' w' Bs (hat.below h) (hat'.below h) hs
  obtain ⟨q1, hq1⟩ : ∃ r, Q t = r := ⟨_, rfl⟩
  obtain ⟨q2, hq2⟩ : ∃ r, Q t' = r := ⟨_, rfl⟩
  obtain ⟨q3, hq3⟩ : ∃ r, t.alike t' = r := ⟨_, rfl⟩
  rw [hq1] at C1 ⊢
  rw [hq2] at C2 ⊢
  rw [hq3] at C3 ⊢
  have HC1 := Lib.hid C1
  have HC2 := Lib.hid C2
  have HC3 := Lib.hid C3
  clear C1 C2 C3 hq1 hq2 hq3 hQ
  obtain ⟨k, n, d, s, l⟩ := t
  obtain ⟨k', n', d', s', l'⟩ := t'
  unfold Dt.At at hat hat'
  obtain ⟨-, -, -, -, hlm, p, cap, rfl, hl⟩ := hat
  obtain ⟨-, -, -, -, hlm', p', cap', rfl, hl'⟩ := hat'
  clear hl hl' hlm hlm'
  have hbt := two_below w (.cells #[.int .i64 k, .int .i64 n, .int .i64 d, .string s, .slice p l.length cap] 37) (.cells #[.int .i64 k', .int .i64 n', .int .i64 d', .string s', .slice p' l'.length cap'] 37)
  have hx1 := two_first w (.cells #[.int .i64 k, .int .i64 n, .int .i64 d, .string s, .slice p l.length cap] 37) (.cells #[.int .i64 k', .int .i64 n', .int .i64 d', .string s', .slice p' l'.length cap'] 37)
  have hx2 := two_second w (.cells #[.int .i64 k, .int .i64 n, .int .i64 d, .string s, .slice p l.length cap] 37) (.cells #[.int .i64 k', .int .i64 n', .int .i64 d', .string s', .slice p' l'.length cap'] 37)
  have HBT := Lib.hid hbt
  have HX1 := Lib.hid hx1
  have HX2 := Lib.hid hx2
  clear hbt hx1 hx2
  go_enter Try.func23, Try.ntmps23
  go_wp2_with fail
  refine (HC1.out _ HBT.out).mono ?_
  rintro _ w1 ⟨rfl, hb1⟩
  have h1 := block_on hb1 HX1.out
  have h2 := block_on hb1 HX2.out
  have HB1 := Lib.hid (below_seq HBT.out hb1); clear hb1
  cases q1
  · clear h1 h2
    go_wp2_with fail
    go_ret
    exact ⟨rfl, HB1.out⟩
  obtain ⟨c0, c1, c2, c3, c4⟩ := box_cells h2
  have H1 := Lib.hid h1
  have H2 := Lib.hid h2
  clear h1 h2
  go_wp2_with fail
  refine (HC2.out _ HB1.out).mono ?_
  rintro _ w2 ⟨rfl, hb2⟩
  have h1 := block_on hb2 H1.out
  have h2 := block_on hb2 H2.out
  have HB2 := Lib.hid (below_seq HB1.out hb2); clear hb2
  clear c0 c1 c2 c3 c4
  cases q2
  · clear h1 h2
    go_wp2_with fail
    go_ret
    exact ⟨rfl, HB2.out⟩
  obtain ⟨c0, c1, c2, c3, c4⟩ := box_cells (block_on (box_below w2 (.cells #[sameF w2.heap.size] 40)) h1)
  obtain ⟨d0, d1, d2, d3, d4⟩ := box_cells (block_on (box_below w2 (.cells #[sameF w2.heap.size] 40)) h2)
  clear h1 h2
  go_wp2_with fail
  refine (HC3.out _ (below_seq HB2.out (box_below _ _)) w2.heap.size ?_).mono ?_
  · exact cell_of_one (at_new _ _)
  rintro _ w3 ⟨rfl, hb3⟩
  have HB3 := Lib.hid (below_seq HB2.out (below_after hb3)); clear hb3
  go_wp2_with fail
  go_ret
  exact ⟨rfl, HB3.out⟩
end Go.Proofs.Ytdeelpagoffdjaa.Dat
