/- What holds of a datum and of all that is in it: the program's own 'all'. -/
import Derived.Test.YtabofebepefbgaaDoorDatH
import Derived.Test.YtabofebepefbgaaDoorDatG
import Derived.Lib.Bytealg
import Derived.Laws.EntriesVeiled
import Derived.Test.YtabofebepefbgaaDoorDatI
import Derived.Lib.SliceRun
import Derived.Deep.RegionHeld3
import Derived.Maps.AppendAt
import Derived.Lib.FrozenHead2
import Derived.Lib.OthersKept
import Derived.Test.YtabofebepefbgaaDoorDatX
import Derived.Deep.LoopGhost
import Derived.Test.YtabofebepefbgaaDoorDatY
import Derived.Test.YtabofebepefbgaaDoorDatZ
import Derived.Test.YtabofebepefbgaaDoorShelf


namespace Go.Proofs.YtabofebepefbgaaDoor.Dat
open Go.RowKit
set_option linter.unusedVariables false

mutual
/-- Something holds of a datum and of all that is in it, and nothing lies deeper than 200. -/
def Dt.whole (h : Dt → Bool) : Dt → Nat → Bool
  | .node k n d s l, deep => decide (deep ≤ 200) && (h (.node k n d s l) && Dt.wholeAll h l (deep + 1))
def Dt.wholeAll (h : Dt → Bool) : List Dt → Nat → Bool
  | [], _ => true
  | t :: r, deep => t.whole h deep && Dt.wholeAll h r deep
end
theorem Dt.wholeAll_step {h : Dt → Bool} {l : List Dt} {i : Nat} {t : Dt} {deep : Nat} (g : l[i]? = some t) : Dt.wholeAll h (l.drop i) deep = (t.whole h deep && Dt.wholeAll h (l.drop (i + 1)) deep) := by
  rw [Dt.drop_at g]; conv => lhs; unfold Dt.wholeAll
theorem Dt.wholeAll_stop {h : Dt → Bool} {l : List Dt} {i : Nat} {deep : Nat} (g : l.length ≤ i) : Dt.wholeAll h (l.drop i) deep = true := by
  rw [List.drop_of_length_le g]; rfl
theorem Dt.whole_deep {h : Dt → Bool} {t : Dt} {deep : Nat} (g : 200 < deep) : t.whole h deep = false := by
  cases t; unfold Dt.whole; rw [decide_eq_false (by omega)]; rfl
theorem Dt.whole_not {h : Dt → Bool} {t : Dt} {deep : Nat} (g : h t = false) : t.whole h deep = false := by
  cases t; unfold Dt.whole; rw [g]; simp
theorem Dt.whole_yes {h : Dt → Bool} {k n d : Int} {s : ByteArray} {l : List Dt} {deep : Nat} (g : h (.node k n d s l) = true) (hd : deep ≤ 200) : (Dt.node k n d s l).whole h deep = Dt.wholeAll h l (deep + 1) := by
  conv => lhs; unfold Dt.whole
  rw [g, decide_eq_true hd]; rfl
def HoldsCall (g : FuncId) (h : Dt → Bool) : Prop := ∀ (t : Dt) (v : Value) (w : World), t.At w v → Calls Tryd.prog g #[v] w fun e w' => e = .returned (.bool (h t)) ∧ Below w.heap.size w w'
/-- A box, and then what a call leaves, from a world on. -/
theorem below_box_call {w wr w1 : World} {o : Obj} (hb : Below w.heap.size w wr) (h : Below (wr.alloc o).heap.size (wr.alloc o) w1) : Below w.heap.size w w1 :=
  hb.trans ((((Below.refl wr.heap.size wr).alloc (Nat.le_refl _) o).trans (h.mono (by show wr.heap.size ≤ (wr.heap.push o).size; simp))).mono hb.size)

theorem within_deep (h : Dt → Bool) (t : Dt) (v : Value) (D : Int) (deep : Nat) (w : World) (a b : Option Addr) (hat : t.At w v) (hD : D = (deep : Int)) (h1 : deep ≤ 201) (h2 : 200 < deep) :
    Calls Tryd.prog 61 #[v, .int .i64 D, .pointer a, .pointer b] w fun e w' => e = .returned (.bool (t.whole h deep)) ∧ Below w.heap.size w w' := by
  rw [Dt.whole_deep h2]
  have D0 : 200 < D := by omega
  have D1 : D ≤ 201 := by omega
  obtain ⟨k, n, d, s, l⟩ := t
  unfold Dt.At at hat
  obtain ⟨-, -, -, -, -, p, cap, rfl, -⟩ := hat
  clear hD h1 h2
  go_enter Tryd.func61, Tryd.ntmps61
  go_wp2
  go_ret
  exact ⟨rfl, box_below _ _⟩

set_option maxHeartbeats 1000000 in
theorem within29_any (h : Dt → Bool) (hh : HoldsCall 39 h) (N : Nat) : ∀ (t : Dt) (v : Value) (D : Int) (deep : Nat) (w : World) (Bh Bw : Nat), t.size ≤ N → t.At w v → D = (deep : Int) → deep ≤ 201 →
    w.cell? ⟨Bh, 0, none⟩ = some (.func (.func 39) #[] #[]) → w.cell? ⟨Bw, 0, none⟩ = some (.func (.func 61) #[] #[.pointer (some ⟨Bh, 0, none⟩), .pointer (some ⟨Bw, 0, none⟩)]) →
    Calls Tryd.prog 61 #[v, .int .i64 D, .pointer (some ⟨Bh, 0, none⟩), .pointer (some ⟨Bw, 0, none⟩)] w fun e w' => e = .returned (.bool (t.whole h deep)) ∧ Below w.heap.size w w' := by
  induction N with
  | zero => intro t v D deep w Bh Bw hN; have := t.size_pos; omega
  | succ N ih =>
    intro t v D deep w Bh Bw hN hat hD h1 hch hcw
    by_cases hdeep : 200 < deep
    · exact within_deep h t v D deep w _ _ hat hD h1 hdeep
    have D0 : 0 ≤ D := by omega
    have D1 : D ≤ 200 := by omega
    have HHC := Lib.hid hh; clear hh
    have IH := Lib.hid ih; clear ih
    have HN := Lib.hid hN; clear hN
    have HD := Lib.hid (show D = (deep : Int) ∧ deep ≤ 200 from ⟨hD, by omega⟩); clear hD h1 hdeep
    have HAT := Lib.hid hat
    obtain ⟨k, n, d, s, l⟩ := t
    unfold Dt.At at hat
    obtain ⟨-, -, -, -, hlm, p, cap, rfl, hl⟩ := hat
    unfold maxLen at hlm
    have HL := Lib.hid hl; clear hl
    have lth := cell_lt hch
    have ltw := cell_lt hcw
    cases hv : h (.node k n d s l)
    · have HV := Lib.hid hv; clear hv
      go_enter Tryd.func61, Tryd.ntmps61
      go_wp2_with fail
      refine (HHC.out _ _ _ ((HAT.out).below (box_below _ _))).mono ?_
      rintro _ w1 ⟨rfl, hb1⟩
      rw [HV.out]
      have HB1 := Lib.hid hb1; clear hb1
      go_wp2_with fail
      go_ret
      exact ⟨ret_bool (by rw [Dt.whole_not HV.out]), below_after HB1.out⟩
    · have HV := Lib.hid hv; clear hv
      go_enter Tryd.func61, Tryd.ntmps61
      go_wp2_with fail
      refine (HHC.out _ _ _ ((HAT.out).below (box_below _ _))).mono ?_
      rintro _ w1 ⟨rfl, hb1⟩
      rw [HV.out]
      have hch1 := cell_on (below_after hb1) _ _ _ hch
      have hcw1 := cell_on (below_after hb1) _ _ _ hcw
      have hc4 := cell_on hb1 w.heap.size 4 (.slice p l.length cap) (by simp)
      have HB1 := Lib.hid (below_after hb1); clear hb1
      go_wp2_with fail
      go_loopw [20] (fun x wr => ∃ (i : Nat), i ≤ l.length ∧ x = .int .i64 i ∧ Dt.wholeAll h l (deep + 1) = Dt.wholeAll h (l.drop i) (deep + 1) ∧ wr.cell? ⟨Bh, 0, none⟩ = some (.func (.func 39) #[] #[]) ∧ wr.cell? ⟨Bw, 0, none⟩ = some (.func (.func 61) #[] #[.pointer (some ⟨Bh, 0, none⟩), .pointer (some ⟨Bw, 0, none⟩)]) ∧ Below w.heap.size w wr) (fun x _ => l.length - (intOf x).toNat)
      case atStart => exact ⟨0, by omega, rfl, by simp, hch1, hcw1, HB1.out⟩
      case round =>
        obtain ⟨i, hi, rfl, hf, ch, cw, hb⟩ := hrel
        have HF := Lib.hid hf; clear hf
        have HB := Lib.hid hb; clear hb
        by_cases hlt : i < l.length
        · obtain ⟨t, ht⟩ : ∃ t, l[i]? = some t := ⟨l[i], by simp [hlt]⟩
          rcases HL.out with he | ⟨b, o, rfl, hall⟩
          · rw [he] at hlt; simp at hlt
          obtain ⟨v0, v1, v2, v3, v4, d0, d1, d2, d3, d4, hta⟩ := (hall.on (cell_on HB.out)).kid ht
          have HT := Lib.hid ht; clear ht
          obtain ⟨kt, nt, dt, st, lt, pt, capt, hte, rfl, rfl, rfl, rfl, rfl, _, _⟩ := hta.open5
          have HA := Lib.hid hta
          clear hta hall hte
          have ch' := cell_on (box_below wr (.cells #[.int .i64 kt, .int .i64 nt, .int .i64 dt, .string st, .slice pt lt.length capt] 24)) _ _ _ ch
          have cw' := cell_on (box_below wr (.cells #[.int .i64 kt, .int .i64 nt, .int .i64 dt, .string st, .slice pt lt.length capt] 24)) _ _ _ cw
          go_wp2_with fail
          refine (IH.out t _ (D + 1) (deep + 1) _ Bh Bw (by have h := HN.out; have g := Dt.size_kid HT.out; unfold Dt.size at h; omega) ((HA.out).below (box_below _ _)) (by have := HD.out; omega) (by have := HD.out; omega) ch' cw').mono ?_
          rintro _ w2 ⟨rfl, hb2⟩
          have ch2 := cell_on hb2 _ _ _ ch'
          have cw2 := cell_on hb2 _ _ _ cw'
          have HB2 := Lib.hid (below_box_call HB.out hb2); clear hb2 ch' cw'
          cases ha : t.whole h (deep + 1)
          · have HAL := Lib.hid ha; clear ha
            go_wp2_with fail
            go_ret
            exact ⟨ret_bool (by rw [Dt.whole_yes HV.out (HD.out).2, HF.out, Dt.wholeAll_step HT.out, HAL.out]; rfl), HB2.out⟩
          · have HAL := Lib.hid ha; clear ha
            go_wp2_with fail
            go_roundw
            case rel => exact ⟨i + 1, by omega, by go_num, by rw [HF.out, Dt.wholeAll_step HT.out, HAL.out]; rfl, ch2, cw2, HB2.out⟩
            case measure => simp [intOf]; omega
        · go_wp2
          go_ret
          exact ⟨ret_bool (by rw [Dt.whole_yes HV.out (HD.out).2, HF.out, Dt.wholeAll_stop (by omega)]), HB.out⟩
end Go.Proofs.YtabofebepefbgaaDoor.Dat

/- The program's own ofName, ofString, Name. -/
namespace Go.Proofs.YtabofebepefbgaaDoor.Dat
open Go.RowKit
set_option linter.unusedVariables false

theorem idx_any (l : List UInt8) (c : UInt8) : decide (0 ≤ Lib.indexByte l c) = l.any (fun m => c == m) := by
  induction l with
  | nil => rfl
  | cons b l ih =>
    unfold Lib.indexByte
    rw [List.any_cons, ← ih]
    have hg := Lib.indexByte_ge l c
    by_cases h : b = c
    · subst h; simp
    · have h1 : (b == c) = false := by rw [beq_eq_false_iff_ne]; exact h
      have h2 : (c == b) = false := by rw [beq_eq_false_iff_ne]; exact fun e => h e.symm
      rw [h1, h2]
      by_cases h3 : Lib.indexByte l c = -1
      · rw [h3]; simp
      · have h4 : (Lib.indexByte l c == -1) = false := by rw [beq_eq_false_iff_ne]; exact h3
        rw [h4, Bool.false_or]
        simp only [Bool.false_eq_true, if_false]
        rw [decide_eq_true (by omega), decide_eq_true (by omega)]
/-- What IndexByte of the library answers. -/
def IdxCall : Prop := ∀ (c : Int) (w : World), Calls Tryd.prog 64 #[.string ⟨#[45, 43, 42, 47, 60, 62, 61, 33, 63, 95, 37]⟩, .int .u8 c] w fun e w' => e = .returned (.int .i64 (Lib.indexByte [45, 43, 42, 47, 60, 62, 61, 33, 63, 95, 37] c.toNat.toUInt8)) ∧ w' = w

set_option maxHeartbeats 400000 in
theorem ofName_any (hI : IdxCall) (c : UInt8) (w : World) :
    Calls Tryd.prog 51 #[.int .u8 (c.toNat : Int)] w fun e w' => e = .returned (.bool (nameChar c)) ∧ w = w' := by
  have hc : c.toNat < 256 := c.toNat_lt
  obtain ⟨z, hz⟩ : ∃ z : Int, (c.toNat : Int) = z := ⟨_, rfl⟩
  have ways : ((97 ≤ z ∧ z ≤ 122) ∧ plainChar c = true) ∨ ((48 ≤ z ∧ z ≤ 57) ∧ plainChar c = true) ∨ (122 < z ∧ plainChar c = false) ∨ ((57 < z ∧ z < 97) ∧ plainChar c = false) ∨ (z < 48 ∧ plainChar c = false) := by
    unfold plainChar
    by_cases a1 : 97 ≤ c.toNat <;> by_cases a2 : c.toNat ≤ 122 <;> by_cases a3 : 48 ≤ c.toNat <;> by_cases a4 : c.toNat ≤ 57 <;> simp [a1, a2, a3, a4] <;> omega
  have hidx : decide (0 ≤ Lib.indexByte [45, 43, 42, 47, 60, 62, 61, 33, 63, 95, 37] c) = markB.data.toList.any (fun m => c == m) := idx_any _ c
  have C := hI z w
  have hzc : z.toNat.toUInt8 = c := by rw [← hz]; simp
  rw [hzc] at C
  have hge := Lib.indexByte_ge [45, 43, 42, 47, 60, 62, 61, 33, 63, 95, 37] c
  obtain ⟨r, hr⟩ : ∃ r, Lib.indexByte [45, 43, 42, 47, 60, 62, 61, 33, 63, 95, 37] c = r := ⟨_, rfl⟩
  rw [hr] at C hidx hge
  rw [hz]
  have HC := Lib.hid C; clear C
  have z0 : 0 ≤ z := by omega
  have z1 : z ≤ 255 := by omega
  clear hr hzc hI hz hc
  rcases ways with ⟨⟨q1, q2⟩, hp⟩ | ⟨⟨q1, q2⟩, hp⟩ | ways
  · have HP := Lib.hid hp; clear hp
    have HX := Lib.hid hidx; clear hidx
    go_enter Tryd.func51, Tryd.ntmps51
    go_wp2_with fail
    go_ret
    exact ⟨ret_bool (by unfold nameChar; rw [HP.out]; rfl), rfl⟩
  · have HP := Lib.hid hp; clear hp
    have HX := Lib.hid hidx; clear hidx
    go_enter Tryd.func51, Tryd.ntmps51
    go_wp2_with fail
    go_ret
    exact ⟨ret_bool (by unfold nameChar; rw [HP.out]; rfl), rfl⟩
  · by_cases hr0 : 0 ≤ r
    · have ht : nameChar c = true := by
        unfold nameChar; rw [← hidx, decide_eq_true hr0, Bool.or_true]
      have HT := Lib.hid ht; clear ht hidx
      rcases ways with ⟨q1, hp⟩ | ⟨⟨q1, q2⟩, hp⟩ | ⟨q1, hp⟩
      all_goals
        clear hp
        go_enter Tryd.func51, Tryd.ntmps51
        go_wp2_with fail
        refine (HC.out).mono ?_
        rintro _ w' ⟨rfl, rfl⟩
        go_wp2_with fail
        go_ret
        exact ⟨ret_bool (by rw [HT.out]), rfl⟩
    · have HX := Lib.hid hidx; clear hidx
      have hr1 : r < 0 := by omega
      rcases ways with ⟨q1, hp⟩ | ⟨⟨q1, q2⟩, hp⟩ | ⟨q1, hp⟩
      all_goals
        have ht : nameChar c = false := by
          unfold nameChar; rw [hp, ← HX.out, decide_eq_false hr0]; rfl
        have HT := Lib.hid ht; clear ht hp hr0
        go_enter Tryd.func51, Tryd.ntmps51
        go_wp2_with fail
        refine (HC.out).mono ?_
        rintro _ w' ⟨rfl, rfl⟩
        go_wp2_with fail
        go_ret
        exact ⟨ret_bool (by rw [HT.out]; first | (simp only [Bool.or_eq_false_iff, decide_eq_false_iff_not]; omega) | (rw [decide_eq_false_iff_not]; omega)), rfl⟩

set_option maxHeartbeats 1000000 in
theorem ofString_any (s : ByteArray) (r : Bool) (hr : s.data.toList.all strChar = r) (hs : s.size ≤ maxLen) (w : World) :
    Calls Tryd.prog 63 #[.string s] w fun e w' => e = .returned (.bool r) ∧ w = w' := by
  unfold maxLen at hs
  have HR := Lib.hid hr; clear hr
  go_enter Tryd.func63, Tryd.ntmps63
  go_wp2_with fail
  go_loop [6] (fun x => ∃ i : Nat, i ≤ s.size ∧ x = .int .i64 i ∧ (s.data.toList.take i).all strChar = true) (fun x => s.size - (intOf x).toNat)
  case atStart => exact ⟨0, by omega, rfl, rfl⟩
  case round =>
    obtain ⟨i, hi, rfl, hall⟩ := hrel
    have HA := Lib.hid hall; clear hall
    by_cases hlt : i < s.size
    · have HT := Lib.hid (take_snoc s i hlt)
      have hb : s[i].toNat < 256 := s[i].toNat_lt
      have ways : (((s[i].toNat : Int) < 32) ∧ strChar s[i] = false) ∨ ((126 < (s[i].toNat : Int)) ∧ strChar s[i] = false) ∨ ((s[i].toNat : Int) = 34 ∧ strChar s[i] = false) ∨ ((s[i].toNat : Int) = 92 ∧ strChar s[i] = false) ∨
          ((32 ≤ (s[i].toNat : Int) ∧ (s[i].toNat : Int) ≤ 126 ∧ (s[i].toNat : Int) ≠ 34 ∧ (s[i].toNat : Int) ≠ 92) ∧ strChar s[i] = true) := by
        unfold strChar
        by_cases a1 : 32 ≤ s[i].toNat <;> by_cases a2 : s[i].toNat ≤ 126 <;> by_cases a3 : s[i].toNat = 34 <;> by_cases a4 : s[i].toNat = 92 <;> simp [a1, a2, a3, a4] <;> omega
      rcases ways with ⟨q, hp⟩ | ⟨q, hp⟩ | ⟨q, hp⟩ | ⟨q, hp⟩ | ⟨⟨q1, q2, q3, q4⟩, hp⟩
      case inr.inr.inr.inr =>
        have HP := Lib.hid hp; clear hp
        have g3 : ((s[i].toNat : Int) == 34) = false := by rw [beq_eq_false_iff_ne]; exact q3
        have g4 : ((s[i].toNat : Int) == 92) = false := by rw [beq_eq_false_iff_ne]; exact q4
        clear q3 q4
        go_wp2_with fail
        go_round
        case rel => exact ⟨i + 1, by omega, by go_num, by rw [HT.out, List.all_append, HA.out]; simp [HP.out]⟩
        case measure => simp [intOf]; omega
      case inl =>
        have HN := Lib.hid (str_no hlt hp); clear hp
        go_wp2_with fail
        go_ret
        exact ⟨ret_bool (HN.out.symm.trans HR.out), rfl⟩
      case inr.inl =>
        have HN := Lib.hid (str_no hlt hp); clear hp
        have q0 : 32 ≤ (s[i].toNat : Int) := by omega
        go_wp2_with fail
        go_ret
        exact ⟨ret_bool (HN.out.symm.trans HR.out), rfl⟩
      case inr.inr.inl =>
        have HN := Lib.hid (str_no hlt hp); clear hp
        have q0 : 32 ≤ (s[i].toNat : Int) := by omega
        have q1 : (s[i].toNat : Int) ≤ 126 := by omega
        have g3 : ((s[i].toNat : Int) == 34) = true := by rw [beq_iff_eq]; exact q
        clear q
        go_wp2_with fail
        go_ret
        exact ⟨ret_bool (HN.out.symm.trans HR.out), rfl⟩
      case inr.inr.inr.inl =>
        have HN := Lib.hid (str_no hlt hp); clear hp
        have q0 : 32 ≤ (s[i].toNat : Int) := by omega
        have q1 : (s[i].toNat : Int) ≤ 126 := by omega
        have g3 : ((s[i].toNat : Int) == 34) = false := by rw [beq_eq_false_iff_ne]; omega
        have g4 : ((s[i].toNat : Int) == 92) = true := by rw [beq_iff_eq]; exact q
        clear q
        go_wp2_with fail
        go_ret
        exact ⟨ret_bool (HN.out.symm.trans HR.out), rfl⟩
    · go_wp2_with fail
      go_ret
      refine ⟨ret_bool ?_, rfl⟩
      have h := HA.out
      rw [List.take_of_length_le (by rw [← Lib.size_eq]; omega)] at h
      exact h.symm.trans HR.out

theorem name_no {s : ByteArray} {i : Nat} (h : i < s.size) (hc : nameChar s[i] = false) : s.data.toList.all nameChar = false := by
  rw [Bool.eq_false_iff]
  intro ha
  have := List.all_eq_true.1 ha s[i] (List.mem_of_getElem? (at_some s i h))
  rw [hc] at this; cases this

set_option maxHeartbeats 1000000 in
theorem Name_any (hI : IdxCall) (P : ByteArray → Int × Int × Bool) (hp : ∀ (s : ByteArray) (w : World), s.size ≤ maxLen → Calls Tryd.prog 52 #[.string s] w fun e w' => e = .returned (.tuple #[.int .i64 (P s).1, .int .i64 (P s).2.1, .bool (P s).2.2]) ∧ ∃ k, w' = w.drewN k)
    (s : ByteArray) (hs : s.size ≤ maxLen) (w : World) :
    Calls Tryd.prog 25 #[.string s] w fun e w' => e = .returned (.bool (decide (1 ≤ s.size) && decide (s.size ≤ 40) && s.data.toList.all nameChar && !(P s).2.2)) ∧ ∃ k, w' = w.drewN k := by
  have HP := Lib.hid hp; clear hp
  have HS := Lib.hid hs
  unfold maxLen at hs
  by_cases h0 : s.size < 1
  · go_enter Tryd.func25, Tryd.ntmps25
    go_wp2
    go_ret
    exact ⟨ret_bool (by rw [decide_eq_false (by omega : ¬ 1 ≤ s.size)]; rfl), 0, rfl⟩
  by_cases h1 : 40 < s.size
  · go_enter Tryd.func25, Tryd.ntmps25
    go_wp2
    go_ret
    exact ⟨ret_bool (by rw [decide_eq_false (by omega : ¬ s.size ≤ 40)]; simp), 0, rfl⟩
  go_enter Tryd.func25, Tryd.ntmps25
  go_wp2_with fail
  go_loop [17] (fun x => ∃ i : Nat, i ≤ s.size ∧ x = .int .i64 i ∧ (s.data.toList.take i).all nameChar = true) (fun x => s.size - (intOf x).toNat)
  case atStart => exact ⟨0, by omega, rfl, rfl⟩
  case round =>
    obtain ⟨i, hi, rfl, hall⟩ := hrel
    have HA := Lib.hid hall; clear hall
    by_cases hlt : i < s.size
    · have HT := Lib.hid (take_snoc s i hlt)
      cases hn : nameChar s[i]
      · have HN := Lib.hid (name_no hlt hn)
        have HH := Lib.hid hn; clear hn
        go_wp2_with fail
        refine (ofName_any hI s[i] _).mono ?_
        rintro _ w' ⟨rfl, rfl⟩
        rw [HH.out]
        go_wp2_with fail
        go_ret
        exact ⟨ret_bool (by rw [HN.out]; simp), 0, rfl⟩
      · have HH := Lib.hid hn; clear hn
        go_wp2_with fail
        refine (ofName_any hI s[i] _).mono ?_
        rintro _ w' ⟨rfl, rfl⟩
        rw [HH.out]
        go_wp2_with fail
        go_round
        case rel => exact ⟨i + 1, by omega, by go_num, by rw [HT.out, List.all_append, HA.out]; simp [HH.out]⟩
        case measure => simp [intOf]; omega
    · have hall : s.data.toList.all nameChar = true := by
        have h := HA.out
        rw [List.take_of_length_le (by rw [← Lib.size_eq]; omega)] at h; exact h
      have HALL := Lib.hid hall; clear hall
      have C := HP.out s w HS.out
      obtain ⟨r, hr⟩ : ∃ r, P s = r := ⟨_, rfl⟩
      rw [hr] at C
      have HC := Lib.hid C; clear C
      have HR := Lib.hid hr; clear hr
      go_wp2_with fail
      refine (HC.out).mono ?_
      rintro _ w' ⟨rfl, k, rfl⟩
      go_wp2_with fail
      go_ret
      refine ⟨ret_bool ?_, _, rfl⟩
      rw [HALL.out, HR.out, decide_eq_true (by omega : 1 ≤ s.size), decide_eq_true (by omega : s.size ≤ 40)]; rfl
end Go.Proofs.YtabofebepefbgaaDoor.Dat

/- The program's own apart: what is asked of a datum itself. -/
namespace Go.Proofs.YtabofebepefbgaaDoor.Dat
open Go.RowKit
set_option linter.unusedVariables false

/-- What the calls below answer: Right of numbers, Name. -/
def NumRight (R : Int → Int → Bool) : Prop := ∀ (n d : Int) (w : World), I64 n → I64 d → Calls Tryd.prog 62 #[.int .i64 n, .int .i64 d] w fun e w' => e = .returned (.bool (R n d)) ∧ w = w'
def NameIs (Nm : ByteArray → Bool) : Prop := ∀ (s : ByteArray) (w : World), s.size ≤ maxLen → Calls Tryd.prog 25 #[.string s] w fun e w' => e = .returned (.bool (Nm s)) ∧ Below w.heap.size w w'
/-- A name's bytes may stand in a string. -/
def NameSub (Nm : ByteArray → Bool) : Prop := ∀ s, Nm s = true → s.data.toList.all strChar = true
/-- What is asked of the datum itself. -/
def headOf (R : Int → Int → Bool) (Nm : ByteArray → Bool) : Dt → Bool
  | .node k n d s l => headRight R Nm k n d s l.length

set_option maxHeartbeats 4000000 in
set_option maxRecDepth 100000 in
theorem apart_k0 (R : Int → Int → Bool) (Nm : ByteArray → Bool) (hR : NumRight R) (hN : NameIs Nm) (hsub : NameSub Nm) (n d : Int) (s : ByteArray) (l : List Dt) (p : Option Addr) (cap : Nat) (w : World) (hn : I64 n) (hd : I64 d) (hs : s.size ≤ maxLen) (hlm : l.length ≤ maxLen) :
    Calls Tryd.prog 39 #[.agg #[.int .i64 0, .int .i64 n, .int .i64 d, .string s, .slice p l.length cap]] w fun e w' => e = .returned (.bool (headRight R Nm 0 n d s l.length)) ∧ Below w.heap.size w w' := by
  have HRC := Lib.hid hR; clear hR
  have HNC := Lib.hid hN; clear hN
  have HS := Lib.hid hs; clear hs
  unfold maxLen at hlm
  cases hv : R n d
  · have HV := Lib.hid hv
    have e := hv; clear hv
    rw [show headRight R Nm 0 _ _ _ _ = false from by unfold headRight; first | (simp [e]; done) | (simp [e]; rfl)]
    try clear hsub
    try clear hno
    try clear hstr
    go_enter Tryd.func39, Tryd.ntmps39
    go_wp2_with fail
    refine (HRC.out n d _ hn hd).mono ?_
    rintro _ w' ⟨rfl, rfl⟩
    rw [HV.out]
    go_wp2_with fail
    go_ret
    exact ⟨rfl, by first | exact box_below _ _ | exact below_box _ _ _⟩
  · have HV := Lib.hid hv
    have e := hv; clear hv
    by_cases hs0 : s.size = 0
    case neg =>
      have q : ¬ s.toList = (⟨#[]⟩ : ByteArray).toList := fun e => hs0 (by rw [bytes_inj e]; rfl)
      have q2 : s.toList ≠ [] := fun e => hs0 (by rw [Lib.size_eq, ← Lib.toList_data, e]; rfl)
      have q3 : s.toList.isEmpty = false := by cases hq : s.toList with
        | nil => exact absurd hq q2
        | cons _ _ => rfl
      rw [show headRight R Nm 0 _ _ _ _ = false from by unfold headRight; first | (simp [e, hs0]; done) | (simp [e, hs0]; rfl)]
      try clear hsub
      try clear hno
      try clear hstr
      go_enter Tryd.func39, Tryd.ntmps39
      go_wp2_with fail
      refine (HRC.out n d _ hn hd).mono ?_
      rintro _ w' ⟨rfl, rfl⟩
      rw [HV.out]
      go_wp2_with fail
      go_ret
      exact ⟨rfl, by first | exact box_below _ _ | exact below_box _ _ _⟩
    obtain rfl : s = ⟨#[]⟩ := bytes_empty hs0
    clear hs0
    by_cases hl0 : l.length = 0
    case neg =>
      have hl1 : 1 ≤ l.length := by omega
      have ql : ((l.length : Int) == 0) = false := by rw [beq_eq_false_iff_ne]; omega
      rw [show headRight R Nm 0 _ _ _ _ = false from by unfold headRight; first | (simp [e, hl0]; done) | (simp [e, hl0]; rfl)]
      try clear hsub
      try clear hno
      try clear hstr
      go_enter Tryd.func39, Tryd.ntmps39
      go_wp2_with fail
      refine (HRC.out n d _ hn hd).mono ?_
      rintro _ w' ⟨rfl, rfl⟩
      rw [HV.out]
      go_wp2_with fail
      go_ret
      exact ⟨rfl, by first | exact box_below _ _ | exact below_box _ _ _⟩
    obtain rfl : l = [] := List.length_eq_zero_iff.1 hl0
    clear hl0
    rw [show headRight R Nm 0 _ _ _ _ = true from by unfold headRight; first | (simp [e]; done) | (simp [e]; rfl)]
    try clear hsub
    try clear hno
    try clear hstr
    go_enter Tryd.func39, Tryd.ntmps39
    go_wp2_with fail
    refine (HRC.out n d _ hn hd).mono ?_
    rintro _ w' ⟨rfl, rfl⟩
    rw [HV.out]
    go_wp2_with fail
    go_ret
    exact ⟨rfl, by first | exact box_below _ _ | exact below_box _ _ _⟩

set_option maxHeartbeats 4000000 in
set_option maxRecDepth 100000 in
theorem apart_k1 (R : Int → Int → Bool) (Nm : ByteArray → Bool) (hR : NumRight R) (hN : NameIs Nm) (hsub : NameSub Nm) (n d : Int) (s : ByteArray) (l : List Dt) (p : Option Addr) (cap : Nat) (w : World) (hn : I64 n) (hd : I64 d) (hs : s.size ≤ maxLen) (hlm : l.length ≤ maxLen) :
    Calls Tryd.prog 39 #[.agg #[.int .i64 1, .int .i64 n, .int .i64 d, .string s, .slice p l.length cap]] w fun e w' => e = .returned (.bool (headRight R Nm 1 n d s l.length)) ∧ Below w.heap.size w w' := by
  have HRC := Lib.hid hR; clear hR
  have HNC := Lib.hid hN; clear hN
  have HS := Lib.hid hs; clear hs
  unfold maxLen at hlm
  by_cases en : n = 0 ∨ n = 1
  case neg =>
    obtain ⟨e0, e1⟩ := not_or.1 en
    have q0 : (n == 0) = false := by rw [beq_eq_false_iff_ne]; exact e0
    have q1 : (n == 1) = false := by rw [beq_eq_false_iff_ne]; exact e1
    clear en
    rw [show headRight R Nm 1 _ _ _ _ = false from by unfold headRight; first | (simp [e0, e1]; done) | (simp [e0, e1]; rfl)]
    try clear hsub
    try clear hno
    try clear hstr
    go_enter Tryd.func39, Tryd.ntmps39
    go_wp2_with fail
    go_ret
    exact ⟨rfl, by first | exact box_below _ _ | exact below_box _ _ _⟩
  rcases en with rfl | rfl
  ·
    by_cases ed : d = 0
    case neg =>
      have qd : (d == 0) = false := by rw [beq_eq_false_iff_ne]; exact ed
      rw [show headRight R Nm 1 _ _ _ _ = false from by unfold headRight; first | (simp [ed]; done) | (simp [ed]; rfl)]
      try clear hsub
      try clear hno
      try clear hstr
      go_enter Tryd.func39, Tryd.ntmps39
      go_wp2_with fail
      go_ret
      exact ⟨rfl, by first | exact box_below _ _ | exact below_box _ _ _⟩
    subst ed
    by_cases hs0 : s.size = 0
    case neg =>
      have q : ¬ s.toList = (⟨#[]⟩ : ByteArray).toList := fun e => hs0 (by rw [bytes_inj e]; rfl)
      have q2 : s.toList ≠ [] := fun e => hs0 (by rw [Lib.size_eq, ← Lib.toList_data, e]; rfl)
      have q3 : s.toList.isEmpty = false := by cases hq : s.toList with
        | nil => exact absurd hq q2
        | cons _ _ => rfl
      rw [show headRight R Nm 1 _ _ _ _ = false from by unfold headRight; first | (simp [hs0]; done) | (simp [hs0]; rfl)]
      try clear hsub
      try clear hno
      try clear hstr
      go_enter Tryd.func39, Tryd.ntmps39
      go_wp2_with fail
      go_ret
      exact ⟨rfl, by first | exact box_below _ _ | exact below_box _ _ _⟩
    obtain rfl : s = ⟨#[]⟩ := bytes_empty hs0
    clear hs0
    by_cases hl0 : l.length = 0
    case neg =>
      have hl1 : 1 ≤ l.length := by omega
      have ql : ((l.length : Int) == 0) = false := by rw [beq_eq_false_iff_ne]; omega
      rw [show headRight R Nm 1 _ _ _ _ = false from by unfold headRight; first | (simp [hl0]; done) | (simp [hl0]; rfl)]
      try clear hsub
      try clear hno
      try clear hstr
      go_enter Tryd.func39, Tryd.ntmps39
      go_wp2_with fail
      go_ret
      exact ⟨rfl, by first | exact box_below _ _ | exact below_box _ _ _⟩
    obtain rfl : l = [] := List.length_eq_zero_iff.1 hl0
    clear hl0
    rw [show headRight R Nm 1 _ _ _ _ = true from by unfold headRight; first | (simp; done) | (simp; rfl)]
    try clear hsub
    try clear hno
    try clear hstr
    go_enter Tryd.func39, Tryd.ntmps39
    go_wp2_with fail
    go_ret
    exact ⟨rfl, by first | exact box_below _ _ | exact below_box _ _ _⟩
  ·
    by_cases ed : d = 0
    case neg =>
      have qd : (d == 0) = false := by rw [beq_eq_false_iff_ne]; exact ed
      rw [show headRight R Nm 1 _ _ _ _ = false from by unfold headRight; first | (simp [ed]; done) | (simp [ed]; rfl)]
      try clear hsub
      try clear hno
      try clear hstr
      go_enter Tryd.func39, Tryd.ntmps39
      go_wp2_with fail
      go_ret
      exact ⟨rfl, by first | exact box_below _ _ | exact below_box _ _ _⟩
    subst ed
    by_cases hs0 : s.size = 0
    case neg =>
      have q : ¬ s.toList = (⟨#[]⟩ : ByteArray).toList := fun e => hs0 (by rw [bytes_inj e]; rfl)
      have q2 : s.toList ≠ [] := fun e => hs0 (by rw [Lib.size_eq, ← Lib.toList_data, e]; rfl)
      have q3 : s.toList.isEmpty = false := by cases hq : s.toList with
        | nil => exact absurd hq q2
        | cons _ _ => rfl
      rw [show headRight R Nm 1 _ _ _ _ = false from by unfold headRight; first | (simp [hs0]; done) | (simp [hs0]; rfl)]
      try clear hsub
      try clear hno
      try clear hstr
      go_enter Tryd.func39, Tryd.ntmps39
      go_wp2_with fail
      go_ret
      exact ⟨rfl, by first | exact box_below _ _ | exact below_box _ _ _⟩
    obtain rfl : s = ⟨#[]⟩ := bytes_empty hs0
    clear hs0
    by_cases hl0 : l.length = 0
    case neg =>
      have hl1 : 1 ≤ l.length := by omega
      have ql : ((l.length : Int) == 0) = false := by rw [beq_eq_false_iff_ne]; omega
      rw [show headRight R Nm 1 _ _ _ _ = false from by unfold headRight; first | (simp [hl0]; done) | (simp [hl0]; rfl)]
      try clear hsub
      try clear hno
      try clear hstr
      go_enter Tryd.func39, Tryd.ntmps39
      go_wp2_with fail
      go_ret
      exact ⟨rfl, by first | exact box_below _ _ | exact below_box _ _ _⟩
    obtain rfl : l = [] := List.length_eq_zero_iff.1 hl0
    clear hl0
    rw [show headRight R Nm 1 _ _ _ _ = true from by unfold headRight; first | (simp; done) | (simp; rfl)]
    try clear hsub
    try clear hno
    try clear hstr
    go_enter Tryd.func39, Tryd.ntmps39
    go_wp2_with fail
    go_ret
    exact ⟨rfl, by first | exact box_below _ _ | exact below_box _ _ _⟩

set_option maxHeartbeats 4000000 in
set_option maxRecDepth 100000 in
theorem apart_k2 (R : Int → Int → Bool) (Nm : ByteArray → Bool) (hR : NumRight R) (hN : NameIs Nm) (hsub : NameSub Nm) (n d : Int) (s : ByteArray) (l : List Dt) (p : Option Addr) (cap : Nat) (w : World) (hn : I64 n) (hd : I64 d) (hs : s.size ≤ maxLen) (hlm : l.length ≤ maxLen) :
    Calls Tryd.prog 39 #[.agg #[.int .i64 2, .int .i64 n, .int .i64 d, .string s, .slice p l.length cap]] w fun e w' => e = .returned (.bool (headRight R Nm 2 n d s l.length)) ∧ Below w.heap.size w w' := by
  have HRC := Lib.hid hR; clear hR
  have HNC := Lib.hid hN; clear hN
  have HS := Lib.hid hs; clear hs
  unfold maxLen at hlm
  cases hv : Nm s
  · have HV := Lib.hid hv
    have e := hv; clear hv
    rw [show headRight R Nm 2 _ _ _ _ = false from by unfold headRight; first | (simp [e]; done) | (simp [e]; rfl)]
    try clear hsub
    try clear hno
    try clear hstr
    go_enter Tryd.func39, Tryd.ntmps39
    go_wp2_with fail
    refine (HNC.out s _ HS.out).mono ?_
    rintro _ w1 ⟨rfl, hb1⟩
    rw [HV.out]
    obtain ⟨c0, c1, c2, c3, c4⟩ := box_cells (one_box hb1)
    have z3 := box_frozen (one_box hb1) 3
    have HB1 := Lib.hid (below_after hb1); clear hb1
    go_wp2_with fail
    go_ret
    exact ⟨rfl, (HB1.out).setCell (Nat.le_refl _) _⟩
  · have HV := Lib.hid hv
    have hstr := hsub s hv
    have e := hv; clear hv
    by_cases en : n = 0
    case neg =>
      have qn : (n == 0) = false := by rw [beq_eq_false_iff_ne]; exact en
      rw [show headRight R Nm 2 _ _ _ _ = false from by unfold headRight; first | (simp [e, hstr, en]; done) | (simp [e, hstr, en]; rfl)]
      try clear hsub
      try clear hno
      try clear hstr
      go_enter Tryd.func39, Tryd.ntmps39
      go_wp2_with fail
      refine (HNC.out s _ HS.out).mono ?_
      rintro _ w1 ⟨rfl, hb1⟩
      rw [HV.out]
      obtain ⟨c0, c1, c2, c3, c4⟩ := box_cells (one_box hb1)
      have z3 := box_frozen (one_box hb1) 3
      have HB1 := Lib.hid (below_after hb1); clear hb1
      go_wp2_with fail
      go_ret
      exact ⟨rfl, (HB1.out).setCell (Nat.le_refl _) _⟩
    subst en
    by_cases ed : d = 0
    case neg =>
      have qd : (d == 0) = false := by rw [beq_eq_false_iff_ne]; exact ed
      rw [show headRight R Nm 2 _ _ _ _ = false from by unfold headRight; first | (simp [e, hstr, ed]; done) | (simp [e, hstr, ed]; rfl)]
      try clear hsub
      try clear hno
      try clear hstr
      go_enter Tryd.func39, Tryd.ntmps39
      go_wp2_with fail
      refine (HNC.out s _ HS.out).mono ?_
      rintro _ w1 ⟨rfl, hb1⟩
      rw [HV.out]
      obtain ⟨c0, c1, c2, c3, c4⟩ := box_cells (one_box hb1)
      have z3 := box_frozen (one_box hb1) 3
      have HB1 := Lib.hid (below_after hb1); clear hb1
      go_wp2_with fail
      go_ret
      exact ⟨rfl, (HB1.out).setCell (Nat.le_refl _) _⟩
    subst ed
    by_cases hl0 : l.length = 0
    case neg =>
      have hl1 : 1 ≤ l.length := by omega
      have ql : ((l.length : Int) == 0) = false := by rw [beq_eq_false_iff_ne]; omega
      rw [show headRight R Nm 2 _ _ _ _ = false from by unfold headRight; first | (simp [e, hstr, hl0]; done) | (simp [e, hstr, hl0]; rfl)]
      try clear hsub
      try clear hno
      try clear hstr
      go_enter Tryd.func39, Tryd.ntmps39
      go_wp2_with fail
      refine (HNC.out s _ HS.out).mono ?_
      rintro _ w1 ⟨rfl, hb1⟩
      rw [HV.out]
      obtain ⟨c0, c1, c2, c3, c4⟩ := box_cells (one_box hb1)
      have z3 := box_frozen (one_box hb1) 3
      have HB1 := Lib.hid (below_after hb1); clear hb1
      go_wp2_with fail
      go_ret
      exact ⟨rfl, (HB1.out).setCell (Nat.le_refl _) _⟩
    obtain rfl : l = [] := List.length_eq_zero_iff.1 hl0
    clear hl0
    rw [show headRight R Nm 2 _ _ _ _ = true from by unfold headRight; first | (simp [e, hstr]; done) | (simp [e, hstr]; rfl)]
    try clear hsub
    try clear hno
    try clear hstr
    go_enter Tryd.func39, Tryd.ntmps39
    go_wp2_with fail
    refine (HNC.out s _ HS.out).mono ?_
    rintro _ w1 ⟨rfl, hb1⟩
    rw [HV.out]
    obtain ⟨c0, c1, c2, c3, c4⟩ := box_cells (one_box hb1)
    have z3 := box_frozen (one_box hb1) 3
    have HB1 := Lib.hid (below_after hb1); clear hb1
    go_wp2_with fail
    go_ret
    exact ⟨rfl, (HB1.out).setCell (Nat.le_refl _) _⟩

set_option maxHeartbeats 4000000 in
set_option maxRecDepth 100000 in
theorem apart_k3 (R : Int → Int → Bool) (Nm : ByteArray → Bool) (hR : NumRight R) (hN : NameIs Nm) (hsub : NameSub Nm) (n d : Int) (s : ByteArray) (l : List Dt) (p : Option Addr) (cap : Nat) (w : World) (hn : I64 n) (hd : I64 d) (hs : s.size ≤ maxLen) (hlm : l.length ≤ maxLen) :
    Calls Tryd.prog 39 #[.agg #[.int .i64 3, .int .i64 n, .int .i64 d, .string s, .slice p l.length cap]] w fun e w' => e = .returned (.bool (headRight R Nm 3 n d s l.length)) ∧ Below w.heap.size w w' := by
  have HRC := Lib.hid hR; clear hR
  have HNC := Lib.hid hN; clear hN
  have HS := Lib.hid hs; clear hs
  unfold maxLen at hlm
  cases hv : s.data.toList.all strChar
  · have HV := Lib.hid hv
    have e := hv; clear hv
    rw [show headRight R Nm 3 _ _ _ _ = false from by unfold headRight; first | (simp [e]; done) | (simp [e]; rfl)]
    try clear hsub
    try clear hno
    try clear hstr
    go_enter Tryd.func39, Tryd.ntmps39
    go_wp2_with fail
    refine (ofString_any s _ HV.out HS.out _).mono ?_
    rintro _ w' ⟨rfl, rfl⟩
    go_wp2_with fail
    go_ret
    exact ⟨rfl, by first | exact box_below _ _ | exact below_box _ _ _⟩
  · have HV := Lib.hid hv
    have e := hv; clear hv
    by_cases en : n = 0
    case neg =>
      have qn : (n == 0) = false := by rw [beq_eq_false_iff_ne]; exact en
      rw [show headRight R Nm 3 _ _ _ _ = false from by unfold headRight; first | (simp [e, en]; done) | (simp [e, en]; rfl)]
      try clear hsub
      try clear hno
      try clear hstr
      go_enter Tryd.func39, Tryd.ntmps39
      go_wp2_with fail
      refine (ofString_any s _ HV.out HS.out _).mono ?_
      rintro _ w' ⟨rfl, rfl⟩
      go_wp2_with fail
      go_ret
      exact ⟨rfl, by first | exact box_below _ _ | exact below_box _ _ _⟩
    subst en
    by_cases ed : d = 0
    case neg =>
      have qd : (d == 0) = false := by rw [beq_eq_false_iff_ne]; exact ed
      rw [show headRight R Nm 3 _ _ _ _ = false from by unfold headRight; first | (simp [e, ed]; done) | (simp [e, ed]; rfl)]
      try clear hsub
      try clear hno
      try clear hstr
      go_enter Tryd.func39, Tryd.ntmps39
      go_wp2_with fail
      refine (ofString_any s _ HV.out HS.out _).mono ?_
      rintro _ w' ⟨rfl, rfl⟩
      go_wp2_with fail
      go_ret
      exact ⟨rfl, by first | exact box_below _ _ | exact below_box _ _ _⟩
    subst ed
    by_cases hl0 : l.length = 0
    case neg =>
      have hl1 : 1 ≤ l.length := by omega
      have ql : ((l.length : Int) == 0) = false := by rw [beq_eq_false_iff_ne]; omega
      rw [show headRight R Nm 3 _ _ _ _ = false from by unfold headRight; first | (simp [e, hl0]; done) | (simp [e, hl0]; rfl)]
      try clear hsub
      try clear hno
      try clear hstr
      go_enter Tryd.func39, Tryd.ntmps39
      go_wp2_with fail
      refine (ofString_any s _ HV.out HS.out _).mono ?_
      rintro _ w' ⟨rfl, rfl⟩
      go_wp2_with fail
      go_ret
      exact ⟨rfl, by first | exact box_below _ _ | exact below_box _ _ _⟩
    obtain rfl : l = [] := List.length_eq_zero_iff.1 hl0
    clear hl0
    rw [show headRight R Nm 3 _ _ _ _ = true from by unfold headRight; first | (simp [e]; done) | (simp [e]; rfl)]
    try clear hsub
    try clear hno
    try clear hstr
    go_enter Tryd.func39, Tryd.ntmps39
    go_wp2_with fail
    refine (ofString_any s _ HV.out HS.out _).mono ?_
    rintro _ w' ⟨rfl, rfl⟩
    go_wp2_with fail
    go_ret
    exact ⟨rfl, by first | exact box_below _ _ | exact below_box _ _ _⟩

set_option maxHeartbeats 4000000 in
set_option maxRecDepth 100000 in
theorem apart_k4 (R : Int → Int → Bool) (Nm : ByteArray → Bool) (hR : NumRight R) (hN : NameIs Nm) (hsub : NameSub Nm) (n d : Int) (s : ByteArray) (l : List Dt) (p : Option Addr) (cap : Nat) (w : World) (hn : I64 n) (hd : I64 d) (hs : s.size ≤ maxLen) (hlm : l.length ≤ maxLen) :
    Calls Tryd.prog 39 #[.agg #[.int .i64 4, .int .i64 n, .int .i64 d, .string s, .slice p l.length cap]] w fun e w' => e = .returned (.bool (headRight R Nm 4 n d s l.length)) ∧ Below w.heap.size w w' := by
  have HRC := Lib.hid hR; clear hR
  have HNC := Lib.hid hN; clear hN
  have HS := Lib.hid hs; clear hs
  unfold maxLen at hlm
  by_cases en : n = 0
  case neg =>
    have qn : (n == 0) = false := by rw [beq_eq_false_iff_ne]; exact en
    rw [show headRight R Nm 4 _ _ _ _ = false from by unfold headRight; first | (simp [en]; done) | (simp [en]; rfl)]
    try clear hsub
    try clear hno
    try clear hstr
    go_enter Tryd.func39, Tryd.ntmps39
    go_wp2_with fail
    go_ret
    exact ⟨rfl, by first | exact box_below _ _ | exact below_box _ _ _⟩
  subst en
  by_cases ed : d = 0
  case neg =>
    have qd : (d == 0) = false := by rw [beq_eq_false_iff_ne]; exact ed
    rw [show headRight R Nm 4 _ _ _ _ = false from by unfold headRight; first | (simp [ed]; done) | (simp [ed]; rfl)]
    try clear hsub
    try clear hno
    try clear hstr
    go_enter Tryd.func39, Tryd.ntmps39
    go_wp2_with fail
    go_ret
    exact ⟨rfl, by first | exact box_below _ _ | exact below_box _ _ _⟩
  subst ed
  by_cases hs0 : s.size = 0
  case neg =>
    have q : ¬ s.toList = (⟨#[]⟩ : ByteArray).toList := fun e => hs0 (by rw [bytes_inj e]; rfl)
    have q2 : s.toList ≠ [] := fun e => hs0 (by rw [Lib.size_eq, ← Lib.toList_data, e]; rfl)
    have q3 : s.toList.isEmpty = false := by cases hq : s.toList with
      | nil => exact absurd hq q2
      | cons _ _ => rfl
    rw [show headRight R Nm 4 _ _ _ _ = false from by unfold headRight; first | (simp [hs0]; done) | (simp [hs0]; rfl)]
    try clear hsub
    try clear hno
    try clear hstr
    go_enter Tryd.func39, Tryd.ntmps39
    go_wp2_with fail
    go_ret
    exact ⟨rfl, by first | exact box_below _ _ | exact below_box _ _ _⟩
  obtain rfl : s = ⟨#[]⟩ := bytes_empty hs0
  clear hs0
  by_cases hl0 : l.length = 0
  case neg =>
    have hl1 : 1 ≤ l.length := by omega
    have ql : ((l.length : Int) == 0) = false := by rw [beq_eq_false_iff_ne]; omega
    rw [show headRight R Nm 4 _ _ _ _ = false from by unfold headRight; first | (simp [hl0]; done) | (simp [hl0]; rfl)]
    try clear hsub
    try clear hno
    try clear hstr
    go_enter Tryd.func39, Tryd.ntmps39
    go_wp2_with fail
    go_ret
    exact ⟨rfl, by first | exact box_below _ _ | exact below_box _ _ _⟩
  obtain rfl : l = [] := List.length_eq_zero_iff.1 hl0
  clear hl0
  rw [show headRight R Nm 4 _ _ _ _ = true from by unfold headRight; first | (simp; done) | (simp; rfl)]
  try clear hsub
  try clear hno
  try clear hstr
  go_enter Tryd.func39, Tryd.ntmps39
  go_wp2_with fail
  go_ret
  exact ⟨rfl, by first | exact box_below _ _ | exact below_box _ _ _⟩

set_option maxHeartbeats 4000000 in
set_option maxRecDepth 100000 in
theorem apart_k5 (R : Int → Int → Bool) (Nm : ByteArray → Bool) (hR : NumRight R) (hN : NameIs Nm) (hsub : NameSub Nm) (n d : Int) (s : ByteArray) (l : List Dt) (p : Option Addr) (cap : Nat) (w : World) (hn : I64 n) (hd : I64 d) (hs : s.size ≤ maxLen) (hlm : l.length ≤ maxLen) :
    Calls Tryd.prog 39 #[.agg #[.int .i64 5, .int .i64 n, .int .i64 d, .string s, .slice p l.length cap]] w fun e w' => e = .returned (.bool (headRight R Nm 5 n d s l.length)) ∧ Below w.heap.size w w' := by
  have HRC := Lib.hid hR; clear hR
  have HNC := Lib.hid hN; clear hN
  have HS := Lib.hid hs; clear hs
  unfold maxLen at hlm
  by_cases en : n = 0
  case neg =>
    have qn : (n == 0) = false := by rw [beq_eq_false_iff_ne]; exact en
    rw [show headRight R Nm 5 _ _ _ _ = false from by unfold headRight; first | (simp [en]; done) | (simp [en]; rfl)]
    try clear hsub
    try clear hno
    try clear hstr
    go_enter Tryd.func39, Tryd.ntmps39
    go_wp2_with fail
    go_ret
    exact ⟨rfl, by first | exact box_below _ _ | exact below_box _ _ _⟩
  subst en
  by_cases ed : d = 0
  case neg =>
    have qd : (d == 0) = false := by rw [beq_eq_false_iff_ne]; exact ed
    rw [show headRight R Nm 5 _ _ _ _ = false from by unfold headRight; first | (simp [ed]; done) | (simp [ed]; rfl)]
    try clear hsub
    try clear hno
    try clear hstr
    go_enter Tryd.func39, Tryd.ntmps39
    go_wp2_with fail
    go_ret
    exact ⟨rfl, by first | exact box_below _ _ | exact below_box _ _ _⟩
  subst ed
  by_cases hs0 : s.size = 0
  case neg =>
    have q : ¬ s.toList = (⟨#[]⟩ : ByteArray).toList := fun e => hs0 (by rw [bytes_inj e]; rfl)
    have q2 : s.toList ≠ [] := fun e => hs0 (by rw [Lib.size_eq, ← Lib.toList_data, e]; rfl)
    have q3 : s.toList.isEmpty = false := by cases hq : s.toList with
      | nil => exact absurd hq q2
      | cons _ _ => rfl
    rw [show headRight R Nm 5 _ _ _ _ = false from by unfold headRight; first | (simp [hs0]; done) | (simp [hs0]; rfl)]
    try clear hsub
    try clear hno
    try clear hstr
    go_enter Tryd.func39, Tryd.ntmps39
    go_wp2_with fail
    go_ret
    exact ⟨rfl, by first | exact box_below _ _ | exact below_box _ _ _⟩
  obtain rfl : s = ⟨#[]⟩ := bytes_empty hs0
  clear hs0
  by_cases hl0 : l.length = 0
  case neg =>
    have hl1 : 1 ≤ l.length := by omega
    have ql : ((l.length : Int) == 0) = false := by rw [beq_eq_false_iff_ne]; omega
    rw [show headRight R Nm 5 _ _ _ _ = false from by unfold headRight; first | (simp [hl0]; done) | (simp [hl0]; rfl)]
    try clear hsub
    try clear hno
    try clear hstr
    go_enter Tryd.func39, Tryd.ntmps39
    go_wp2_with fail
    go_ret
    exact ⟨rfl, by first | exact box_below _ _ | exact below_box _ _ _⟩
  obtain rfl : l = [] := List.length_eq_zero_iff.1 hl0
  clear hl0
  rw [show headRight R Nm 5 _ _ _ _ = true from by unfold headRight; first | (simp; done) | (simp; rfl)]
  try clear hsub
  try clear hno
  try clear hstr
  go_enter Tryd.func39, Tryd.ntmps39
  go_wp2_with fail
  go_ret
  exact ⟨rfl, by first | exact box_below _ _ | exact below_box _ _ _⟩

set_option maxHeartbeats 4000000 in
set_option maxRecDepth 100000 in
theorem apart_k6 (R : Int → Int → Bool) (Nm : ByteArray → Bool) (hR : NumRight R) (hN : NameIs Nm) (hsub : NameSub Nm) (n d : Int) (s : ByteArray) (l : List Dt) (p : Option Addr) (cap : Nat) (w : World) (hn : I64 n) (hd : I64 d) (hs : s.size ≤ maxLen) (hlm : l.length ≤ maxLen) :
    Calls Tryd.prog 39 #[.agg #[.int .i64 6, .int .i64 n, .int .i64 d, .string s, .slice p l.length cap]] w fun e w' => e = .returned (.bool (headRight R Nm 6 n d s l.length)) ∧ Below w.heap.size w w' := by
  have HRC := Lib.hid hR; clear hR
  have HNC := Lib.hid hN; clear hN
  have HS := Lib.hid hs; clear hs
  unfold maxLen at hlm
  by_cases hl0 : l.length = 2
  case neg =>
    have ql : ((l.length : Int) == 2) = false := by rw [beq_eq_false_iff_ne]; omega
    rw [show headRight R Nm 6 _ _ _ _ = false from by unfold headRight; first | (simp [hl0]; done) | (simp [hl0]; rfl)]
    try clear hsub
    try clear hno
    try clear hstr
    go_enter Tryd.func39, Tryd.ntmps39
    go_wp2_with fail
    go_ret
    exact ⟨rfl, by first | exact box_below _ _ | exact below_box _ _ _⟩
  have ql : ((l.length : Int) == 2) = true := by rw [beq_iff_eq]; omega
  by_cases en : n = 0
  case neg =>
    have qn : (n == 0) = false := by rw [beq_eq_false_iff_ne]; exact en
    rw [show headRight R Nm 6 _ _ _ _ = false from by unfold headRight; first | (simp [hl0, en]; done) | (simp [hl0, en]; rfl)]
    try clear hsub
    try clear hno
    try clear hstr
    go_enter Tryd.func39, Tryd.ntmps39
    go_wp2_with fail
    go_ret
    exact ⟨rfl, by first | exact box_below _ _ | exact below_box _ _ _⟩
  subst en
  by_cases ed : d = 0
  case neg =>
    have qd : (d == 0) = false := by rw [beq_eq_false_iff_ne]; exact ed
    rw [show headRight R Nm 6 _ _ _ _ = false from by unfold headRight; first | (simp [hl0, ed]; done) | (simp [hl0, ed]; rfl)]
    try clear hsub
    try clear hno
    try clear hstr
    go_enter Tryd.func39, Tryd.ntmps39
    go_wp2_with fail
    go_ret
    exact ⟨rfl, by first | exact box_below _ _ | exact below_box _ _ _⟩
  subst ed
  by_cases hs0 : s.size = 0
  case neg =>
    have q : ¬ s.toList = (⟨#[]⟩ : ByteArray).toList := fun e => hs0 (by rw [bytes_inj e]; rfl)
    have q2 : s.toList ≠ [] := fun e => hs0 (by rw [Lib.size_eq, ← Lib.toList_data, e]; rfl)
    have q3 : s.toList.isEmpty = false := by cases hq : s.toList with
      | nil => exact absurd hq q2
      | cons _ _ => rfl
    rw [show headRight R Nm 6 _ _ _ _ = false from by unfold headRight; first | (simp [hl0, hs0]; done) | (simp [hl0, hs0]; rfl)]
    try clear hsub
    try clear hno
    try clear hstr
    go_enter Tryd.func39, Tryd.ntmps39
    go_wp2_with fail
    go_ret
    exact ⟨rfl, by first | exact box_below _ _ | exact below_box _ _ _⟩
  obtain rfl : s = ⟨#[]⟩ := bytes_empty hs0
  clear hs0
  rw [show headRight R Nm 6 _ _ _ _ = true from by unfold headRight; first | (simp [hl0]; done) | (simp [hl0]; rfl)]
  try clear hsub
  try clear hno
  try clear hstr
  go_enter Tryd.func39, Tryd.ntmps39
  go_wp2_with fail
  go_ret
  exact ⟨rfl, by first | exact box_below _ _ | exact below_box _ _ _⟩

set_option maxHeartbeats 4000000 in
set_option maxRecDepth 100000 in
theorem apart_k7 (R : Int → Int → Bool) (Nm : ByteArray → Bool) (hR : NumRight R) (hN : NameIs Nm) (hsub : NameSub Nm) (n d : Int) (s : ByteArray) (l : List Dt) (p : Option Addr) (cap : Nat) (w : World) (hn : I64 n) (hd : I64 d) (hs : s.size ≤ maxLen) (hlm : l.length ≤ maxLen) :
    Calls Tryd.prog 39 #[.agg #[.int .i64 7, .int .i64 n, .int .i64 d, .string s, .slice p l.length cap]] w fun e w' => e = .returned (.bool (headRight R Nm 7 n d s l.length)) ∧ Below w.heap.size w w' := by
  have HRC := Lib.hid hR; clear hR
  have HNC := Lib.hid hN; clear hN
  have HS := Lib.hid hs; clear hs
  unfold maxLen at hlm
  by_cases en : n = 0
  case neg =>
    have qn : (n == 0) = false := by rw [beq_eq_false_iff_ne]; exact en
    rw [show headRight R Nm 7 _ _ _ _ = false from by unfold headRight; first | (simp [en]; done) | (simp [en]; rfl)]
    try clear hsub
    try clear hno
    try clear hstr
    go_enter Tryd.func39, Tryd.ntmps39
    go_wp2_with fail
    go_ret
    exact ⟨rfl, by first | exact box_below _ _ | exact below_box _ _ _⟩
  subst en
  by_cases ed : d = 0
  case neg =>
    have qd : (d == 0) = false := by rw [beq_eq_false_iff_ne]; exact ed
    rw [show headRight R Nm 7 _ _ _ _ = false from by unfold headRight; first | (simp [ed]; done) | (simp [ed]; rfl)]
    try clear hsub
    try clear hno
    try clear hstr
    go_enter Tryd.func39, Tryd.ntmps39
    go_wp2_with fail
    go_ret
    exact ⟨rfl, by first | exact box_below _ _ | exact below_box _ _ _⟩
  subst ed
  by_cases hs0 : s.size = 0
  case neg =>
    have q : ¬ s.toList = (⟨#[]⟩ : ByteArray).toList := fun e => hs0 (by rw [bytes_inj e]; rfl)
    have q2 : s.toList ≠ [] := fun e => hs0 (by rw [Lib.size_eq, ← Lib.toList_data, e]; rfl)
    have q3 : s.toList.isEmpty = false := by cases hq : s.toList with
      | nil => exact absurd hq q2
      | cons _ _ => rfl
    rw [show headRight R Nm 7 _ _ _ _ = false from by unfold headRight; first | (simp [hs0]; done) | (simp [hs0]; rfl)]
    try clear hsub
    try clear hno
    try clear hstr
    go_enter Tryd.func39, Tryd.ntmps39
    go_wp2_with fail
    go_ret
    exact ⟨rfl, by first | exact box_below _ _ | exact below_box _ _ _⟩
  obtain rfl : s = ⟨#[]⟩ := bytes_empty hs0
  clear hs0
  rw [show headRight R Nm 7 _ _ _ _ = true from by unfold headRight; first | (simp; done) | (simp; rfl)]
  try clear hsub
  try clear hno
  try clear hstr
  go_enter Tryd.func39, Tryd.ntmps39
  go_wp2_with fail
  go_ret
  exact ⟨rfl, by first | exact box_below _ _ | exact below_box _ _ _⟩

theorem apart_out (k : Int) (R : Int → Int → Bool) (Nm : ByteArray → Bool) (n d : Int) (s : ByteArray) (l : List Dt) (p : Option Addr) (cap : Nat) (w : World) (hk : I64 k) (h : k < 0 ∨ 7 < k) :
    Calls Tryd.prog 39 #[.agg #[.int .i64 k, .int .i64 n, .int .i64 d, .string s, .slice p l.length cap]] w fun e w' => e = .returned (.bool (headRight R Nm k n d s l.length)) ∧ Below w.heap.size w w' := by
  have hh : headRight R Nm k n d s l.length = false := by
    unfold headRight
    by_cases h0 : 0 ≤ k
    · rw [decide_eq_false (by omega : ¬ k ≤ 7)]; simp
    · rw [decide_eq_false h0]; simp
  rw [hh]; clear hh
  obtain ⟨k0, k1⟩ := hk
  have f0 : (k == 0) = false := by rw [beq_eq_false_iff_ne]; omega
  have f1 : (k == 1) = false := by rw [beq_eq_false_iff_ne]; omega
  have f2 : (k == 2) = false := by rw [beq_eq_false_iff_ne]; omega
  have f3 : (k == 3) = false := by rw [beq_eq_false_iff_ne]; omega
  have f4 : (k == 4) = false := by rw [beq_eq_false_iff_ne]; omega
  have f5 : (k == 5) = false := by rw [beq_eq_false_iff_ne]; omega
  have f6 : (k == 6) = false := by rw [beq_eq_false_iff_ne]; omega
  have f7 : (k == 7) = false := by rw [beq_eq_false_iff_ne]; omega
  clear h
  go_enter Tryd.func39, Tryd.ntmps39
  go_wp2_with fail
  go_ret
  exact ⟨rfl, box_below _ _⟩

/-- apart answers whether a datum itself is as it must be. -/
theorem apart_any (R : Int → Int → Bool) (Nm : ByteArray → Bool) (hR : NumRight R) (hN : NameIs Nm) (hsub : NameSub Nm) : HoldsCall 39 (headOf R Nm) := by
  intro t v w hat
  obtain ⟨k, n, d, s, l⟩ := t
  unfold Dt.At at hat
  obtain ⟨hk, hn, hd, hs, hlm, p, cap, rfl, _⟩ := hat
  by_cases hout : k < 0 ∨ 7 < k
  · exact apart_out k R Nm n d s l p cap w hk hout
  have h8 : k = 0 ∨ k = 1 ∨ k = 2 ∨ k = 3 ∨ k = 4 ∨ k = 5 ∨ k = 6 ∨ k = 7 := by omega
  rcases h8 with rfl | rfl | rfl | rfl | rfl | rfl | rfl | rfl
  · exact apart_k0 R Nm hR hN hsub n d s l p cap w hn hd hs hlm
  · exact apart_k1 R Nm hR hN hsub n d s l p cap w hn hd hs hlm
  · exact apart_k2 R Nm hR hN hsub n d s l p cap w hn hd hs hlm
  · exact apart_k3 R Nm hR hN hsub n d s l p cap w hn hd hs hlm
  · exact apart_k4 R Nm hR hN hsub n d s l p cap w hn hd hs hlm
  · exact apart_k5 R Nm hR hN hsub n d s l p cap w hn hd hs hlm
  · exact apart_k6 R Nm hR hN hsub n d s l p cap w hn hd hs hlm
  · exact apart_k7 R Nm hR hN hsub n d s l p cap w hn hd hs hlm
end Go.Proofs.YtabofebepefbgaaDoor.Dat

/- The program's own all, Right. -/
namespace Go.Proofs.YtabofebepefbgaaDoor.Dat
open Go.RowKit
set_option linter.unusedVariables false

theorem below_seq {w w1 w2 : World} (h : Below w.heap.size w w1) (h2 : Below w1.heap.size w1 w2) : Below w.heap.size w w2 := h.trans (h2.mono h.size)
theorem at_one (w : World) (a b c : Obj) : (((w.alloc a).alloc b).alloc c).heap[w.heap.size + 1]? = some b := by
  show (((w.heap.push a).push b).push c)[w.heap.size + 1]? = _
  rw [Array.getElem?_push, if_neg (by simp), Array.getElem?_push, if_pos (by simp)]
theorem at_two (w : World) (a b c : Obj) : (((w.alloc a).alloc b).alloc c).heap[w.heap.size + 2]? = some c := by
  show (((w.heap.push a).push b).push c)[w.heap.size + 2]? = _
  rw [Array.getElem?_push, if_pos (by simp)]
theorem three_below (w : World) (a b c : Obj) : Below w.heap.size w (((w.alloc a).alloc b).alloc c) := below_seq (two_below w a b) (box_below _ c)
set_option maxHeartbeats 1000000 in
theorem within58_any (h : Dt → Bool) (hh : HoldsCall 56 h) (N : Nat) : ∀ (t : Dt) (v : Value) (D : Int) (deep : Nat) (w : World) (Bh Bw : Nat), t.size ≤ N → t.At w v → D = (deep : Int) → deep ≤ 201 →
    w.cell? ⟨Bh, 0, none⟩ = some (.func (.func 56) #[] #[]) → w.cell? ⟨Bw, 0, none⟩ = some (.func (.func 61) #[] #[.pointer (some ⟨Bh, 0, none⟩), .pointer (some ⟨Bw, 0, none⟩)]) →
    Calls Tryd.prog 61 #[v, .int .i64 D, .pointer (some ⟨Bh, 0, none⟩), .pointer (some ⟨Bw, 0, none⟩)] w fun e w' => e = .returned (.bool (t.whole h deep)) ∧ Below w.heap.size w w' := by
  induction N with
  | zero => intro t v D deep w Bh Bw hN; have := t.size_pos; omega
  | succ N ih =>
    intro t v D deep w Bh Bw hN hat hD h1 hch hcw
    by_cases hdeep : 200 < deep
    · exact within_deep h t v D deep w _ _ hat hD h1 hdeep
    have D0 : 0 ≤ D := by omega
    have D1 : D ≤ 200 := by omega
    have HHC := Lib.hid hh; clear hh
    have IH := Lib.hid ih; clear ih
    have HN := Lib.hid hN; clear hN
    have HD := Lib.hid (show D = (deep : Int) ∧ deep ≤ 200 from ⟨hD, by omega⟩); clear hD h1 hdeep
    have HAT := Lib.hid hat
    obtain ⟨k, n, d, s, l⟩ := t
    unfold Dt.At at hat
    obtain ⟨-, -, -, -, hlm, p, cap, rfl, hl⟩ := hat
    unfold maxLen at hlm
    have HL := Lib.hid hl; clear hl
    have lth := cell_lt hch
    have ltw := cell_lt hcw
    cases hv : h (.node k n d s l)
    · have HV := Lib.hid hv; clear hv
      go_enter Tryd.func61, Tryd.ntmps61
      go_wp2_with fail
      refine (HHC.out _ _ _ ((HAT.out).below (box_below _ _))).mono ?_
      rintro _ w1 ⟨rfl, hb1⟩
      rw [HV.out]
      have HB1 := Lib.hid hb1; clear hb1
      go_wp2_with fail
      go_ret
      exact ⟨ret_bool (by rw [Dt.whole_not HV.out]), below_after HB1.out⟩
    · have HV := Lib.hid hv; clear hv
      go_enter Tryd.func61, Tryd.ntmps61
      go_wp2_with fail
      refine (HHC.out _ _ _ ((HAT.out).below (box_below _ _))).mono ?_
      rintro _ w1 ⟨rfl, hb1⟩
      rw [HV.out]
      have hch1 := cell_on (below_after hb1) _ _ _ hch
      have hcw1 := cell_on (below_after hb1) _ _ _ hcw
      have hc4 := cell_on hb1 w.heap.size 4 (.slice p l.length cap) (by simp)
      have HB1 := Lib.hid (below_after hb1); clear hb1
      go_wp2_with fail
      go_loopw [20] (fun x wr => ∃ (i : Nat), i ≤ l.length ∧ x = .int .i64 i ∧ Dt.wholeAll h l (deep + 1) = Dt.wholeAll h (l.drop i) (deep + 1) ∧ wr.cell? ⟨Bh, 0, none⟩ = some (.func (.func 56) #[] #[]) ∧ wr.cell? ⟨Bw, 0, none⟩ = some (.func (.func 61) #[] #[.pointer (some ⟨Bh, 0, none⟩), .pointer (some ⟨Bw, 0, none⟩)]) ∧ Below w.heap.size w wr) (fun x _ => l.length - (intOf x).toNat)
      case atStart => exact ⟨0, by omega, rfl, by simp, hch1, hcw1, HB1.out⟩
      case round =>
        obtain ⟨i, hi, rfl, hf, ch, cw, hb⟩ := hrel
        have HF := Lib.hid hf; clear hf
        have HB := Lib.hid hb; clear hb
        by_cases hlt : i < l.length
        · obtain ⟨t, ht⟩ : ∃ t, l[i]? = some t := ⟨l[i], by simp [hlt]⟩
          rcases HL.out with he | ⟨b, o, rfl, hall⟩
          · rw [he] at hlt; simp at hlt
          obtain ⟨v0, v1, v2, v3, v4, d0, d1, d2, d3, d4, hta⟩ := (hall.on (cell_on HB.out)).kid ht
          have HT := Lib.hid ht; clear ht
          obtain ⟨kt, nt, dt, st, lt, pt, capt, hte, rfl, rfl, rfl, rfl, rfl, _, _⟩ := hta.open5
          have HA := Lib.hid hta
          clear hta hall hte
          have ch' := cell_on (box_below wr (.cells #[.int .i64 kt, .int .i64 nt, .int .i64 dt, .string st, .slice pt lt.length capt] 24)) _ _ _ ch
          have cw' := cell_on (box_below wr (.cells #[.int .i64 kt, .int .i64 nt, .int .i64 dt, .string st, .slice pt lt.length capt] 24)) _ _ _ cw
          go_wp2_with fail
          refine (IH.out t _ (D + 1) (deep + 1) _ Bh Bw (by have h := HN.out; have g := Dt.size_kid HT.out; unfold Dt.size at h; omega) ((HA.out).below (box_below _ _)) (by have := HD.out; omega) (by have := HD.out; omega) ch' cw').mono ?_
          rintro _ w2 ⟨rfl, hb2⟩
          have ch2 := cell_on hb2 _ _ _ ch'
          have cw2 := cell_on hb2 _ _ _ cw'
          have HB2 := Lib.hid (below_box_call HB.out hb2); clear hb2 ch' cw'
          cases ha : t.whole h (deep + 1)
          · have HAL := Lib.hid ha; clear ha
            go_wp2_with fail
            go_ret
            exact ⟨ret_bool (by rw [Dt.whole_yes HV.out (HD.out).2, HF.out, Dt.wholeAll_step HT.out, HAL.out]; rfl), HB2.out⟩
          · have HAL := Lib.hid ha; clear ha
            go_wp2_with fail
            go_roundw
            case rel => exact ⟨i + 1, by omega, by go_num, by rw [HF.out, Dt.wholeAll_step HT.out, HAL.out]; rfl, ch2, cw2, HB2.out⟩
            case measure => simp [intOf]; omega
        · go_wp2
          go_ret
          exact ⟨ret_bool (by rw [Dt.whole_yes HV.out (HD.out).2, HF.out, Dt.wholeAll_stop (by omega)]), HB.out⟩

/-- Everything holds of it. -/
theorem hold58 : HoldsCall 56 (fun _ => true) := by
  intro t v w hat
  obtain ⟨k, n, d, s, l⟩ := t
  unfold Dt.At at hat
  obtain ⟨-, -, -, -, -, p, cap, rfl, -⟩ := hat
  go_enter Tryd.func56, Tryd.ntmps56
  go_wp2_with fail
  go_ret
  exact ⟨rfl, box_below _ _⟩

set_option maxHeartbeats 400000 in
theorem all29_any (h : Dt → Bool) (hh : HoldsCall 39 h) (t : Dt) (v : Value) (w : World) (hat : t.At w v) :
    Calls Tryd.prog 38 #[v, .func (.func 39) #[] #[]] w fun e w' => e = .returned (.bool (t.whole h 0)) ∧ Below w.heap.size w w' := by
  have HAT := Lib.hid hat
  have HHC := Lib.hid hh; clear hh
  have hmf : ∀ (fn : Fn) (first cap : Array Value) (w : World), (Instr.makeFunc fn first cap).run Tryd.prog w = .ok (.func fn first cap) w := fun _ _ _ _ => rfl
  obtain ⟨k, n, d, s, l⟩ := t
  unfold Dt.At at hat
  obtain ⟨-, -, -, -, -, p, cap, rfl, -⟩ := hat
  go_enter Tryd.func38, Tryd.ntmps38
  go_wp2_with fail
  refine (within29_any h HHC.out _ _ _ 0 0 _ (w.heap.size + 1) (w.heap.size + 2) (Nat.le_refl _) ((HAT.out).below (three_below _ _ _ _)) rfl (by omega) ?_ ?_).mono ?_
  · exact cell_of_one (at_one _ _ _ _)
  · exact cell_of_one (at_two _ _ _ _)
  rintro _ w1 ⟨rfl, hb1⟩
  have HB := Lib.hid (below_seq (three_below _ _ _ _) hb1); clear hb1
  go_wp2_with fail
  go_ret
  exact ⟨rfl, HB.out⟩


set_option maxHeartbeats 400000 in
theorem all58_any (h : Dt → Bool) (hh : HoldsCall 56 h) (t : Dt) (v : Value) (w : World) (hat : t.At w v) :
    Calls Tryd.prog 38 #[v, .func (.func 56) #[] #[]] w fun e w' => e = .returned (.bool (t.whole h 0)) ∧ Below w.heap.size w w' := by
  have HAT := Lib.hid hat
  have HHC := Lib.hid hh; clear hh
  have hmf : ∀ (fn : Fn) (first cap : Array Value) (w : World), (Instr.makeFunc fn first cap).run Tryd.prog w = .ok (.func fn first cap) w := fun _ _ _ _ => rfl
  obtain ⟨k, n, d, s, l⟩ := t
  unfold Dt.At at hat
  obtain ⟨-, -, -, -, -, p, cap, rfl, -⟩ := hat
  go_enter Tryd.func38, Tryd.ntmps38
  go_wp2_with fail
  refine (within58_any h HHC.out _ _ _ 0 0 _ (w.heap.size + 1) (w.heap.size + 2) (Nat.le_refl _) ((HAT.out).below (three_below _ _ _ _)) rfl (by omega) ?_ ?_).mono ?_
  · exact cell_of_one (at_one _ _ _ _)
  · exact cell_of_one (at_two _ _ _ _)
  rintro _ w1 ⟨rfl, hb1⟩
  have HB := Lib.hid (below_seq (three_below _ _ _ _) hb1); clear hb1
  go_wp2_with fail
  go_ret
  exact ⟨rfl, HB.out⟩

mutual
theorem Dt.whole_right (R : Int → Int → Bool) (Nm : ByteArray → Bool) : ∀ (t : Dt) (deep : Nat), t.whole (headOf R Nm) deep = t.right R Nm deep
  | .node k n d s l, deep => by
    unfold Dt.whole Dt.right
    rw [Dt.wholeAll_right R Nm l (deep + 1), Bool.and_assoc]
    rfl
theorem Dt.wholeAll_right (R : Int → Int → Bool) (Nm : ByteArray → Bool) : ∀ (l : List Dt) (deep : Nat), Dt.wholeAll (headOf R Nm) l deep = Dt.rightAll R Nm l deep
  | [], _ => rfl
  | t :: r, deep => by
    unfold Dt.wholeAll Dt.rightAll
    rw [Dt.whole_right R Nm t deep, Dt.wholeAll_right R Nm r deep]
end
set_option maxHeartbeats 400000 in
/-- The program's Right. -/
theorem ownRight_any (R : Int → Int → Bool) (Nm : ByteArray → Bool) (hR : NumRight R) (hN : NameIs Nm) (hsub : NameSub Nm) (t : Dt) (v : Value) (w : World) (hat : t.At w v) :
    Calls Tryd.prog 17 #[v] w fun e w' => e = .returned (.bool (t.right R Nm 0)) ∧ Below w.heap.size w w' := by
  rw [← Dt.whole_right R Nm t 0]
  have C := fun w' (h : t.At w' v) => all29_any _ (apart_any R Nm hR hN hsub) t v w' h
  have HAT := Lib.hid hat
  obtain ⟨r, hr⟩ : ∃ r, t.whole (headOf R Nm) 0 = r := ⟨_, rfl⟩
  rw [hr] at C ⊢
  have HC := Lib.hid C; clear C hr
  obtain ⟨k, n, d, s, l⟩ := t
  unfold Dt.At at hat
  obtain ⟨-, -, -, -, -, p, cap, rfl, -⟩ := hat
  go_enter Tryd.func17, Tryd.ntmps17
  go_wp2_with fail
  refine (HC.out _ ((HAT.out).below (box_below _ _))).mono ?_
  rintro _ w1 ⟨rfl, hb1⟩
  have HB := Lib.hid (below_after hb1); clear hb1
  go_wp2_with fail
  go_ret
  exact ⟨rfl, HB.out⟩
end Go.Proofs.YtabofebepefbgaaDoor.Dat

/- The program's own Size. -/
namespace Go.Proofs.YtabofebepefbgaaDoor.Dat
open Go.RowKit
set_option linter.unusedVariables false

/-- All blocks of the world but one stand as they stood. -/
structure Keeps (B : Nat) (w w' : World) : Prop where
  os : w'.os = w.os
  tape : w'.tape = w.tape
  output : w'.output = w.output
  size : w.heap.size ≤ w'.heap.size
  block : ∀ k, k < w.heap.size → k ≠ B → w'.heap[k]? = w.heap[k]?
theorem Keeps.refl (B : Nat) (w : World) : Keeps B w w := ⟨rfl, rfl, rfl, Nat.le_refl _, fun _ _ _ => rfl⟩
theorem Keeps.trans {B : Nat} {a b c : World} (h : Keeps B a b) (k : Keeps B b c) : Keeps B a c :=
  ⟨k.os.trans h.os, k.tape.trans h.tape, k.output.trans h.output, Nat.le_trans h.size k.size, fun i hi hn => (k.block i (Nat.lt_of_lt_of_le hi h.size) hn).trans (h.block i hi hn)⟩
theorem Keeps.of {B : Nat} {w w' : World} (h : Below w.heap.size w w') : Keeps B w w' := ⟨h.os, h.tape, h.output, h.size, fun k hk _ => h.block k hk⟩
theorem Keeps.setCell {B : Nat} {a w : World} (h : Keeps B a w) (i : Nat) (u : Value) : Keeps B a (w.setCell ⟨B, i, none⟩ u) :=
  ⟨h.os, h.tape, h.output, by simp only [World.setCell, Array.size_modify]; exact h.size, fun k hk hn => (Below.heap_setCell _ _ _ _ hn).trans (h.block k hk hn)⟩
theorem Keeps.drew {B : Nat} {a w : World} (h : Keeps B a w) : Keeps B a w.drew := h.trans ⟨rfl, rfl, rfl, Nat.le_refl _, fun _ _ _ => rfl⟩
theorem Keeps.below {B : Nat} {w0 w w' : World} (h : Keeps B w w') (hb : Below w0.heap.size w0 w) (hB : w0.heap.size ≤ B) : Below w0.heap.size w0 w' :=
  ⟨h.os.trans hb.os, h.tape.trans hb.tape, h.output.trans hb.output, Nat.le_trans hb.size h.size, fun k hk => (h.block k (Nat.lt_of_lt_of_le hk hb.size) (by omega)).trans (hb.block k hk)⟩
/-- The block alone. -/
abbrev just (B : Nat) (b : Nat) : Bool := b == B
theorem Keeps.off {B : Nat} {w w' : World} (h : Keeps B w w') (b o : Nat) (v : Value) (hv : (off w (just B)).cell? ⟨b, o, none⟩ = some v) : (off w' (just B)).cell? ⟨b, o, none⟩ = some v :=
  off_on (fun _ _ hx => hx) (fun k hk hx => h.block k hk (by simpa using hx)) b o v hv

def Dt.kids : Dt → List Dt
  | .node _ _ _ _ l => l
/-- How many lie below the ones of a list. -/
def Dt.inner (deep : Nat) : List Dt → Nat
  | [] => 0
  | t :: r => Dt.countAll t.kids (deep + 1) + Dt.inner deep r
theorem Dt.countAll_inner {deep : Nat} (h : deep < 1000) : ∀ l : List Dt, Dt.countAll l deep = l.length + Dt.inner deep l
  | [] => rfl
  | .node k n d s q :: r => by
    unfold Dt.countAll
    rw [if_pos h, Dt.countAll_inner h r, show Dt.inner deep (.node k n d s q :: r) = Dt.countAll q (deep + 1) + Dt.inner deep r from rfl, show (Dt.node k n d s q).count (deep + 1) = Dt.countAll q (deep + 1) + 1 from rfl, List.length_cons]; omega
theorem Dt.countAll_past {deep : Nat} (h : 1000 ≤ deep) (l : List Dt) : Dt.countAll l deep = 0 := by
  cases l with
  | nil => rfl
  | cons t r => unfold Dt.countAll; rw [if_neg (by omega)]
theorem Dt.inner_step {l : List Dt} {i : Nat} {t : Dt} {deep : Nat} (h : l[i]? = some t) : Dt.inner deep (l.drop i) = Dt.countAll t.kids (deep + 1) + Dt.inner deep (l.drop (i + 1)) := by
  rw [Dt.drop_at h]; rfl
theorem Dt.inner_stop {l : List Dt} {i : Nat} {deep : Nat} (h : l.length ≤ i) : Dt.inner deep (l.drop i) = 0 := by
  rw [List.drop_of_length_le h]; rfl
end Go.Proofs.YtabofebepefbgaaDoor.Dat

/- The program's own Same. -/
namespace Go.Proofs.YtabofebepefbgaaDoor.Dat
open Go.RowKit
set_option linter.unusedVariables false

/-- The closure that compares two, captured by itself. -/
abbrev sameF (Bs : Nat) : Value := .func (.func 40) #[] #[.pointer (some ⟨Bs, 0, none⟩)]
def SameAt (t : Dt) : Prop := ∀ (t' : Dt) (v v' : Value) (w : World) (Bs : Nat), t.At w v → t'.At w v' → w.cell? ⟨Bs, 0, none⟩ = some (sameF Bs) →
    Calls Tryd.prog 40 #[v, v', .pointer (some ⟨Bs, 0, none⟩)] w fun e w' => e = .returned (.bool (t.alike t')) ∧ Below w.heap.size w w'
theorem Dt.alikeAll_ne {l l' : List Dt} (h : l.length ≠ l'.length) : Dt.alikeAll l l' = false := by
  cases ha : Dt.alikeAll l l'
  · rfl
  · exact absurd (Dt.alikeAll_len ha) h

set_option maxHeartbeats 1000000 in
set_option maxRecDepth 100000 in
theorem eqf_any (l l' : List Dt) (ih : ∀ t, t ∈ l → SameAt t) (p p' : Option Addr) (cap cap' : Nat) (w : World) (Bs : Nat) (hlm : l.length ≤ maxLen) (hlm' : l'.length ≤ maxLen)
    (hl : l = [] ∨ ∃ b o, p = some ⟨b, o, none⟩ ∧ Dt.AllAt w l b o) (hl' : l' = [] ∨ ∃ b o, p' = some ⟨b, o, none⟩ ∧ Dt.AllAt w l' b o) (hs : w.cell? ⟨Bs, 0, none⟩ = some (sameF Bs)) :
    Calls Tryd.prog 41 #[.slice p l.length cap, .slice p' l'.length cap', sameF Bs] w fun e w' => e = .returned (.bool (Dt.alikeAll l l')) ∧ Below w.heap.size w w' := by
  unfold maxLen at hlm hlm'
  have IH := Lib.hid ih; clear ih
  have HL := Lib.hid hl; clear hl
  have HL' := Lib.hid hl'; clear hl'
  by_cases hne : l.length = l'.length
  case neg =>
    rw [Dt.alikeAll_ne hne]
    have q : ((l.length : Int) != (l'.length : Int)) = true := by rw [bne_iff_ne]; omega
    clear hne
    go_enter Tryd.func41, Tryd.ntmps41
    go_wp2_with fail
    go_ret
    exact ⟨rfl, Below.refl _ _⟩
  have q : ((l.length : Int) != (l'.length : Int)) = false := by rw [bne_eq_false_iff_eq]; omega
  have EL := Lib.hid hne; clear hne
  obtain ⟨r, hr⟩ : ∃ r, Dt.alikeAll l l' = r := ⟨_, rfl⟩
  rw [hr]
  have HR := Lib.hid hr; clear hr
  go_enter Tryd.func41, Tryd.ntmps41
  go_wp2_with fail
  go_loopw [17] (fun x wr => ∃ (i : Nat), i ≤ l.length ∧ x = .int .i64 i ∧ Dt.alikeAll l l' = Dt.alikeAll (l.drop i) (l'.drop i) ∧ wr.cell? ⟨Bs, 0, none⟩ = some (sameF Bs) ∧ Below w.heap.size w wr) (fun x _ => l.length - (intOf x).toNat)
  case atStart => exact ⟨0, by omega, rfl, by simp, hs, Below.refl _ _⟩
  case round =>
    obtain ⟨i, hi, rfl, hf, hsw, hb⟩ := hrel
    have HF := Lib.hid hf; clear hf
    have HB := Lib.hid hb; clear hb
    by_cases hlt : i < l.length
    · obtain ⟨t, ht⟩ : ∃ t, l[i]? = some t := ⟨l[i], by simp [hlt]⟩
      have hlt' : i < l'.length := by have := EL.out; omega
      obtain ⟨t', ht'⟩ : ∃ t, l'[i]? = some t := ⟨l'[i], by simp [hlt']⟩
      rcases HL.out with he | ⟨b, o, rfl, hall⟩
      · rw [he] at hlt; simp at hlt
      rcases HL'.out with he | ⟨b', o', rfl, hall'⟩
      · rw [he] at hlt'; simp at hlt'
      obtain ⟨v0, v1, v2, v3, v4, d0, d1, d2, d3, d4, hta⟩ := (hall.on (cell_on HB.out)).kid ht
      obtain ⟨u0, u1, u2, u3, u4, f0, f1, f2, f3, f4, hta'⟩ := (hall'.on (cell_on HB.out)).kid ht'
      obtain ⟨kt, nt, dt, st, lt, pt, capt, hte, rfl, rfl, rfl, rfl, rfl, _, _⟩ := hta.open5
      obtain ⟨ku, nu, du, su, lu, pu, capu, hue, rfl, rfl, rfl, rfl, rfl, _, _⟩ := hta'.open5
      replace f0 := cell_on (box_below wr (.cells #[.int .i64 kt, .int .i64 nt, .int .i64 dt, .string st, .slice pt lt.length capt] 24)) _ _ _ f0
      replace f1 := cell_on (box_below wr (.cells #[.int .i64 kt, .int .i64 nt, .int .i64 dt, .string st, .slice pt lt.length capt] 24)) _ _ _ f1
      replace f2 := cell_on (box_below wr (.cells #[.int .i64 kt, .int .i64 nt, .int .i64 dt, .string st, .slice pt lt.length capt] 24)) _ _ _ f2
      replace f3 := cell_on (box_below wr (.cells #[.int .i64 kt, .int .i64 nt, .int .i64 dt, .string st, .slice pt lt.length capt] 24)) _ _ _ f3
      replace f4 := cell_on (box_below wr (.cells #[.int .i64 kt, .int .i64 nt, .int .i64 dt, .string st, .slice pt lt.length capt] 24)) _ _ _ f4
      have hbt := two_below wr (.cells #[.int .i64 kt, .int .i64 nt, .int .i64 dt, .string st, .slice pt lt.length capt] 24) (.cells #[.int .i64 ku, .int .i64 nu, .int .i64 du, .string su, .slice pu lu.length capu] 24)
      have C := IH.out t (List.mem_of_getElem? ht) t' _ _ _ Bs (hta.below hbt) (hta'.below hbt) (cell_on hbt _ _ _ hsw)
      have HC := Lib.hid C
      have HSW := Lib.hid (cell_on hbt _ _ _ hsw)
      have HBT := Lib.hid hbt
      have HT := Lib.hid ht
      have HT' := Lib.hid ht'
      clear C hta hta' hall hall' hte hue hbt ht ht' hsw
      go_wp2_with fail
      refine (HC.out).mono ?_
      rintro _ w1 ⟨rfl, hb1⟩
      have hsw1 := cell_on hb1 _ _ _ HSW.out
      have HB1 := Lib.hid (below_seq HB.out (below_seq HBT.out hb1)); clear hb1
      cases ha : t.alike t'
      · have HAL := Lib.hid ha; clear ha
        go_wp2_with fail
        go_ret
        exact ⟨ret_bool (by rw [← HR.out, HF.out, Dt.alikeAll_step HT.out HT'.out, HAL.out]; rfl), HB1.out⟩
      · have HAL := Lib.hid ha; clear ha
        go_wp2_with fail
        go_roundw
        case rel => exact ⟨i + 1, by omega, by go_num, by rw [HF.out, Dt.alikeAll_step HT.out HT'.out, HAL.out]; rfl, hsw1, HB1.out⟩
        case measure => simp [intOf]; omega
    · go_wp2_with fail
      go_ret
      exact ⟨ret_bool (by rw [← HR.out, HF.out, Dt.alikeAll_stop (by omega) (by have := EL.out; omega)]), HB.out⟩

set_option maxHeartbeats 2000000 in
set_option maxRecDepth 100000 in
theorem same_any (N : Nat) : ∀ t : Dt, t.size ≤ N → SameAt t := by
  induction N with
  | zero => intro t h; have := t.size_pos; omega
  | succ N ih =>
    intro t hN t' v v' w Bs hat hat' hs
    obtain ⟨k, n, d, s, l⟩ := t
    obtain ⟨k', n', d', s', l'⟩ := t'
    have HAT := Lib.hid hat
    have HAT' := Lib.hid hat'
    unfold Dt.At at hat hat'
    obtain ⟨-, -, -, -, hlm, p, cap, rfl, hl⟩ := hat
    obtain ⟨-, -, -, -, hlm', p', cap', rfl, hl'⟩ := hat'
    have hbt := two_below w (.cells #[.int .i64 k, .int .i64 n, .int .i64 d, .string s, .slice p l.length cap] 24) (.cells #[.int .i64 k', .int .i64 n', .int .i64 d', .string s', .slice p' l'.length cap'] 24)
    by_cases ek : k = k'
    case neg =>
      have q : (k == k') = false := by rw [beq_eq_false_iff_ne]; exact ek
      rw [show (Dt.node k n d s l).alike (.node k' n' d' s' l') = false by unfold Dt.alike; simp [ek]]
      have HBT := Lib.hid hbt
      clear ek hbt hl hl'
      go_enter Tryd.func40, Tryd.ntmps40
      go_wp2_with fail
      go_ret
      exact ⟨rfl, HBT.out⟩
    subst ek
    by_cases en : n = n'
    case neg =>
      have q : (n == n') = false := by rw [beq_eq_false_iff_ne]; exact en
      rw [show (Dt.node k n d s l).alike (.node k n' d' s' l') = false by unfold Dt.alike; simp [en]]
      have HBT := Lib.hid hbt
      clear en hbt hl hl'
      go_enter Tryd.func40, Tryd.ntmps40
      go_wp2_with fail
      go_ret
      exact ⟨rfl, HBT.out⟩
    subst en
    by_cases ed : d = d'
    case neg =>
      have q : (d == d') = false := by rw [beq_eq_false_iff_ne]; exact ed
      rw [show (Dt.node k n d s l).alike (.node k n d' s' l') = false by unfold Dt.alike; simp [ed]]
      have HBT := Lib.hid hbt
      clear ed hbt hl hl'
      go_enter Tryd.func40, Tryd.ntmps40
      go_wp2_with fail
      go_ret
      exact ⟨rfl, HBT.out⟩
    subst ed
    by_cases es : s = s'
    case neg =>
      have q : ¬ s.toList = s'.toList := fun e => es (bytes_inj e)
      rw [show (Dt.node k n d s l).alike (.node k n d s' l') = false by unfold Dt.alike; simp [es]]
      have HBT := Lib.hid hbt
      clear es hbt hl hl'
      go_enter Tryd.func40, Tryd.ntmps40
      go_wp2_with fail
      go_ret
      exact ⟨rfl, HBT.out⟩
    subst es
    rw [show (Dt.node k n d s l).alike (.node k n d s l') = Dt.alikeAll l l' by unfold Dt.alike; simp]
    have C := eqf_any l l' (fun t ht => ih t (by obtain ⟨i, hi⟩ := List.mem_iff_getElem?.1 ht; have h1 := Dt.size_kid hi; unfold Dt.size at hN; omega)) p p' cap cap' _ Bs hlm hlm'
      (by rcases hl with hl | ⟨b, o, hp, hall⟩
          · exact Or.inl hl
          · exact Or.inr ⟨b, o, hp, hall.on (cell_on hbt)⟩)
      (by rcases hl' with hl | ⟨b, o, hp, hall⟩
          · exact Or.inl hl
          · exact Or.inr ⟨b, o, hp, hall.on (cell_on hbt)⟩) (cell_on hbt _ _ _ hs)
    have HC := Lib.hid C
    have hs2 := cell_on hbt _ _ _ hs
    have HBT := Lib.hid hbt
    obtain ⟨r, hr⟩ : ∃ r, Dt.alikeAll l l' = r := ⟨_, rfl⟩
    rw [hr] at C ⊢
    have HC := Lib.hid C
    clear C hbt hl hl' ih hN hr hs
    go_enter Tryd.func40, Tryd.ntmps40
    go_wp2_with fail
    refine (HC.out).mono ?_
    rintro _ w1 ⟨rfl, hb1⟩
    have HB1 := Lib.hid (below_seq HBT.out hb1); clear hb1
    go_wp2_with fail
    go_ret
    exact ⟨rfl, HB1.out⟩
theorem at_new (w : World) (o : Obj) : (w.alloc o).heap[w.heap.size]? = some o := by
  show (w.heap.push o)[w.heap.size]? = _
  simp
theorem two_first (w : World) (a b : Obj) : ((w.alloc a).alloc b).heap[w.heap.size]? = some a := by
  show ((w.heap.push a).push b)[w.heap.size]? = _
  rw [Array.getElem?_push, if_neg (by simp), Array.getElem?_push, if_pos rfl]
theorem two_second (w : World) (a b : Obj) : ((w.alloc a).alloc b).heap[w.heap.size + 1]? = some b := by
  show ((w.heap.push a).push b)[w.heap.size + 1]? = _
  rw [Array.getElem?_push, if_pos (by simp)]
theorem block_on {w w' : World} {b : Nat} {o : Obj} (h : Below w.heap.size w w') (hb : w.heap[b]? = some o) : w'.heap[b]? = some o :=
  (h.block b (lt_of_block hb)).trans hb

set_option maxHeartbeats 1000000 in
/-- The program's Same, out of what its Right answers. -/
theorem ownSame_any (Q : Dt → Bool) (hQ : ∀ (t : Dt) (v : Value) (w : World), t.At w v → Calls Tryd.prog 17 #[v] w fun e w' => e = .returned (.bool (Q t)) ∧ Below w.heap.size w w')
    (t t' : Dt) (v v' : Value) (w : World) (hat : t.At w v) (hat' : t'.At w v') :
    Calls Tryd.prog 18 #[v, v'] w fun e w' => e = .returned (.bool (Q t && Q t' && t.alike t')) ∧ Below w.heap.size w w' := by
  have hmf : ∀ (fn : Fn) (first cap : Array Value) (w : World), (Instr.makeFunc fn first cap).run Tryd.prog w = .ok (.func fn first cap) w := fun _ _ _ _ => rfl
  have HAT := Lib.hid hat
  have HAT' := Lib.hid hat'
  have C1 := fun w' (h : Below w.heap.size w w') => hQ t v w' (hat.below h)
  have C2 := fun w' (h : Below w.heap.size w w') => hQ t' v' w' (hat'.below h)
  have C3 := fun w' (h : Below w.heap.size w w') Bs hs => same_any _ t (Nat.le_refl _) t' v v' w' Bs (hat.below h) (hat'.below h) hs
  obtain ⟨q1, hq1⟩ : ∃ r, Q t = r := ⟨_, rfl⟩
  obtain ⟨q2, hq2⟩ : ∃ r, Q t' = r := ⟨_, rfl⟩
  obtain ⟨q3, hq3⟩ : ∃ r, t.alike t' = r := ⟨_, rfl⟩
  rw [hq1] at C1 ⊢
  rw [hq2] at C2 ⊢
  rw [hq3] at C3 ⊢
  have HC1 := Lib.hid C1
  have HC2 := Lib.hid C2
  have HC3 := Lib.hid C3
  clear C1 C2 C3 hq1 hq2 hq3 hQ
  obtain ⟨k, n, d, s, l⟩ := t
  obtain ⟨k', n', d', s', l'⟩ := t'
  unfold Dt.At at hat hat'
  obtain ⟨-, -, -, -, hlm, p, cap, rfl, hl⟩ := hat
  obtain ⟨-, -, -, -, hlm', p', cap', rfl, hl'⟩ := hat'
  clear hl hl' hlm hlm'
  have hbt := two_below w (.cells #[.int .i64 k, .int .i64 n, .int .i64 d, .string s, .slice p l.length cap] 24) (.cells #[.int .i64 k', .int .i64 n', .int .i64 d', .string s', .slice p' l'.length cap'] 24)
  have hx1 := two_first w (.cells #[.int .i64 k, .int .i64 n, .int .i64 d, .string s, .slice p l.length cap] 24) (.cells #[.int .i64 k', .int .i64 n', .int .i64 d', .string s', .slice p' l'.length cap'] 24)
  have hx2 := two_second w (.cells #[.int .i64 k, .int .i64 n, .int .i64 d, .string s, .slice p l.length cap] 24) (.cells #[.int .i64 k', .int .i64 n', .int .i64 d', .string s', .slice p' l'.length cap'] 24)
  have HBT := Lib.hid hbt
  have HX1 := Lib.hid hx1
  have HX2 := Lib.hid hx2
  clear hbt hx1 hx2
  go_enter Tryd.func18, Tryd.ntmps18
  go_wp2_with fail
  refine (HC1.out _ HBT.out).mono ?_
  rintro _ w1 ⟨rfl, hb1⟩
  have h1 := block_on hb1 HX1.out
  have h2 := block_on hb1 HX2.out
  have HB1 := Lib.hid (below_seq HBT.out hb1); clear hb1
  cases q1
  · clear h1 h2
    go_wp2_with fail
    go_ret
    exact ⟨rfl, HB1.out⟩
  obtain ⟨c0, c1, c2, c3, c4⟩ := box_cells h2
  have H1 := Lib.hid h1
  have H2 := Lib.hid h2
  clear h1 h2
  go_wp2_with fail
  refine (HC2.out _ HB1.out).mono ?_
  rintro _ w2 ⟨rfl, hb2⟩
  have h1 := block_on hb2 H1.out
  have h2 := block_on hb2 H2.out
  have HB2 := Lib.hid (below_seq HB1.out hb2); clear hb2
  clear c0 c1 c2 c3 c4
  cases q2
  · clear h1 h2
    go_wp2_with fail
    go_ret
    exact ⟨rfl, HB2.out⟩
  obtain ⟨c0, c1, c2, c3, c4⟩ := box_cells (block_on (box_below w2 (.cells #[sameF w2.heap.size] 29)) h1)
  obtain ⟨d0, d1, d2, d3, d4⟩ := box_cells (block_on (box_below w2 (.cells #[sameF w2.heap.size] 29)) h2)
  clear h1 h2
  go_wp2_with fail
  refine (HC3.out _ (below_seq HB2.out (box_below _ _)) w2.heap.size ?_).mono ?_
  · exact cell_of_one (at_new _ _)
  rintro _ w3 ⟨rfl, hb3⟩
  have HB3 := Lib.hid (below_seq HB2.out (below_after hb3)); clear hb3
  go_wp2_with fail
  go_ret
  exact ⟨rfl, HB3.out⟩
end Go.Proofs.YtabofebepefbgaaDoor.Dat

/- The program's own copies of data: Clone of the library, anew. -/
namespace Go.Proofs.YtabofebepefbgaaDoor.Dat
open Go.RowKit
set_option linter.unusedVariables false

mutual
/-- No list in it is too long for a machine. -/
def Dt.slim : Dt → Prop
  | .node _ _ _ _ l => l.length * 64 ≤ 140737488355328 ∧ Dt.slimAll l
def Dt.slimAll : List Dt → Prop
  | [] => True
  | t :: r => t.slim ∧ Dt.slimAll r
end
theorem Dt.slimAll_iff {l : List Dt} : Dt.slimAll l ↔ ∀ x, x ∈ l → x.slim := by
  induction l with
  | nil => simp [Dt.slimAll]
  | cons t r ih => unfold Dt.slimAll; rw [ih]; simp
mutual
theorem Dt.slim_size : ∀ t : Dt, t.size ≤ 1000000 → t.slim
  | .node k n d s l, h => by
    unfold Dt.size at h
    have hl := Dt.sizes_len l
    unfold Dt.slim
    exact ⟨by omega, Dt.slimAll_size l (by omega)⟩
theorem Dt.slimAll_size : ∀ l : List Dt, Dt.sizes l ≤ 1000000 → Dt.slimAll l
  | [], _ => by unfold Dt.slimAll; trivial
  | t :: r, h => by
    unfold Dt.sizes at h
    unfold Dt.slimAll
    exact ⟨Dt.slim_size t (by omega), Dt.slimAll_size r (by omega)⟩
theorem Dt.sizes_len : ∀ l : List Dt, l.length ≤ Dt.sizes l
  | [] => by simp
  | t :: r => by
    unfold Dt.sizes
    have := t.size_pos
    have := Dt.sizes_len r
    simp only [List.length_cons]; omega
end
/-- The cells of data that lie one behind another. -/
theorem Dt.AllAt.row {w : World} : ∀ {l : List Dt} {b o : Nat}, Dt.AllAt w l b o → ∃ xs, xs.length = l.length * 5 ∧ Dt.Row w l xs ∧ (∀ j u, xs[j]? = some u → w.cell? ⟨b, o + j, none⟩ = some u) ∧ (∀ u ∈ xs, u.oneCell' = true)
  | [], b, o, _ => ⟨[], rfl, rfl, fun j u h => by simp at h, fun u h => by simp at h⟩
  | t :: r, b, o, h => by
    unfold Dt.AllAt at h
    obtain ⟨⟨v0, v1, v2, v3, v4, c0, c1, c2, c3, c4, ht⟩, hr⟩ := h
    obtain ⟨xs, hx, hrow, hc, h1⟩ := Dt.AllAt.row hr
    obtain ⟨_, _, _, _, _, _, _, _, rfl, rfl, rfl, rfl, rfl, _, _⟩ := ht.open5
    refine ⟨_ :: _ :: _ :: _ :: _ :: xs, by simp [hx]; omega, ⟨_, _, _, _, _, xs, rfl, ht, hrow⟩, ?_, ?_⟩
    · intro j u hj
      match j, hj with
      | 0, hj => simp at hj; subst hj; exact c0
      | 1, hj => simp at hj; subst hj; exact c1
      | 2, hj => simp at hj; subst hj; exact c2
      | 3, hj => simp at hj; subst hj; exact c3
      | 4, hj => simp at hj; subst hj; exact c4
      | j + 5, hj =>
        have := hc j u (by simpa using hj)
        rw [show o + (j + 5) = o + 5 + j by omega]
        exact this
    · intro u hu
      simp only [List.mem_cons] at hu
      rcases hu with rfl | rfl | rfl | rfl | rfl | hu
      · rfl
      · rfl
      · rfl
      · rfl
      · rfl
      · exact h1 u hu
/-- The row's cells are those of the data, wherever they lie. -/
def RowIs (W : World) (cur : Array Value) (l : List Dt) : Prop :=
  ∀ j t, l[j]? = some t → ∃ v0 v1 v2 v3 v4, cur[j * 5]? = some v0 ∧ cur[j * 5 + 1]? = some v1 ∧ cur[j * 5 + 2]? = some v2 ∧ cur[j * 5 + 3]? = some v3 ∧ cur[j * 5 + 4]? = some v4 ∧ t.At W (.agg #[v0, v1, v2, v3, v4])
theorem RowIs.on {W W' : World} {cur : Array Value} {l : List Dt} (h : RowIs W cur l) (hc : ∀ b o v, W.cell? ⟨b, o, none⟩ = some v → W'.cell? ⟨b, o, none⟩ = some v) : RowIs W' cur l := fun j t ht => by
  obtain ⟨v0, v1, v2, v3, v4, c0, c1, c2, c3, c4, ha⟩ := h j t ht
  exact ⟨v0, v1, v2, v3, v4, c0, c1, c2, c3, c4, ha.on hc⟩
theorem Dt.Row.is {W : World} {cur : Array Value} {g : Nat} : ∀ {l : List Dt} {xs : List Value} {o : Nat}, Dt.Row W l xs → (∀ j u, xs[j]? = some u → cur[o + j]? = some u) →
    ∀ j t, l[j]? = some t → ∃ v0 v1 v2 v3 v4, cur[o + j * 5]? = some v0 ∧ cur[o + j * 5 + 1]? = some v1 ∧ cur[o + j * 5 + 2]? = some v2 ∧ cur[o + j * 5 + 3]? = some v3 ∧ cur[o + j * 5 + 4]? = some v4 ∧ t.At W (.agg #[v0, v1, v2, v3, v4])
  | [], _, _, _, _, j, t, h => by simp at h
  | x :: r, xs, o, hr, hx, j, t, h => by
    unfold Dt.Row at hr
    obtain ⟨u0, u1, u2, u3, u4, ys, rfl, ht, hr⟩ := hr
    cases j with
    | zero =>
      simp at h; subst h
      exact ⟨u0, u1, u2, u3, u4, by simpa using hx 0 _ rfl, by simpa using hx 1 _ rfl, by simpa using hx 2 _ rfl, by simpa using hx 3 _ rfl, by simpa using hx 4 _ rfl, ht⟩
    | succ j =>
      have := Dt.Row.is (g := g) (o := o + 5) hr (fun j u hj => by
        have := hx (j + 5) u (by simpa using hj)
        rw [show o + (j + 5) = o + 5 + j by omega] at this
        exact this) j t (by simpa using h)
      rw [show o + (j + 1) * 5 = o + 5 + j * 5 by omega]
      exact this
/-- Five cells of the row are written anew. -/
theorem RowIs.set {W : World} {cur : Array Value} {l : List Dt} (h : RowIs W cur l) {i : Nat} {t : Dt} (ht : l[i]? = some t) (hs : l.length * 5 ≤ cur.size) {b0 b1 b2 b3 b4 : Value} (ha : t.At W (.agg #[b0, b1, b2, b3, b4])) :
    RowIs W (((((cur.setIfInBounds (i * 5) b0).setIfInBounds (i * 5 + 1) b1).setIfInBounds (i * 5 + 2) b2).setIfInBounds (i * 5 + 3) b3).setIfInBounds (i * 5 + 4) b4) l := by
  intro j x hx
  have hi := (List.getElem?_eq_some_iff.1 ht).1
  by_cases e : j = i
  · subst e
    rw [ht] at hx
    obtain rfl : t = x := by simpa using hx
    refine ⟨b0, b1, b2, b3, b4, ?_, ?_, ?_, ?_, ?_, ha⟩
    all_goals
      simp only [Array.getElem?_setIfInBounds, Array.size_setIfInBounds]
      simp
      omega
  · obtain ⟨v0, v1, v2, v3, v4, c0, c1, c2, c3, c4, hta⟩ := h j x hx
    refine ⟨v0, v1, v2, v3, v4, ?_, ?_, ?_, ?_, ?_, hta⟩
    all_goals
      simp only [Array.getElem?_setIfInBounds]
      rw [if_neg (by omega), if_neg (by omega), if_neg (by omega), if_neg (by omega), if_neg (by omega)]
      assumption
theorem RowIs.allAt {W : World} {cur : Array Value} {g : Nat} (hc : ∀ j u, cur[j]? = some u → W.cell? ⟨g, j, none⟩ = some u) {l : List Dt} (h : RowIs W cur l) : Dt.AllAt W l g 0 := by
  apply Dt.AllAt.of
  intro i t hit
  obtain ⟨v0, v1, v2, v3, v4, c0, c1, c2, c3, c4, ha⟩ := h i t hit
  exact ⟨v0, v1, v2, v3, v4, hc _ _ (by simpa using c0), hc _ _ (by simpa using c1), hc _ _ (by simpa using c2), hc _ _ (by simpa using c3), hc _ _ (by simpa using c4), ha⟩

set_option maxHeartbeats 1000000 in
set_option maxRecDepth 100000 in
/-- Clone of the library, of data. -/
theorem clone_any (b o n c : Nat) (news : List Value) (w : World) (hl : news.length = n * 5) (hn : n ≤ maxLen) (hbig : n * 64 ≤ 140737488355328)
    (hc : ∀ j u, news[j]? = some u → w.cell? ⟨b, o + j, none⟩ = some u) (h1 : ∀ u ∈ news, u.oneCell' = true) :
    Calls Tryd.prog 58 #[.slice (some ⟨b, o, none⟩) n c] w fun e w' => ∃ v', e = .returned v' ∧ w'.ownsRow w.heap.size 24 5 v' n news ∧ v' ≠ .slice none 0 0 ∧ Below w.heap.size w w' := by
  obtain ⟨i0, hi, hz⟩ := Option.map_eq_some_iff.1 Tryd.infoDt
  simp only [Prod.mk.injEq] at hz
  obtain ⟨hz0, hz1, hz2⟩ := hz
  have q22 : ∀ (w : World) (a : Option Addr) (n c n' c' : Nat), (binOp .eql 22 (.slice a n c) (.slice none n' c')).run Tryd.prog w = .ok (.bool a.isNone) w := fun w a n c n' c' => Lib.run_eql_slice_nil w _ _ a n c n' c' Tryd.underlying22
  have HI := Lib.hid (And.intro hi (And.intro hz0 (And.intro hz1 hz2))); clear hi hz0 hz1 hz2
  have HC := Lib.hid hc; clear hc
  have H1 := Lib.hid h1; clear h1
  go_enter Tryd.func58, Tryd.ntmps58
  go_wp2_with (at_builtin; refine wpList_append_own _ rfl _ _ 22 rfl w.heap.size 24 i0 (.agg #[.int .i64 0, .int .i64 0, .int .i64 0, .string ⟨#[]⟩, .slice none 0 0]) 5 64 Tryd.underlying22 HI.out.1 HI.out.2.1 HI.out.2.2.1 HI.out.2.2.2 rfl (by decide) _ _ _ rfl (World.ownsRow_made w #[] 0 (Nat.le_refl _) (Nat.zero_le _) (by simp)) ⟨b, o, none⟩ n c news rfl ?qc1 ?qc2 ?qc3 ?qc4 ?qc5 ?qc6 ?_)
  case qc1 => exact hl
  case qc2 =>
    intro j u hj
    rw [Addr.add_lit]
    exact cell_on (box_below _ _) _ _ _ (HC.out j u hj)
  case qc3 => exact H1.out
  case qc4 => rw [Nat.zero_add]; exact hn
  case qc5 => rw [Nat.zero_add]; exact hbig
  case qc6 => simp
  intro v' w1 hown hgrow hnil
  go_wp2
  go_ret
  refine ⟨v', rfl, by simpa using hown, ?_, ?_⟩
  · exact hnil
  · exact (box_below w _).grown hgrow (by simp) (by intro k hk; simp [Value.ownBlock] at hk; omega)
theorem clone_nil (n c : Nat) (w : World) : Calls Tryd.prog 58 #[.slice none n c] w fun e w' => e = .returned (.slice none 0 0) ∧ Below w.heap.size w w' := by
  have q22 : ∀ (w : World) (a : Option Addr) (n c n' c' : Nat), (binOp .eql 22 (.slice a n c) (.slice none n' c')).run Tryd.prog w = .ok (.bool a.isNone) w := fun w a n c n' c' => Lib.run_eql_slice_nil w _ _ a n c n' c' Tryd.underlying22
  go_enter Tryd.func58, Tryd.ntmps58
  go_wp2
  go_ret
  exact ⟨rfl, Below.refl _ _⟩
set_option maxHeartbeats 1000000 in
set_option maxRecDepth 100000 in
theorem clone_zero (a : Addr) (c : Nat) (w : World) : Calls Tryd.prog 58 #[.slice (some a) 0 c] w fun e w' => ∃ v', e = .returned v' ∧ w'.ownsRow w.heap.size 24 5 v' 0 [] ∧ Below w.heap.size w w' := by
  obtain ⟨i0, hi, hz⟩ := Option.map_eq_some_iff.1 Tryd.infoDt
  simp only [Prod.mk.injEq] at hz
  obtain ⟨hz0, hz1, hz2⟩ := hz
  have q22 : ∀ (w : World) (a : Option Addr) (n c n' c' : Nat), (binOp .eql 22 (.slice a n c) (.slice none n' c')).run Tryd.prog w = .ok (.bool a.isNone) w := fun w a n c n' c' => Lib.run_eql_slice_nil w _ _ a n c n' c' Tryd.underlying22
  have HI := Lib.hid (And.intro hi (And.intro hz0 (And.intro hz1 hz2))); clear hi hz0 hz1 hz2
  go_enter Tryd.func58, Tryd.ntmps58
  go_wp2_with (at_builtin; refine wpList_append_own _ rfl _ _ 22 rfl w.heap.size 24 i0 (.agg #[.int .i64 0, .int .i64 0, .int .i64 0, .string ⟨#[]⟩, .slice none 0 0]) 5 64 Tryd.underlying22 HI.out.1 HI.out.2.1 HI.out.2.2.1 HI.out.2.2.2 rfl (by decide) _ _ _ rfl (World.ownsRow_made w #[] 0 (Nat.le_refl _) (Nat.zero_le _) (by simp)) a 0 c [] rfl rfl (by intro j u hj; simp at hj) (by intro u hu; cases hu) (by unfold maxLen; omega) (by omega) (by simp) ?_)
  intro v' w1 hown hgrow hnil
  go_wp2
  go_ret
  exact ⟨v', rfl, by simpa using hown, (box_below w _).grown hgrow (by simp) (by intro k hk; simp [Value.ownBlock] at hk; omega)⟩
end Go.Proofs.YtabofebepefbgaaDoor.Dat

/- The program's own copies of data: anew, copied. -/
namespace Go.Proofs.YtabofebepefbgaaDoor.Dat
open Go.RowKit
set_option linter.unusedVariables false

theorem Tryd.cellDt : (Tryd.prog.info? 24).map (·.size) = some 5 := by kernel_rfl
abbrev anewF (Ba : Nat) : Value := .func (.func 57) #[] #[.pointer (some ⟨Ba, 0, none⟩)]
/-- What a call of anew does. -/
def AnewAt (t : Dt) : Prop := ∀ (X : Nat → Bool) (v : Value) (w : World) (Ba : Nat), (∀ b, w.heap.size ≤ b → X b = false) → t.At (off w X) v → t.slim → w.cell? ⟨Ba, 0, none⟩ = some (anewF Ba) →
    Calls Tryd.prog 57 #[v, .pointer (some ⟨Ba, 0, none⟩)] w fun e w' => (∃ k n d s p len cap, e = .returned (.agg #[.int .i64 k, .int .i64 n, .int .i64 d, .string s, .slice p len cap]) ∧ t.At (off w' X) (.agg #[.int .i64 k, .int .i64 n, .int .i64 d, .string s, .slice p len cap])) ∧ Below w.heap.size w w'
/-- Two more blocks, and a third one. -/
def plus (X : Nat → Bool) (B g : Nat) (b : Nat) : Bool := X b || b == B || b == B + 1 || b == g
theorem plus_no {X : Nat → Bool} {B g b : Nat} : plus X B g b = false ↔ X b = false ∧ b ≠ B ∧ b ≠ B + 1 ∧ b ≠ g := by
  unfold plus; simp [and_assoc]
theorem off_up {w : World} {X Y : Nat → Bool} (h : ∀ b, X b = false → Y b = false) (b o : Nat) (v : Value) (hv : (off w X).cell? ⟨b, o, none⟩ = some v) : (off w Y).cell? ⟨b, o, none⟩ = some v :=
  off_on (fun b _ hx => h b hx) (fun b _ _ => rfl) b o v hv
theorem off_later {w w' : World} {X : Nat → Bool} (h : Below w.heap.size w w') (b o : Nat) (v : Value) (hv : (off w X).cell? ⟨b, o, none⟩ = some v) : (off w' X).cell? ⟨b, o, none⟩ = some v :=
  off_on (fun _ _ hx => hx) (fun b hb _ => h.block b hb) b o v hv
theorem plus_on {w W : World} {X : Nat → Bool} {g : Nat} (h : Below w.heap.size w W) (hg : w.heap.size + 2 ≤ g) (b o : Nat) (v : Value) (hv : (off w X).cell? ⟨b, o, none⟩ = some v) : (off W (plus X w.heap.size g)).cell? ⟨b, o, none⟩ = some v :=
  off_on (fun b hb hx => plus_no.2 ⟨hx, by omega, by omega, by omega⟩) (fun b hb _ => h.block b hb) b o v hv
theorem cell_of_block {w : World} {B : Nat} {cs : Array Value} {t : TypeId} {fr : Nat × Nat} (h : w.heap[B]? = some (.cells cs t fr)) {j : Nat} : w.cell? ⟨B, j, none⟩ = cs[j]? := by
  unfold World.cell?
  simp [h]
def gOf : Option Addr → Nat
  | some a => a.block
  | none => 0

theorem set_five_at_other {w : World} {g i k : Nat} {b0 b1 b2 b3 b4 : Value} (h : k ≠ g) :
    (((((w.setCell ⟨g, i, none⟩ b0).setCell ⟨g, i + 1, none⟩ b1).setCell ⟨g, i + 2, none⟩ b2).setCell ⟨g, i + 3, none⟩ b3).setCell ⟨g, i + 4, none⟩ b4).heap[k]? = w.heap[k]? := by
  rw [heap_setCell_other _ _ _ _ (by exact h), heap_setCell_other _ _ _ _ (by exact h), heap_setCell_other _ _ _ _ (by exact h), heap_setCell_other _ _ _ _ (by exact h), heap_setCell_other _ _ _ _ (by exact h)]
theorem cell_set5 {w : World} {g i b o : Nat} {b0 b1 b2 b3 b4 : Value} (h : b ≠ g) :
    (((((w.setCell ⟨g, i, none⟩ b0).setCell ⟨g, i + 1, none⟩ b1).setCell ⟨g, i + 2, none⟩ b2).setCell ⟨g, i + 3, none⟩ b3).setCell ⟨g, i + 4, none⟩ b4).cell? ⟨b, o, none⟩ = w.cell? ⟨b, o, none⟩ :=
  World.cell?_of_block (set_five_at_other h)
theorem set_five_at {w : World} {g i : Nat} {cur : Array Value} {b0 b1 b2 b3 b4 : Value} {t : TypeId} (h : w.heap[g]? = some (.cells cur t (0, 0))) :
    (((((w.setCell ⟨g, i, none⟩ b0).setCell ⟨g, i + 1, none⟩ b1).setCell ⟨g, i + 2, none⟩ b2).setCell ⟨g, i + 3, none⟩ b3).setCell ⟨g, i + 4, none⟩ b4).heap[g]? = some (.cells (((((cur.setIfInBounds i b0).setIfInBounds (i + 1) b1).setIfInBounds (i + 2) b2).setIfInBounds (i + 3) b3).setIfInBounds (i + 4) b4) t (0, 0)) :=
  heap_setCell_same _ _ _ _ t _ (heap_setCell_same _ _ _ _ t _ (heap_setCell_same _ _ _ _ t _ (heap_setCell_same _ _ _ _ t _ (heap_setCell_same _ _ _ _ t _ h))))
/-- Clone of the library, of a datum's parts. -/
theorem cloneL_any (V : World) (l : List Dt) (p : Option Addr) (cap : Nat) (w : World) (hlm : l.length ≤ maxLen) (hbig : l.length * 64 ≤ 140737488355328) (hV : ∀ b o v, V.cell? ⟨b, o, none⟩ = some v → w.cell? ⟨b, o, none⟩ = some v) (hl : l = [] ∨ ∃ b o, p = some ⟨b, o, none⟩ ∧ Dt.AllAt V l b o) :
    Calls Tryd.prog 58 #[.slice p l.length cap] w fun e w' => (∃ p' cap', e = .returned (.slice p' l.length cap') ∧ (l = [] ∨ (p' = some ⟨gOf p', 0, none⟩ ∧ w.heap.size ≤ gOf p' ∧ ∃ cur : Array Value, w'.heap[gOf p']? = some (.cells cur 24 (0, 0)) ∧ l.length * 5 ≤ cur.size ∧ RowIs V cur l))) ∧ Below w.heap.size w w' := by
  by_cases h0 : l = []
  · subst h0
    cases p with
    | none => exact (clone_nil 0 cap w).mono fun e w' ⟨he, hb⟩ => ⟨⟨none, 0, he, Or.inl rfl⟩, hb⟩
    | some a =>
      refine (clone_zero a cap w).mono fun e w' ⟨v', he, ho, hb⟩ => ?_
      rcases ho.2 with ⟨rfl, _⟩ | ⟨g, c, cur, rfl, _⟩
      · exact ⟨⟨none, 0, he, Or.inl rfl⟩, hb⟩
      · exact ⟨⟨_, c, he, Or.inl rfl⟩, hb⟩
  · rcases hl with hl | ⟨b, o, rfl, hall⟩
    · exact absurd hl h0
    obtain ⟨xs, hx, hrow, hc, h1⟩ := hall.row
    refine (clone_any b o l.length cap xs w hx hlm hbig (fun j u hj => hV _ _ _ (hc j u hj)) h1).mono fun e w' ⟨v', he, ho, hn, hb⟩ => ?_
    rcases ho.2 with ⟨rfl, h⟩ | ⟨g, c, cur, rfl, hg, hgg, hnc, hcm, hcs, ht⟩
    · exact absurd (List.eq_nil_of_length_eq_zero h) h0
    · refine ⟨⟨_, c, he, Or.inr ⟨rfl, hg, cur, hgg, by omega, ?_⟩⟩, hb⟩
      intro j t hj
      have := Dt.Row.is (cur := cur) (g := g) (o := 0) hrow (fun j u hj => by
        rw [← ht, List.getElem?_take] at hj
        split at hj
        · rw [Nat.zero_add]; simpa using hj
        · cases hj) j t hj
      simpa only [Nat.zero_add] using this

/-- The copy of the parts, as far as it has come. -/
def Copy (X : Nat → Bool) (B : Nat) (p' : Option Addr) (l : List Dt) (W : World) : Prop :=
  l = [] ∨ (p' = some ⟨gOf p', 0, none⟩ ∧ B + 2 ≤ gOf p' ∧ ∃ cur : Array Value, W.heap[gOf p']? = some (.cells cur 24 (0, 0)) ∧ l.length * 5 ≤ cur.size ∧ RowIs (off W (plus X B (gOf p'))) cur l)

set_option maxHeartbeats 4000000 in
set_option maxRecDepth 100000 in
theorem anew_any (N : Nat) : ∀ t : Dt, t.size ≤ N → AnewAt t := by
  induction N with
  | zero => intro t h; have := t.size_pos; omega
  | succ N ih =>
    intro t hN X v w Ba hX hat hslim ha
    obtain ⟨k, n, d, s, l⟩ := t
    unfold Dt.At at hat
    obtain ⟨hk, hn, hd, hs, hlm, p, cap, rfl, hl⟩ := hat
    unfold Dt.slim at hslim
    have hsl := Dt.slimAll_iff.1 hslim.2
    have ltA := cell_lt ha
    have hbt := two_below w (.cells #[.int .i64 k, .int .i64 n, .int .i64 d, .string s, .slice p l.length cap] 24) (.cells #[.int .i64 0, .int .i64 0, .int .i64 0, .string ⟨#[]⟩, .slice none 0 0] 24)
    have HX1 := Lib.hid (two_first w (.cells #[.int .i64 k, .int .i64 n, .int .i64 d, .string s, .slice p l.length cap] 24) (.cells #[.int .i64 0, .int .i64 0, .int .i64 0, .string ⟨#[]⟩, .slice none 0 0] 24))
    have HX2 := Lib.hid (two_second w (.cells #[.int .i64 k, .int .i64 n, .int .i64 d, .string s, .slice p l.length cap] 24) (.cells #[.int .i64 0, .int .i64 0, .int .i64 0, .string ⟨#[]⟩, .slice none 0 0] 24))
    have C := cloneL_any (off w X) l p cap _ hlm hslim.1 (fun b o v hv => cell_on hbt _ _ _ (off_cell.1 hv).2) hl
    have HC := Lib.hid C
    have HBT := Lib.hid hbt
    have HHEAD := Lib.hid (And.intro hk (And.intro hn (And.intro hd (And.intro hs hlm))))
    have IH := Lib.hid (show ∀ t, t ∈ l → AnewAt t from fun t ht => ih t (by obtain ⟨i, hi⟩ := List.mem_iff_getElem?.1 ht; have h1 := Dt.size_kid hi; unfold Dt.size at hN; omega))
    have HSL := Lib.hid hsl
    have HX := Lib.hid hX
    have HA := Lib.hid ha
    unfold maxLen at hlm
    clear C hbt hl hk hn hd hs ih hN hsl hslim hX ha
    go_enter Tryd.func57, Tryd.ntmps57
    go_wp2_with fail
    refine (HC.out).mono ?_
    rintro _ w1 ⟨⟨p', cap', rfl, hcp⟩, hb1⟩
    have h1 := block_on hb1 HX1.out
    have h2 := block_on hb1 HX2.out
    obtain ⟨c0, c1, c2, c3, c4⟩ := box_cells h1
    have z4 := box_frozen h1 4
    have HS1 := Lib.hid ((heap_setCell_same w1 w.heap.size 4 _ 24 (.slice p' l.length cap') h1).trans (show _ = some (Obj.cells #[.int .i64 k, .int .i64 n, .int .i64 d, .string s, .slice p' l.length cap'] 24 (0, 0)) by simp))
    have HS2 := Lib.hid ((heap_setCell_other w1 ⟨w.heap.size, 4, none⟩ (w.heap.size + 1) (.slice p' l.length cap') (by simp)).trans h2)
    have hB1 : Below w.heap.size w w1 := below_seq HBT.out hb1
    have HB2 := Lib.hid (hB1.setCell (p := ⟨w.heap.size, 4, none⟩) (Nat.le_refl _) (.slice p' l.length cap'))
    have HCP := Lib.hid (show Copy X w.heap.size p' l (w1.setCell ⟨w.heap.size, 4, none⟩ (.slice p' l.length cap')) from by
      rcases hcp with h | ⟨e, hg, cur, hgg, hcs, hrow⟩
      · exact Or.inl h
      · have hg2 : w.heap.size + 2 ≤ gOf p' := by
          have : ((w.alloc (.cells #[.int .i64 k, .int .i64 n, .int .i64 d, .string s, .slice p l.length cap] 24)).alloc (.cells #[.int .i64 0, .int .i64 0, .int .i64 0, .string ⟨#[]⟩, .slice none 0 0] 24)).heap.size = w.heap.size + 2 := by
            show ((w.heap.push _).push _).size = _; simp
          omega
        exact Or.inr ⟨e, hg2, cur, (heap_setCell_other w1 _ _ _ (by show gOf p' ≠ w.heap.size; omega)).trans hgg, hcs, hrow.on (plus_on HB2.out hg2)⟩)
    have hA1 : (w1.setCell ⟨w.heap.size, 4, none⟩ (.slice p' l.length cap')).cell? ⟨Ba, 0, none⟩ = some (anewF Ba) := cell_on HB2.out _ _ _ HA.out
    clear hcp hb1 h1 h2 hB1
    have HA1 := Lib.hid hA1; clear hA1
    go_wp2_with fail
    go_loopw [13] (fun x wr => ∃ (i : Nat), i ≤ l.length ∧ x = .int .i64 i ∧ wr.heap[w.heap.size]? = some (.cells #[.int .i64 k, .int .i64 n, .int .i64 d, .string s, .slice p' l.length cap'] 24 (0, 0)) ∧
      wr.heap[w.heap.size + 1]? = some (.cells #[.int .i64 0, .int .i64 0, .int .i64 0, .string ⟨#[]⟩, .slice none 0 0] 24 (0, 0)) ∧ wr.cell? ⟨Ba, 0, none⟩ = some (anewF Ba) ∧ Copy X w.heap.size p' l wr ∧ Below w.heap.size w wr) (fun x _ => l.length - (intOf x).toNat)
    case atStart => exact ⟨0, by omega, rfl, HS1.out, HS2.out, HA1.out, HCP.out, HB2.out⟩
    case round =>
      obtain ⟨i, hi, rfl, q1, q2, qa, qc, qb⟩ := hrel
      by_cases hlt : i < l.length
      · obtain ⟨t, ht⟩ : ∃ t, l[i]? = some t := ⟨l[i], by simp [hlt]⟩
        rcases qc with he | ⟨hp', hg2, cur, hgg, hcs, hrow⟩
        · rw [he] at hlt; simp at hlt
        obtain ⟨g, hg⟩ : ∃ g, gOf p' = g := ⟨_, rfl⟩
        rw [hg] at hp' hg2 hgg hrow
        subst hp'
        clear hg
        have hi0 : (0 : Int) ≤ (i : Int) := Int.natCast_nonneg _
        have hi1 : (i : Int) < (l.length : Int) := by omega
        obtain ⟨v0, v1, v2, v3, v4, e0, e1, e2, e3, e4, hta⟩ := hrow i t ht
        have hta0 := hta
        obtain ⟨kt, nt, dt, st, lt, pt, capt, hte, rfl, rfl, rfl, rfl, rfl, _, _⟩ := hta.open5
        have d0 := (cell_of_block hgg (j := i * 5)).trans e0
        have d1 := (cell_of_block hgg (j := i * 5 + 1)).trans e1
        have d2 := (cell_of_block hgg (j := i * 5 + 2)).trans e2
        have d3 := (cell_of_block hgg (j := i * 5 + 3)).trans e3
        have d4 := (cell_of_block hgg (j := i * 5 + 4)).trans e4
        have ltg := lt_of_block hgg
        have hbx := box_below wr (.cells #[.int .i64 kt, .int .i64 nt, .int .i64 dt, .string st, .slice pt lt.length capt] 24)
        have hY : ∀ b, (wr.alloc (.cells #[.int .i64 kt, .int .i64 nt, .int .i64 dt, .string st, .slice pt lt.length capt] 24)).drew.heap.size ≤ b → plus X w.heap.size g b = false := fun b hb => by
          have h1 : wr.heap.size ≤ b := Nat.le_trans hbx.size hb
          have h2 := qb.size
          have h3 := lt_of_block q2
          exact plus_no.2 ⟨HX.out b (by omega), by omega, by omega, by omega⟩
        have C := IH.out t (List.mem_of_getElem? ht) (plus X w.heap.size g) _ (wr.alloc (.cells #[.int .i64 kt, .int .i64 nt, .int .i64 dt, .string st, .slice pt lt.length capt] 24)).drew Ba hY (hta0.on (off_later hbx.drew)) (HSL.out t (List.mem_of_getElem? ht)) (cell_on hbx.drew _ _ _ qa)
        have HC2 := Lib.hid C
        obtain ⟨b0, b1, b2, b3, b4⟩ := box_cells (block_on hbx q1)
        have HG0 := Lib.hid hgg
        have HQ1 := Lib.hid q1
        have HQ2 := Lib.hid q2
        have HQB := Lib.hid qb
        have HQA0 := Lib.hid qa
        have qa' := cell_on hbx _ _ _ qa
        have HROW := Lib.hid hrow
        have HT := Lib.hid ht
        have HCS := Lib.hid hcs
        have HBX := Lib.hid hbx
        have f0 := (show (wr.alloc (.cells #[.int .i64 kt, .int .i64 nt, .int .i64 dt, .string st, .slice pt lt.length capt] 24)).heap[wr.heap.size]? = _ from at_new _ _)
        obtain ⟨x0, x1, x2, x3, x4⟩ := box_cells f0
        clear C hta hta0 hte hY hrow hgg q1 q2 qa qb e0 e1 e2 e3 e4 ht hcs hbx f0 b0 b1 b2 b3
        go_wp2_with fail
        obtain ⟨W1, hW1⟩ : ∃ W1, wr.alloc (.cells #[.int .i64 kt, .int .i64 nt, .int .i64 dt, .string st, .slice pt lt.length capt] 24) = W1 := ⟨_, rfl⟩
        rw [hW1] at HC2 HBX b4 qa' x0 x1 x2 x3 x4 ⊢
        clear hW1
        have n1 : w.heap.size ≠ g := by omega
        have n2 : Ba ≠ g := by omega
        have n3 : wr.heap.size ≠ g := by omega
        go_region_held3 (fun w' => w'.cell? ⟨w.heap.size, 4, none⟩ = some (.slice (some ⟨g, 0, none⟩) l.length cap') ∧ w'.cell? ⟨Ba, 0, none⟩ = some (anewF Ba) ∧ w'.cell? ⟨wr.heap.size, 0, none⟩ = some (.int .i64 kt) ∧ w'.cell? ⟨wr.heap.size, 1, none⟩ = some (.int .i64 nt) ∧ w'.cell? ⟨wr.heap.size, 2, none⟩ = some (.int .i64 dt) ∧ w'.cell? ⟨wr.heap.size, 3, none⟩ = some (.string st) ∧ w'.cell? ⟨wr.heap.size, 4, none⟩ = some (.slice pt lt.length capt))
          (first | (refine ⟨?_, ?_, ?_, ?_, ?_, ?_, ?_⟩ <;> with_reducible assumption) | (refine ⟨?_, ?_, ?_, ?_, ?_, ?_, ?_⟩ <;> ((with_reducible refine (cell_set5 ?_).trans ?_) <;> with_reducible assumption)) | exact ⟨b4, qa', x0, x1, x2, x3, x4⟩)
          ((go_at_call 57; refine (HC2.out).mono ?_; rintro _ w2 ⟨⟨ku, nu, du, su, pu, lenu, capu, rfl, hu⟩, hb2⟩
            have hbb : Below wr.heap.size wr w2 := below_seq HBX.out.drew hb2
            have hg3 := block_on hbb HG0.out
            have k0 : w2.cell? ⟨w.heap.size, 4, none⟩ = some (.slice (some ⟨g, 0, none⟩) l.length cap') := cell_on hb2 _ _ _ b4
            have k1 : w2.cell? ⟨Ba, 0, none⟩ = some (anewF Ba) := cell_on hb2 _ _ _ qa'
            have k2 : w2.cell? ⟨wr.heap.size, 0, none⟩ = some (.int .i64 kt) := cell_on hb2 _ _ _ x0
            have k3 : w2.cell? ⟨wr.heap.size, 1, none⟩ = some (.int .i64 nt) := cell_on hb2 _ _ _ x1
            have k4 : w2.cell? ⟨wr.heap.size, 2, none⟩ = some (.int .i64 dt) := cell_on hb2 _ _ _ x2
            have k5 : w2.cell? ⟨wr.heap.size, 3, none⟩ = some (.string st) := cell_on hb2 _ _ _ x3
            have k6 : w2.cell? ⟨wr.heap.size, 4, none⟩ = some (.slice pt lt.length capt) := cell_on hb2 _ _ _ x4
            have y0 := cell_on hbb _ _ _ d0
            have y1 := cell_on hbb _ _ _ d1
            have y2 := cell_on hbb _ _ _ d2
            have y3 := cell_on hbb _ _ _ d3
            have y4 := cell_on hbb _ _ _ d4
            have z0 := box_frozen hg3 (i * 5)
            have z1 := box_frozen hg3 (i * 5 + 1)
            have z2 := box_frozen hg3 (i * 5 + 2)
            have z3 := box_frozen hg3 (i * 5 + 3)
            have z4 := box_frozen hg3 (i * 5 + 4)
            have HG3 := Lib.hid hg3
            have HBB := Lib.hid hbb
            have HU := Lib.hid hu
            clear hg3 hbb hu hb2))
        go_wp2_with fail
        go_roundw
        case rel =>
          have hq1 := block_on HBB.out HQ1.out
          have hq2 := block_on HBB.out HQ2.out
          have hqa := cell_on HBB.out _ _ _ HQA0.out
          have hqb := below_seq HQB.out HBB.out
          have hne1 : w.heap.size ≠ g := by omega
          have hne2 : w.heap.size + 1 ≠ g := by omega
          have hst : ∀ b, b ≠ g → (((((w2.setCell ⟨g, i * 5, none⟩ (.int .i64 ku)).setCell ⟨g, i * 5 + 1, none⟩ (.int .i64 nu)).setCell ⟨g, i * 5 + 2, none⟩ (.int .i64 du)).setCell ⟨g, i * 5 + 3, none⟩ (.string su)).setCell ⟨g, i * 5 + 4, none⟩ (.slice pu lenu capu)).heap[b]? = w2.heap[b]? := fun b hb => set_five_at_other hb
          have hoff := fun (b o : Nat) (v : Value) (hv : (off w2 (plus X w.heap.size g)).cell? ⟨b, o, none⟩ = some v) => off_on (w' := ((((w2.setCell ⟨g, i * 5, none⟩ (.int .i64 ku)).setCell ⟨g, i * 5 + 1, none⟩ (.int .i64 nu)).setCell ⟨g, i * 5 + 2, none⟩ (.int .i64 du)).setCell ⟨g, i * 5 + 3, none⟩ (.string su)).setCell ⟨g, i * 5 + 4, none⟩ (.slice pu lenu capu)) (X := plus X w.heap.size g) (Y := plus X w.heap.size g) (fun _ _ hx => hx) (fun b _ hx => hst b (plus_no.1 hx).2.2.2) b o v hv
          refine ⟨i + 1, by omega, by go_num, (hst _ hne1).trans hq1, (hst _ hne2).trans hq2, ?_, Or.inr ⟨rfl, hg2, _, set_five_at HG3.out, by simpa using HCS.out, ?_⟩, ?_⟩
          · exact (World.cell?_of_block (hst Ba (by omega))).trans hqa
          · exact ((HROW.out).on (off_later HBB.out) |>.on hoff).set HT.out HCS.out ((HU.out).on hoff)
          · exact ((((hqb.setCell (by show w.heap.size ≤ g; omega) _).setCell (by show w.heap.size ≤ g; omega) _).setCell (by show w.heap.size ≤ g; omega) _).setCell (by show w.heap.size ≤ g; omega) _).setCell (by show w.heap.size ≤ g; omega) _
        case measure => simp [intOf]; omega
      · obtain ⟨c0, c1, c2, c3, c4⟩ := box_cells q1
        have z0 := box_frozen q2 0
        have z1 := box_frozen q2 1
        have z2 := box_frozen q2 2
        have z3 := box_frozen q2 3
        have z4 := box_frozen q2 4
        obtain ⟨r0, r1, r2, r3, r4⟩ := box_cells q2
        have HQ2 := Lib.hid q2
        have HQC := Lib.hid qc
        have HQB := Lib.hid qb
        clear q1 q2 qc qb qa
        go_wp2_with fail
        have hr2 := set_five (b0 := .int .i64 k) (b1 := .int .i64 n) (b2 := .int .i64 d) (b3 := .string s) (b4 := .slice p' l.length cap') HQ2.out
        refine bodyPost_ret (results_cell_row rfl _ _ (w.heap.size + 1) 24 _ (0, 0) _ rfl hr2 Tryd.underlying24 rfl Tryd.cellDt) rfl ?_
        refine ⟨⟨k, n, d, s, p', l.length, cap', rfl, ?_⟩, set_five_below HQB.out (Nat.le_succ _)⟩
        unfold Dt.At
        refine ⟨HHEAD.out.1, HHEAD.out.2.1, HHEAD.out.2.2.1, HHEAD.out.2.2.2.1, HHEAD.out.2.2.2.2, p', cap', rfl, ?_⟩
        rcases HQC.out with h | ⟨e, hg2, cur, hgg, hcs, hrow⟩
        · exact Or.inl h
        · have hgX : X (gOf p') = false := HX.out _ (by omega)
          have hst : ∀ b, b ≠ w.heap.size + 1 → (((((wr.setCell ⟨w.heap.size + 1, 0, none⟩ (.int .i64 k)).setCell ⟨w.heap.size + 1, 1, none⟩ (.int .i64 n)).setCell ⟨w.heap.size + 1, 2, none⟩ (.int .i64 d)).setCell ⟨w.heap.size + 1, 3, none⟩ (.string s)).setCell ⟨w.heap.size + 1, 4, none⟩ (.slice p' l.length cap')).heap[b]? = wr.heap[b]? := fun b hb => set_five_other hb
          refine Or.inr ⟨gOf p', 0, e, RowIs.allAt (cur := cur) (fun j u hj => off_cell.2 ⟨hgX, ?_⟩) (hrow.on (off_on (fun b _ hx => (plus_no.1 hx).1) fun b _ hx => hst b (plus_no.1 hx).2.2.1))⟩
          rw [cell_of_block ((hst _ (by omega)).trans hgg)]
          exact hj
end Go.Proofs.YtabofebepefbgaaDoor.Dat

/- The program's own copied. -/
namespace Go.Proofs.YtabofebepefbgaaDoor.Dat
open Go.RowKit
set_option linter.unusedVariables false

set_option maxHeartbeats 2000000 in
set_option maxRecDepth 100000 in
/-- A copy of a datum is the datum. -/
theorem copied_any (t : Dt) (X : Nat → Bool) (v : Value) (w : World) (hX : ∀ b, w.heap.size ≤ b → X b = false) (hat : t.At (off w X) v) (hslim : t.slim) :
    Calls Tryd.prog 31 #[v] w fun e w' => (∃ k n d s p len cap, e = .returned (.agg #[.int .i64 k, .int .i64 n, .int .i64 d, .string s, .slice p len cap]) ∧ t.At (off w' X) (.agg #[.int .i64 k, .int .i64 n, .int .i64 d, .string s, .slice p len cap])) ∧ Below w.heap.size w w' := by
  have hmf : ∀ (fn : Fn) (first cap : Array Value) (w : World), (Instr.makeFunc fn first cap).run Tryd.prog w = .ok (.func fn first cap) w := fun _ _ _ _ => rfl
  have hatw : t.At w v := hat.on fun b o v hv => (off_cell.1 hv).2
  have C1 := fun w' (h : Below w.heap.size w w') => all58_any _ hold58 t v w' (hatw.below h)
  have C2 := fun w' (h : Below w.heap.size w w') (hsz : w.heap.size + 2 ≤ w'.heap.size) Ba ha => anew_any _ t (Nat.le_refl _) (more X w.heap.size) v w' Ba (fun b hb => more_no.2 ⟨hX b (Nat.le_trans h.size hb), by omega, by omega⟩) (hat.on (old_off h)) hslim ha
  have HAT := Lib.hid hat
  obtain ⟨r, hr⟩ : ∃ r, t.whole (fun _ => true) 0 = r := ⟨_, rfl⟩
  rw [hr] at C1
  have HC1 := Lib.hid C1
  have HC2 := Lib.hid C2
  clear C1 C2 hr hatw hX hslim
  obtain ⟨k, n, d, s, l⟩ := t
  unfold Dt.At at hat
  obtain ⟨hk, hn, hd, hs, hlm, p, cap, rfl, hl⟩ := hat
  clear hk hn hd hs hlm hl
  have HBT := Lib.hid (two_below w (.cells #[.int .i64 k, .int .i64 n, .int .i64 d, .string s, .slice p l.length cap] 24) (.cells #[.int .i64 0, .int .i64 0, .int .i64 0, .string ⟨#[]⟩, .slice none 0 0] 24))
  have HX1 := Lib.hid (two_first w (.cells #[.int .i64 k, .int .i64 n, .int .i64 d, .string s, .slice p l.length cap] 24) (.cells #[.int .i64 0, .int .i64 0, .int .i64 0, .string ⟨#[]⟩, .slice none 0 0] 24))
  have HX2 := Lib.hid (two_second w (.cells #[.int .i64 k, .int .i64 n, .int .i64 d, .string s, .slice p l.length cap] 24) (.cells #[.int .i64 0, .int .i64 0, .int .i64 0, .string ⟨#[]⟩, .slice none 0 0] 24))
  go_enter Tryd.func31, Tryd.ntmps31
  go_wp2_with fail
  refine (HC1.out _ HBT.out).mono ?_
  rintro _ w1 ⟨rfl, hb1⟩
  have h1 := block_on hb1 HX1.out
  have h2 := block_on hb1 HX2.out
  have HB1 := Lib.hid (below_seq HBT.out hb1); clear hb1
  cases r
  · obtain ⟨c0, c1, c2, c3, c4⟩ := box_cells h1
    have z0 := box_frozen h2 0
    have z1 := box_frozen h2 1
    have z2 := box_frozen h2 2
    have z3 := box_frozen h2 3
    have z4 := box_frozen h2 4
    obtain ⟨r0, r1, r2, r3, r4⟩ := box_cells h2
    have H2 := Lib.hid h2
    clear h1 h2
    go_wp2_with fail
    have hr2 := set_five (b0 := .int .i64 k) (b1 := .int .i64 n) (b2 := .int .i64 d) (b3 := .string s) (b4 := .slice p l.length cap) H2.out
    refine bodyPost_ret (results_cell_row rfl _ _ (w.heap.size + 1) 24 _ (0, 0) _ rfl hr2 Tryd.underlying24 rfl Tryd.cellDt) rfl ?_
    refine ⟨⟨k, n, d, s, p, l.length, cap, rfl, (HAT.out).on (off_later (set_five_below HB1.out (Nat.le_succ _)))⟩, set_five_below HB1.out (Nat.le_succ _)⟩
  · have hb2 := box_below w1 (.cells #[anewF w1.heap.size] 43)
    have h1' := block_on hb2 h1
    have h2' := block_on hb2 h2
    obtain ⟨c0, c1, c2, c3, c4⟩ := box_cells h1'
    have HB2 := Lib.hid (below_seq HB1.out hb2)
    have H2 := Lib.hid h2'
    have hnew := at_new w1 (.cells #[anewF w1.heap.size] 43)
    have HNEW := Lib.hid (cell_of_one hnew)
    have HSZ := Lib.hid (show w.heap.size + 2 ≤ (w1.alloc (.cells #[anewF w1.heap.size] 43)).heap.size from by have := lt_of_block h2'; omega)
    clear h1 h2 hb2 h1' h2' hnew
    go_wp2_with fail
    refine (HC2.out _ HB2.out HSZ.out w1.heap.size HNEW.out).mono ?_
    rintro _ w2 ⟨⟨ku, nu, du, su, pu, lenu, capu, rfl, hu⟩, hb3⟩
    have h2 := block_on hb3 H2.out
    have z0 := box_frozen h2 0
    have z1 := box_frozen h2 1
    have z2 := box_frozen h2 2
    have z3 := box_frozen h2 3
    have z4 := box_frozen h2 4
    obtain ⟨r0, r1, r2, r3, r4⟩ := box_cells h2
    have H3 := Lib.hid h2
    have HB3 := Lib.hid (below_seq HB2.out hb3)
    have HU := Lib.hid hu
    clear h2 hb3 hu c0 c1 c2 c3 c4
    go_wp2_with fail
    have hr2 := set_five (b0 := .int .i64 ku) (b1 := .int .i64 nu) (b2 := .int .i64 du) (b3 := .string su) (b4 := .slice pu lenu capu) H3.out
    refine bodyPost_ret (results_cell_row rfl _ _ (w.heap.size + 1) 24 _ (0, 0) _ rfl hr2 Tryd.underlying24 rfl Tryd.cellDt) rfl ?_
    refine ⟨⟨ku, nu, du, su, pu, lenu, capu, rfl, ?_⟩, set_five_below HB3.out (Nat.le_succ _)⟩
    exact (HU.out).on (off_on (fun b _ hx => (more_no.1 hx).1) fun b _ hx => set_five_other (more_no.1 hx).2.2)
end Go.Proofs.YtabofebepefbgaaDoor.Dat

/- The program's own Items. -/
namespace Go.Proofs.YtabofebepefbgaaDoor.Dat
open Go.RowKit
set_option linter.unusedVariables false
variable {R : Int → Int → Bool} {Nm : ByteArray → Bool} {NT : Int → Int → List UInt8}

theorem Dt.Row.on {w w' : World} (hc : ∀ b o v, w.cell? ⟨b, o, none⟩ = some v → w'.cell? ⟨b, o, none⟩ = some v) : ∀ {l : List Dt} {xs : List Value}, Dt.Row w l xs → Dt.Row w' l xs
  | [], _, h => h
  | t :: r, xs, h => by
    unfold Dt.Row at h ⊢
    obtain ⟨u0, u1, u2, u3, u4, ys, rfl, hx, hr⟩ := h
    exact ⟨u0, u1, u2, u3, u4, ys, rfl, hx.on hc, hr.on hc⟩
/-- The box and the row. -/
def Xv (B : Nat) (v : Value) (b : Nat) : Bool := b == B || decide (v.ownBlock = some b)
theorem Xv_no {B : Nat} {v : Value} {b : Nat} : Xv B v b = false ↔ b ≠ B ∧ v.ownBlock ≠ some b := by
  unfold Xv; simp
theorem own_lt {w : World} {B e size n : Nat} {v : Value} {xs : List Value} (h : w.ownsRow B e size v n xs) : ∀ k, v.ownBlock = some k → B ≤ k ∧ k < w.heap.size := World.ownsRow.lt h
theorem own_slice2 {W w' : World} (hc : ∀ b o v, W.cell? ⟨b, o, none⟩ = some v → w'.cell? ⟨b, o, none⟩ = some v) {B : Nat} {v : Value} {l : List Dt} {xs : List Value} (ho : w'.ownsRow B 24 5 v l.length xs) (hr : Dt.Row W l xs) : Dt.Slice w' l v := by
  obtain ⟨hlen, hv⟩ := ho
  rcases hv with ⟨rfl, h0⟩ | ⟨g, cap, cur, rfl, hB, hg, hn, hm, hs, ht⟩
  · exact ⟨none, 0, by rw [h0], Or.inl (List.eq_nil_of_length_eq_zero h0)⟩
  · refine ⟨_, cap, rfl, Or.inr ⟨g, 0, rfl, hr.allAt hc fun j v hj => ?_⟩⟩
    rw [← ht, List.getElem?_take] at hj
    split at hj
    · rw [cell_of_block hg]; simpa using hj
    · cases hj
/-- What holds in a round. -/
def MetO (R : Int → Int → Bool) (Nm : ByteArray → Bool) (w : World) (t : Dt) (acc : List Dt) (v : Value) (wr : World) (k n d : Int) (s : ByteArray) (l : List Dt) (p : Option Addr) (cap deep : Nat) (xs : List Value) : Prop :=
  wr.heap[w.heap.size]? = some (.cells #[.int .i64 k, .int .i64 n, .int .i64 d, .string s, .slice p l.length cap] 24 (0, 0)) ∧ (Dt.node k n d s l).At w (.agg #[.int .i64 k, .int .i64 n, .int .i64 d, .string s, .slice p l.length cap]) ∧
    (Dt.node k n d s l).right R Nm deep = true ∧ acc.length + (Dt.node k n d s l).size ≤ t.size ∧ t.items = (Dt.node k n d s l).items.map (acc ++ ·) ∧ Below w.heap.size w wr ∧ wr.ownsRow (w.heap.size + 1) 24 5 v acc.length xs ∧ Dt.Row (off wr (Xv w.heap.size v)) acc xs

set_option maxHeartbeats 4000000 in
set_option maxRecDepth 100000 in
/-- The program's Items, out of what its Right answers. -/
theorem ownItems_any (hQ : ∀ (t : Dt) (v : Value) (w : World), t.At w v → Calls Tryd.prog 17 #[v] w fun e w' => e = .returned (.bool (t.right R Nm 0)) ∧ Below w.heap.size w w')
    (t : Dt) (v : Value) (w : World) (hbig : t.size ≤ 100000) (hat : t.At w v) :
    Calls Tryd.prog 12 #[v] w fun e w' => ItemsPost R Nm t e w' ∧ Below w.heap.size w w' := by
  have hat2 := hat
  obtain ⟨k, n, d, s, l⟩ := t
  unfold Dt.At at hat2
  obtain ⟨-, -, -, -, -, p, cap, rfl, -⟩ := hat2
  have C := fun w1 (hb : Below w.heap.size w w1) => hQ (.node k n d s l) _ w1 (hat.below hb)
  have HC := Lib.hid C
  have HAT := Lib.hid hat
  clear C hat hQ
  cases hrt : (Dt.node k n d s l).right R Nm 0
  · have HRT := Lib.hid hrt; clear hrt
    go_enter Tryd.func12, Tryd.ntmps12
    go_wp2_with fail
    refine (HC.out _ (box_below _ _)).mono ?_
    rintro _ w1 ⟨rfl, hb1⟩
    rw [HRT.out]
    have HB1 := Lib.hid (below_after hb1); clear hb1
    go_wp2_with fail
    go_ret2
    exact ⟨Or.inl ⟨Or.inl HRT.out, rfl⟩, HB1.out⟩
  have HRT := Lib.hid hrt; clear hrt
  have HBIG := Lib.hid hbig; clear hbig
  go_enter Tryd.func12, Tryd.ntmps12
  go_wp2_with fail
  refine (HC.out _ (box_below _ _)).mono ?_
  rintro _ w1 ⟨rfl, hb1⟩
  rw [HRT.out]
  have hh1 := one_box hb1
  have hbw := below_after hb1
  have HH1 := Lib.hid (And.intro hh1 hbw)
  clear hb1 hh1 hbw
  go_wp2_with fail
  go_loopw [4] (fun u wr => ∃ (acc : List Dt) (k' n' d' : Int) (s' : ByteArray) (l' : List Dt) (p' : Option Addr) (cap' dp : Nat) (xs : List Value), MetO R Nm w (.node k n d s l) acc u wr k' n' d' s' l' p' cap' dp xs) (fun u _ => (Dt.node k n d s l).size - lenSl u)
  case atStart =>
    refine ⟨[], k, n, d, s, l, p, cap, 0, [], ?_⟩
    unfold MetO
    exact ⟨HH1.out.1, HAT.out, HRT.out, by simp, by simp, HH1.out.2, ⟨rfl, Or.inl ⟨rfl, rfl⟩⟩, rfl⟩
  case round =>
    obtain ⟨acc, k', n', d', s', l', p', cap', dp, xs, hmet⟩ := hrel
    have HM := Lib.hid hmet
    have hh := hmet.1
    have hsz := lt_of_block hh
    have hacc : acc.length ≤ 100000 := by
      have h1 := hmet.2.2.2.1
      have h2 := HBIG.out
      omega
    clear hmet
    by_cases hk : k' = 6
    · subst hk
      obtain ⟨x, q, rfl, hx, hq⟩ := pair_of (HM.out).2.2.1
      obtain ⟨_, _, _, _, _, _, _, he, _, _, _, _, hsl, _, hl⟩ := (HM.out).2.1.open5
      simp only [Dt.node.injEq] at he
      obtain ⟨_, _, _, _, rfl⟩ := he
      simp only [Value.slice.injEq, true_and] at hsl
      obtain ⟨rfl, _⟩ := hsl
      rcases hl with hl | ⟨b', o', rfl, hall⟩
      · cases hl
      obtain ⟨x0, x1, x2, x3, x4, i0, i1, i2, i3, i4, hxa⟩ := hall.kid (i := 0) (t := x) rfl
      obtain ⟨q0, q1, q2, q3, q4, j0, j1, j2, j3, j4, hqa⟩ := hall.kid (i := 1) (t := q) rfl
      simp only [Nat.zero_mul, Nat.add_zero, Nat.one_mul] at i0 i1 i2 i3 i4 j0 j1 j2 j3 j4
      have hbr := (HM.out).2.2.2.2.2.1
      have hown := (HM.out).2.2.2.2.2.2.1
      have HJ := Lib.hid (And.intro j0 (And.intro j1 (And.intro j2 (And.intro j3 j4))))
      replace i0 := cell_on hbr _ _ _ i0
      replace i1 := cell_on hbr _ _ _ i1
      replace i2 := cell_on hbr _ _ _ i2
      replace i3 := cell_on hbr _ _ _ i3
      replace i4 := cell_on hbr _ _ _ i4
      have hszx : 1 + q.size ≤ (Dt.node 6 n' d' s' [x, q]).size ∧ x.size ≤ (Dt.node 6 n' d' s' [x, q]).size := by
        simp only [Dt.size, Dt.sizes]; omega
      have hslim : x.slim := Dt.slim_size x (by have := (HM.out).2.2.2.1; have := HBIG.out; omega)
      have C := copied_any x (Xv w.heap.size u4) _ wr (fun b hb => Xv_no.2 ⟨by omega, fun e => by have := (own_lt hown b e).2; omega⟩) (hxa.on fun b o v hv => off_cell.2 ⟨Xv_no.2 ⟨by have := cell_lt hv; omega, fun e => by have := (own_lt hown b e).1; have := cell_lt hv; omega⟩, cell_on hbr _ _ _ hv⟩) hslim
      have HC2 := Lib.hid C
      have HBR := Lib.hid hbr
      have HQ := Lib.hid hqa
      have HQR := Lib.hid hq
      obtain ⟨kx, nx, dx, sx, lx, px, capx, _, rfl, rfl, rfl, rfl, rfl, _, _⟩ := hxa.open5
      obtain ⟨kq, nq, dq, sq, lq, pq, capq, hqe, rfl, rfl, rfl, rfl, rfl, _, _⟩ := hqa.open5
      have HQE := Lib.hid hqe
      have HSX := Lib.hid hszx.1
      have HOWN := Lib.hid hown
      obtain ⟨c0, _, _, _, c4⟩ := box_cells hh
      have HH := Lib.hid hh
      simp only [List.length_cons, List.length_nil, Nat.zero_add, Nat.reduceAdd] at c4 HH
      clear C hxa hqa hall hbr j0 j1 j2 j3 j4 hq hx hqe hszx hslim hown hh
      obtain ⟨i0', hi, hz⟩ := Option.map_eq_some_iff.1 Tryd.infoDt
      simp only [Prod.mk.injEq] at hz
      obtain ⟨hz0, hz1, hz2⟩ := hz
      have HI0 := Lib.hid (And.intro hi (And.intro hz0 (And.intro hz1 hz2)))
      clear hi hz0 hz1 hz2
      go_wp2_with fail
      refine (HC2.out).mono ?_
      rintro _ w2 ⟨⟨ku, nu, du, su, pu, lenu, capu, rfl, hu⟩, hb2⟩
      have hs2 := hb2.size
      have HB2 := Lib.hid hb2
      have HU := Lib.hid hu
      clear hb2 hu c0 c4 i0 i1 i2 i3 i4
      go_wp2_with (first
        | (at_builtin; refine wpList_append_own_at _ rfl (.tmp 15) (.tmp 21) 22 rfl (w.heap.size + 1) 24 i0' (.agg #[.int .i64 0, .int .i64 0, .int .i64 0, .string ⟨#[]⟩, .slice none 0 0]) 5 64 Tryd.underlying22 HI0.out.1 HI0.out.2.1 HI0.out.2.2.1 HI0.out.2.2.2 rfl (by decide) _ _ _ rfl ((row_below HOWN.out HB2.out).alloc _) ⟨w2.heap.size, 0, none⟩ 1 1 [.int .i64 ku, .int .i64 nu, .int .i64 du, .string su, .slice pu lenu capu] rfl rfl (five_new _ _ _ _ _ _ _) (by intro u hu; simp at hu; rcases hu with rfl | rfl | rfl | rfl | rfl <;> rfl) (by unfold maxLen; omega) (by omega) (by simp; omega) ?_
           intro v3 w3 hown3 hgrow3 hnil3 hat3
           have hown0 := row_below HOWN.out HB2.out
           have hb3 := (((HBR.out).trans ((HB2.out).mono (HBR.out).size)).alloc (by omega) (.cells #[.int .i64 ku, .int .i64 nu, .int .i64 du, .string su, .slice pu lenu capu] 24)).grown hgrow3 (by simp; omega) (own_up hown0)
           have hh3 := (hgrow3.block w.heap.size (by simp; omega) (own_ne hown0)).trans ((Below.heap_alloc _ _ _ (by omega)).trans (block_on HB2.out HH.out))
           obtain ⟨c0, c1, c2, c3, c4⟩ := box_cells hh3
           have z0 := box_frozen hh3 0
           have z1 := box_frozen hh3 1
           have z2 := box_frozen hh3 2
           have z3 := box_frozen hh3 3
           have z4 := box_frozen hh3 4
           have g0 := cell_on hb3 _ _ _ (HJ.out).1
           have g1 := cell_on hb3 _ _ _ (HJ.out).2.1
           have g2 := cell_on hb3 _ _ _ (HJ.out).2.2.1
           have g3 := cell_on hb3 _ _ _ (HJ.out).2.2.2.1
           have g4 := cell_on hb3 _ _ _ (HJ.out).2.2.2.2
           have HB3 := Lib.hid hb3
           have HO3 := Lib.hid hown3
           have HG3 := Lib.hid hgrow3
           have HA3 := Lib.hid hat3
           have HH3 := Lib.hid hh3
           clear hown0 hb3 hown3 hgrow3 hnil3 hat3 hh3))
      go_roundw
      case rel =>
        have htr : ∀ (b o : Nat) (v : Value), (off w2 (Xv w.heap.size u4)).cell? ⟨b, o, none⟩ = some v → (off (((((w3.setCell ⟨w.heap.size, 0, none⟩ (.int .i64 kq)).setCell ⟨w.heap.size, 1, none⟩ (.int .i64 nq)).setCell ⟨w.heap.size, 2, none⟩ (.int .i64 dq)).setCell ⟨w.heap.size, 3, none⟩ (.string sq)).setCell ⟨w.heap.size, 4, none⟩ (.slice pq lq.length capq)) (Xv w.heap.size v3)).cell? ⟨b, o, none⟩ = some v := by
          intro b o v hv
          refine off_on (fun b hb hx => ?_) (fun b hb hx => ?_) b o v hv
          · obtain ⟨h1, h2⟩ := Xv_no.1 hx
            refine Xv_no.2 ⟨h1, ?_⟩
            rcases HA3.out with e | e
            · rw [e]; exact h2
            · rw [e]; simp; omega
          · obtain ⟨h1, h2⟩ := Xv_no.1 hx
            exact (set_five_other h1).trans (((HG3.out).block b (by simp; omega) (fun e => h2 e.symm)).trans (Below.heap_alloc _ _ _ hb))
        refine ⟨acc ++ [x], kq, nq, dq, sq, lq, pq, capq, dp + 1, xs ++ [.int .i64 ku, .int .i64 nu, .int .i64 du, .string su, .slice pu lenu capu], ?_⟩
        unfold MetO
        rw [← HQE.out]
        refine ⟨set_five HH3.out, HQ.out, HQR.out, ?_, ?_, set_five_below HB3.out (Nat.le_refl _), ?_, ?_⟩
        · have h1 := (HM.out).2.2.2.1
          have h2 := HSX.out
          simp only [List.length_append, List.length_cons, List.length_nil]; omega
        · have h := (HM.out).2.2.2.2.1
          rw [items_pair] at h
          rw [h, Option.map_map]
          congr 1
          funext z; simp
        · rw [List.length_append]
          exact ownsRow_setCell_below (ownsRow_setCell_below (ownsRow_setCell_below (ownsRow_setCell_below (ownsRow_setCell_below HO3.out (Nat.lt_succ_self _) _) (Nat.lt_succ_self _) _) (Nat.lt_succ_self _) _) (Nat.lt_succ_self _) _) (Nat.lt_succ_self _) _
        · exact (((HM.out).2.2.2.2.2.2.2.on (off_later HB2.out)).on htr).snoc ((HU.out).on htr)
      case measure =>
        have h1 := own_len HO3.out
        have h2 := own_len (HM.out).2.2.2.2.2.2.1
        have h3 := (HM.out).2.2.2.1
        have h4 := (Dt.node 6 n' d' s' [x, q]).size_pos
        omega
    · have hbr := Lib.hid (HM.out).2.2.2.2.2.1
      have hown := Lib.hid (HM.out).2.2.2.2.2.2
      have hit := (HM.out).2.2.2.2.1
      obtain ⟨c0, _, _, _, _⟩ := box_cells hh
      by_cases h4 : k' = 4
      · subst h4
        rw [items_null] at hit
        have HIT := Lib.hid hit; clear hit hh
        go_wp2_with fail
        go_ret2
        exact ⟨Or.inr ⟨HRT.out, acc, _, by rw [HIT.out]; simp, rfl, own_slice2 (fun b o v hv => (off_cell.1 hv).2) hown.out.1 hown.out.2⟩, hbr.out⟩
      · rw [items_else hk h4] at hit
        have HIT := Lib.hid hit; clear hit hh
        have hk6 : (k' == 6) = false := by rw [beq_eq_false_iff_ne]; exact hk
        have hk4 : (k' != 4) = true := by rw [bne_iff_ne]; exact h4
        go_wp2_with fail
        go_ret2
        exact ⟨Or.inl ⟨Or.inr (by rw [HIT.out]; rfl), rfl⟩, hbr.out⟩
end Go.Proofs.YtabofebepefbgaaDoor.Dat

/- The library's Builder, as the program uses it: WriteByte, WriteString. -/
namespace Go.Proofs.YtabofebepefbgaaDoor.Dat
open Go.RowKit
set_option linter.unusedVariables false

theorem Tryd.infoBuilder : (Tryd.prog.info? 47).map (·.size) = some 2 := by kernel_rfl
theorem Tryd.liesBuilder : liesAt Tryd.prog Tryd.prog.depth 47 (2 / Tryd.prog.cellsOf 47) 0 47 1 = true := by kernel_rfl
theorem Tryd.infoByte : (Tryd.prog.info? 5).map (fun i => (i.zero, i.size, i.bytes)) = some (some (.int .u8 0), 1, 1) := by kernel_rfl
/-- What a builder holds behind a write, and what the write leaves as it was. -/
def Wrote (B b : Nat) (bs : List Value) (w w' : World) : Prop :=
  Lib.BuilderAtF 47 5 B b (.pointer (some ⟨b, 0, none⟩)) bs w' ∧ Below B w w' ∧ Lib.OthersKept 5 (some b) w w'

set_option maxHeartbeats 1000000 in
set_option maxRecDepth 100000 in
theorem check_any (B b : Nat) (bs : List Value) (w : World) (h : Lib.IsBuilderF 47 5 B b bs w) :
    Calls Tryd.prog 59 #[.pointer (some ⟨b, 0, none⟩)] w fun e w' => e = .returned (.tuple #[]) ∧ Wrote B b bs w w' := by
  obtain ⟨j, hj, hjs⟩ := Option.map_eq_some_iff.1 Tryd.infoBuilder
  rcases h with h | h
  · have h0 := h.cell0
    have hsh := h.shape
    have hfz := h.frozen0
    have H := Lib.hid h; clear h
    go_enter Tryd.func59, Tryd.ntmps59
    go_wp2
    rw [Lib.run_to_unsafe w ⟨b, 0, none⟩ Tryd.underlying44 Tryd.underlying93 hj (by rw [hjs]; decide) hsh (Nat.zero_lt_succ 1)]
    simp only [Result.andThen]
    rw [Oper.upon_value]
    go_wp2
    rw [run_callFunc_extern Tryd.func78 (by kernel_rfl) (by kernel_rfl) (by kernel_rfl) (e := Extern.AbiNoEscape.same) (by kernel_rfl)]
    rw [Lib.run_noEscape]
    simp only [Result.andThen]
    rw [Oper.upon_value]
    go_wp2
    rw [Lib.run_from_unsafe w ⟨b, 0, none⟩ Tryd.underlying93 Tryd.underlying44 hj hsh Tryd.liesBuilder]
    simp only [Result.andThen]
    rw [Oper.upon_value]
    go_wp2
    go_end0
    exact ⟨rfl, (H.out).used _, (Below.refl B w).setCell (p := ⟨b, 0, none⟩) (H.out).1 _, (Lib.OthersKept.refl _ _ w).setCell ⟨b, 0, none⟩ rfl _⟩
  · have h0 := h.cell0
    have H := Lib.hid h; clear h
    go_enter Tryd.func59, Tryd.ntmps59
    go_wp2
    rw [Lib.run_neq_ptr_same w _ Tryd.underlying44 hj]
    go_wp2
    go_end0
    exact ⟨rfl, H.out, Below.refl B _, Lib.OthersKept.refl _ _ _⟩

/-- What is known of a builder that has been written to. -/
theorem parts {B b : Nat} {bs : List Value} {w : World} (h : Lib.BuilderAtF 47 5 B b (.pointer (some ⟨b, 0, none⟩)) bs w) :
    B ≤ b ∧ b < w.heap.size ∧ ∃ v, w.heap[b]? = some (.cells #[.pointer (some ⟨b, 0, none⟩), v] 47 (0, 0)) ∧ w.ownsRowF B 5 1 v bs.length bs ∧ v.ownBlock ≠ some b := by
  obtain ⟨hB, v, hbk, hown, hne⟩ := h
  exact ⟨hB, lt_of_block hbk, v, hbk, hown, hne⟩
theorem rowF_slice {w : World} {B n : Nat} {v : Value} {xs : List Value} (h : w.ownsRowF B 5 1 v n xs) : ∃ ao n' cap, v = .slice ao n' cap := by
  rcases h.2 with ⟨hv, _⟩ | ⟨g, cap, cur, fz, hv, _⟩
  · exact ⟨_, _, _, hv⟩
  · exact ⟨_, _, _, hv⟩

set_option maxHeartbeats 2000000 in
set_option maxRecDepth 100000 in
theorem writeByte_any (B b : Nat) (bs : List Value) (c : Int) (w : World) (h : Lib.IsBuilderF 47 5 B b bs w) (hlen : bs.length + 1 ≤ 140737488355328) (hBw : B ≤ w.heap.size) :
    Calls Tryd.prog 34 #[.pointer (some ⟨b, 0, none⟩), .int .u8 c] w fun e w' => e = .returned .nilIface ∧ Wrote B b (bs ++ [.int .u8 c]) w w' := by
  obtain ⟨i0, hi, hz0, hz1, hz2⟩ := info_parts Tryd.infoByte
  have C := check_any B b bs w h
  have HC := Lib.hid C; clear C h
  go_enter Tryd.func34, Tryd.ntmps34
  go_wp2_with fail
  refine (HC.out).mono ?_
  rintro e w1 ⟨rfl, h1, hb1, hk1⟩
  obtain ⟨hB, hlt, v, hbk, hown, hne⟩ := parts h1
  have c0 : w1.cell? ⟨b, 0, none⟩ = some (.pointer (some ⟨b, 0, none⟩)) := by rw [Lib.cell_of_heap hbk]; rfl
  have c1 : w1.cell? ⟨b, 1, none⟩ = some v := by rw [Lib.cell_of_heap hbk]; rfl
  go_wp2_with (at_builtin; refine wpList_append_ownF _ rfl _ _ 45 rfl B 5 i0 (.int .u8 0) 1 1 Tryd.underlying45 hi hz0 hz1 hz2 rfl (by decide) _ _ _ rfl (hown.alloc _) ⟨w1.heap.size, 0, none⟩ 1 1 [.int .u8 c] rfl rfl ?c1 ?c2 ?c3 ?c4 ?c5 ?_)
  case c1 =>
    intro j u hj
    match j, hj with
    | 0, hj => simp at hj; subst hj; simp [Addr.add]
  case c2 => intro u hu; simp at hu; subst hu; rfl
  case c3 => unfold maxLen; omega
  case c4 => omega
  case c5 => have := hb1.size; simp; omega
  intro v' w2 hown' hgrow _
  have hb2 := (hgrow.block b (by simp; omega) (fun e => hne e.symm)).trans ((Below.heap_alloc _ _ _ hlt).trans hbk)
  have d0 : w2.cell? ⟨b, 0, none⟩ = some (.pointer (some ⟨b, 0, none⟩)) := by rw [Lib.cell_of_heap hb2]; rfl
  have d1 : w2.cell? ⟨b, 1, none⟩ = some v := by rw [Lib.cell_of_heap hb2]; rfl
  have f1 : w2.frozen? ⟨b, 1, none⟩ = false := Lib.frozen_of_heap hb2 1
  obtain ⟨ao, n', cap, rfl⟩ := rowF_slice hown'
  go_wp2
  go_ret
  refine ⟨rfl, ?_, ?_, ((hk1.alloc _).grown hgrow (Lib.ownsRowF_kind (hown.alloc _))).setCell ⟨b, 1, none⟩ rfl _⟩
  · exact Lib.BuilderAtF.put (T := 47) (e := 5) hB hb2 (bs' := bs ++ [.int .u8 c]) (by simpa using hown') (by decide)
  · exact ((hb1.alloc (by have := hb1.size; omega) _).grown hgrow (by have := hb1.size; simp; omega) (fun k hk => (hown.lt k hk).1)).setCell (p := ⟨b, 1, none⟩) hB _

set_option maxHeartbeats 2000000 in
set_option maxRecDepth 100000 in
theorem writeString_any (B b : Nat) (bs : List Value) (s : ByteArray) (w : World) (h : Lib.IsBuilderF 47 5 B b bs w) (hlen : bs.length + s.size ≤ 140737488355328) (hBw : B ≤ w.heap.size) :
    Calls Tryd.prog 33 #[.pointer (some ⟨b, 0, none⟩), .string s] w fun e w' => e = .returned (.tuple #[.int .i64 s.size, .nilIface]) ∧ Wrote B b (bs ++ Lib.strCells s) w w' := by
  obtain ⟨i0, hi, hz0, hz1, hz2⟩ := info_parts Tryd.infoByte
  have C := check_any B b bs w h
  have HC := Lib.hid C; clear C h
  go_enter Tryd.func33, Tryd.ntmps33
  go_wp2_with fail
  refine (HC.out).mono ?_
  rintro e w1 ⟨rfl, h1, hb1, hk1⟩
  obtain ⟨hB, hlt, v, hbk, hown, hne⟩ := parts h1
  have c0 : w1.cell? ⟨b, 0, none⟩ = some (.pointer (some ⟨b, 0, none⟩)) := by rw [Lib.cell_of_heap hbk]; rfl
  have c1 : w1.cell? ⟨b, 1, none⟩ = some v := by rw [Lib.cell_of_heap hbk]; rfl
  go_wp2_with (at_builtin; refine Lib.wpList_append_own_stringF _ rfl _ _ 45 9 rfl B 5 i0 Tryd.underlying45 Tryd.underlying9 hi hz0 hz1 hz2 _ _ _ rfl hown s rfl ?c3 ?c4 ?c5 ?_)
  case c3 => unfold maxLen; omega
  case c4 => omega
  case c5 => have := hb1.size; omega
  intro v' w2 hown' hgrow _
  have hb2 := (hgrow.block b hlt (fun e => hne e.symm)).trans hbk
  have d0 : w2.cell? ⟨b, 0, none⟩ = some (.pointer (some ⟨b, 0, none⟩)) := by rw [Lib.cell_of_heap hb2]; rfl
  have d1 : w2.cell? ⟨b, 1, none⟩ = some v := by rw [Lib.cell_of_heap hb2]; rfl
  have f1 : w2.frozen? ⟨b, 1, none⟩ = false := Lib.frozen_of_heap hb2 1
  obtain ⟨ao, n', cap, rfl⟩ := rowF_slice hown'
  go_wp2
  go_ret2
  refine ⟨rfl, ?_, ?_, (hk1.grown hgrow (Lib.ownsRowF_kind hown)).setCell ⟨b, 1, none⟩ rfl _⟩
  · exact Lib.BuilderAtF.put (T := 47) (e := 5) hB hb2 (bs' := bs ++ Lib.strCells s) (by simpa [Lib.strCells_length] using hown') (by decide)
  · exact (hb1.grown hgrow (by have := hb1.size; omega) (fun k hk => (hown.lt k hk).1)).setCell (p := ⟨b, 1, none⟩) hB _
end Go.Proofs.YtabofebepefbgaaDoor.Dat

/- The program's own texts: word, and what is told into a builder. -/
namespace Go.Proofs.YtabofebepefbgaaDoor.Dat
open Go.RowKit
set_option linter.unusedVariables false
variable {R : Int → Int → Bool} {Nm : ByteArray → Bool} {NT : Int → Int → List UInt8}

/-- What Text of numbers answers, where this holds of the world. -/
def NumText (T : World → Prop) (NT : Int → Int → List UInt8) : Prop := ∀ (n d : Int) (a : ByteArray) (w : World), T w → I64 n → I64 d → a.data.toList = NT n d → Calls Tryd.prog 60 #[.int .i64 n, .int .i64 d] w fun e w' => e = .returned (.string a) ∧ Below w.heap.size w w'
/-- It holds on while memory is made. -/
def Lasts (T : World → Prop) : Prop := ∀ w w' : World, T w → Below w.heap.size w w' → T w'

theorem builder_below {B b : Nat} {bs : List Value} {w w' : World} (h : Lib.IsBuilderF 47 5 B b bs w) (hb : Below w.heap.size w w') : Lib.IsBuilderF 47 5 B b bs w' := by
  have one : ∀ p, Lib.BuilderAtF 47 5 B b p bs w → Lib.BuilderAtF 47 5 B b p bs w' := by
    intro p ⟨hB, v, hbk, hown, hne⟩
    refine ⟨hB, v, block_on hb hbk, ⟨hown.1, ?_⟩, hne⟩
    rcases hown.2 with hn | ⟨g, cap, cur, fz, rfl, hg, hgg, rest⟩
    · exact .inl hn
    · exact .inr ⟨g, cap, cur, fz, rfl, hg, block_on hb hgg, rest⟩
  exact h.elim (fun x => .inl (one _ x)) (fun x => .inr (one _ x))
theorem builder_lt {B b : Nat} {bs : List Value} {w : World} (h : Lib.IsBuilderF 47 5 B b bs w) : b < w.heap.size ∧ B ≤ b := by
  rcases h with ⟨hB, v, hbk, _⟩ | ⟨hB, v, hbk, _⟩
  · exact ⟨lt_of_block hbk, hB⟩
  · exact ⟨lt_of_block hbk, hB⟩
theorem others_of {w w' : World} {b : Nat} (h : Below w.heap.size w w') : Lib.OthersKept 5 (some b) w w' := fun k o hk _ _ => block_on h hk
theorem kept_box {w w' : World} {b k : Nat} {cs : Array Value} {fr : Nat × Nat} (h : Lib.OthersKept 5 (some b) w w') (hk : w.heap[k]? = some (.cells cs 24 fr)) (hne : k ≠ b) : w'.heap[k]? = some (.cells cs 24 fr) :=
  h k _ hk (by simpa using hne) (by intro c fz e; simp at e)
abbrev tellF (Bb Bt : Nat) : Value := .func (.func 32) #[] #[.pointer (some ⟨Bb, 0, none⟩), .pointer (some ⟨Bt, 0, none⟩)]
/-- So much has been told into the builder. -/
structure Telling (w0 : World) (B Bb Bt : Nat) (acc : List UInt8) (w : World) : Prop where
  base : Below w0.heap.size w0 w
  hB : w0.heap.size ≤ B
  hBw : B ≤ w.heap.size
  bld : Lib.IsBuilderF 47 5 B Bb (Lib.byteCells acc) w
  fn : w.heap[Bt]? = some (.cells #[tellF Bb Bt] 48 (0, 0))
  ne : Bt ≠ Bb
theorem Telling.below {w0 w w' : World} {B Bb Bt : Nat} {acc : List UInt8} (h : Telling w0 B Bb Bt acc w) (hb : Below w.heap.size w w') : Telling w0 B Bb Bt acc w' :=
  ⟨below_seq h.base hb, h.hB, Nat.le_trans h.hBw hb.size, builder_below h.bld hb, block_on hb h.fn, h.ne⟩
theorem Telling.wrote {w0 w w' : World} {B Bb Bt : Nat} {acc x : List UInt8} {bs : List Value} (h : Telling w0 B Bb Bt acc w) (hw : Wrote B Bb bs w w') (e : bs = Lib.byteCells (acc ++ x)) : Telling w0 B Bb Bt (acc ++ x) w' ∧ Lib.OthersKept 5 (some Bb) w w' :=
  ⟨⟨h.base.trans (hw.2.1.mono h.hB), h.hB, Nat.le_trans h.hBw hw.2.1.size, by rw [← e]; exact Or.inr hw.1, hw.2.2 Bt _ h.fn (by simpa using h.ne) (by intro c fz e; simp at e), h.ne⟩, hw.2.2⟩
theorem tellByte_any {w0 : World} {B Bb Bt : Nat} {acc : List UInt8} (c : UInt8) (x : Int) (hx : x = (c.toNat : Int)) (w : World) (h : Telling w0 B Bb Bt acc w) (hlen : acc.length + 1 ≤ 140737488355328) :
    Calls Tryd.prog 34 #[.pointer (some ⟨Bb, 0, none⟩), .int .u8 x] w fun e w' => e = .returned .nilIface ∧ Telling w0 B Bb Bt (acc ++ [c]) w' ∧ Lib.OthersKept 5 (some Bb) w w' :=
  (writeByte_any B Bb _ x w h.bld (by rw [Lib.byteCells_length]; exact hlen) h.hBw).mono fun e w' ⟨he, hw⟩ => ⟨he, h.wrote hw (by rw [Lib.byteCells_append, hx]; rfl)⟩
theorem tellStr_any {w0 : World} {B Bb Bt : Nat} {acc : List UInt8} (s : ByteArray) (w : World) (h : Telling w0 B Bb Bt acc w) (hlen : acc.length + s.data.toList.length ≤ 140737488355328) :
    Calls Tryd.prog 33 #[.pointer (some ⟨Bb, 0, none⟩), .string s] w fun e w' => e = .returned (.tuple #[.int .i64 s.size, .nilIface]) ∧ Telling w0 B Bb Bt (acc ++ s.data.toList) w' ∧ Lib.OthersKept 5 (some Bb) w w' :=
  (writeString_any B Bb _ s w h.bld (by rw [Lib.byteCells_length, Lib.size_eq]; exact hlen) h.hBw).mono fun e w' ⟨he, hw⟩ => ⟨he, h.wrote hw (by rw [Lib.byteCells_append]; rfl)⟩

set_option maxHeartbeats 1000000 in
set_option maxRecDepth 100000 in
/-- word, of kinds without parts. -/
theorem word_any (T : World → Prop) (hT : NumText T NT) (hL : Lasts T) (k n d : Int) (s : ByteArray) (l : List Dt) (p : Option Addr) (len cap : Nat) (deep : Nat) (a : ByteArray) (w : World) (hn : I64 n) (hd : I64 d) (ht : T w) (hs : s.size ≤ 1152921504606846976)
    (h : (Dt.node k n d s l).right R Nm deep = true) (h6 : k ≠ 6) (h7 : k ≠ 7) (ha : a.data.toList = (Dt.node k n d s l).text NT) :
    Calls Tryd.prog 35 #[.agg #[.int .i64 k, .int .i64 n, .int .i64 d, .string s, .slice p len cap]] w fun e w' => e = .returned (.string a) ∧ Below w.heap.size w w' := by
  generalize et : Dt.node k n d s l = t at h ha
  rcases view_of h with ⟨n', d', hr⟩ | ⟨n', hn'⟩ | ⟨s', hs'⟩ | ⟨s', hs'⟩ | _ | _ | ⟨x, q, hx, hq⟩ | ⟨l', hl⟩
  all_goals (simp at et)
  all_goals obtain ⟨rfl, rfl, rfl, rfl, rfl⟩ := et
  · rw [text_num] at ha
    have C := fun w' (hb : Below w.heap.size w w') => hT n d a w' (hL _ _ ht hb) hn hd ha
    have HC := Lib.hid C; clear C ha hT hr h ht hL
    go_enter Tryd.func35, Tryd.ntmps35
    go_wp2_with fail
    refine (HC.out _ (box_below _ _)).mono ?_
    rintro _ w1 ⟨rfl, hb1⟩
    have HB1 := Lib.hid hb1; clear hb1
    go_wp2_with fail
    go_ret
    exact ⟨rfl, below_after HB1.out⟩
  · rw [text_bool] at ha
    clear h ht hL hT
    rcases hn' with rfl | rfl
    all_goals
      have HA := Lib.hid ha; clear ha
      go_enter Tryd.func35, Tryd.ntmps35
      go_wp2
      go_ret
      exact ⟨ret_str (by rw [HA.out]; rfl), box_below _ _⟩
  · rw [text_sym] at ha
    have HA := Lib.hid ha; clear ha h ht hL hT hs'
    go_enter Tryd.func35, Tryd.ntmps35
    go_wp2
    go_ret
    exact ⟨ret_str (by rw [HA.out]), box_below _ _⟩
  · rw [text_str] at ha
    have HA := Lib.hid ha; clear ha h ht hL hT hs'
    go_enter Tryd.func35, Tryd.ntmps35
    go_wp2
    go_ret
    exact ⟨ret_str (by rw [HA.out]; simp), box_below _ _⟩
  · rw [text_null] at ha
    have HA := Lib.hid ha; clear ha h ht hL hT
    go_enter Tryd.func35, Tryd.ntmps35
    go_wp2
    go_ret
    exact ⟨ret_str (by rw [HA.out]), box_below _ _⟩
  · rw [text_void] at ha
    have HA := Lib.hid ha; clear ha h ht hL hT
    go_enter Tryd.func35, Tryd.ntmps35
    go_wp2
    go_ret
    exact ⟨ret_str (by rw [HA.out]), box_below _ _⟩
  · exact absurd rfl h6
  · exact absurd rfl h7
end Go.Proofs.YtabofebepefbgaaDoor.Dat

/- The program's own Text. -/
namespace Go.Proofs.YtabofebepefbgaaDoor.Dat
open Go.RowKit
set_option linter.unusedVariables false
variable {R : Int → Int → Bool} {Nm : ByteArray → Bool} {NT : Int → Int → List UInt8}

/-- What telling a datum does. -/
def TellAt (T : World → Prop) (R : Int → Int → Bool) (Nm : ByteArray → Bool) (NT : Int → Int → List UInt8) (t : Dt) : Prop :=
  ∀ (v : Value) (deep : Nat) (acc : List UInt8) (w0 w : World) (B Bb Bt : Nat), t.At w0 v → t.right R Nm deep = true → T w0 → Telling w0 B Bb Bt acc w → acc.length + (t.text NT).length ≤ 140737488355328 →
    Calls Tryd.prog 32 #[v, .pointer (some ⟨Bb, 0, none⟩), .pointer (some ⟨Bt, 0, none⟩)] w fun e w' => e = .returned (.tuple #[]) ∧ Telling w0 B Bb Bt (acc ++ t.text NT) w' ∧ Lib.OthersKept 5 (some Bb) w w'

set_option maxHeartbeats 1000000 in
set_option maxRecDepth 100000 in
theorem tell_leaf (T : World → Prop) (hT : NumText T NT) (hL : Lasts T) (k n d : Int) (s : ByteArray) (l : List Dt) (h6 : k ≠ 6) (h7 : k ≠ 7) : TellAt T R Nm NT (.node k n d s l) := by
  intro v deep acc w0 w B Bb Bt hat hr ht htl hlen
  unfold Dt.At at hat
  obtain ⟨hk, hn, hd, hs, hlm, p, cap, rfl, -⟩ := hat
  obtain ⟨a, ha⟩ : ∃ a : ByteArray, a.data.toList = (Dt.node k n d s l).text NT := ⟨⟨((Dt.node k n d s l).text NT).toArray⟩, rfl⟩
  have hs2 : s.size ≤ 1152921504606846976 := by
    by_cases h2 : k = 2
    · subst h2; rw [text_sym] at hlen; rw [Lib.size_eq]; omega
    · by_cases h3 : k = 3
      · subst h3; rw [text_str] at hlen; rw [Lib.size_eq]; simp at hlen ⊢; omega
      · have := hr
        unfold Dt.right headRight at this
        simp [h2, h3] at this
        obtain ⟨⟨_, ⟨⟨_, he⟩, _⟩, _⟩, _⟩ := this
        simp [he]
  have C1 := fun w' (hb : Below w.heap.size w w') => word_any T hT hL k n d s l p l.length cap deep a w' hn hd (hL _ _ ht (below_seq htl.base hb)) hs2 hr h6 h7 ha
  have C2 := fun w' (hb : Below w.heap.size w w') => tellStr_any a w' (htl.below hb) (by rw [ha]; exact hlen)
  rw [ha] at C2
  have e6 : (k == 6) = false := by rw [beq_eq_false_iff_ne]; exact h6
  have e7 : (k == 7) = false := by rw [beq_eq_false_iff_ne]; exact h7
  have HC1 := Lib.hid C1
  have HC2 := Lib.hid C2
  clear C1 C2 ha hk hn hd hs hlm hr ht htl hlen h6 h7 hs2 hT hL
  go_enter Tryd.func32, Tryd.ntmps32
  go_wp2_with fail
  refine (HC1.out _ (box_below _ _)).mono ?_
  rintro _ w1 ⟨rfl, hb1⟩
  have HB1 := Lib.hid (below_after hb1); clear hb1
  go_wp2_with fail
  refine (HC2.out _ HB1.out).mono ?_
  rintro _ w2 ⟨rfl, ht2, ho2⟩
  have HT2 := Lib.hid ht2
  have HO2 := Lib.hid ho2
  clear ht2 ho2
  go_wp2_with fail
  go_end0
  exact ⟨rfl, HT2.out, (others_of HB1.out).trans HO2.out⟩

theorem right_mem {deep : Nat} : ∀ {l : List Dt}, Dt.rightAll R Nm l deep = true → ∀ x, x ∈ l → x.right R Nm deep = true
  | [], _, x, hx => by cases hx
  | q :: r, h, x, hx => by
    unfold Dt.rightAll at h
    rw [Bool.and_eq_true] at h
    rcases List.mem_cons.1 hx with rfl | hx
    · exact h.1
    · exact right_mem h.2 x hx

set_option maxHeartbeats 2000000 in
set_option maxRecDepth 100000 in
theorem tell_vec (T : World → Prop) (n d : Int) (s : ByteArray) (l : List Dt) (ih : ∀ x, x ∈ l → TellAt T R Nm NT x) : TellAt T R Nm NT (.node 7 n d s l) := by
  intro v deep acc w0 w B Bb Bt hat hr ht htl hlen
  have hra : Dt.rightAll R Nm l (deep + 1) = true := by
    unfold Dt.right at hr
    rw [Bool.and_eq_true] at hr
    exact hr.2
  unfold Dt.At at hat
  obtain ⟨-, -, -, -, hlm, p, cap, rfl, hl⟩ := hat
  rw [text_vec] at hlen ⊢
  have hlen' : acc.length + 3 + (seqFrom NT l 0).length ≤ 140737488355328 := by unfold seqFrom; simp at hlen ⊢; omega
  have he : acc ++ 35 :: 40 :: (Dt.seqB NT l ++ [41]) = acc ++ [35, 40] ++ seqFrom NT l 0 ++ [41] := by unfold seqFrom; simp
  rw [he]
  unfold maxLen at hlm
  have hlb := builder_lt htl.bld
  have C0 := fun w' (hb : Below w.heap.size w w') => tellStr_any ⟨#[35, 40]⟩ w' (htl.below hb) (by show acc.length + 2 ≤ _; omega)
  have HC0 := Lib.hid C0
  have HTL := Lib.hid htl
  have IH := Lib.hid ih
  have HL := Lib.hid hl
  have HRA := Lib.hid hra
  have HLEN := Lib.hid hlen'
  have HT := Lib.hid ht
  have HBX := Lib.hid (at_new w (.cells #[.int .i64 7, .int .i64 n, .int .i64 d, .string s, .slice p l.length cap] 24))
  have hne : w.heap.size ≠ Bb := by omega
  have HNE := Lib.hid hne
  clear C0 htl ih hl hra hlen hlen' he hr ht hne hlb
  go_enter Tryd.func32, Tryd.ntmps32
  go_wp2_with fail
  refine (HC0.out _ (box_below _ _)).mono ?_
  rintro _ w1 ⟨rfl, ht1, ho1⟩
  obtain ⟨c0, c1, c2, c3, c4⟩ := box_cells (kept_box ho1 HBX.out HNE.out)
  have HT1 := Lib.hid (show Telling w0 B Bb Bt (acc ++ [35, 40]) w1 from ht1)
  have HO1 := Lib.hid ((others_of (box_below w _)).trans ho1)
  clear ht1 ho1 c0 c1 c2 c3
  go_wp2_with fail
  go_loopw [4, 5, 18] (fun _ _ x wr => ∃ (i : Nat) (z : List UInt8), i ≤ l.length ∧ x = .int .i64 i ∧ acc ++ [35, 40] ++ seqFrom NT l 0 = z ++ seqFrom NT l i ∧ Telling w0 B Bb Bt z wr ∧ Lib.OthersKept 5 (some Bb) w wr) (fun _ _ x _ => l.length - (intOf x).toNat)
  case atStart => exact ⟨0, acc ++ [35, 40], by omega, rfl, rfl, HT1.out, HO1.out⟩
  case round =>
    obtain ⟨i, z, hi, rfl, hf, htz, hoz⟩ := hrel
    have hz : z.length + (seqFrom NT l i).length + 1 ≤ 140737488355328 := by
      have h := congrArg List.length hf
      have h2 := HLEN.out
      simp only [List.length_append, List.length_cons, List.length_nil] at h
      omega
    by_cases hlt : i < l.length
    · obtain ⟨t, ht⟩ : ∃ t, l[i]? = some t := ⟨l[i], by simp [hlt]⟩
      rcases HL.out with he | ⟨b, o, rfl, hall⟩
      · rw [he] at hlt; simp at hlt
      obtain ⟨v0, v1, v2, v3, v4, d0, d1, d2, d3, d4, hta⟩ := hall.kid ht
      replace d0 := cell_on htz.base _ _ _ d0
      replace d1 := cell_on htz.base _ _ _ d1
      replace d2 := cell_on htz.base _ _ _ d2
      replace d3 := cell_on htz.base _ _ _ d3
      replace d4 := cell_on htz.base _ _ _ d4
      have hright := right_mem HRA.out t (List.mem_of_getElem? ht)
      have hih := IH.out t (List.mem_of_getElem? ht)
      obtain ⟨kt, nt, dt, st, lt, pt, capt, hte, rfl, rfl, rfl, rfl, rfl, _, _⟩ := hta.open5
      have hbx := box_below wr (.cells #[.int .i64 kt, .int .i64 nt, .int .i64 dt, .string st, .slice pt lt.length capt] 24)
      have hbb := builder_lt htz.bld
      have HPX := Lib.hid (at_new wr (.cells #[.int .i64 kt, .int .i64 nt, .int .i64 dt, .string st, .slice pt lt.length capt] 24))
      have HPN := Lib.hid (show wr.heap.size ≠ Bb by omega)
      have htz1 := htz.below hbx
      have hoz1 := hoz.trans (others_of (b := Bb) hbx)
      by_cases hi0 : i = 0
      · subst hi0
        simp only [Nat.zero_mul, Nat.add_zero] at d0 d1 d2 d3 d4
        have hstep := seq_zero (NT := NT) ht
        have C := hih _ (deep + 1) z w0 (wr.alloc (.cells #[.int .i64 kt, .int .i64 nt, .int .i64 dt, .string st, .slice pt lt.length capt] 24)) B Bb Bt hta hright HT.out htz1 (by rw [hstep, List.length_append] at hz; omega)
        have HC := Lib.hid C
        have HS := Lib.hid hstep
        have HF := Lib.hid hf
        have HOZ := Lib.hid hoz1
        have hfn := cell_of_one htz1.fn
        clear C hta hall hte hright hih ht hf htz hoz htz1 hoz1 hz hbx hstep hbb
        go_wp2_with fail
        refine (HC.out).mono ?_
        rintro _ w2 ⟨rfl, ht2, ho2⟩
        have HT2 := Lib.hid ht2
        have HO2 := Lib.hid ho2
        clear ht2 ho2
        go_wp2_with fail
        go_roundw
        case rel => exact ⟨1, _, by omega, by go_num, by rw [HF.out, HS.out, List.append_assoc], HT2.out, (HOZ.out).trans HO2.out⟩
        case measure => simp [intOf]; omega
      · have hi1 : 0 < i := by omega
        have hi2 : (0 : Int) < (i : Int) := by omega
        have hstep := seq_step (NT := NT) ht hi1
        have C0 := tellByte_any 32 32 rfl (wr.alloc (.cells #[.int .i64 kt, .int .i64 nt, .int .i64 dt, .string st, .slice pt lt.length capt] 24)) htz1 (by omega)
        have HC0 := Lib.hid C0
        have HIH := Lib.hid (fun w' (h : Telling w0 B Bb Bt (z ++ [32]) w') => hih _ (deep + 1) (z ++ [32]) w0 w' B Bb Bt hta hright HT.out h (by rw [hstep, List.length_cons, List.length_append] at hz; rw [List.length_append]; simp; omega))
        have HS := Lib.hid hstep
        have HF := Lib.hid hf
        have HOZ := Lib.hid hoz1
        clear C0 hta hall hte hright hih ht hf htz hoz htz1 hoz1 hz hbx hstep hbb
        go_wp2_with fail
        refine (HC0.out).mono ?_
        rintro _ w2 ⟨rfl, ht2, ho2⟩
        obtain ⟨p0, p1, p2, p3, p4⟩ := box_cells (kept_box ho2 HPX.out HPN.out)
        have hfn := cell_of_one ht2.fn
        have HT2 := Lib.hid ht2
        have HO2 := Lib.hid ho2
        clear ht2 ho2
        go_wp2_with fail
        refine (HIH.out _ HT2.out).mono ?_
        rintro _ w3 ⟨rfl, ht3, ho3⟩
        have HT3 := Lib.hid ht3
        have HO3 := Lib.hid ho3
        clear ht3 ho3 p0 p1 p2 p3 p4 hfn
        go_wp2_with fail
        go_roundw
        case rel => exact ⟨i + 1, _, by omega, by go_num, by rw [HF.out, HS.out]; simp, HT3.out, ((HOZ.out).trans HO2.out).trans HO3.out⟩
        case measure => simp [intOf]; omega
    · have hstop := seq_stop (NT := NT) (show l.length ≤ i by omega)
      rw [hstop, List.append_nil] at hf
      have HF := Lib.hid hf
      have C0 := tellByte_any 41 41 rfl wr htz (by omega)
      have HC0 := Lib.hid C0
      have HOZ := Lib.hid hoz
      clear C0 hf htz hoz hz hstop
      go_wp2_with fail
      refine (HC0.out).mono ?_
      rintro _ w2 ⟨rfl, ht2, ho2⟩
      have HT2 := Lib.hid ht2
      have HO2 := Lib.hid ho2
      clear ht2 ho2
      go_wp2_with fail
      go_end0
      exact ⟨rfl, by rw [HF.out]; exact HT2.out, (HOZ.out).trans HO2.out⟩
end Go.Proofs.YtabofebepefbgaaDoor.Dat

/- The program's own Text: Pairs, and the whole. -/
namespace Go.Proofs.YtabofebepefbgaaDoor.Dat
open Go.RowKit
set_option linter.unusedVariables false
variable {R : Int → Int → Bool} {Nm : ByteArray → Bool} {NT : Int → Int → List UInt8}

theorem Telling.setBox {w0 w : World} {B Bb Bt Br : Nat} {acc : List UInt8} {cs : Array Value} (h : Telling w0 B Bb Bt acc w) (hb : w.heap[Br]? = some (.cells cs 24 (0, 0))) (hlo : w0.heap.size ≤ Br) (b0 b1 b2 b3 b4 : Value) :
    Telling w0 B Bb Bt acc (((((w.setCell ⟨Br, 0, none⟩ b0).setCell ⟨Br, 1, none⟩ b1).setCell ⟨Br, 2, none⟩ b2).setCell ⟨Br, 3, none⟩ b3).setCell ⟨Br, 4, none⟩ b4) := by
  have hother : ∀ k, k ≠ Br → (((((w.setCell ⟨Br, 0, none⟩ b0).setCell ⟨Br, 1, none⟩ b1).setCell ⟨Br, 2, none⟩ b2).setCell ⟨Br, 3, none⟩ b3).setCell ⟨Br, 4, none⟩ b4).heap[k]? = w.heap[k]? := fun k hk => set_five_other hk
  have one : ∀ p, Lib.BuilderAtF 47 5 B Bb p (Lib.byteCells acc) w → Lib.BuilderAtF 47 5 B Bb p (Lib.byteCells acc) (((((w.setCell ⟨Br, 0, none⟩ b0).setCell ⟨Br, 1, none⟩ b1).setCell ⟨Br, 2, none⟩ b2).setCell ⟨Br, 3, none⟩ b3).setCell ⟨Br, 4, none⟩ b4) := by
    intro p ⟨hB, v, hbk, hown, hne⟩
    refine ⟨hB, v, (hother Bb (fun e => by rw [e, hb] at hbk; simp at hbk)).trans hbk, ⟨hown.1, ?_⟩, hne⟩
    rcases hown.2 with hn | ⟨g, cap, cur, fz, rfl, hg, hgg, rest⟩
    · exact .inl hn
    · exact .inr ⟨g, cap, cur, fz, rfl, hg, (hother g (fun e => by rw [e, hb] at hgg; simp at hgg)).trans hgg, rest⟩
  refine ⟨set_five_below h.base hlo, h.hB, by rw [set_five_size]; exact h.hBw, h.bld.elim (fun x => .inl (one _ x)) (fun x => .inr (one _ x)), (hother Bt (fun e => by have := h.fn; rw [e, hb] at this; simp at this)).trans h.fn, h.ne⟩
theorem others_set {w wr W : World} {b : Option Nat} (h : Lib.OthersKept 5 b w wr) (hs : ∀ k, k < w.heap.size → W.heap[k]? = wr.heap[k]?) : Lib.OthersKept 5 b w W := fun k o hk hb ho => (hs k (lt_of_block hk)).trans (h k o hk hb ho)

/-- What holds in a round of a Pair's rest. -/
def Tail (R : Int → Int → Bool) (Nm : ByteArray → Bool) (NT : Int → Int → List UInt8) (w0 w : World) (B Bb Bt Br : Nat) (most : Nat) (whole : List UInt8) (g : Nat) (wr : World) (z : List UInt8) (k n d : Int) (s : ByteArray) (l : List Dt) (p : Option Addr) (cap deep : Nat) : Prop :=
  wr.heap[Br]? = some (.cells #[.int .i64 k, .int .i64 n, .int .i64 d, .string s, .slice p l.length cap] 24 (0, 0)) ∧ (Dt.node k n d s l).At w0 (.agg #[.int .i64 k, .int .i64 n, .int .i64 d, .string s, .slice p l.length cap]) ∧
    (Dt.node k n d s l).right R Nm deep = true ∧ (Dt.node k n d s l).size ≤ g ∧ (Dt.node k n d s l).size < most ∧ whole = z ++ (Dt.node k n d s l).tail NT ∧ Telling w0 B Bb Bt z wr ∧ Lib.OthersKept 5 (some Bb) w wr

set_option maxHeartbeats 4000000 in
set_option maxRecDepth 100000 in
theorem tell_pair (T : World → Prop) (n d : Int) (s : ByteArray) (ta tb : Dt) (ih : ∀ x, x.size < (Dt.node 6 n d s [ta, tb]).size → TellAt T R Nm NT x) (hra : ∀ deep, (Dt.node 6 n d s [ta, tb]).right R Nm deep = true → ta.right R Nm (deep + 1) = true ∧ tb.right R Nm (deep + 1) = true) : TellAt T R Nm NT (.node 6 n d s [ta, tb]) := by
  intro v deep acc w0 w B Bb Bt hat hr ht htl hlen
  obtain ⟨hra, hrb⟩ := hra deep hr
  have sa : ta.size < (Dt.node 6 n d s [ta, tb]).size ∧ tb.size < (Dt.node 6 n d s [ta, tb]).size := by
    have := ta.size_pos; have := tb.size_pos
    simp only [Dt.size, Dt.sizes]; omega
  unfold Dt.At at hat
  obtain ⟨-, -, -, -, -, p, cap, rfl, hl⟩ := hat
  rcases hl with hl | ⟨b, o, rfl, hall⟩
  · cases hl
  rw [text_pair] at hlen ⊢
  obtain ⟨most, hmost⟩ : ∃ m, (Dt.node 6 n d s [ta, tb]).size = m := ⟨_, rfl⟩
  rw [hmost] at ih sa
  obtain ⟨v0, v1, v2, v3, v4, d0, d1, d2, d3, d4, hta⟩ := hall.kid (i := 0) (t := ta) rfl
  obtain ⟨u0, u1, u2, u3, u4, f0, f1, f2, f3, f4, htb⟩ := hall.kid (i := 1) (t := tb) rfl
  simp only [Nat.zero_mul, Nat.add_zero, Nat.one_mul] at d0 d1 d2 d3 d4 f0 f1 f2 f3 f4
  obtain ⟨kc, nc, dc, sc, lc, pc, capc, htbe, rfl, rfl, rfl, rfl, rfl, _, _⟩ := htb.open5
  have hlen2 : acc.length + 2 + (ta.text NT).length + (tb.tail NT).length ≤ 140737488355328 := by
    simp only [List.length_cons, List.length_append, List.length_nil] at hlen; omega
  have hlb := builder_lt htl.bld
  have C0 := fun w' (hb : Below w.heap.size w w') => tellByte_any 40 40 rfl w' (htl.below hb) (by omega)
  have HC0 := Lib.hid C0
  have HIA := Lib.hid (fun w' (h : Telling w0 B Bb Bt (acc ++ [40]) w') => ih ta sa.1 _ (deep + 1) (acc ++ [40]) w0 w' B Bb Bt hta hra ht h (by rw [List.length_append]; simp; omega))
  have HBX := Lib.hid (at_new w (.cells #[.int .i64 6, .int .i64 n, .int .i64 d, .string s, .slice (some ⟨b, o, none⟩) [ta, tb].length cap] 24))
  have HNE := Lib.hid (show w.heap.size ≠ Bb by omega)
  have IH := Lib.hid ih
  have HT := Lib.hid ht
  have HLEN := Lib.hid hlen2
  have HTB := Lib.hid htb
  have HTE := Lib.hid htbe
  have HRB := Lib.hid hrb
  have HSB := Lib.hid sa.2
  have HD := Lib.hid (And.intro d0 (And.intro d1 (And.intro d2 (And.intro d3 d4))))
  have HF := Lib.hid (And.intro f0 (And.intro f1 (And.intro f2 (And.intro f3 f4))))
  have HWS := Lib.hid htl.base.size
  clear C0 hr ht htl hlen hlen2 hra hrb sa hall hta htb htbe ih hmost hlb d0 d1 d2 d3 d4 f0 f1 f2 f3 f4
  simp only [List.length_cons, List.length_nil, Nat.zero_add, Nat.reduceAdd] at HBX ⊢
  go_enter Tryd.func32, Tryd.ntmps32
  go_wp2_with fail
  refine (HC0.out _ (box_below _ _)).mono ?_
  rintro _ w1 ⟨rfl, ht1, ho1⟩
  obtain ⟨c0, c1, c2, c3, c4⟩ := box_cells (kept_box ho1 HBX.out HNE.out)
  have HBX1 := Lib.hid (kept_box ho1 HBX.out HNE.out)
  have hfn := cell_of_one ht1.fn
  have x0 := cell_on ht1.base _ _ _ HD.out.1
  have x1 := cell_on ht1.base _ _ _ HD.out.2.1
  have x2 := cell_on ht1.base _ _ _ HD.out.2.2.1
  have x3 := cell_on ht1.base _ _ _ HD.out.2.2.2.1
  have x4 := cell_on ht1.base _ _ _ HD.out.2.2.2.2
  have HT1 := Lib.hid ht1
  have HO1 := Lib.hid ((others_of (box_below w _)).trans ho1)
  clear ht1 ho1 c0 c1 c2 c3
  go_wp2_with fail
  go_still_tail 5, (by kernel_rfl)
  change wpList _ _ _ _ _ w1.drew
  go_wp2_with fail
  refine (HIA.out _ ((HT1.out).below ((Below.refl _ _).drew))).mono ?_
  rintro _ w2 ⟨rfl, ht2, ho2⟩
  obtain ⟨c0, c1, c2, c3, c4⟩ := box_cells (kept_box ho2 (show w1.drew.heap[w.heap.size]? = _ from HBX1.out) HNE.out)
  have y0 := cell_on ht2.base _ _ _ HF.out.1
  have y1 := cell_on ht2.base _ _ _ HF.out.2.1
  have y2 := cell_on ht2.base _ _ _ HF.out.2.2.1
  have y3 := cell_on ht2.base _ _ _ HF.out.2.2.2.1
  have y4 := cell_on ht2.base _ _ _ HF.out.2.2.2.2
  have HT2 := Lib.hid ht2
  have HW2 := Lib.hid (lt_of_block (kept_box ho2 (show w1.drew.heap[w.heap.size]? = _ from HBX1.out) HNE.out))
  have HO2 := Lib.hid ((HO1.out).trans ((show Lib.OthersKept 5 (some Bb) w1 w1.drew from fun k o h _ _ => h).trans ho2))
  clear ht2 ho2 c0 c1 c2 c3 hfn x0 x1 x2 x3 x4
  go_wp2_with fail
  go_loopg [] most (fun g wr => ∃ (z : List UInt8) (k n' d' : Int) (s' : ByteArray) (l : List Dt) (p : Option Addr) (cap' dp : Nat), Tail R Nm NT w0 w B Bb Bt w2.heap.size most (acc ++ 40 :: (ta.text NT ++ tb.tail NT)) g wr z k n' d' s' l p cap' dp)
  case atStart =>
    refine ⟨acc ++ [40] ++ ta.text NT, kc, nc, dc, sc, lc, pc, capc, deep + 1, ?_⟩
    unfold Tail
    rw [← HTE.out]
    refine ⟨at_new _ _, HTB.out, HRB.out, Nat.le_of_lt HSB.out, HSB.out, by simp, (HT2.out).below (box_below _ _), (HO2.out).trans (others_of (box_below _ _))⟩
  case round =>
    obtain ⟨z, k, n', d', s', l, p, cap', dp, htail⟩ := hrel
    obtain ⟨hh, hqa, hqr, hqg, hqm, hwh, htz, hoz⟩ := htail
    have hz : z.length + ((Dt.node k n' d' s' l).tail NT).length + 1 ≤ 140737488355328 := by
      have h := congrArg List.length hwh
      have h2 := HLEN.out
      simp only [List.length_append, List.length_cons] at h
      omega
    have hne : w2.heap.size ≠ Bb := fun e => by rcases htz.bld with ⟨_, v, hbk, _⟩ | ⟨_, v, hbk, _⟩ <;> (rw [← e, hh] at hbk; simp at hbk)
    have hlo : w.heap.size ≤ w2.heap.size := by have := HW2.out; omega
    have hlo0 : w0.heap.size ≤ w2.heap.size := Nat.le_trans HWS.out hlo
    obtain ⟨c0, c1, c2, c3, c4⟩ := box_cells hh
    have HH := Lib.hid hh
    have HNB := Lib.hid hne
    have HLO := Lib.hid hlo
    have HLO0 := Lib.hid hlo0
    have HOZ := Lib.hid hoz
    by_cases hk : k = 6
    · subst hk
      obtain ⟨x, q, rfl, hx, hq⟩ := pair_of hqr
      obtain ⟨_, _, _, _, _, _, _, he, _, _, _, _, hsl, _, hl⟩ := hqa.open5
      simp only [Dt.node.injEq] at he
      obtain ⟨_, _, _, _, rfl⟩ := he
      simp only [Value.slice.injEq, true_and] at hsl
      obtain ⟨rfl, _⟩ := hsl
      rcases hl with hl | ⟨b', o', rfl, hall⟩
      · cases hl
      obtain ⟨x0, x1, x2, x3, x4, i0, i1, i2, i3, i4, hxa⟩ := hall.kid (i := 0) (t := x) rfl
      obtain ⟨q0, q1, q2, q3, q4, j0, j1, j2, j3, j4, hqa2⟩ := hall.kid (i := 1) (t := q) rfl
      simp only [Nat.zero_mul, Nat.add_zero, Nat.one_mul] at i0 i1 i2 i3 i4 j0 j1 j2 j3 j4
      obtain ⟨kq, nq, dq, sq, lq, pq, capq, hqe, rfl, rfl, rfl, rfl, rfl, _, _⟩ := hqa2.open5
      have hszx : x.size < (Dt.node 6 n' d' s' [x, q]).size ∧ q.size < (Dt.node 6 n' d' s' [x, q]).size := by
        have := x.size_pos; have := q.size_pos
        simp only [Dt.size, Dt.sizes]; omega
      rw [tail_pair] at hwh hz
      simp only [List.length_cons, List.length_append] at hz
      have HC0 := Lib.hid (tellByte_any 32 32 rfl wr htz (by omega))
      have HIX := Lib.hid (fun w' (h : Telling w0 B Bb Bt (z ++ [32]) w') => IH.out x (by omega) _ (dp + 1) (z ++ [32]) w0 w' B Bb Bt hxa hx HT.out h (by rw [List.length_append]; simp; omega))
      have HI := Lib.hid (And.intro i0 (And.intro i1 (And.intro i2 (And.intro i3 i4))))
      have HJ := Lib.hid (And.intro j0 (And.intro j1 (And.intro j2 (And.intro j3 j4))))
      have HQA := Lib.hid hqa2
      have HQE := Lib.hid hqe
      have HQR := Lib.hid hq
      have HWH := Lib.hid hwh
      have HG := Lib.hid (show q.size < gk by omega)
      have HM := Lib.hid (show q.size < most by omega)
      simp only [List.length_cons, List.length_nil, Nat.zero_add, Nat.reduceAdd] at c4 HH
      clear i0 i1 i2 i3 i4 j0 j1 j2 j3 j4 hqa2 hqe hq hwh hqg hqm hszx hqa hqr hx hxa hall hh hne hlo hlo0 htz hoz hz c1 c2 c3
      go_wp2_with fail
      refine (HC0.out).mono ?_
      rintro _ w3 ⟨rfl, ht3, ho3⟩
      obtain ⟨e0, e1, e2, e3, e4⟩ := box_cells (kept_box ho3 HH.out HNB.out)
      have HH3 := Lib.hid (kept_box ho3 HH.out HNB.out)
      have hfn3 := cell_of_one ht3.fn
      have i0 := cell_on ht3.base _ _ _ HI.out.1
      have i1 := cell_on ht3.base _ _ _ HI.out.2.1
      have i2 := cell_on ht3.base _ _ _ HI.out.2.2.1
      have i3 := cell_on ht3.base _ _ _ HI.out.2.2.2.1
      have i4 := cell_on ht3.base _ _ _ HI.out.2.2.2.2
      have HT3 := Lib.hid ht3
      have HO3 := Lib.hid ho3
      clear ht3 ho3 e0 e1 e2 e3 c0 c4
      go_wp2_with fail
      go_still_tail 5, (by kernel_rfl)
      change wpList _ _ _ _ _ w3.drew
      go_wp2_with fail
      refine (HIX.out _ ((HT3.out).below ((Below.refl _ _).drew))).mono ?_
      rintro _ w4 ⟨rfl, ht4, ho4⟩
      have hh4 := kept_box ho4 (show w3.drew.heap[w2.heap.size]? = _ from HH3.out) HNB.out
      obtain ⟨m0, m1, m2, m3, m4⟩ := box_cells hh4
      have z0 := box_frozen hh4 0
      have z1 := box_frozen hh4 1
      have z2 := box_frozen hh4 2
      have z3 := box_frozen hh4 3
      have z4 := box_frozen hh4 4
      have j0 := cell_on ht4.base _ _ _ HJ.out.1
      have j1 := cell_on ht4.base _ _ _ HJ.out.2.1
      have j2 := cell_on ht4.base _ _ _ HJ.out.2.2.1
      have j3 := cell_on ht4.base _ _ _ HJ.out.2.2.2.1
      have j4 := cell_on ht4.base _ _ _ HJ.out.2.2.2.2
      have HH4 := Lib.hid hh4
      have HT4 := Lib.hid ht4
      have HO4 := Lib.hid (((HOZ.out).trans HO3.out).trans ((show Lib.OthersKept 5 (some Bb) w3 w3.drew from fun k o h _ _ => h).trans ho4))
      clear ht4 ho4 hh4 hfn3 i0 i1 i2 i3 i4 e4
      go_wp2_with fail
      go_roundg q.size
      case measure => exact HG.out
      case rel =>
        refine ⟨z ++ [32] ++ x.text NT, kq, nq, dq, sq, lq, pq, capq, dp + 1, ?_⟩
        unfold Tail
        rw [← HQE.out]
        refine ⟨set_five HH4.out, HQA.out, HQR.out, Nat.le_refl _, HM.out, by rw [HWH.out]; simp, (HT4.out).setBox HH4.out HLO0.out _ _ _ _ _, others_set HO4.out fun k hk => set_five_other (by have := HLO.out; omega)⟩
    · have e6 : (k == 6) = false := by rw [beq_eq_false_iff_ne]; exact hk
      by_cases h4 : k = 4
      · subst h4
        rw [tail_null, List.append_nil] at hwh
        have HWH := Lib.hid hwh
        have HC0 := Lib.hid (tellByte_any 41 41 rfl wr htz (by omega))
        clear hwh hqg hqm hqa hqr hh hne hlo hlo0 htz hoz hz hk e6
        go_wp2_with fail
        refine (HC0.out).mono ?_
        rintro _ w3 ⟨rfl, ht3, ho3⟩
        have HT3 := Lib.hid ht3
        have HO3 := Lib.hid ((HOZ.out).trans ho3)
        clear ht3 ho3
        go_wp2_with fail
        go_end0
        exact ⟨rfl, by rw [show acc ++ 40 :: (ta.text NT ++ tb.tail NT ++ [41]) = acc ++ 40 :: (ta.text NT ++ tb.tail NT) ++ [41] by simp, HWH.out]; exact HT3.out, HO3.out⟩
      · have e4 : (k != 4) = true := by rw [bne_iff_ne]; exact h4
        rw [tail_else (t := Dt.node k n' d' s' l) hk h4] at hwh hz
        simp only [List.length_cons] at hz
        have HWH := Lib.hid hwh
        have HC0 := Lib.hid (tellStr_any ⟨#[32, 46, 32]⟩ wr htz (by show z.length + 3 ≤ _; omega))
        have HIX := Lib.hid (fun w' (h : Telling w0 B Bb Bt (z ++ [32, 46, 32]) w') => IH.out _ hqm _ dp (z ++ [32, 46, 32]) w0 w' B Bb Bt hqa hqr HT.out h (by rw [List.length_append]; simp; omega))
        have HC1 := Lib.hid (fun w' (h : Telling w0 B Bb Bt (z ++ [32, 46, 32] ++ (Dt.node k n' d' s' l).text NT) w') => tellByte_any 41 41 rfl w' h (by rw [List.length_append, List.length_append]; simp; omega))
        clear hwh hqg hqm hqa hqr hh hne hlo hlo0 htz hoz hz hk h4
        go_wp2_with fail
        refine (HC0.out).mono ?_
        rintro _ w3 ⟨rfl, ht3, ho3⟩
        obtain ⟨m0, m1, m2, m3, m4⟩ := box_cells (kept_box ho3 HH.out HNB.out)
        have hfn3 := cell_of_one ht3.fn
        have HT3 := Lib.hid (show Telling w0 B Bb Bt (z ++ [32, 46, 32]) w3 from ht3)
        have HO3 := Lib.hid ((HOZ.out).trans ho3)
        clear ht3 ho3 c0 c1 c2 c3 c4
        go_wp2_with fail
        refine (HIX.out _ HT3.out).mono ?_
        rintro _ w4 ⟨rfl, ht4, ho4⟩
        have HT4 := Lib.hid ht4
        have HO4 := Lib.hid ((HO3.out).trans ho4)
        clear ht4 ho4 m0 m1 m2 m3 m4 hfn3
        go_wp2_with fail
        refine (HC1.out _ HT4.out).mono ?_
        rintro _ w5 ⟨rfl, ht5, ho5⟩
        have HT5 := Lib.hid ht5
        have HO5 := Lib.hid ((HO4.out).trans ho5)
        clear ht5 ho5
        go_wp2_with fail
        go_end0
        exact ⟨rfl, by rw [show acc ++ 40 :: (ta.text NT ++ tb.tail NT ++ [41]) = acc ++ 40 :: (ta.text NT ++ tb.tail NT) ++ [41] by simp, HWH.out, show z ++ 32 :: 46 :: 32 :: (Dt.node k n' d' s' l).text NT ++ [41] = z ++ [32, 46, 32] ++ (Dt.node k n' d' s' l).text NT ++ [41] by simp]; exact HT5.out, HO5.out⟩
end Go.Proofs.YtabofebepefbgaaDoor.Dat

/- The program's own Text, of every datum. -/
namespace Go.Proofs.YtabofebepefbgaaDoor.Dat
open Go.RowKit
set_option linter.unusedVariables false
variable {R : Int → Int → Bool} {Nm : ByteArray → Bool} {NT : Int → Int → List UInt8}

theorem tell_any (T : World → Prop) (hT : NumText T NT) (hL : Lasts T) (N : Nat) : ∀ t : Dt, t.size ≤ N → TellAt T R Nm NT t := by
  induction N with
  | zero => intro t h; have := t.size_pos; omega
  | succ N ih =>
    intro t hN
    have kids : ∀ x, x.size < t.size → TellAt T R Nm NT x := fun x hx => ih x (by omega)
    obtain ⟨k, n, d, s, l⟩ := t
    by_cases h6 : k = 6
    · subst h6
      intro v deep acc w0 w B Bb Bt hat hr
      obtain ⟨x, q, rfl, hx, hq⟩ := pair_of hr
      exact tell_pair T n d s x q kids (fun deep h => by
        obtain ⟨x', q', e, h1, h2⟩ := pair_of h
        simp only [List.cons.injEq, and_true] at e
        obtain ⟨rfl, rfl⟩ := e
        exact ⟨h1, h2⟩) v deep acc w0 w B Bb Bt hat hr
    · by_cases h7 : k = 7
      · subst h7
        exact tell_vec T n d s l fun x hx => kids x (by have := Dt.size_mem hx; simp only [Dt.size]; omega)
      · exact tell_leaf T hT hL k n d s l h6 h7

set_option maxHeartbeats 1000000 in
set_option maxRecDepth 100000 in
/-- The program's Text, out of what its Right answers. -/
theorem ownText_any (T : World → Prop) (hT : NumText T NT) (hL : Lasts T)
    (hQ : ∀ (t : Dt) (v : Value) (w : World), t.At w v → Calls Tryd.prog 17 #[v] w fun e w' => e = .returned (.bool (t.right R Nm 0)) ∧ Below w.heap.size w w')
    (t : Dt) (v : Value) (a : ByteArray) (w : World) (hat : t.At w v) (ht : T w) (hlen : t.right R Nm 0 = true → (t.text NT).length ≤ 140737488355328) (ha : a.data.toList = t.full R Nm NT) :
    Calls Tryd.prog 15 #[v] w fun e w' => e = .returned (.string a) ∧ Below w.heap.size w w' := by
  have hmf : ∀ (fn : Fn) (first cap : Array Value) (w : World), (Instr.makeFunc fn first cap).run Tryd.prog w = .ok (.func fn first cap) w := fun _ _ _ _ => rfl
  have C1 := fun w' (h : Below w.heap.size w w') => hQ t v w' (hat.below h)
  unfold Dt.full at ha
  cases hr : t.right R Nm 0
  · rw [hr] at C1 ha
    simp only [Bool.false_eq_true, if_false] at ha
    have HC1 := Lib.hid C1
    have HA := Lib.hid ha
    clear C1 ha hlen hr hQ hT hL ht
    obtain ⟨k, n, d, s, l⟩ := t
    unfold Dt.At at hat
    obtain ⟨-, -, -, -, -, p, cap, rfl, -⟩ := hat
    go_enter Tryd.func15, Tryd.ntmps15
    go_wp2_with fail
    refine (HC1.out _ (box_below _ _)).mono ?_
    rintro _ w1 ⟨rfl, hb1⟩
    have HB1 := Lib.hid (below_after hb1); clear hb1
    go_wp2_with fail
    go_ret
    exact ⟨ret_str (by rw [HA.out]), HB1.out⟩
  · have hlen := hlen hr
    rw [hr] at C1 ha
    simp only [if_true] at ha
    have C2 := fun (w' : World) (B Bb Bt : Nat) (h : Telling w B Bb Bt [] w') => tell_any T hT hL _ t (Nat.le_refl _) v 0 [] w w' B Bb Bt hat hr ht h (by simpa using hlen)
    have C3 := fun (w' : World) (B Bb Bt : Nat) (h : Telling w B Bb Bt ([] ++ t.text NT) w') => Tryd.Builder_String_any_k B Bb ([] ++ t.text NT) w' h.bld h.hBw
    have HC1 := Lib.hid C1
    have HC2 := Lib.hid C2
    have HC3 := Lib.hid C3
    have HA := Lib.hid ha
    clear C1 C2 C3 ha hlen hr hQ hT hL ht
    obtain ⟨k, n, d, s, l⟩ := t
    unfold Dt.At at hat
    obtain ⟨-, -, -, -, -, p, cap, rfl, -⟩ := hat
    go_enter Tryd.func15, Tryd.ntmps15
    go_wp2_with fail
    refine (HC1.out _ (box_below _ _)).mono ?_
    rintro _ w1 ⟨rfl, hb1⟩
    have hone := one_box hb1
    have hb2 := two_below w1 (.cells #[.pointer none, .slice none 0 0] 47) (.cells #[tellF w1.heap.size (w1.heap.size + 1)] 48)
    obtain ⟨c0, c1, c2, c3, c4⟩ := box_cells (block_on hb2 hone)
    have hb1w := below_after hb1
    have HTL := Lib.hid (show Telling w w1.heap.size w1.heap.size (w1.heap.size + 1) [] ((w1.alloc (.cells #[.pointer none, .slice none 0 0] 47)).alloc (.cells #[tellF w1.heap.size (w1.heap.size + 1)] 48)) from
      ⟨below_seq hb1w hb2, hb1w.size, hb2.size, (Lib.IsBuilderF.of (Lib.fresh_isBuilder 47 5 w1)).alloc _, two_second _ _ _, by omega⟩)
    clear hone hb1 hb2 hb1w
    go_wp2_with fail
    refine (HC2.out _ _ _ _ HTL.out).mono ?_
    rintro _ w2 ⟨rfl, ht2, ho2⟩
    have HT2 := Lib.hid ht2
    clear ht2 ho2 c0 c1 c2 c3 c4
    go_wp2_with fail
    refine (HC3.out _ _ _ _ HT2.out).mono ?_
    rintro _ w3 ⟨rfl, _, hb3, _⟩
    have HB3 := Lib.hid ((HT2.out).base.trans (hb3.mono (HT2.out).hB)); clear hb3
    go_wp2_with fail
    go_ret
    exact ⟨ret_str (by rw [HA.out]), HB3.out⟩
end Go.Proofs.YtabofebepefbgaaDoor.Dat
