/- The law DatumTexts. -/
import Derived.Test.YtabofebepefbgaaDoorDatWc
import Derived.Test.YtabofebepefbgaaDoorDatVv
import Derived.Test.YtabofebepefbgaaDoorDatI
import Derived.Test.YtabofebepefbgaaDoorDatZ
import Derived.Test.YtabofebepefbgaaDoorDatB
import Derived.Test.YtabofebepefbgaaDoorRdMM
namespace Go.Proofs.YtabofebepefbgaaDoor.Dat
open Go.RowKit
open Go.Proofs.YtabofebepefbgaaDoor (textL parse res str_of)
open NumPlain (rightB)
set_option linter.unusedVariables false

set_option maxHeartbeats 400000 in
set_option maxRecDepth 100000 in
theorem refTextR (t : Dt) (v : Value) (a : ByteArray) (w : World) (hat : t.At w v) (hroom : t.right rightB nameB 0 = true → Roomy (t.text textL)) (ha : a.data.toList = t.full rightB nameB textL) :
    Calls Tryd.prog 16 #[v] w fun e w' => e = .returned (.string a) ∧ Below w.heap.size w w' := by
  by_cases hrt : t.right rightB nameB 0 = true
  · exact Text_any refRight refName refText t v a w hat (hroom hrt) ha
  have hrt : t.right rightB nameB 0 = false := Bool.eq_false_iff.2 hrt
  have hat2 := hat
  obtain ⟨k, n, d, s, l⟩ := t
  unfold Dt.At at hat2
  obtain ⟨hk, hn, hd, hs, hlm, p, cap, rfl, hl⟩ := hat2
  have C := fun w1 (hb : Below w.heap.size w w1) => rRight (.node k n d s l) _ w1 (hat.below hb)
  unfold Dt.full at ha
  rw [hrt] at C ha
  simp only [Bool.false_eq_true, if_false] at ha
  have HC := Lib.hid C
  have HA := Lib.hid ha
  clear C ha hrt hat hl hlm hs hk hn hd hroom
  go_enter Tryd.func16, Tryd.ntmps16
  go_wp2_with fail
  refine (HC.out _ (box_below _ _)).mono ?_
  rintro _ w1 ⟨rfl, hb1⟩
  obtain ⟨c0, c1, c2, c3, c4⟩ := box_cells (one_box hb1)
  have HB1 := Lib.hid (below_after hb1); clear hb1
  go_wp2_with fail
  go_ret
  exact ⟨ret_str (by rw [HA.out]), HB1.out⟩
/-- What Items answers, by either. -/
def ItemsAre (f : FuncId) (t : Dt) (L : List Dt) (ok : Bool) : Prop := ∀ (v : Value) (w : World), t.At w v →
    Calls Tryd.prog f #[v] w fun e w' => (∃ p cap, e = .returned (.tuple #[.slice p L.length cap, .bool ok]) ∧ Rowed w' L p) ∧ Below w.heap.size w w'
theorem items_are (t : Dt) (hb : t.size ≤ 2000) : ∃ L ok, L.length ≤ 2000 ∧ ItemsAre 12 t L ok ∧ ItemsAre 13 t L ok := by
  have len : ∀ (t : Dt) (L : List Dt), t.items = some L → L.length ≤ t.size := by
    intro t
    induction ht : t.size using Nat.strongRecOn generalizing t with
    | ind N ih =>
      intro L hL
      obtain ⟨k, n, d, s, l⟩ := t
      subst ht
      by_cases h6 : k = 6
      · subst h6
        rcases l with _ | ⟨a, _ | ⟨b, _ | ⟨c, r⟩⟩⟩
        · simp [Dt.items, Dt.itemsL] at hL
        · simp [Dt.items, Dt.itemsL, Dt.itemsR] at hL
        · rw [items_pair] at hL
          obtain ⟨M, hM, rfl⟩ := Option.map_eq_some_iff.1 hL
          have := ih b.size (by simp only [Dt.size, Dt.sizes]; have := a.size_pos; omega) b rfl M hM
          simp only [List.length_cons, Dt.size, Dt.sizes]; have := a.size_pos; omega
        · have hL' : ∃ M, b.items = some M ∧ a :: M = L := by simpa [Dt.items, Dt.itemsL, Dt.itemsR] using hL
          obtain ⟨M, hM, rfl⟩ := hL'
          have := ih b.size (by simp only [Dt.size, Dt.sizes]; have := a.size_pos; omega) b rfl M hM
          simp only [List.length_cons, Dt.size, Dt.sizes]; have := a.size_pos; omega
      · by_cases h4 : k = 4
        · subst h4; rw [items_null] at hL; obtain rfl := Option.some.inj hL; simp
        · rw [items_else h6 h4] at hL; cases hL
  have one : ∀ (f : FuncId), (∀ (v : Value) (w : World), t.At w v → Calls Tryd.prog f #[v] w fun e w' => ItemsPost rightB nameB t e w' ∧ Below w.heap.size w w') →
      (∀ L, t.right rightB nameB 0 = true → t.items = some L → ItemsAre f t L true) ∧ ((t.right rightB nameB 0 = false ∨ t.items = none) → ItemsAre f t [] false) := by
    intro f h
    refine ⟨fun L hr hi v w hat => (h v w hat).mono ?_, fun hn v w hat => (h v w hat).mono ?_⟩
    · rintro e w' ⟨⟨h1 | h1, rfl⟩ | ⟨-, l', v', h1, rfl, hsl⟩, hb⟩
      · rw [h1] at hr; cases hr
      · rw [h1] at hi; cases hi
      · rw [hi] at h1
        obtain rfl := Option.some.inj h1
        obtain ⟨p, cap, rfl, hrow⟩ := hsl
        exact ⟨⟨p, cap, rfl, hrow⟩, hb⟩
    · rintro e w' ⟨⟨h1, rfl⟩ | ⟨hr, l', v', h1, rfl, hsl⟩, hb⟩
      · exact ⟨⟨none, 0, rfl, Or.inl rfl⟩, hb⟩
      · rcases hn with hn | hn
        · rw [hr] at hn; cases hn
        · rw [h1] at hn; cases hn
  have o := one 12 fun v w hat => ownItems_any pRight t v w (by omega) hat
  have r := one 13 fun v w hat => Items_any refRight refName t v w (by omega) hat
  by_cases hr : t.right rightB nameB 0 = true
  · cases hi : t.items with
    | none => exact ⟨[], false, by simp, o.2 (Or.inr hi), r.2 (Or.inr hi)⟩
    | some L => exact ⟨L, true, Nat.le_trans (len t L hi) hb, o.1 L hr hi, r.1 L hr hi⟩
  · have hr : t.right rightB nameB 0 = false := Bool.eq_false_iff.2 hr
    exact ⟨[], false, by simp, o.2 (Or.inl hr), r.2 (Or.inl hr)⟩
theorem alike_self (t : Dt) (v v' : Value) (w : World) (h : t.At w v) (h' : t.At w v') : Calls Tryd.prog 14 #[v, v'] w fun e w' => e = .returned (.bool true) ∧ Below w.heap.size w w' := by
  have := alike_any t.size t t v v' w (Nat.le_refl _) h h'
  rwa [(Dt.alike_iff t t).2 rfl] at this

set_option maxHeartbeats 4000000 in
set_option maxRecDepth 100000 in
theorem datumTexts_any (t : Dt) (v : Value) (w : World) (htab : Tab w) (hat : t.At w v) (hroom : t.right rightB nameB 0 = true → (t.text textL).length ≤ 140737488355328) :
    Answers 3 #[v] w (.bool true) := by
  have hA := fun w' (h : Below w.heap.size w w') => awake_any w' (tab_on htab h)
  have F1 := fun w' (hb : Below w.heap.size w w') => fewLaw_any t v 2000 w' (by omega) (by omega) (hat.below hb)
  obtain ⟨x, hx, -⟩ := str_of (l := t.full rightB nameB textL)
  have CT := fun w' (hb : Below w.heap.size w w') => pText t v x w' (hat.below hb) (tab_on htab hb) hroom hx
  have CR := fun w' (hb : Below w.heap.size w w') => refTextR t v x w' (hat.below hb) (fun h => by have := hroom h; unfold Roomy; omega) hx
  have CI := fun (h : t.size ≤ 2000) => items_are t h
  have HI := Lib.hid (show t.size ≤ 2000 → ∃ L ok, L.length ≤ 2000 ∧ (∀ w', Below w.heap.size w w' → Calls Tryd.prog 12 #[v] w' fun e w2 => (∃ p cap, e = .returned (.tuple #[.slice p L.length cap, .bool ok]) ∧ Rowed w2 L p) ∧ Below w'.heap.size w' w2) ∧ (∀ w', Below w.heap.size w w' → Calls Tryd.prog 13 #[v] w' fun e w2 => (∃ p cap, e = .returned (.tuple #[.slice p L.length cap, .bool ok]) ∧ Rowed w2 L p) ∧ Below w'.heap.size w' w2) from fun h => by
    obtain ⟨L, ok, h0, h1, h2⟩ := CI h
    exact ⟨L, ok, h0, fun w' hb => h1 v w' (hat.below hb), fun w' hb => h2 v w' (hat.below hb)⟩)
  obtain ⟨f1, hf1⟩ : ∃ b, decide ((t.size : Int) ≤ 2000) = b := ⟨_, rfl⟩
  rw [hf1] at F1
  have HA := Lib.hid hA
  have HF1 := Lib.hid F1
  have HFD := Lib.hid hf1
  have HCT := Lib.hid CT
  have HCR := Lib.hid CR
  clear hA F1 CT CR CI hx hroom htab hf1
  obtain ⟨k, n, d, s, l⟩ := t
  unfold Dt.At at hat
  obtain ⟨-, -, -, -, -, p, cap, rfl, -⟩ := hat
  unfold Answers
  go_enter Tryd.func3, Tryd.ntmps3
  go_wp2_with fail
  refine (HA.out _ (box_below w _)).mono ?_
  rintro _ w1 ⟨rfl, hb1⟩
  obtain ⟨a0, a1, a2, a3, a4⟩ := box_cells (one_box hb1)
  have B1 := Lib.hid (below_after hb1)
  clear hb1
  go_wp2_with fail
  refine (HF1.out _ B1.out).mono ?_
  rintro _ w2 ⟨rfl, hb⟩
  replace a0 := cell_on hb _ _ _ a0
  replace a1 := cell_on hb _ _ _ a1
  replace a2 := cell_on hb _ _ _ a2
  replace a3 := cell_on hb _ _ _ a3
  replace a4 := cell_on hb _ _ _ a4
  have B2 := Lib.hid (below_then B1.out hb)
  clear hb
  cases f1
  · go_wp2_with fail
    go_ret
    exact ⟨rfl, B2.out⟩
  obtain ⟨L, ok, hlen, hi1, hi2⟩ := HI.out (by have := of_decide_eq_true HFD.out; omega)
  have HI1 := Lib.hid hi1
  have HI2 := Lib.hid hi2
  clear hi1 hi2
  go_wp2_with fail
  refine (HI1.out _ B2.out).mono ?_
  rintro _ w3 ⟨⟨q, cq, rfl, hr1⟩, hb⟩
  replace a0 := cell_on hb _ _ _ a0
  replace a1 := cell_on hb _ _ _ a1
  replace a2 := cell_on hb _ _ _ a2
  replace a3 := cell_on hb _ _ _ a3
  replace a4 := cell_on hb _ _ _ a4
  have B3 := Lib.hid (below_then B2.out hb)
  have HR1 := Lib.hid hr1
  clear hb hr1
  go_wp2_with fail
  refine (HI2.out _ B3.out).mono ?_
  rintro _ w4 ⟨⟨q', cq', rfl, hr2⟩, hb⟩
  replace a0 := cell_on hb _ _ _ a0
  replace a1 := cell_on hb _ _ _ a1
  replace a2 := cell_on hb _ _ _ a2
  replace a3 := cell_on hb _ _ _ a3
  replace a4 := cell_on hb _ _ _ a4
  have B4 := Lib.hid (below_then B3.out hb)
  have HR1 := Lib.hid ((HR1.out).below hb)
  have HR2 := Lib.hid hr2
  clear hb hr2
  have q1 : ((L.length : Int) != (L.length : Int)) = false := by simp
  have q2 : (ok != ok) = false := by simp
  cases ok
  all_goals
    go_wp2_with fail
    go_loopw [8] (fun x wr => ∃ (i : Nat), i ≤ L.length ∧ x = .int .i64 i ∧ Below w4.heap.size w4 wr) (fun x _ => L.length - (intOf x).toNat)
    case atStart => exact ⟨0, by omega, rfl, Below.refl _ _⟩
    case round =>
      obtain ⟨i, hi, rfl, hb⟩ := hrel
      have HB := Lib.hid hb; clear hb
      by_cases hlt : i < L.length
      · obtain ⟨u, hu⟩ : ∃ u, L[i]? = some u := ⟨L[i], by simp [hlt]⟩
        rcases HR1.out with he | ⟨b, o, rfl, hall⟩
        · rw [he] at hlt; simp at hlt
        rcases HR2.out with he | ⟨b', o', rfl, hall'⟩
        · rw [he] at hlt; simp at hlt
        obtain ⟨v0, v1, v2, v3, v4, d0, d1, d2, d3, d4, hta⟩ := (hall.on (cell_on HB.out)).kid hu
        obtain ⟨u0, u1, u2, u3, u4, f0, f1, f2, f3, f4, hta'⟩ := (hall'.on (cell_on HB.out)).kid hu
        have HU := Lib.hid hu; clear hu
        have HA1 := Lib.hid hta; clear hta hall
        have HA2 := Lib.hid hta'; clear hta' hall'
        go_wp2_with fail
        go_still_tail 8, (by kernel_rfl)
        change wpList _ _ _ _ _ wr.drew
        go_wp2_with fail
        refine (alike_self u _ _ wr.drew (HA1.out).drew (HA2.out).drew).mono ?_
        rintro _ w5 ⟨rfl, hb1⟩
        have hb2 : Below wr.heap.size wr w5 := below_drew hb1
        have HB1 := Lib.hid hb2; clear hb1 hb2
        go_wp2_with fail
        go_roundw
        case rel => exact ⟨i + 1, by omega, by go_num, below_then HB.out HB1.out⟩
        case measure => simp [intOf]; omega
      · have B5 := below_then B4.out HB.out
        have hb := HB.out
        replace a0 := cell_on hb _ _ _ a0
        replace a1 := cell_on hb _ _ _ a1
        replace a2 := cell_on hb _ _ _ a2
        replace a3 := cell_on hb _ _ _ a3
        replace a4 := cell_on hb _ _ _ a4
        clear hb
        go_wp2_with fail
        have B4 := B5.drew
        replace a0 : wr.drew.cell? ⟨w.heap.size, 0, none⟩ = some (.int .i64 k) := a0
        replace a1 : wr.drew.cell? ⟨w.heap.size, 1, none⟩ = some (.int .i64 n) := a1
        replace a2 : wr.drew.cell? ⟨w.heap.size, 2, none⟩ = some (.int .i64 d) := a2
        replace a3 : wr.drew.cell? ⟨w.heap.size, 3, none⟩ = some (.string s) := a3
        replace a4 : wr.drew.cell? ⟨w.heap.size, 4, none⟩ = some (.slice p l.length cap) := a4
        go_region_held3 (fun w' => w'.cell? ⟨w.heap.size, 0, none⟩ = some (.int .i64 k) ∧ w'.cell? ⟨w.heap.size, 1, none⟩ = some (.int .i64 n) ∧ w'.cell? ⟨w.heap.size, 2, none⟩ = some (.int .i64 d) ∧ w'.cell? ⟨w.heap.size, 3, none⟩ = some (.string s) ∧ w'.cell? ⟨w.heap.size, 4, none⟩ = some (.slice p l.length cap) ∧ Below w.heap.size w w')
          (first | (refine ⟨?_, ?_, ?_, ?_, ?_, ?_⟩ <;> with_reducible assumption) | exact ⟨a0, a1, a2, a3, a4, B4⟩ | go_keep)
          (first
           | (go_at_call 15; with_reducible refine (HCT.out _ (by with_reducible assumption)).mono ?_; rintro _ w' ⟨rfl, hb⟩
              have ka0 : w'.cell? ⟨w.heap.size, 0, none⟩ = some (.int .i64 k) := cell_on hb _ _ _ (by with_reducible assumption)
              have ka1 : w'.cell? ⟨w.heap.size, 1, none⟩ = some (.int .i64 n) := cell_on hb _ _ _ (by with_reducible assumption)
              have ka2 : w'.cell? ⟨w.heap.size, 2, none⟩ = some (.int .i64 d) := cell_on hb _ _ _ (by with_reducible assumption)
              have ka3 : w'.cell? ⟨w.heap.size, 3, none⟩ = some (.string s) := cell_on hb _ _ _ (by with_reducible assumption)
              have ka4 : w'.cell? ⟨w.heap.size, 4, none⟩ = some (.slice p l.length cap) := cell_on hb _ _ _ (by with_reducible assumption)
              have kB : Below w.heap.size w w' := below_then (by with_reducible assumption) hb
              clear hb)
           | (go_at_call 16; with_reducible refine (HCR.out _ (by with_reducible assumption)).mono ?_; rintro _ w' ⟨rfl, hb⟩
              have ka0 : w'.cell? ⟨w.heap.size, 0, none⟩ = some (.int .i64 k) := cell_on hb _ _ _ (by with_reducible assumption)
              have ka1 : w'.cell? ⟨w.heap.size, 1, none⟩ = some (.int .i64 n) := cell_on hb _ _ _ (by with_reducible assumption)
              have ka2 : w'.cell? ⟨w.heap.size, 2, none⟩ = some (.int .i64 d) := cell_on hb _ _ _ (by with_reducible assumption)
              have ka3 : w'.cell? ⟨w.heap.size, 3, none⟩ = some (.string s) := cell_on hb _ _ _ (by with_reducible assumption)
              have ka4 : w'.cell? ⟨w.heap.size, 4, none⟩ = some (.slice p l.length cap) := cell_on hb _ _ _ (by with_reducible assumption)
              have kB : Below w.heap.size w w' := below_then (by with_reducible assumption) hb
              clear hb))
        all_goals (go_wp2_with fail)
        all_goals go_ret
        all_goals exact ⟨rfl, by with_reducible assumption⟩
end Go.Proofs.YtabofebepefbgaaDoor.Dat
