/- The program's own Size. -/
import Derived.Test.YtogjhoipofkogaaDoorDatVd
import Derived.Laws.EntriesVeiled
namespace Go.Proofs.YtogjhoipofkogaaDoor.Dat
open Go.RowKit
set_option linter.unusedVariables false

/-- All blocks of the world but one stand as they stood. -/
structure Keeps (B : Nat) (w w' : World) : Prop where
  os : w'.os = w.os
  tape : w'.tape = w.tape
  output : w'.output = w.output
  size : w.heap.size ≤ w'.heap.size
  block : ∀ k, k < w.heap.size → k ≠ B → w'.heap[k]? = w.heap[k]?
theorem Keeps.refl (B : Nat) (w : World) : Keeps B w w := ⟨rfl, rfl, rfl, Nat.le_refl _, fun _ _ _ => rfl⟩
theorem Keeps.trans {B : Nat} {a b c : World} (h : Keeps B a b) (k : Keeps B b c) : Keeps B a c :=
  ⟨k.os.trans h.os, k.tape.trans h.tape, k.output.trans h.output, Nat.le_trans h.size k.size, fun i hi hn => (k.block i (Nat.lt_of_lt_of_le hi h.size) hn).trans (h.block i hi hn)⟩
theorem Keeps.of {B : Nat} {w w' : World} (h : Below w.heap.size w w') : Keeps B w w' := ⟨h.os, h.tape, h.output, h.size, fun k hk _ => h.block k hk⟩
theorem Keeps.setCell {B : Nat} {a w : World} (h : Keeps B a w) (i : Nat) (u : Value) : Keeps B a (w.setCell ⟨B, i, none⟩ u) :=
  ⟨h.os, h.tape, h.output, by simp only [World.setCell, Array.size_modify]; exact h.size, fun k hk hn => (Below.heap_setCell _ _ _ _ hn).trans (h.block k hk hn)⟩
theorem Keeps.drew {B : Nat} {a w : World} (h : Keeps B a w) : Keeps B a w.drew := h.trans ⟨rfl, rfl, rfl, Nat.le_refl _, fun _ _ _ => rfl⟩
theorem Keeps.below {B : Nat} {w0 w w' : World} (h : Keeps B w w') (hb : Below w0.heap.size w0 w) (hB : w0.heap.size ≤ B) : Below w0.heap.size w0 w' :=
  ⟨h.os.trans hb.os, h.tape.trans hb.tape, h.output.trans hb.output, Nat.le_trans hb.size h.size, fun k hk => (h.block k (Nat.lt_of_lt_of_le hk hb.size) (by omega)).trans (hb.block k hk)⟩
/-- The block alone. -/
abbrev just (B : Nat) (b : Nat) : Bool := b == B
theorem Keeps.off {B : Nat} {w w' : World} (h : Keeps B w w') (b o : Nat) (v : Value) (hv : (off w (just B)).cell? ⟨b, o, none⟩ = some v) : (off w' (just B)).cell? ⟨b, o, none⟩ = some v :=
  off_on (fun _ _ hx => hx) (fun k hk hx => h.block k hk (by simpa using hx)) b o v hv

def Dt.kids : Dt → List Dt
  | .node _ _ _ _ l => l
/-- How many lie below the ones of a list. -/
def Dt.inner (deep : Nat) : List Dt → Nat
  | [] => 0
  | t :: r => Dt.countAll t.kids (deep + 1) + Dt.inner deep r
theorem Dt.countAll_inner {deep : Nat} (h : deep < 1000) : ∀ l : List Dt, Dt.countAll l deep = l.length + Dt.inner deep l
  | [] => rfl
  | .node k n d s q :: r => by
    unfold Dt.countAll
    rw [if_pos h, Dt.countAll_inner h r, show Dt.inner deep (.node k n d s q :: r) = Dt.countAll q (deep + 1) + Dt.inner deep r from rfl, show (Dt.node k n d s q).count (deep + 1) = Dt.countAll q (deep + 1) + 1 from rfl, List.length_cons]; omega
theorem Dt.countAll_past {deep : Nat} (h : 1000 ≤ deep) (l : List Dt) : Dt.countAll l deep = 0 := by
  cases l with
  | nil => rfl
  | cons t r => unfold Dt.countAll; rw [if_neg (by omega)]
theorem Dt.inner_step {l : List Dt} {i : Nat} {t : Dt} {deep : Nat} (h : l[i]? = some t) : Dt.inner deep (l.drop i) = Dt.countAll t.kids (deep + 1) + Dt.inner deep (l.drop (i + 1)) := by
  rw [Dt.drop_at h]; rfl
theorem Dt.inner_stop {l : List Dt} {i : Nat} {deep : Nat} (h : l.length ≤ i) : Dt.inner deep (l.drop i) = 0 := by
  rw [List.drop_of_length_le h]; rfl
/-- The captured ones: the count, and the closure itself. -/
def Counts (Bn Bc : Nat) (w : World) (c : Int) : Prop :=
  w.heap[Bn]? = some (.cells #[.int .i64 c] 3 (0, 0)) ∧ w.heap[Bc]? = some (.cells #[.func (.func 31) #[] #[.pointer (some ⟨Bn, 0, none⟩), .pointer (some ⟨Bc, 0, none⟩)]] 39 (0, 0)) ∧ Bc ≠ Bn
theorem Counts.on {Bn Bc : Nat} {w w' : World} {c c' : Int} (h : Counts Bn Bc w c) (hk : Keeps Bn w w') (hn : w'.heap[Bn]? = some (.cells #[.int .i64 c'] 3 (0, 0))) : Counts Bn Bc w' c' :=
  ⟨hn, (hk.block Bc (lt_of_block h.2.1) h.2.2).trans h.2.1, h.2.2⟩

set_option maxHeartbeats 2000000 in
set_option maxRecDepth 100000 in
theorem count_any (N : Nat) : ∀ (l : List Dt) (p : Option Addr) (cap : Nat) (D : Int) (deep : Nat) (c : Int) (w : World) (Bn Bc : Nat), Dt.sizes l < N → l.length ≤ maxLen → D = (deep : Int) + 1 → deep ≤ 1000 → 1 ≤ c → c + (Dt.countAll l deep : Nat) ≤ 100000 →
    (l = [] ∨ ∃ b o, p = some ⟨b, o, none⟩ ∧ Dt.AllAt (off w (just Bn)) l b o) → Counts Bn Bc w c →
    Calls Tryd.prog 31 #[.slice p l.length cap, .int .i64 D, .pointer (some ⟨Bn, 0, none⟩), .pointer (some ⟨Bc, 0, none⟩)] w fun e w' => e = .returned (.tuple #[]) ∧ w'.heap[Bn]? = some (.cells #[.int .i64 (c + (Dt.countAll l deep : Nat))] 3 (0, 0)) ∧ Keeps Bn w w' := by
  induction N with
  | zero => intro l p cap D deep c w Bn Bc h; omega
  | succ N ih =>
    intro l p cap D deep c w Bn Bc hN hlm hD h1 hc0 hc1 hl hcs
    unfold maxLen at hlm
    have D0 : 1 ≤ D := by omega
    have D1 : D ≤ 1001 := by omega
    have hn0 := cell_of_one hcs.1
    have hf0 := free_of_one hcs.1
    have hn00 := hcs.1
    have hl0 := cell_of_one hcs.2.1
    have HCS := Lib.hid hcs; clear hcs
    have IH := Lib.hid ih; clear ih
    have HN := Lib.hid hN; clear hN
    have HL := Lib.hid hl; clear hl
    by_cases hd : 1000 ≤ deep
    · have hz := Dt.countAll_past hd l
      rw [hz]
      have D2 : 1000 < D := by omega
      have HR := Lib.hid hn00
      clear hz hc1 hD h1 hn00 hd
      go_enter Tryd.func31, Tryd.ntmps31
      go_wp2_with fail
      refine bodyPost_ret (results_none rfl _ _ _) rfl ?_
      exact ⟨rfl, by rw [Int.natCast_zero, Int.add_zero]; exact HR.out, Keeps.refl _ _⟩
    have D2 : D ≤ 1000 := by omega
    have hin := Dt.countAll_inner (deep := deep) (by omega) l
    rw [hin] at hc1 ⊢
    have cm : c ≤ 100000 := by omega
    have clm : c + (l.length : Int) ≤ 100000 := by omega
    have HD := Lib.hid (show D = (deep : Int) + 1 ∧ deep < 1000 from ⟨hD, by omega⟩)
    have HC1 := Lib.hid hc1; clear hin hc1 hD h1 hd
    have HS := Lib.hid (one_setCell (u := .int .i64 (c + (l.length : Int))) hn00); clear hn00
    go_enter Tryd.func31, Tryd.ntmps31
    go_wp2_with fail
    go_loopw [6, 19] (fun _ x wr => ∃ (i : Nat) (m : Int), i ≤ l.length ∧ x = .int .i64 i ∧ c + ((l.length + Dt.inner deep l : Nat) : Int) = m + (Dt.inner deep (l.drop i) : Nat) ∧ 1 ≤ m ∧ wr.heap[Bn]? = some (.cells #[.int .i64 m] 3 (0, 0)) ∧ Keeps Bn w wr) (fun _ x _ => l.length - (intOf x).toNat)
    case atStart => exact ⟨0, c + (l.length : Int), by omega, rfl, by rw [List.drop_zero]; omega, by omega, HS.out, (Keeps.refl _ _).setCell _ _⟩
    case round =>
      obtain ⟨i, m, hi, rfl, hf, m0, hm, hk⟩ := hrel
      by_cases hlt : i < l.length
      · obtain ⟨t, ht⟩ : ∃ t, l[i]? = some t := ⟨l[i], by simp [hlt]⟩
        rcases HL.out with he | ⟨b, o, rfl, hall⟩
        · rw [he] at hlt; simp at hlt
        have hst := Dt.inner_step (deep := deep) ht
        obtain ⟨v0, v1, v2, v3, v4, d0, d1, d2, d3, d4, hta⟩ := (hall.on hk.drew.off).kid ht
        have g4 : wr.cell? ⟨b, o + i * 5 + 4, none⟩ = some v4 := (off_cell.1 d4).2
        clear d0 d1 d2 d3 d4
        obtain ⟨kt, nt, dt, st, lt, pt, capt, rfl, rfl, rfl, rfl, rfl, rfl, _, hlt'⟩ := hta.open5
        have hltm : lt.length ≤ maxLen := by unfold Dt.At at hta; exact hta.2.2.2.2.1
        have hsz := Dt.size_kid ht
        simp only [Dt.kids] at hst
        have C := IH.out lt pt capt (D + 1) (deep + 1) m wr.drew Bn Bc (by have h := HN.out; unfold Dt.size at hsz; omega) hltm (by have := HD.out; omega) (by have := HD.out; omega) m0 (by have := HC1.out; omega) hlt' ((HCS.out).on hk.drew hm)
        have HC := Lib.hid C
        have hcl := cell_of_one ((HCS.out).on hk hm).2.1
        have HF := Lib.hid hf
        have HST := Lib.hid hst
        have HK := Lib.hid hk
        have HM := Lib.hid hm
        have HT := Lib.hid ht
        clear C hta hlt' hst hf hk hm hall hsz hltm ht
        go_wp2_with fail
        go_still_tail 8, (by kernel_rfl)
        change wpList _ _ _ _ _ wr.drew
        go_wp2_with fail
        refine (HC.out).mono ?_
        rintro _ w1 ⟨rfl, hn1, hk1⟩
        have HK1 := Lib.hid hk1; clear hk1
        have HN1 := Lib.hid hn1; clear hn1
        go_wp2_with fail
        go_roundw
        case rel => exact ⟨i + 1, m + (Dt.countAll lt (deep + 1) : Nat), by omega, by go_num, by have h1 := HF.out; have h2 := HST.out; omega, by omega, HN1.out, (HK.out).drew.trans HK1.out⟩
        case measure => simp [intOf]; omega
      · have hst := Dt.inner_stop (deep := deep) (show l.length ≤ i by omega)
        have hm2 : c + ((l.length + Dt.inner deep l : Nat) : Int) = m := by rw [hf, hst]; omega
        have HM2 := Lib.hid hm2
        have HM := Lib.hid hm
        clear hst hf hm hm2
        go_wp2_with fail
        go_end0
        exact ⟨rfl, by rw [HM2.out]; exact HM.out, hk⟩

set_option maxHeartbeats 1000000 in
/-- The program's Size. -/
theorem ownSize_any (t : Dt) (v : Value) (w : World) (hb : t.size ≤ 90000) (hat : t.At w v) :
    Calls Tryd.prog 14 #[v] w fun e w' => e = .returned (.int .i64 (t.count 0 : Nat)) ∧ Below w.heap.size w w' := by
  have hmf : ∀ (fn : Fn) (first cap : Array Value) (w : World), (Instr.makeFunc fn first cap).run Tryd.prog w = .ok (.func fn first cap) w := fun _ _ _ _ => rfl
  have cle := t.count_le 0
  obtain ⟨k, n, d, s, l⟩ := t
  have hcnt : (Dt.node k n d s l).count 0 = Dt.countAll l 0 + 1 := rfl
  rw [hcnt] at cle ⊢
  unfold Dt.At at hat
  obtain ⟨hk, hn, hd, hs, hlm, p, cap, rfl, hl⟩ := hat
  have C := fun (w3 : World) (hw : Below w.heap.size w w3) (hcs : Counts (w.heap.size + 1) (w.heap.size + 2) w3 1) => count_any (Dt.sizes l + 1) l p cap 1 0 1 w3 (w.heap.size + 1) (w.heap.size + 2) (by omega) hlm rfl (by omega) (by omega) (by omega)
    (by
      rcases hl with hl | ⟨b, o, hp, hall⟩
      · exact Or.inl hl
      · exact Or.inr ⟨b, o, hp, hall.on fun b o v hv => off_cell.2 ⟨by have := cell_lt hv; simp; omega, cell_on hw _ _ _ hv⟩⟩) hcs
  obtain ⟨m, hm⟩ : ∃ m, Dt.countAll l 0 = m := ⟨_, rfl⟩
  rw [hm] at C cle ⊢
  have cb : m ≤ 90000 := by omega
  have HC := Lib.hid C
  clear C hm cle hcnt hl hk hn hd hs hlm
  go_enter Tryd.func14, Tryd.ntmps14
  go_wp2_with fail
  refine (HC.out _ ?_ ?_).mono ?_
  · exact ((box_below _ _).alloc (by simp) _).alloc (by simp; omega) _
  · refine ⟨?_, ?_, by omega⟩
    · exact at_one _ _ _ _
    · exact at_two _ _ _ _
  rintro _ w1 ⟨rfl, hn1, hk1⟩
  have hc := cell_of_one hn1
  have HB := Lib.hid (hk1.below (w0 := w) (((box_below _ _).alloc (by simp) _).alloc (by simp; omega) _) (by omega)); clear hk1 hn1
  go_wp2_with fail
  go_ret
  exact ⟨ret_int (by omega), HB.out⟩
end Go.Proofs.YtogjhoipofkogaaDoor.Dat
