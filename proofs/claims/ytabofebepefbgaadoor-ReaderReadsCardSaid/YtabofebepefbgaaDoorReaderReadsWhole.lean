/- The data of any text: the tied card is proved for all inputs, with no condition beyond the three listed tables of Go's own library, which the card ties to the program's text. -/
import Derived.Test.YtabofebepefbgaaDoorRdThree
import Derived.Test.YtabofebepefbgaaDoorDatN
import Derived.Test.YtabofebepefbgaaDoorPrefAll
import Derived.StillTailTactics
import Derived.Laws.ResultCell
import Derived.Test.YtabofebepefbgaaDoorDatM
import Derived.Test.YtabofebepefbgaaDoorRdWM
import Derived.OwnWalk
import Derived.Test.YtabofebepefbgaaDoorDatWk
import Derived.Test.YtabofebepefbgaaDoorLaid
import Derived.Test.YtabofebepefbgaaDoorCards
import Derived.SevenTiedAt

/- The reference's reader: its struct; what it passes over; whether a byte is a word's. -/
namespace Go.Proofs.YtabofebepefbgaaDoor.Dat
open Go.RowKit
open Go.Proofs.YtabofebepefbgaaDoor (textL parse res outL)
open NumPlain (rightB)
set_option linter.unusedVariables false

/-- The reader's struct: the text, where it stands, where it is none (or less than nought). -/
abbrev Tr (s : ByteArray) (a : Nat) (z : Int) : Obj := .cells #[.string s, .int .i64 a, .int .i64 z] 64 (0, 0)
theorem tr_cells {w : World} {B : Nat} {s : ByteArray} {a : Nat} {z : Int} (h : w.heap[B]? = some (Tr s a z)) : w.cell? ⟨B, 0, none⟩ = some (.string s) ∧ w.cell? ⟨B, 1, none⟩ = some (.int .i64 a) ∧ w.cell? ⟨B, 2, none⟩ = some (.int .i64 z) ∧ w.frozen? ⟨B, 1, none⟩ = false ∧ w.frozen? ⟨B, 2, none⟩ = false := by
  refine ⟨?_, ?_, ?_, ?_, ?_⟩ <;> simp [World.cell?, World.frozen?, h]
theorem tr_set1 {w : World} {B : Nat} {s : ByteArray} {a : Nat} {z b : Int} (c : Nat) (h : w.heap[B]? = some (Tr s a z)) (hc : b = (c : Int)) : (w.setCell ⟨B, 1, none⟩ (.int .i64 b)).heap[B]? = some (Tr s c z) := by
  subst hc
  refine (heap_setCell_same _ _ 1 _ 64 _ h).trans ?_
  simp
theorem tr_set2 {w : World} {B : Nat} {s : ByteArray} {a : Nat} {z : Int} (y : Int) (h : w.heap[B]? = some (Tr s a z)) : (w.setCell ⟨B, 2, none⟩ (.int .i64 y)).heap[B]? = some (Tr s a y) := by
  refine (heap_setCell_same _ _ 2 _ 64 _ h).trans ?_
  simp
/-- What is answered: some datum in new memory; where the text is none, that place; else it stands behind the datum. -/
def Toldr (B : Nat) (s : ByteArray) (res : Res Dt) (w : World) (e : Ending) (w' : World) : Prop :=
  Keeps B w w' ∧ ∃ (d : Dt) (v : Value) (a : Nat) (z : Int), e = .returned v ∧ d.At (off w' (old w.heap.size)) v ∧ a ≤ s.size ∧ w'.heap[B]? = some (Tr s a z) ∧
    ((∃ q, res = .bad q ∧ z = ((s.size - q.length : Nat) : Int)) ∨ (res = .ok d (s.data.toList.drop a) ∧ z = -1))
theorem null_at (w : World) (n : Nat) : nullD.At (off w (old n)) (.agg #[.int .i64 4, .int .i64 0, .int .i64 0, .string ⟨#[]⟩, .slice none 0 0]) := null_off _

set_option maxHeartbeats 1000000 in
set_option maxRecDepth 100000 in
/-- It is none from here on. -/
theorem failr_any (B : Nat) (s : ByteArray) (a p : Nat) (w : World) (hb : w.heap[B]? = some (Tr s a (-1))) :
    Calls Tryd.prog 47 #[.pointer (some ⟨B, 0, none⟩), .int .i64 p] w fun e w' => e = .returned (.agg #[.int .i64 4, .int .i64 0, .int .i64 0, .string ⟨#[]⟩, .slice none 0 0]) ∧ Keeps B w w' ∧ w'.heap[B]? = some (Tr s a p) := by
  have hB : B < w.heap.size := (Array.getElem?_eq_some_iff.1 hb).1
  have hne : ¬ B = w.heap.size := by omega
  have hne' : ¬ w.heap.size = B := by omega
  have hh : (w.alloc Zero5).heap[B]? = some (Tr s a (-1)) := block_on (box_below _ _) hb
  have hbx : (w.alloc Zero5).heap[w.heap.size]? = some Zero5 := at_new _ _
  obtain ⟨W, hW⟩ : ∃ W, w.alloc Zero5 = W := ⟨_, rfl⟩
  have hk : Keeps B w W := hW ▸ Keeps.of (box_below _ _)
  have hsz : w.heap.size < W.heap.size := by rw [← hW]; simp
  rw [hW] at hh hbx
  obtain ⟨c0, c1, c2, z1, z2⟩ := tr_cells hh
  have hh2 := tr_set2 (p : Int) hh
  have hbx2 : (W.setCell ⟨B, 2, none⟩ (.int .i64 (p : Int))).heap[w.heap.size]? = some Zero5 := (Below.heap_setCell _ _ _ _ hne').trans hbx
  have hk2 : Keeps B w (W.setCell ⟨B, 2, none⟩ (.int .i64 (p : Int))) := hk.setCell 2 _
  have y0 := box_frozen hbx2 0
  have y1 := box_frozen hbx2 1
  have y2 := box_frozen hbx2 2
  have y3 := box_frozen hbx2 3
  have y4 := box_frozen hbx2 4
  obtain ⟨v0, v1, v2, v3, v4⟩ := box_cells hbx2
  have HK := Lib.hid (And.intro hh2 (And.intro hbx2 hk2))
  clear hh hbx hk hh2 hbx2 hk2 hb
  go_enter Tryd.func47, Tryd.ntmps47
  go_wp2_with (first | rw [hW] | fail)
  refine bodyPost_ret (results_cell_row rfl _ _ w.heap.size 24 _ (0, 0) _ rfl (set_five (b0 := .int .i64 4) (b1 := .int .i64 0) (b2 := .int .i64 0) (b3 := .string ⟨#[]⟩) (b4 := .slice none 0 0) HK.out.2.1) Tryd.underlying24 rfl Tryd.sizeDt) rfl ?_
  exact ⟨rfl, keeps_five HK.out.2.2 (Nat.le_refl _), (set_five_other hne).trans HK.out.1⟩

theorem ret_u8 {a b : Int} (h : a = b) : Ending.returned (.int .u8 a) = .returned (.int .u8 b) := by rw [h]
/-- The byte that is next; nought: there is none. -/
def headN : List UInt8 → Int
  | [] => 0
  | c :: _ => c.toNat
/-- The text as it stands behind what has been passed. -/
def Stoodr (B : Nat) (s : ByteArray) (z : Int) (q : List UInt8) (w w' : World) : Prop :=
  Keeps B w w' ∧ ∃ a : Nat, a ≤ s.size ∧ w'.heap[B]? = some (Tr s a z) ∧ s.data.toList.drop a = q
set_option maxHeartbeats 4000000 in
set_option maxRecDepth 100000 in
theorem nextr_any (B : Nat) (s : ByteArray) (a : Nat) (z : Int) (w : World) (hb : w.heap[B]? = some (Tr s a z)) (ha : a ≤ s.size) (hs : s.size ≤ 65536) :
    Calls Tryd.prog 45 #[.pointer (some ⟨B, 0, none⟩)] w fun e w' => e = .returned (.int .u8 (headN (skipB false (s.data.toList.drop a)))) ∧ Stoodr B s z (skipB false (s.data.toList.drop a)) w w' := by
  have HB := Lib.hid hb; clear hb
  go_enter Tryd.func45, Tryd.ntmps45
  go_wp2_with fail
  go_loopg [] (s.size - a) (fun g wr => ∃ b : Nat, b ≤ s.size ∧ s.size - b ≤ g ∧ wr.heap[B]? = some (Tr s b z) ∧ skipB false (s.data.toList.drop b) = skipB false (s.data.toList.drop a) ∧ Keeps B w wr)
  case atStart => exact ⟨a, ha, Nat.le_refl _, HB.out, rfl, Keeps.refl _ _⟩
  case round =>
    obtain ⟨b, hb, hg, hh, hk, hkeep⟩ := hrel
    obtain ⟨c0, c1, c2, z1, z2⟩ := tr_cells hh
    have HH := Lib.hid hh; clear hh
    have HK := Lib.hid hk; clear hk
    have HKE := Lib.hid hkeep; clear hkeep
    have b0 : (0 : Int) ≤ b := by omega
    by_cases hlt : b < s.size
    · have b1 : (b : Int) < s.size := by omega
      have hd := drop_cons s b hlt
      have hw : IntKind.i64.wrap ((b : Int) + 1) = (b : Int) + 1 := IntWalk.i64_in _ (by omega)
      have HD := Lib.hid hd; clear hd
      by_cases h59 : ((s[b].toNat : Int) == 59) = true
      · have hc59 : s[b] = 59 := of_decide_eq_true ((byte_test s[b] 59).symm.trans h59)
        have hst : skipB true (s.data.toList.drop b) = skipB false (s.data.toList.drop a) := by
          rw [← HK.out, HD.out, hc59, skip_mark]; rfl
        have HST := Lib.hid hst; clear hst
        have HC59 := Lib.hid hc59; clear hc59
        go_wp2_with fail
        go_quiet (fail)
        go_wp2_with fail
        go_quiet (fail)
        go_wp2_with fail
        go_loopg [] (s.size - b) (fun g wr => ∃ c : Nat, b ≤ c ∧ c ≤ s.size ∧ s.size - c ≤ g ∧ wr.heap[B]? = some (Tr s c z) ∧ skipB true (s.data.toList.drop c) = skipB false (s.data.toList.drop a) ∧ Keeps B w wr)
        case atStart => exact ⟨b, Nat.le_refl _, hb, Nat.le_refl _, HH.out, HST.out, HKE.out.trans (Keeps.of (below_drewN _ _))⟩
        case round =>
          obtain ⟨c, hbc, hc, hg2, hh2, hk2, hkeep2⟩ := hrel
          obtain ⟨d0, d1, d2, y1, y2⟩ := tr_cells hh2
          have HH2 := Lib.hid hh2; clear hh2
          have HK2 := Lib.hid hk2; clear hk2
          have HKE2 := Lib.hid hkeep2; clear hkeep2
          have cc0 : (0 : Int) ≤ c := by omega
          by_cases hlt2 : c < s.size
          · have cc1 : (c : Int) < s.size := by omega
            have hd2 := drop_cons s c hlt2
            have hw2 : IntKind.i64.wrap ((c : Int) + 1) = (c : Int) + 1 := IntWalk.i64_in _ (by omega)
            have HD2 := Lib.hid hd2; clear hd2
            by_cases h10 : ((s[c].toNat : Int) != 10) = true
            · have hn10 : s[c] ≠ 10 := by
                intro e
                exact absurd h10 (by rw [e]; decide)
              have hst2 : skipB true (s.data.toList.drop (c + 1)) = skipB false (s.data.toList.drop a) := by
                rw [← HK2.out, HD2.out]; simp only [skipB]; rw [bne_iff_ne.2 hn10]
              have HST2 := Lib.hid hst2; clear hst2 hn10
              go_wp2_with fail
              go_quiet (fail)
              go_wp2_with fail
              go_roundg (s.size - (c + 1))
              case measure => omega
              case rel => exact ⟨c + 1, by omega, by omega, Nat.le_refl _, tr_set1 (w := wr.drewN _) (c + 1) HH2.out (by omega), HST2.out, (HKE2.out.trans (Keeps.of (below_drewN _ _))).setCell 1 _⟩
            · have h10 : ((s[c].toNat : Int) != 10) = false := Bool.eq_false_iff.2 h10
              have hc10 : s[c] = 10 := by
                have := byte_test s[c] 10
                rw [bne, Bool.not_eq_false'] at h10
                exact of_decide_eq_true (this.symm.trans h10)
              have hcb : b < c := by
                rcases Nat.lt_or_eq_of_le hbc with h | h
                · exact h
                · subst h; rw [HC59.out] at hc10; cases hc10
              have hst2 : skipB false (s.data.toList.drop c) = skipB false (s.data.toList.drop a) := by
                rw [← HK2.out, HD2.out, hc10]; rfl
              have HST2 := Lib.hid hst2; clear hst2 hc10
              go_wp2_with fail
              go_quiet (fail)
              go_wp2_with fail
              go_roundg (s.size - c)
              case measure => omega
              case rel => exact ⟨c, hc, Nat.le_refl _, HH2.out, HST2.out, HKE2.out.trans (Keeps.of (below_drewN _ _))⟩
          · obtain rfl : c = s.size := by omega
            have e1 : decide ((s.size : Int) < s.size) = false := by simp
            have hst2 : skipB false (s.data.toList.drop s.size) = skipB false (s.data.toList.drop a) := by
              rw [← HK2.out, drop_end]; rfl
            have HST2 := Lib.hid hst2; clear hst2
            go_wp2_with fail
            go_quiet (fail)
            go_wp2_with fail
            go_roundg (s.size - s.size)
            case measure => omega
            case rel => exact ⟨s.size, Nat.le_refl _, Nat.le_refl _, HH2.out, HST2.out, HKE2.out.trans (Keeps.of (below_drewN _ _))⟩
      have h59 : ((s[b].toNat : Int) == 59) = false := Bool.eq_false_iff.2 h59
      have blank : (s[b] = 32 ∨ s[b] = 10 ∨ s[b] = 9) → ∀ k, ∃ c : Nat, c ≤ s.size ∧ s.size - c ≤ s.size - (b + 1) ∧ ((wr.drewN k).setCell ⟨B, 1, none⟩ (.int .i64 ((b : Int) + 1))).heap[B]? = some (Tr s c z) ∧ skipB false (s.data.toList.drop c) = skipB false (s.data.toList.drop a) ∧ Keeps B w ((wr.drewN k).setCell ⟨B, 1, none⟩ (.int .i64 ((b : Int) + 1))) := by
        intro hc k
        refine ⟨b + 1, by omega, Nat.le_refl _, tr_set1 (w := wr.drewN k) (b + 1) HH.out (by omega), ?_, ?_⟩
        · rw [← HK.out, HD.out, skip_blank hc]
        · exact (HKE.out.trans (Keeps.of (below_drewN wr k))).setCell 1 _
      have HBL := Lib.hid blank; clear blank
      by_cases h32 : ((s[b].toNat : Int) != 32) = false
      · have HC := Lib.hid (HBL.out (Or.inl (of_decide_eq_true ((byte_test s[b] 32).symm.trans (by rw [bne, Bool.not_eq_false'] at h32; exact h32)))))
        go_wp2_with fail
        go_quiet (fail)
        go_wp2_with fail
        go_quiet (fail)
        go_wp2_with fail
        go_roundg (s.size - (b + 1))
        case measure => omega
        case rel => exact HC.out _
      have h32 : ((s[b].toNat : Int) != 32) = true := by simpa using h32
      by_cases h10 : ((s[b].toNat : Int) != 10) = false
      · have HC := Lib.hid (HBL.out (Or.inr (Or.inl (of_decide_eq_true ((byte_test s[b] 10).symm.trans (by rw [bne, Bool.not_eq_false'] at h10; exact h10))))))
        go_wp2_with fail
        go_quiet (fail)
        go_wp2_with fail
        go_quiet (fail)
        go_wp2_with fail
        go_roundg (s.size - (b + 1))
        case measure => omega
        case rel => exact HC.out _
      have h10 : ((s[b].toNat : Int) != 10) = true := by simpa using h10
      by_cases h9 : ((s[b].toNat : Int) != 9) = false
      · have HC := Lib.hid (HBL.out (Or.inr (Or.inr (of_decide_eq_true ((byte_test s[b] 9).symm.trans (by rw [bne, Bool.not_eq_false'] at h9; exact h9))))))
        go_wp2_with fail
        go_quiet (fail)
        go_wp2_with fail
        go_quiet (fail)
        go_wp2_with fail
        go_roundg (s.size - (b + 1))
        case measure => omega
        case rel => exact HC.out _
      have h9 : ((s[b].toNat : Int) != 9) = true := by simpa using h9
      have hrest : skipB false (s.data.toList.drop a) = s.data.toList.drop b := by
        rw [← HK.out, HD.out]
        refine skip_rest ?_ ?_ ?_ ?_
        · intro e; exact absurd h32 (by rw [e]; decide)
        · intro e; exact absurd h10 (by rw [e]; decide)
        · intro e; exact absurd h9 (by rw [e]; decide)
        · exact of_decide_eq_false ((byte_test s[b] 59).symm.trans h59)
      have hn : headN (skipB false (s.data.toList.drop a)) = s[b].toNat := by rw [hrest, HD.out]; rfl
      have HR := Lib.hid hrest; clear hrest
      have HN := Lib.hid hn; clear hn
      go_wp2_with fail
      go_quiet (fail)
      go_wp2_with fail
      go_quiet (fail)
      go_wp2_with fail
      go_ret
      exact ⟨ret_u8 (by rw [HN.out]), HKE.out.trans (Keeps.of (below_drewN _ _)), b, hb, HH.out, HR.out.symm⟩
    · obtain rfl : b = s.size := by omega
      have e1 : decide ((s.size : Int) < s.size) = false := by simp
      have hend : skipB false (s.data.toList.drop a) = [] := by rw [← HK.out, drop_end]; rfl
      have hn : headN (skipB false (s.data.toList.drop a)) = 0 := by rw [hend]; rfl
      have HR := Lib.hid hend; clear hend
      have HN := Lib.hid hn; clear hn
      go_wp2_with fail
      go_quiet (fail)
      go_wp2_with fail
      go_ret
      exact ⟨ret_u8 (by rw [HN.out]), HKE.out.trans (Keeps.of (below_drewN _ _)), s.size, hb, HH.out, (drop_end s).trans HR.out.symm⟩

def marks10 : ByteArray := ⟨#[45, 43, 42, 47, 60, 62, 61, 33, 63, 95]⟩
theorem wordChar_is (c : UInt8) : wordChar c = (plainChar c || marks10.data.toList.any (fun m => c == m)) := by
  have all : ∀ n : Fin 256, wordChar ⟨⟨n⟩⟩ = (plainChar ⟨⟨n⟩⟩ || marks10.data.toList.any (fun m => (⟨⟨n⟩⟩ : UInt8) == m)) := by decide +kernel
  exact all c.toBitVec.toFin
set_option maxHeartbeats 1000000 in
set_option maxRecDepth 100000 in
theorem markr_any (c : UInt8) (w : World) : Calls Tryd.prog 66 #[.int .u8 c.toNat] w fun e w' => e = .returned (.bool (wordChar c)) ∧ ∃ k, w' = w.drewN k := by
  have ways : ((97 ≤ (c.toNat : Int) ∧ (c.toNat : Int) ≤ 122) ∧ plainChar c = true) ∨ (122 < (c.toNat : Int) ∧ plainChar c = false) ∨ ((48 ≤ (c.toNat : Int) ∧ (c.toNat : Int) ≤ 57) ∧ plainChar c = true) ∨ ((57 < (c.toNat : Int) ∧ (c.toNat : Int) < 97) ∧ plainChar c = false) ∨ ((c.toNat : Int) < 48 ∧ plainChar c = false) := by
    unfold plainChar
    by_cases a1 : 97 ≤ c.toNat <;> by_cases a2 : c.toNat ≤ 122 <;> by_cases a3 : 48 ≤ c.toNat <;> by_cases a4 : c.toNat ≤ 57 <;> simp [a1, a2, a3, a4] <;> omega
  have hwc := wordChar_is c
  have HWC := Lib.hid hwc; clear hwc
  have HWAYS := Lib.hid ways; clear ways
  go_enter Tryd.func66, Tryd.ntmps66
  go_wp2_with fail
  obtain ⟨M, hM⟩ : ∃ M, (⟨#[45, 43, 42, 47, 60, 62, 61, 33, 63, 95]⟩ : ByteArray) = M := ⟨_, rfl⟩
  rw [hM]
  have hMs : M.size = 10 := by rw [← hM]; rfl
  have HM := Lib.hid (show M = marks10 from hM.symm); clear hM
  have m0 : M.size ≤ 10 := by omega
  have m1 : 10 ≤ M.size := by omega
  clear hMs
  go_loopw [4] (fun x wr => ∃ i : Nat, i ≤ M.size ∧ x = .int .i64 i ∧ (M.data.toList.take i).any (fun m => c == m) = false ∧ ∃ k, wr = w.drewN k) (fun x _ => M.size - (intOf x).toNat)
  case atStart => exact ⟨0, by omega, rfl, rfl, 0, rfl⟩
  case round =>
    obtain ⟨i, hi, rfl, hall, k0, rfl⟩ := hrel
    have HA := Lib.hid hall; clear hall
    by_cases hlt : i < M.size
    · have hts := take_snoc M i hlt
      have step : (M.data.toList.take (i + 1)).any (fun m => c == m) = ((M.data.toList.take i).any (fun m => c == m) || (c == M[i])) := by
        rw [hts, List.any_append]; simp
      have STEP := Lib.hid step; clear step hts
      by_cases e : c.toNat = M[i].toNat
      · have q : ((c.toNat : Int) == (M[i].toNat : Int)) = true := by rw [beq_iff_eq]; omega
        have hsm : wordChar c = true := by
          rw [HWC.out, ← HM.out]
          have h1 : M.data.toList.any (fun m => c == m) = true := by
            rw [List.any_eq_true]
            exact ⟨M[i], List.mem_of_getElem? (at_some M i hlt), by rw [beq_iff_eq]; exact UInt8.toNat_inj.1 e⟩
          rw [h1, Bool.or_true]
        have E := Lib.hid hsm; clear e hsm
        go_wp2_with fail
        go_ret
        exact ⟨ret_bool (by rw [E.out]), _, rfl⟩
      · have q : ((c.toNat : Int) == (M[i].toNat : Int)) = false := by rw [beq_eq_false_iff_ne]; omega
        have hsm : (c == M[i]) = false := by rw [beq_eq_false_iff_ne]; intro h; exact e (by rw [h])
        have E := Lib.hid hsm; clear e hsm
        go_wp2_with fail
        go_roundw
        case rel => exact ⟨i + 1, by omega, by go_num, by rw [STEP.out, HA.out, E.out]; rfl, _, rfl⟩
        case measure => simp [intOf]; omega
    · have hno : wordChar c = plainChar c := by
        have h := HA.out
        rw [List.take_of_length_le (by rw [← Lib.size_eq]; omega), HM.out] at h
        rw [HWC.out, h, Bool.or_false]
      have HNO := Lib.hid hno; clear hno
      rcases HWAYS.out with ⟨⟨q1, q2⟩, hp⟩ | ⟨q1, hp⟩ | ⟨⟨q1, q2⟩, hp⟩ | ⟨⟨q1, q2⟩, hp⟩ | ⟨q1, hp⟩
      all_goals
        have HPC := Lib.hid hp; clear hp
        go_wp2_with fail
        go_ret
        exact ⟨ret_bool (by rw [HNO.out, HPC.out] <;> (first | rfl | (simp; done) | (simp; omega))), _, rfl⟩
end Go.Proofs.YtabofebepefbgaaDoor.Dat

/- The reference's reader: words. -/
namespace Go.Proofs.YtabofebepefbgaaDoor.Dat
open Go.RowKit
open Go.Proofs.YtabofebepefbgaaDoor (textL parse res outL parseRef_any)
open NumPlain (rightB)
set_option linter.unusedVariables false

/-- A word as it has been gone through so far. -/
def Wordedr (B : Nat) (s : ByteArray) (a : Nat) (w : World) (g : Nat) (wr : World) : Prop :=
  ∃ (b : Nat) (u : List UInt8), a ≤ b ∧ b ≤ s.size ∧ s.size - b ≤ g ∧ wr.heap[B]? = some (Tr s b (-1)) ∧ s.data.toList.drop a = u ++ s.data.toList.drop b ∧ (∀ c ∈ u, wordChar c = true) ∧ Keeps B w wr ∧ w.heap.size < wr.heap.size ∧ wr.heap[w.heap.size]? = some Zero5
/-- What is answered lies in the result's box. -/
theorem fin_ok {B : Nat} {s : ByteArray} {w W : World} {b : Nat} {d : Dt} {k n m : Int} {x : ByteArray} {p : Option Addr} {len cap : Nat} {res : Res Dt} (hB : B < w.heap.size) (hk : Keeps B w W) (hh : W.heap[B]? = some (Tr s b (-1))) (hb : b ≤ s.size) (hr : res = .ok d (s.data.toList.drop b))
    (hd : d.At (off W (old (w.heap.size + 1))) (.agg #[.int .i64 k, .int .i64 n, .int .i64 m, .string x, .slice p len cap])) :
    Toldr B s res w (.returned (.agg #[.int .i64 k, .int .i64 n, .int .i64 m, .string x, .slice p len cap])) (((((W.setCell ⟨w.heap.size, 0, none⟩ (.int .i64 k)).setCell ⟨w.heap.size, 1, none⟩ (.int .i64 n)).setCell ⟨w.heap.size, 2, none⟩ (.int .i64 m)).setCell ⟨w.heap.size, 3, none⟩ (.string x)).setCell ⟨w.heap.size, 4, none⟩ (.slice p len cap)) :=
  ⟨keeps_five hk (Nat.le_refl _), d, _, b, -1, rfl, hd.on fun b o x hx => off_on (X := old (w.heap.size + 1)) (fun b _ hx => decide_eq_false (by have := of_decide_eq_false hx; omega)) (fun b _ hx => set_five_other (by have := of_decide_eq_false hx; omega)) b o x hx,
    hb, (set_five_other (Nat.ne_of_lt hB)).trans hh, Or.inr ⟨hr, rfl⟩⟩
/-- Where the text is none some datum lies there. -/
theorem fin_bad {B : Nat} {s : ByteArray} {w W : World} {b : Nat} {z : Int} {d : Dt} {k n m : Int} {x : ByteArray} {p : Option Addr} {len cap : Nat} {q : List UInt8} (hB : B < w.heap.size) (hk : Keeps B w W) (hh : W.heap[B]? = some (Tr s b z)) (hb : b ≤ s.size) (hz : z = ((s.size - q.length : Nat) : Int))
    (hd : d.At (off W (old (w.heap.size + 1))) (.agg #[.int .i64 k, .int .i64 n, .int .i64 m, .string x, .slice p len cap])) :
    Toldr B s (.bad q) w (.returned (.agg #[.int .i64 k, .int .i64 n, .int .i64 m, .string x, .slice p len cap])) (((((W.setCell ⟨w.heap.size, 0, none⟩ (.int .i64 k)).setCell ⟨w.heap.size, 1, none⟩ (.int .i64 n)).setCell ⟨w.heap.size, 2, none⟩ (.int .i64 m)).setCell ⟨w.heap.size, 3, none⟩ (.string x)).setCell ⟨w.heap.size, 4, none⟩ (.slice p len cap)) :=
  ⟨keeps_five hk (Nat.le_refl _), d, _, b, z, rfl, hd.on fun b o x hx => off_on (X := old (w.heap.size + 1)) (fun b _ hx => decide_eq_false (by have := of_decide_eq_false hx; omega)) (fun b _ hx => set_five_other (by have := of_decide_eq_false hx; omega)) b o x hx,
    hb, (set_five_other (Nat.ne_of_lt hB)).trans hh, Or.inl ⟨q, rfl, hz⟩⟩

set_option maxHeartbeats 4000000 in
set_option maxRecDepth 100000 in
theorem wordr_any (B : Nat) (s : ByteArray) (a : Nat) (w : World) (hb : w.heap[B]? = some (Tr s a (-1))) (ha : a < s.size) (hs : s.size ≤ 65536) (hca : wordChar s[a] = true) :
    Calls Tryd.prog 67 #[.pointer (some ⟨B, 0, none⟩)] w fun e w' => Toldr B s (wordR (s.data.toList.drop a)) w e w' := by
  have hB : B < w.heap.size := (Array.getElem?_eq_some_iff.1 hb).1
  have hh0 : (w.alloc Zero5).heap[B]? = some (Tr s a (-1)) := block_on (box_below _ _) hb
  obtain ⟨c0, c1, c2, z1, z2⟩ := tr_cells hh0
  have HB := Lib.hid hb; clear hb
  have HH0 := Lib.hid hh0; clear hh0
  have HCA := Lib.hid hca; clear hca
  go_enter Tryd.func67, Tryd.ntmps67
  go_wp2_with fail
  go_loopg [] (s.size - a) (fun g wr => Wordedr B s a w g wr)
  case atStart =>
    exact ⟨a, [], Nat.le_refl _, Nat.le_of_lt ha, Nat.le_refl _, HH0.out, rfl, by simp, Keeps.of (box_below _ _), by simp, at_new _ _⟩
  case round =>
    obtain ⟨b, u, hab, hb, hg, hh, hu, hall, hkeep, hsz, hbox⟩ := hrel
    obtain ⟨c0, c1, c2, z1, z2⟩ := tr_cells hh
    have HH := Lib.hid (And.intro hh (And.intro hu (And.intro hall (And.intro hkeep hbox)))); clear hh hu hall hkeep hbox
    have b0 : (0 : Int) ≤ b := by omega
    by_cases hgo : ∃ h : b < s.size, wordChar s[b] = true
    · obtain ⟨hlt, hc⟩ := hgo
      have b1 : (b : Int) < s.size := by omega
      have hw1 : IntKind.i64.wrap ((b : Int) + 1) = (b : Int) + 1 := IntWalk.i64_in _ (by omega)
      have C := fun W => markr_any s[b] W
      rw [hc] at C
      have HC := Lib.hid C; clear C
      have HCH := Lib.hid hc; clear hc
      go_wp2_with fail
      go_quiet ((go_at_call 66; exact calm_one HC.out _ _))
      go_wp2_with fail
      go_roundg (s.size - (b + 1))
      case measure => omega
      case rel =>
        obtain ⟨hh, hu, hall, hkeep, hbox⟩ := HH.out
        refine ⟨b + 1, u ++ [s[b]], by omega, by omega, Nat.le_refl _, tr_set1 (w := wr.drewN _) (b + 1) hh (by omega), ?_, ?_, (hkeep.trans (Keeps.of (below_drewN _ _))).setCell 1 _, ?_, ?_⟩
        · rw [hu, drop_cons s b hlt]; simp
        · intro c hc
          rcases List.mem_append.1 hc with h | h
          · exact hall c h
          · simp at h; rw [h]; exact HCH.out
        · simp only [World.setCell, Array.size_modify]; exact hsz
        · exact (Below.heap_setCell _ _ _ _ (Nat.ne_of_gt hB)).trans hbox
    · have hend : ∀ c y, s.data.toList.drop b = c :: y → wordChar c = false := by
        intro c y e
        by_cases hlt : b < s.size
        · rw [drop_cons s b hlt] at e
          obtain ⟨rfl, _⟩ := List.cons.inj e
          exact Bool.eq_false_iff.2 fun h => hgo ⟨hlt, h⟩
        · rw [List.drop_of_length_le (by simp; omega)] at e; cases e
      have hupos : 0 < u.length := by
        cases u with
        | nil =>
          have h1 := HH.out.2.1
          rw [List.nil_append] at h1
          have h2 := hend s[a] (s.data.toList.drop (a + 1)) (by rw [← h1, drop_cons s a ha])
          rw [HCA.out] at h2; cases h2
        | cons => simp
      obtain ⟨hT, hDr⟩ := take_app (p := wordChar) (l := u) (x := s.data.toList.drop b) HH.out.2.2.1 hend
      rw [← HH.out.2.1] at hT hDr
      obtain ⟨x, hx⟩ : ∃ x, s.extract a b = x := ⟨_, rfl⟩
      have hxl : x.data.toList = u := by rw [← hx]; exact piece_list hab hb HH.out.2.1
      have hxs : x.size = u.length := by rw [← hxl]; simp
      have hus : u.length ≤ 65536 := by
        have := congrArg List.length HH.out.2.1
        simp at this; omega
      have hwr : wordR (s.data.toList.drop a) = if (parse u).2.2 then .ok (.node 0 (parse u).1 (parse u).2.1 nil8 []) (s.data.toList.drop b) else if u.length = 0 ∨ 40 < u.length then .bad (s.data.toList.drop a) else .ok (.node 2 0 0 x []) (s.data.toList.drop b) := by
        unfold wordR
        rw [hT, hDr, show x = ⟨u.toArray⟩ from bytes_is (by rw [hxl])]
      obtain ⟨n, d, ok, hp⟩ : ∃ n d ok, parse u = (n, d, ok) := ⟨_, _, _, rfl⟩
      have hbd := @parse_bounds u
      have C1 : ∀ W, Calls Tryd.prog 89 #[.string x] W fun e w' => e = .returned (.tuple #[.int .i64 n, .int .i64 d, .bool ok]) ∧ W = w' := fun W => by
        have := parseRef_any x (by unfold maxLen; omega) W
        rw [hxl, hp] at this
        exact this
      rw [hp] at hwr hbd
      simp only at hwr hbd
      have a0 : (0 : Int) ≤ a := by omega
      have ab0 : (a : Int) ≤ b := by omega
      have bs0 : (b : Int) ≤ s.size := by omega
      have an0 : ((a : Int)).toNat = a := by omega
      have bn0 : ((b : Int)).toNat = b := by omega
      have HC1 := Lib.hid C1; clear C1
      have HX := Lib.hid (And.intro hx (And.intro hxl hxs)); clear hx hxl
      have HWR := Lib.hid hwr; clear hwr hT hDr hp hend
      have HBD := Lib.hid hbd; clear hbd
      rcases Nat.lt_or_ge b s.size with hlt | hge
      case' inl =>
        have b1 : (b : Int) < s.size := by omega
        have hc : wordChar s[b] = false := Bool.eq_false_iff.2 fun h => hgo ⟨hlt, h⟩
        have C := fun W => markr_any s[b] W
        rw [hc] at C
        have HC := Lib.hid C; clear C hc hgo
        go_wp2_with fail
        go_quiet ((go_at_call 66; exact calm_one HC.out _ _))
        go_wp2_with fail
        go_quiet (fail)
        rw [HX.out.1]
      case' inr =>
        have e1 : decide (b < s.size) = false := by rw [decide_eq_false_iff_not]; omega
        clear hgo
        go_wp2_with fail
        go_quiet (fail)
        go_wp2_with fail
        go_quiet (fail)
        rw [HX.out.1]
      all_goals
        go_wp2_with fail
        refine (HC1.out _).mono ?_
        rintro _ W ⟨rfl, hW⟩
        have hbx : W.heap[w.heap.size]? = some Zero5 := by rw [← hW]; exact HH.out.2.2.2.2
        have hkW : Keeps B w W := by rw [← hW]; exact HH.out.2.2.2.1.trans (Keeps.of (below_drewN _ _))
        have hhW : W.heap[B]? = some (Tr s b (-1)) := by rw [← hW]; exact HH.out.1
        have y0 := box_frozen hbx 0
        have y1 := box_frozen hbx 1
        have y2 := box_frozen hbx 2
        have y3 := box_frozen hbx 3
        have y4 := box_frozen hbx 4
        obtain ⟨x0, x1, x2, x3, x4⟩ := box_cells hbx
        have HK := Lib.hid (And.intro hbx (And.intro hkW hhW)); clear hbx hkW hhW hW
        cases ok
        · have hwr2 := HWR.out
          simp only [Bool.false_eq_true, if_false] at hwr2
          by_cases hbad : 40 < u.length
          · rw [if_pos (Or.inr hbad)] at hwr2
            have HWR2 := Lib.hid hwr2; clear hwr2
            have q : decide ((40 : Int) < (x.size : Int)) = true := by rw [decide_eq_true_iff]; omega
            have HF := Lib.hid (failr_any B s b a W HK.out.2.2)
            go_wp2_with fail
            refine (HF.out).mono ?_
            rintro _ W2 ⟨rfl, hk2, hh2⟩
            have hbx2 := keeps_block hk2 HK.out.1 (Nat.ne_of_gt hB)
            have v0 := box_frozen hbx2 0
            have v1 := box_frozen hbx2 1
            have v2 := box_frozen hbx2 2
            have v3 := box_frozen hbx2 3
            have v4 := box_frozen hbx2 4
            obtain ⟨u0, u1, u2, u3, u4⟩ := box_cells hbx2
            have HK2 := Lib.hid (And.intro hbx2 (And.intro (HK.out.2.1.trans hk2) hh2)); clear hbx2 hk2 hh2 y0 y1 y2 y3 y4 x0 x1 x2 x3 x4
            go_wp2_with fail
            refine bodyPost_ret (results_cell_row rfl _ _ w.heap.size 24 _ (0, 0) _ rfl (set_five (b0 := .int .i64 4) (b1 := .int .i64 0) (b2 := .int .i64 0) (b3 := .string ⟨#[]⟩) (b4 := .slice none 0 0) HK2.out.1) Tryd.underlying24 rfl Tryd.sizeDt) rfl ?_
            rw [HWR2.out]
            exact fin_bad hB HK2.out.2.1 HK2.out.2.2 hb (by simp; omega) (null_at _ _)
          · rw [if_neg (by omega)] at hwr2
            have HWR2 := Lib.hid hwr2; clear hwr2
            have q : decide ((40 : Int) < (x.size : Int)) = false := by rw [decide_eq_false_iff_not]; omega
            go_wp2_with fail
            refine bodyPost_ret (results_cell_row rfl _ _ w.heap.size 24 _ (0, 0) _ rfl (set_five (b0 := .int .i64 2) (b1 := .int .i64 0) (b2 := .int .i64 0) (b3 := .string x) (b4 := .slice none 0 0) HK.out.1) Tryd.underlying24 rfl Tryd.sizeDt) rfl ?_
            exact fin_ok hB HK.out.2.1 HK.out.2.2 hb HWR2.out (leaf_off _ _ _ _ _ (by unfold I64; omega) (by unfold I64; omega) (by unfold I64; omega) (by have := HX.out.2.2; unfold maxLen; omega))
        · have hwr2 := HWR.out
          simp only [if_true] at hwr2
          have hbd2 := HBD.out rfl
          have HWR2 := Lib.hid (And.intro hwr2 hbd2); clear hwr2 hbd2
          go_wp2_with fail
          refine bodyPost_ret (results_cell_row rfl _ _ w.heap.size 24 _ (0, 0) _ rfl (set_five (b0 := .int .i64 0) (b1 := .int .i64 n) (b2 := .int .i64 d) (b3 := .string ⟨#[]⟩) (b4 := .slice none 0 0) HK.out.1) Tryd.underlying24 rfl Tryd.sizeDt) rfl ?_
          exact fin_ok hB HK.out.2.1 HK.out.2.2 hb HWR2.out.1 (leaf_off _ _ _ _ _ (by unfold I64; omega) HWR2.out.2.1 HWR2.out.2.2 (by unfold maxLen; decide))
end Go.Proofs.YtabofebepefbgaaDoor.Dat

/- The reference's reader: strings. -/
namespace Go.Proofs.YtabofebepefbgaaDoor.Dat
open Go.RowKit
open Go.Proofs.YtabofebepefbgaaDoor (textL parse res outL parseRef_any)
open NumPlain (rightB)
set_option linter.unusedVariables false

/-- A string as it has been gone through so far. -/
def Strungr (B : Nat) (s : ByteArray) (a : Nat) (w : World) (g : Nat) (wr : World) : Prop :=
  ∃ (b : Nat) (u : List UInt8), a ≤ b ∧ b ≤ s.size ∧ s.size - b ≤ g ∧ wr.heap[B]? = some (Tr s b (-1)) ∧ s.data.toList.drop a = u ++ s.data.toList.drop b ∧ (∀ c ∈ u, strChar c = true) ∧ Keeps B w wr ∧ w.heap.size < wr.heap.size ∧ wr.heap[w.heap.size]? = some Zero5
theorem str_ways {c : UInt8} (h : c ≠ 34) : (decide ((c.toNat : Int) < 32) = true ∧ strChar c = false) ∨ ((decide ((c.toNat : Int) < 32) = false ∧ decide ((126 : Int) < c.toNat) = true) ∧ strChar c = false) ∨ (((decide ((c.toNat : Int) < 32) = false ∧ decide ((126 : Int) < c.toNat) = false) ∧ ((c.toNat : Int) == 92) = true) ∧ strChar c = false) ∨ (((decide ((c.toNat : Int) < 32) = false ∧ decide ((126 : Int) < c.toNat) = false) ∧ ((c.toNat : Int) == 92) = false) ∧ strChar c = true) := by
  have h34 : c.toNat ≠ 34 := fun e => h (UInt8.toNat_inj.1 e)
  unfold strChar
  by_cases a1 : 32 ≤ c.toNat <;> by_cases a2 : c.toNat ≤ 126 <;> by_cases a3 : c.toNat = 92 <;> simp [a1, a2, a3, h34] <;> omega
set_option maxHeartbeats 4000000 in
set_option maxRecDepth 100000 in
theorem strr_any (B : Nat) (s : ByteArray) (a : Nat) (w : World) (hb : w.heap[B]? = some (Tr s a (-1))) (ha : a < s.size) (hs : s.size ≤ 65536) :
    Calls Tryd.prog 68 #[.pointer (some ⟨B, 0, none⟩)] w fun e w' => Toldr B s (strR (s.data.toList.drop (a + 1))) w e w' := by
  have hB : B < w.heap.size := (Array.getElem?_eq_some_iff.1 hb).1
  have hh0 : (w.alloc Zero5).heap[B]? = some (Tr s a (-1)) := block_on (box_below _ _) hb
  have hbx0 : (w.alloc Zero5).heap[w.heap.size]? = some Zero5 := at_new _ _
  have hk0 : Keeps B w (w.alloc Zero5) := Keeps.of (box_below _ _)
  have hsz0 : w.heap.size < (w.alloc Zero5).heap.size := by simp
  obtain ⟨W0, hW0⟩ : ∃ W, w.alloc Zero5 = W := ⟨_, rfl⟩
  rw [hW0] at hh0 hbx0 hk0 hsz0
  obtain ⟨c0, c1, c2, z1, z2⟩ := tr_cells hh0
  have hw0 : IntKind.i64.wrap ((a : Int) + 1) = (a : Int) + 1 := IntWalk.i64_in _ (by omega)
  have HH0 := Lib.hid (And.intro hh0 (And.intro hbx0 hk0)); clear hh0 hbx0 hk0
  clear hb
  go_enter Tryd.func68, Tryd.ntmps68
  go_wp2_with (first | rw [hW0] | fail)
  obtain ⟨F, hF⟩ : ∃ F : Int, (a : Int) + 1 = F := ⟨_, rfl⟩
  rw [hF]
  go_loopg [] (s.size - (a + 1)) (fun g wr => Strungr B s (a + 1) w g wr)
  case atStart =>
    refine ⟨a + 1, [], Nat.le_refl _, by omega, Nat.le_refl _, tr_set1 (a + 1) HH0.out.1 (by omega), rfl, by simp, (HH0.out.2.2).setCell 1 _, by simpa [World.setCell] using hsz0, (Below.heap_setCell _ _ _ _ (Nat.ne_of_gt hB)).trans HH0.out.2.1⟩
  case round =>
    clear c0 c1 c2 z1 z2 HH0 hsz0 hW0
    obtain ⟨b, u, hab, hb, hg, hh, hu, hall, hkeep, hsz, hbox⟩ := hrel
    obtain ⟨c0, c1, c2, z1, z2⟩ := tr_cells hh
    have b0 : (0 : Int) ≤ b := by omega
    by_cases hend : b = s.size
    · subst hend
      have HF := Lib.hid (fun k => failr_any B s s.size s.size (wr.drewN k) hh)
      have HH := Lib.hid (And.intro hh (And.intro hu (And.intro hall (And.intro hkeep hbox)))); clear hh hu hall hkeep hbox
      have hsr : strR (s.data.toList.drop (a + 1)) = .bad [] := by
        have hl := HH.out.2.1
        rw [drop_end, List.append_nil] at hl
        obtain ⟨h1, h2⟩ := take_app (p := strChar) (l := u) (x := []) HH.out.2.2.1 (fun c y e => by cases e)
        rw [List.append_nil] at h2
        unfold strR
        rw [hl, h2]; rfl
      have HSR := Lib.hid hsr; clear hsr
      go_wp2_with fail
      go_quiet (fail)
      go_wp2_with fail
      go_quiet (fail)
      go_wp2_with fail
      refine (HF.out _).mono ?_
      rintro _ W2 ⟨rfl, hk2, hh2⟩
      have hbx2 := keeps_block hk2 (show _ = some Zero5 from HH.out.2.2.2.2) (Nat.ne_of_gt hB)
      have v0 := box_frozen hbx2 0
      have v1 := box_frozen hbx2 1
      have v2 := box_frozen hbx2 2
      have v3 := box_frozen hbx2 3
      have v4 := box_frozen hbx2 4
      obtain ⟨u0, u1, u2, u3, u4⟩ := box_cells hbx2
      have HK2 := Lib.hid (And.intro hbx2 (And.intro ((HH.out.2.2.2.1.trans (Keeps.of (below_drewN _ _))).trans hk2) hh2)); clear hbx2 hk2 hh2
      go_wp2_with fail
      refine bodyPost_ret (results_cell_row rfl _ _ w.heap.size 24 _ (0, 0) _ rfl (set_five (b0 := .int .i64 4) (b1 := .int .i64 0) (b2 := .int .i64 0) (b3 := .string ⟨#[]⟩) (b4 := .slice none 0 0) HK2.out.1) Tryd.underlying24 rfl Tryd.sizeDt) rfl ?_
      rw [HSR.out]
      exact fin_bad hB HK2.out.2.1 HK2.out.2.2 hb (by simp) (null_at _ _)
    have hlt : b < s.size := by omega
    have b1 : (b : Int) < s.size := by omega
    have hd := drop_cons s b hlt
    have hw1 : IntKind.i64.wrap ((b : Int) + 1) = (b : Int) + 1 := IntWalk.i64_in _ (by omega)
    have HH := Lib.hid (And.intro hh (And.intro hu (And.intro hall (And.intro hkeep (And.intro hbox hd))))); clear hh hu hall hkeep hbox hd
    by_cases h34 : s[b] = 34
    · have t34 : ((s[b].toNat : Int) != 34) = false := byte_nn h34
      have e2 : ((b : Int) == (s.size : Int)) = false := by rw [beq_eq_false_iff_ne]; omega
      obtain ⟨x, hx⟩ : ∃ x, s.extract (a + 1) b = x := ⟨_, rfl⟩
      have hxl : x.data.toList = u := by rw [← hx]; exact piece_list hab hb HH.out.2.1
      have hxs : x.size ≤ 65536 := by
        have := congrArg List.length HH.out.2.1
        have h2 : x.size = u.length := by rw [← hxl]; simp
        simp at this; omega
      have hsr : strR (s.data.toList.drop (a + 1)) = .ok (.node 3 0 0 x []) (s.data.toList.drop (b + 1)) := by
        have hl := HH.out.2.1
        rw [HH.out.2.2.2.2.2, h34] at hl
        obtain ⟨h1, h2⟩ := take_app (p := strChar) (l := u) (x := 34 :: s.data.toList.drop (b + 1)) HH.out.2.2.1 (fun c y e => by obtain ⟨rfl, _⟩ := List.cons.inj e; decide)
        unfold strR
        rw [hl, h1, h2, show x = ⟨u.toArray⟩ from bytes_is (by rw [hxl])]
        simp [strEnd]
      have a0 : (0 : Int) ≤ F := by omega
      have ab0 : F ≤ b := by omega
      have bs0 : (b : Int) ≤ s.size := by omega
      have an0 : F.toNat = a + 1 := by omega
      have bn0 : ((b : Int)).toNat = b := by omega
      have hw2 : IntKind.i64.wrap ((b : Int) + 1 - 1) = (b : Int) := by rw [show (b : Int) + 1 - 1 = b by omega]; exact IntWalk.i64_in _ (by omega)
      have hw3 : IntKind.i64.wrap (b : Int) = (b : Int) := IntWalk.i64_in _ (by omega)
      have HX := Lib.hid (And.intro hx hsr); clear hx hxl hsr
      have HS := Lib.hid h34; clear h34
      go_wp2_with fail
      go_quiet (fail)
      generalize nq = n1
      go_wp2_with fail
      go_quiet (fail)
      generalize nq = n2
      go_wp2_with fail
      generalize hW : (wr.drewN (n1 + n2)).setCell ⟨B, 1, none⟩ (.int .i64 ((b : Int) + 1)) = W
      have hbxW : W.heap[w.heap.size]? = some Zero5 := hW ▸ (Below.heap_setCell (wr.drewN (n1 + n2)) ⟨B, 1, none⟩ (.int .i64 ((b : Int) + 1)) w.heap.size (Nat.ne_of_gt hB)).trans HH.out.2.2.2.2.1
      have hhW : W.heap[B]? = some (Tr s (b + 1) (-1)) := hW ▸ tr_set1 (w := wr.drewN _) (b + 1) HH.out.1 (by omega)
      have hkW : Keeps B w W := hW ▸ (HH.out.2.2.2.1.trans (Keeps.of (below_drewN _ _))).setCell 1 _
      clear c0 c1 c2 z1 z2 hW
      obtain ⟨c0, c1, c2, z1, z2⟩ := tr_cells hhW
      rw [show (((b + 1 : Nat)) : Int) = (b : Int) + 1 by omega] at c1
      have HK := Lib.hid (And.intro hbxW (And.intro hkW hhW)); clear hbxW hkW hhW
      go_still_tail 12, (by kernel_rfl)
      rw [HX.out.1]
      change wpList _ _ _ _ _ W.drew
      generalize hW2 : W.drew = W2
      have hbx2 : W2.heap[w.heap.size]? = some Zero5 := hW2 ▸ HK.out.1
      have hh2 : W2.heap[B]? = some (Tr s (b + 1) (-1)) := hW2 ▸ HK.out.2.2
      have hk2 : Keeps B w W2 := hW2 ▸ HK.out.2.1.drew
      clear c0 c1 c2 z1 z2 hW2 HK
      have y0 := box_frozen hbx2 0
      have y1 := box_frozen hbx2 1
      have y2 := box_frozen hbx2 2
      have y3 := box_frozen hbx2 3
      have y4 := box_frozen hbx2 4
      obtain ⟨v0, v1, v2, v3, v4⟩ := box_cells hbx2
      have HK2 := Lib.hid (And.intro hbx2 (And.intro hk2 hh2)); clear hbx2 hk2 hh2
      go_wp2_with fail
      refine bodyPost_ret (results_cell_row rfl _ _ w.heap.size 24 _ (0, 0) _ rfl (set_five (b0 := .int .i64 3) (b1 := .int .i64 0) (b2 := .int .i64 0) (b3 := .string x) (b4 := .slice none 0 0) HK2.out.1) Tryd.underlying24 rfl Tryd.sizeDt) rfl ?_
      exact fin_ok hB HK2.out.2.1 HK2.out.2.2 (by omega) HX.out.2 (leaf_off _ _ _ _ _ (by unfold I64; omega) (by unfold I64; omega) (by unfold I64; omega) (by unfold maxLen; omega))
    · have t34 : ((s[b].toNat : Int) != 34) = true := byte_no h34
      rcases str_ways h34 with ⟨q1, hc⟩ | ⟨⟨q1, q2⟩, hc⟩ | ⟨⟨⟨q1, q2⟩, q3⟩, hc⟩ | ⟨⟨⟨q1, q2⟩, q3⟩, hc⟩
      case inr.inr.inr =>
        have HCH := Lib.hid hc; clear hc
        go_wp2_with fail
        go_quiet (fail)
        go_wp2_with fail
        go_quiet (fail)
        go_wp2_with fail
        go_roundg (s.size - (b + 1))
        case measure => omega
        case rel =>
          obtain ⟨hh, hu, hall, hkeep, hbox, -⟩ := HH.out
          refine ⟨b + 1, u ++ [s[b]], by omega, by omega, Nat.le_refl _, tr_set1 (w := wr.drewN _) (b + 1) hh (by omega), ?_, ?_, (hkeep.trans (Keeps.of (below_drewN _ _))).setCell 1 _, ?_, ?_⟩
          · rw [hu, drop_cons s b hlt]; simp
          · intro c hc
            rcases List.mem_append.1 hc with h | h
            · exact hall c h
            · simp at h; rw [h]; exact HCH.out
          · simp only [World.setCell, Array.size_modify]; exact hsz
          · exact (Below.heap_setCell _ _ _ _ (Nat.ne_of_gt hB)).trans hbox
      all_goals
        have hsr : strR (s.data.toList.drop (a + 1)) = .bad (s.data.toList.drop b) := by
          have hl := HH.out.2.1
          rw [HH.out.2.2.2.2.2] at hl
          obtain ⟨h1, h2⟩ := take_app (p := strChar) (l := u) (x := s[b] :: s.data.toList.drop (b + 1)) HH.out.2.2.1 (fun c y e => by obtain ⟨rfl, _⟩ := List.cons.inj e; exact hc)
          rw [HH.out.2.2.2.2.2]
          unfold strR
          rw [hl, h2]
          simp [strEnd, h34]
        have HSR := Lib.hid hsr; clear hsr hc
        have HF := Lib.hid (fun k => failr_any B s b b (wr.drewN k) HH.out.1)
        go_wp2_with fail
        go_quiet (fail)
        go_wp2_with fail
        go_quiet (fail)
        go_wp2_with fail
        refine (HF.out _).mono ?_
        rintro _ W2 ⟨rfl, hk2, hh2⟩
        have hbx2 := keeps_block hk2 (show _ = some Zero5 from HH.out.2.2.2.2.1) (Nat.ne_of_gt hB)
        have v0 := box_frozen hbx2 0
        have v1 := box_frozen hbx2 1
        have v2 := box_frozen hbx2 2
        have v3 := box_frozen hbx2 3
        have v4 := box_frozen hbx2 4
        obtain ⟨u0, u1, u2, u3, u4⟩ := box_cells hbx2
        have HK2 := Lib.hid (And.intro hbx2 (And.intro ((HH.out.2.2.2.1.trans (Keeps.of (below_drewN _ _))).trans hk2) hh2)); clear hbx2 hk2 hh2
        go_wp2_with fail
        refine bodyPost_ret (results_cell_row rfl _ _ w.heap.size 24 _ (0, 0) _ rfl (set_five (b0 := .int .i64 4) (b1 := .int .i64 0) (b2 := .int .i64 0) (b3 := .string ⟨#[]⟩) (b4 := .slice none 0 0) HK2.out.1) Tryd.underlying24 rfl Tryd.sizeDt) rfl ?_
        rw [HSR.out]
        exact fin_bad hB HK2.out.2.1 HK2.out.2.2 hb (by simp; omega) (null_at _ _)
end Go.Proofs.YtabofebepefbgaaDoor.Dat

/- The reference's reader: what stands between brackets. -/
namespace Go.Proofs.YtabofebepefbgaaDoor.Dat
open Go.RowKit
open Go.Proofs.YtabofebepefbgaaDoor (textL parse res outL)
open NumPlain (rightB)
set_option linter.unusedVariables false

/-- A list, or a Vec. -/
def md (pair : Bool) (acc : List Dt) : Md := if pair then .list acc else .vec acc
/-- What it comes to. -/
def finD (pair : Bool) (d : Dt) (acc : List Dt) : Dt := if pair then Dt.chain d acc else .node 7 0 0 nil8 acc
theorem headN_cons {c : UInt8} {r : List UInt8} {k : UInt8} (h : c ≠ k) : headN (c :: r) ≠ (k.toNat : Int) := fun e => h (UInt8.toNat_inj.1 (Int.ofNat_inj.1 e))
theorem data_view {pair : Bool} {acc : List Dt} {l : List UInt8} {res : Res Dt} (h : Rd (md pair acc) l res) :
    (∃ r, skipB false l = 41 :: r ∧ res = .ok (finD pair nullD acc) r) ∨
    (pair = true ∧ acc ≠ [] ∧ ∃ r r1, skipB false l = 46 :: r ∧ Rd .one r r1 ∧ ((∃ q, r1 = .bad q ∧ res = .bad q) ∨ ∃ d q, r1 = .ok d q ∧ ((headN (skipB false q) ≠ 41 ∧ res = .bad (skipB false q)) ∨ ∃ z, skipB false q = 41 :: z ∧ res = .ok (Dt.chain d acc) z))) ∨
    (headN (skipB false l) ≠ 41 ∧ (pair = false ∨ acc = [] ∨ headN (skipB false l) ≠ 46) ∧ ∃ r1, Rd .one (skipB false l) r1 ∧ ((∃ q, r1 = .bad q ∧ res = .bad q) ∨ ∃ d q, r1 = .ok d q ∧ q.length < (skipB false l).length ∧ Rd (md pair (acc ++ [d])) q res)) := by
  generalize hm : md pair acc = m at h
  have none3 : ∀ {l : List UInt8}, skipB false l = [] → headN (skipB false l) ≠ 41 ∧ headN (skipB false l) ≠ 46 ∧ Rd .one (skipB false l) (.bad []) := fun h => by
    rw [h]; exact ⟨by decide, by decide, .none rfl⟩
  cases pair
  · unfold md at hm
    simp only [Bool.false_eq_true, if_false] at hm
    subst hm
    cases h with
    | vNone h => exact Or.inr (Or.inr ⟨(none3 h).1, Or.inl rfl, _, (none3 h).2.2, Or.inl ⟨_, rfl, rfl⟩⟩)
    | vShut h => exact Or.inl ⟨_, h, rfl⟩
    | vBad h hc hr => exact Or.inr (Or.inr ⟨by rw [h]; exact headN_cons (k := 41) hc, Or.inl rfl, _, h.symm ▸ hr, Or.inl ⟨_, rfl, rfl⟩⟩)
    | vMore h hc hd hr => exact Or.inr (Or.inr ⟨by rw [h]; exact headN_cons (k := 41) hc, Or.inl rfl, _, h.symm ▸ hd, Or.inr ⟨_, _, rfl, by rw [h]; exact rd_shorter hd, hr⟩⟩)
  · unfold md at hm
    simp only [if_true] at hm
    subst hm
    cases h with
    | lNone h => exact Or.inr (Or.inr ⟨(none3 h).1, Or.inr (Or.inr (none3 h).2.1), _, (none3 h).2.2, Or.inl ⟨_, rfl, rfl⟩⟩)
    | lShut h => exact Or.inl ⟨_, h, rfl⟩
    | lDotBad h ha hb => exact Or.inr (Or.inl ⟨rfl, ha, _, _, h, hb, Or.inl ⟨_, rfl, rfl⟩⟩)
    | lDotNone h ha hd hs => exact Or.inr (Or.inl ⟨rfl, ha, _, _, h, hd, Or.inr ⟨_, _, rfl, Or.inl ⟨by rw [hs]; decide, by rw [hs]⟩⟩⟩)
    | lDotNo h ha hd hs hc => exact Or.inr (Or.inl ⟨rfl, ha, _, _, h, hd, Or.inr ⟨_, _, rfl, Or.inl ⟨by rw [hs]; exact headN_cons (k := 41) hc, by rw [hs]⟩⟩⟩)
    | lDot h ha hd hs => exact Or.inr (Or.inl ⟨rfl, ha, _, _, h, hd, Or.inr ⟨_, _, rfl, Or.inr ⟨_, hs, rfl⟩⟩⟩)
    | lBad h hc hem hr => exact Or.inr (Or.inr ⟨by rw [h]; exact headN_cons (k := 41) hc, hem.elim (fun e => Or.inr (Or.inl e)) (fun e => Or.inr (Or.inr (by rw [h]; exact headN_cons (k := 46) e))), _, h.symm ▸ hr, Or.inl ⟨_, rfl, rfl⟩⟩)
    | lMore h hc hem hd hr => exact Or.inr (Or.inr ⟨by rw [h]; exact headN_cons (k := 41) hc, hem.elim (fun e => Or.inr (Or.inl e)) (fun e => Or.inr (Or.inr (by rw [h]; exact headN_cons (k := 46) e))), _, h.symm ▸ hd, Or.inr ⟨_, _, rfl, by rw [h]; exact rd_shorter hd, hr⟩⟩)

/-- What the reference's datum answers, where fewer bytes than so many are left. -/
def OneAtR (N : Nat) : Prop := ∀ (B : Nat) (s : ByteArray) (a : Nat) (w : World) (res : Res Dt) (D : Int), s.size - a < N → w.heap[B]? = some (Tr s a (-1)) → a ≤ s.size → s.size ≤ 65536 → Rd .one (s.data.toList.drop a) res →
  Calls Tryd.prog 46 #[.pointer (some ⟨B, 0, none⟩), .int .i64 D] w fun e w' => Toldr B s res w e w'
/-- What stands between brackets, as it is answered. -/
def Datar (pair : Bool) (B : Nat) (s : ByteArray) (res : Res Dt) (w : World) (e : Ending) (w' : World) : Prop :=
  Keeps B w w' ∧ ∃ (acc : List Dt) (d : Dt) (p : Option Addr) (cap : Nat) (k n m : Int) (x : ByteArray) (p2 : Option Addr) (len2 cap2 : Nat) (b : Nat) (z : Int),
    e = .returned (.tuple #[.slice p acc.length cap, .agg #[.int .i64 k, .int .i64 n, .int .i64 m, .string x, .slice p2 len2 cap2]]) ∧ (acc = [] ∨ ∃ b o, p = some ⟨b, o, none⟩ ∧ Dt.AllAt (off w' (old w.heap.size)) acc b o) ∧
    d.At (off w' (old w.heap.size)) (.agg #[.int .i64 k, .int .i64 n, .int .i64 m, .string x, .slice p2 len2 cap2]) ∧ acc.length ≤ 65537 ∧ b ≤ s.size ∧ w'.heap[B]? = some (Tr s b z) ∧
    ((∃ q, res = .bad q ∧ z = ((s.size - q.length : Nat) : Int)) ∨ (res = .ok (finD pair d acc) (s.data.toList.drop b) ∧ z = -1))
/-- What holds ahead of each round. -/
def Lstr (pair : Bool) (B : Nat) (s : ByteArray) (a : Nat) (w : World) (res : Res Dt) (g : Nat) (v : Value) (wr : World) : Prop :=
  ∃ (acc : List Dt) (xs : List Value) (b : Nat) (z : Int) (k n m : Int) (x : ByteArray) (p : Option Addr) (len cap : Nat) (d : Dt), acc.length ≤ 65537 ∧ b ≤ s.size ∧ wr.heap[B]? = some (Tr s b z) ∧ Held B w acc v xs (Five k n m x (.slice p len cap)) wr ∧
    d.At (off wr (old (w.heap.size + 2))) (.agg #[.int .i64 k, .int .i64 n, .int .i64 m, .string x, .slice p len cap]) ∧
    ((z = -1 ∧ a ≤ b ∧ acc.length ≤ b ∧ 2 * (s.size - b) + 2 ≤ g ∧ d = nullD ∧ Rd (md pair acc) (s.data.toList.drop b) res) ∨ (z = -1 ∧ 1 ≤ g ∧ ∃ r, skipB false (s.data.toList.drop b) = 41 :: r ∧ res = .ok (finD pair d acc) r) ∨ (∃ q, res = .bad q ∧ z = ((s.size - q.length : Nat) : Int)))
theorem results_tmp_row {fn : Func} {p u : Tmp} {ty : TypeId} (h : fn.results = #[.tmp u, .cell p ty]) (tmps : Array Value) (P : Program) (w : World) (g : Nat) (cs : Array Value)
    (hp : tmps.getD p undef = .pointer (some ⟨g, 0, none⟩)) (hl : (loadVar ty ⟨g, 0, none⟩).run P w = .ok (.agg cs) w) :
    (results fn tmps).run P w = .ok (.tuple #[tmps.getD u undef, .agg cs]) w := by
  have hp' : tmps[p]?.getD undef = .pointer (some ⟨g, 0, none⟩) := by simpa using hp
  simp only [results, h]
  simp [Result.andThen, hp', asAddr, hl]
/-- What is answered lies in the result's box. -/
theorem data_fin {pair : Bool} {B : Nat} {s : ByteArray} {w W : World} {acc : List Dt} {xs : List Value} {b : Nat} {z : Int} {d : Dt} {k n m : Int} {x : ByteArray} {p p2 : Option Addr} {cap len2 cap2 : Nat} {res : Res Dt} {E : Obj} (hB : B < w.heap.size) (hh : W.heap[B]? = some (Tr s b z)) (hb : b ≤ s.size) (hl : acc.length ≤ 65537)
    (held : Held B w acc (.slice p acc.length cap) xs E W) (hd : d.At (off W (old (w.heap.size + 2))) (.agg #[.int .i64 k, .int .i64 n, .int .i64 m, .string x, .slice p2 len2 cap2]))
    (hr : (∃ q, res = .bad q ∧ z = ((s.size - q.length : Nat) : Int)) ∨ (res = .ok (finD pair d acc) (s.data.toList.drop b) ∧ z = -1)) :
    Datar pair B s res w (.returned (.tuple #[.slice p acc.length cap, .agg #[.int .i64 k, .int .i64 n, .int .i64 m, .string x, .slice p2 len2 cap2]]))
      (((((W.setCell ⟨w.heap.size, 0, none⟩ (.int .i64 k)).setCell ⟨w.heap.size, 1, none⟩ (.int .i64 n)).setCell ⟨w.heap.size, 2, none⟩ (.int .i64 m)).setCell ⟨w.heap.size, 3, none⟩ (.string x)).setCell ⟨w.heap.size, 4, none⟩ (.slice p2 len2 cap2)) := by
  have up : ∀ (b o : Nat) (u : Value), (off W (old (w.heap.size + 2))).cell? ⟨b, o, none⟩ = some u → (off (((((W.setCell ⟨w.heap.size, 0, none⟩ (.int .i64 k)).setCell ⟨w.heap.size, 1, none⟩ (.int .i64 n)).setCell ⟨w.heap.size, 2, none⟩ (.int .i64 m)).setCell ⟨w.heap.size, 3, none⟩ (.string x)).setCell ⟨w.heap.size, 4, none⟩ (.slice p2 len2 cap2)) (old w.heap.size)).cell? ⟨b, o, none⟩ = some u :=
    fun b o u hu => off_on (X := old (w.heap.size + 2)) (fun b _ hx => decide_eq_false (by have := of_decide_eq_false hx; omega)) (fun b _ hx => set_five_other (by have := of_decide_eq_false hx; omega)) b o u hu
  refine ⟨keeps_five held.keeps (Nat.le_refl _), acc, d, p, cap, k, n, m, x, p2, len2, cap2, b, z, rfl, ?_, hd.on up, hl, hb, (set_five_other (Nat.ne_of_lt hB)).trans hh, hr⟩
  rcases held.rows with h | ⟨b, o, hp, ha⟩
  · exact Or.inl h
  · exact Or.inr ⟨b, o, hp, ha.on up⟩
theorem null_five {k n m : Int} {x : ByteArray} {p : Option Addr} {len cap : Nat} {W : World} (h : nullD.At W (.agg #[.int .i64 k, .int .i64 n, .int .i64 m, .string x, .slice p len cap])) (W' : World) : nullD.At W' (.agg #[.int .i64 k, .int .i64 n, .int .i64 m, .string x, .slice p len cap]) := by
  unfold nullD Dt.At at h ⊢
  obtain ⟨h1, h2, h3, h4, h5, q, c, e, -⟩ := h
  exact ⟨h1, h2, h3, h4, h5, q, c, e, Or.inl rfl⟩
/-- The row and the end, behind a step that keeps all but the reader. -/
theorem held_at {B : Nat} {w W W1 : World} {acc : List Dt} {v : Value} {xs : List Value} {E : Obj} {d : Dt} {u : Value} (h : Held B w acc v xs E W) (hd : d.At (off W (old (w.heap.size + 2))) u) (hk : Keeps B W W1) (hB : B < w.heap.size) : Held B w acc v xs E W1 ∧ d.At (off W1 (old (w.heap.size + 2))) u :=
  ⟨h.on hk hB, hd.on (keeps_old hk (by omega))⟩
set_option maxHeartbeats 8000000 in
set_option maxRecDepth 100000 in
theorem data_any (N : Nat) (ih : OneAtR N) (pair : Bool) (B : Nat) (s : ByteArray) (a : Nat) (w : World) (res : Res Dt) (D : Int) (hN : s.size - a < N) (hb : w.heap[B]? = some (Tr s a (-1))) (ha : a ≤ s.size) (hs : s.size ≤ 65536) (hr : Rd (md pair []) (s.data.toList.drop a) res) :
    Calls Tryd.prog 70 #[.pointer (some ⟨B, 0, none⟩), .bool pair, .int .i64 D] w fun e w' => Datar pair B s res w e w' := by
  have hB : B < w.heap.size := (Array.getElem?_eq_some_iff.1 hb).1
  have HB := Lib.hid hb; clear hb
  have HR := Lib.hid hr; clear hr
  have IH := Lib.hid ih; clear ih
  go_enter Tryd.func70, Tryd.ntmps70
  go_wp2_with fail
  go_loopg [8] (2 * (s.size - a) + 2) (fun g v wr => Lstr pair B s a w res g v wr)
  case atStart =>
    exact ⟨[], [], a, -1, 4, 0, 0, ⟨#[]⟩, none, 0, 0, nullD, by simp, ha, block_on (two_below _ _ _) HB.out, ⟨Keeps.of (two_below _ _ _), by simp, two_first _ _ _, two_second _ _ _, ⟨rfl, Or.inl ⟨rfl, rfl⟩⟩, rfl⟩, null_off _, Or.inl ⟨rfl, Nat.le_refl _, by simp, Nat.le_refl _, rfl, HR.out⟩⟩
  case round =>
    obtain ⟨acc, xs, b, z, k, n, m, x, p, len, cap, d, hacc, hb, hh, hheld, hat, hst⟩ := hrel
    obtain ⟨pv, cv, rfl, hslice⟩ := hheld.slice
    clear hslice
    obtain ⟨c0, c1, c2, z1, z2⟩ := tr_cells hh
    have key : (∃ q, res = .bad q ∧ z = ((s.size - q.length : Nat) : Int)) ∨ (z = -1 ∧ 1 ≤ gk ∧ ∃ r, skipB false (s.data.toList.drop b) = 41 :: r ∧ res = .ok (finD pair d acc) r) ∨
        ((z = -1 ∧ a ≤ b ∧ acc.length ≤ b ∧ 2 * (s.size - b) + 2 ≤ gk ∧ d = nullD) ∧ pair = true ∧ acc ≠ [] ∧ ∃ r r1, skipB false (s.data.toList.drop b) = 46 :: r ∧ Rd .one r r1 ∧ ((∃ q, r1 = .bad q ∧ res = .bad q) ∨ ∃ d q, r1 = .ok d q ∧ ((headN (skipB false q) ≠ 41 ∧ res = .bad (skipB false q)) ∨ ∃ z, skipB false q = 41 :: z ∧ res = .ok (Dt.chain d acc) z))) ∨
        ((z = -1 ∧ a ≤ b ∧ acc.length ≤ b ∧ 2 * (s.size - b) + 2 ≤ gk ∧ d = nullD) ∧ headN (skipB false (s.data.toList.drop b)) ≠ 41 ∧ (pair = false ∨ acc = [] ∨ headN (skipB false (s.data.toList.drop b)) ≠ 46) ∧ ∃ r1, Rd .one (skipB false (s.data.toList.drop b)) r1 ∧ ((∃ q, r1 = .bad q ∧ res = .bad q) ∨ ∃ d q, r1 = .ok d q ∧ q.length < (skipB false (s.data.toList.drop b)).length ∧ Rd (md pair (acc ++ [d])) q res)) := by
      rcases hst with ⟨h1, h2, h3, h4, h5, hrd⟩ | h | h
      · rcases data_view hrd with ⟨r, h6, h7⟩ | h6 | h6
        · exact Or.inr (Or.inl ⟨h1, by omega, r, h6, by rw [h5]; exact h7⟩)
        · exact Or.inr (Or.inr (Or.inl ⟨⟨h1, h2, h3, h4, h5⟩, h6⟩))
        · exact Or.inr (Or.inr (Or.inr ⟨⟨h1, h2, h3, h4, h5⟩, h6⟩))
      · exact Or.inr (Or.inl h)
      · exact Or.inl h
    clear hst
    have hsk0 := skip_len false (s.data.toList.drop b)
    rcases key with ⟨q, hres, hz⟩ | ⟨rfl, hg, r, hsk, hres⟩ | ⟨⟨rfl, hab, hacc2, hg, rfl⟩, rfl, hne, r, r1, hsk, hrd1, hway⟩ | ⟨⟨rfl, hab, hacc2, hg, rfl⟩, h41, h46, r1, hrd1, hway⟩
    · obtain ⟨y, hy⟩ : ∃ y : Nat, s.size - q.length = y := ⟨_, rfl⟩
      rw [hy] at hz
      subst hz
      have hz0 : decide ((y : Int) < 0) = false := by simp
      obtain ⟨q0, q1, q2, q3, q4⟩ := box_cells hheld.box
      have HK := Lib.hid (And.intro hheld (And.intro hat (And.intro hh (And.intro hres hy)))); clear hheld hat hh hres hy hsk0
      go_wp2_with fail
      go_still_tail 3, (by kernel_rfl)
      change wpList _ _ _ _ _ wr.drew
      generalize hW : wr.drew = W
      have hk : Keeps B wr W := hW ▸ (Keeps.refl B wr).drew
      obtain ⟨h1, h2⟩ := held_at HK.out.1 HK.out.2.1 hk hB
      have h3 : W.heap[B]? = some (Tr s b y) := hW ▸ HK.out.2.2.1
      clear hW hk c0 c1 c2 z1 z2 q0 q1 q2 q3 q4
      have y0 := box_frozen h1.res 0
      have y1 := box_frozen h1.res 1
      have y2 := box_frozen h1.res 2
      have y3 := box_frozen h1.res 3
      have y4 := box_frozen h1.res 4
      obtain ⟨v0, v1, v2, v3, v4⟩ := box_cells h1.res
      obtain ⟨q0, q1, q2, q3, q4⟩ := box_cells h1.box
      have HF := Lib.hid (And.intro h1.res (data_fin (res := res) (pair := pair) hB h3 hb hacc h1 h2 (Or.inl ⟨q, HK.out.2.2.2.1, by rw [HK.out.2.2.2.2]⟩)))
      clear h1 h2 h3
      go_wp2_with fail
      refine bodyPost_ret (results_tmp_row rfl _ _ _ w.heap.size _ rfl (run_loadVar_row _ w.heap.size _ _ _ (0, 0) _ (set_five (b0 := .int .i64 k) (b1 := .int .i64 n) (b2 := .int .i64 m) (b3 := .string x) (b4 := .slice p len cap) HF.out.1) Tryd.underlying24 rfl Tryd.sizeDt)) rfl ?_
      exact HF.out.2
    · have C := nextr_any B s b (-1) wr hh hb hs
      rw [hsk, show headN (41 :: r) = 41 from rfl] at C
      have HC := Lib.hid C; clear C
      have HK := Lib.hid (And.intro hheld (And.intro hat hres)); clear hheld hat hh hres hsk hsk0
      go_wp2_with fail
      refine (HC.out).mono ?_
      rintro _ w1 ⟨rfl, hk, b1, hb1, hh1, hd1⟩
      obtain ⟨hlt, hd2⟩ := drop_tail hd1
      obtain ⟨h1, h2⟩ := held_at HK.out.1 HK.out.2.1 hk hB
      clear c0 c1 c2 z1 z2
      obtain ⟨c0, c1, c2, z1, z2⟩ := tr_cells hh1
      have hw1 : IntKind.i64.wrap ((b1 : Int) + 1) = (b1 : Int) + 1 := IntWalk.i64_in _ (by omega)
      have HW := Lib.hid (And.intro h1 (And.intro h2 (And.intro hh1 hd2))); clear h1 h2 hh1 hd1 hd2 hk
      go_wp2_with fail
      generalize hW : w1.setCell ⟨B, 1, none⟩ (.int .i64 ((b1 : Int) + 1)) = W
      have hk : Keeps B w1 W := hW ▸ (Keeps.refl B w1).setCell 1 _
      obtain ⟨h1, h2⟩ := held_at HW.out.1 HW.out.2.1 hk hB
      have h3 : W.heap[B]? = some (Tr s (b1 + 1) (-1)) := hW ▸ tr_set1 (b1 + 1) HW.out.2.2.1 (by omega)
      clear hW hk c0 c1 c2 z1 z2
      obtain ⟨q0, q1, q2, q3, q4⟩ := box_cells h1.box
      have HV := Lib.hid (And.intro h1 (And.intro h2 h3)); clear h1 h2 h3
      go_still_tail 3, (by kernel_rfl)
      change wpList _ _ _ _ _ W.drew
      generalize hW : W.drew = W2
      have hk : Keeps B W W2 := hW ▸ (Keeps.refl B W).drew
      obtain ⟨h1, h2⟩ := held_at HV.out.1 HV.out.2.1 hk hB
      have h3 : W2.heap[B]? = some (Tr s (b1 + 1) (-1)) := hW ▸ HV.out.2.2
      clear hW hk q0 q1 q2 q3 q4
      have y0 := box_frozen h1.res 0
      have y1 := box_frozen h1.res 1
      have y2 := box_frozen h1.res 2
      have y3 := box_frozen h1.res 3
      have y4 := box_frozen h1.res 4
      obtain ⟨v0, v1, v2, v3, v4⟩ := box_cells h1.res
      obtain ⟨q0, q1, q2, q3, q4⟩ := box_cells h1.box
      have HF := Lib.hid (And.intro h1.res (data_fin (res := res) (pair := pair) hB h3 (by omega) hacc h1 h2 (Or.inr ⟨by rw [HW.out.2.2.2]; exact HK.out.2.2, rfl⟩)))
      clear h1 h2 h3
      go_wp2_with fail
      refine bodyPost_ret (results_tmp_row rfl _ _ _ w.heap.size _ rfl (run_loadVar_row _ w.heap.size _ _ _ (0, 0) _ (set_five (b0 := .int .i64 k) (b1 := .int .i64 n) (b2 := .int .i64 m) (b3 := .string x) (b4 := .slice p len cap) HF.out.1) Tryd.underlying24 rfl Tryd.sizeDt)) rfl ?_
      exact HF.out.2
    · have C := nextr_any B s b (-1) wr hh hb hs
      rw [hsk, show headN (46 :: r) = 46 from rfl] at C
      have HC := Lib.hid C; clear C
      have hpos : (0 : Int) < acc.length := by have := List.length_pos_iff.2 hne; omega
      have HK := Lib.hid (And.intro hheld (And.intro hrd1 hway)); clear hheld hat hh hrd1 hway
      rw [hsk] at hsk0
      have HSK := Lib.hid hsk0; clear hsk hsk0
      go_wp2_with fail
      refine (HC.out).mono ?_
      rintro _ w1 ⟨rfl, hk, b1, hb1, hh1, hd1⟩
      obtain ⟨hlt, hd2⟩ := drop_tail hd1
      have h1 := HK.out.1.on hk hB
      clear c0 c1 c2 z1 z2
      obtain ⟨c0, c1, c2, z1, z2⟩ := tr_cells hh1
      have hw1 : IntKind.i64.wrap ((b1 : Int) + 1) = (b1 : Int) + 1 := IntWalk.i64_in _ (by omega)
      have heldW := h1.on ((Keeps.refl B w1).setCell 1 (.int .i64 ((b1 : Int) + 1))) hB
      have hhW := tr_set1 (b1 + 1) hh1 (show ((b1 : Int) + 1) = ((b1 + 1 : Nat) : Int) by omega)
      have C := fun D' => IH.out B s (b1 + 1) _ r1 D' (by have h3 := HSK.out; have h4 := congrArg List.length hd2; simp at h3 h4; omega) hhW (by omega) hs (hd2.symm ▸ HK.out.2.1)
      have HC2 := Lib.hid C
      have HW := Lib.hid heldW
      clear C hh1 hd1 hd2 hk h1 heldW hhW
      go_wp2_with fail
      refine (HC2.out _).mono ?_
      rintro _ w3 ⟨hk3, d3, v3, b3, z3, rfl, hat3, hb3, hh3, hst3⟩
      obtain ⟨dk, dn, dd, ds, dp, dlen, dcap, rfl⟩ := at_five hat3
      have held3 := HW.out.on hk3 hB
      have y0 := box_frozen held3.box 0
      have y1 := box_frozen held3.box 1
      have y2 := box_frozen held3.box 2
      have y3 := box_frozen held3.box 3
      have y4 := box_frozen held3.box 4
      obtain ⟨v0, v1, v2, v3, v4⟩ := box_cells held3.box
      have held4 := held3.boxed hB dk dn dd ds (.slice dp dlen dcap)
      have hh4 := (set_five_other (w := w3) (B := w.heap.size + 1) (k := B) (b0 := .int .i64 dk) (b1 := .int .i64 dn) (b2 := .int .i64 dd) (b3 := .string ds) (b4 := .slice dp dlen dcap) (by omega)).trans hh3
      have hat4 := hat3.on (fun b o x hx => off_on (X := old _) (Y := old (w.heap.size + 2)) (w' := ((((w3.setCell ⟨w.heap.size + 1, 0, none⟩ (.int .i64 dk)).setCell ⟨w.heap.size + 1, 1, none⟩ (.int .i64 dn)).setCell ⟨w.heap.size + 1, 2, none⟩ (.int .i64 dd)).setCell ⟨w.heap.size + 1, 3, none⟩ (.string ds)).setCell ⟨w.heap.size + 1, 4, none⟩ (.slice dp dlen dcap)) (fun b _ hx => decide_eq_false (by have := of_decide_eq_false hx; have := HW.out.size; omega)) (fun b _ hx => set_five_other (by have := of_decide_eq_false hx; have := HW.out.size; omega)) b o x hx)
      clear c0 c1 c2 z1 z2 hh3 hk3 hat3 held3
      have key2 : (∃ q, res = .bad q ∧ z3 = ((s.size - q.length : Nat) : Int)) ∨ (z3 = -1 ∧ ((headN (skipB false (s.data.toList.drop b3)) ≠ 41 ∧ res = .bad (skipB false (s.data.toList.drop b3))) ∨ ∃ z, skipB false (s.data.toList.drop b3) = 41 :: z ∧ res = .ok (Dt.chain d3 acc) z)) := by
        rcases hst3 with ⟨q, e1, e2⟩ | ⟨e1, e2⟩
        · rcases HK.out.2.2 with ⟨q', e3, e4⟩ | ⟨d', q', e3, h⟩
          · obtain rfl := Res.bad.inj (e1.symm.trans e3)
            exact Or.inl ⟨q, e4, e2⟩
          · cases e1.symm.trans e3
        · rcases HK.out.2.2 with ⟨q', e3, e4⟩ | ⟨d', q', e3, h⟩
          · cases e1.symm.trans e3
          · obtain ⟨rfl, rfl⟩ := Res.ok.inj (e1.symm.trans e3)
            exact Or.inr ⟨e2, h⟩
      clear hst3
      rcases key2 with ⟨q, hres, hz⟩ | ⟨rfl, ⟨hn41, hres⟩ | ⟨z, hsq, hres⟩⟩
      · obtain ⟨y, hy⟩ : ∃ y : Nat, s.size - q.length = y := ⟨_, rfl⟩
        rw [hy] at hz
        subst hz
        have hz0 : decide ((y : Int) < 0) = false := by simp
        obtain ⟨c0, c1, c2, z1, z2⟩ := tr_cells hh4
        have HF := Lib.hid (And.intro hh4 (And.intro held4 (And.intro hat4 (And.intro hres hy)))); clear hh4 held4 hat4 hres hy
        go_wp2_with fail
        go_roundg 0
        case measure => omega
        case rel => exact ⟨acc, xs, b3, y, dk, dn, dd, ds, dp, dlen, dcap, d3, hacc, hb3, HF.out.1, HF.out.2.1, HF.out.2.2.1, Or.inr (Or.inr ⟨q, HF.out.2.2.2.1, by rw [HF.out.2.2.2.2]⟩)⟩
      · obtain ⟨c0, c1, c2, z1, z2⟩ := tr_cells hh4
        have C := nextr_any B s b3 (-1) _ hh4 hb3 hs
        obtain ⟨H, hH⟩ : ∃ H, headN (skipB false (s.data.toList.drop b3)) = H := ⟨_, rfl⟩
        rw [hH] at C hn41
        have t41 : (H != 41) = true := bne_iff_ne.2 hn41
        have HC3 := Lib.hid C
        have HF := Lib.hid (And.intro held4 (And.intro hat4 hres)); clear hh4 held4 hat4 hres C hH
        go_wp2_with fail
        refine (HC3.out).mono ?_
        rintro _ w5 ⟨rfl, hk5, b5, hb5, hh5, hd5⟩
        obtain ⟨h5, a5⟩ := held_at HF.out.1 HF.out.2.1 hk5 hB
        clear c0 c1 c2 z1 z2
        obtain ⟨c0, c1, c2, z1, z2⟩ := tr_cells hh5
        have HX := Lib.hid (failr_any B s b5 b5 w5 hh5)
        have HF5 := Lib.hid (And.intro h5 (And.intro a5 hd5)); clear h5 a5 hd5 hk5 hh5
        go_wp2_with fail
        refine (HX.out).mono ?_
        rintro _ w6 ⟨rfl, hk6, hh6⟩
        obtain ⟨h6, a6⟩ := held_at HF5.out.1 HF5.out.2.1 hk6 hB
        have HF6 := Lib.hid (And.intro h6 (And.intro a6 hh6)); clear h6 a6 hh6 hk6
        go_wp2_with fail
        go_roundg 0
        case measure => omega
        case rel => exact ⟨acc, xs, b5, b5, dk, dn, dd, ds, dp, dlen, dcap, d3, hacc, hb5, HF6.out.2.2, HF6.out.1, HF6.out.2.1, Or.inr (Or.inr ⟨_, HF.out.2.2, by rw [← HF5.out.2.2]; simp; omega⟩)⟩
      · obtain ⟨c0, c1, c2, z1, z2⟩ := tr_cells hh4
        have C := nextr_any B s b3 (-1) _ hh4 hb3 hs
        rw [hsq, show headN (41 :: z) = 41 from rfl] at C
        have t41 : ((41 : Int) != 41) = false := rfl
        have HC3 := Lib.hid C
        have HF := Lib.hid (And.intro held4 (And.intro hat4 (And.intro hres hsq))); clear hh4 held4 hat4 hres hsq C
        go_wp2_with fail
        refine (HC3.out).mono ?_
        rintro _ w5 ⟨rfl, hk5, b5, hb5, hh5, hd5⟩
        obtain ⟨h5, a5⟩ := held_at HF.out.1 HF.out.2.1 hk5 hB
        have HF5 := Lib.hid (And.intro h5 (And.intro a5 (And.intro hd5 hh5))); clear h5 a5 hd5 hk5 hh5
        go_wp2_with fail
        go_roundg 1
        case measure => omega
        case rel => exact ⟨acc, xs, b5, -1, dk, dn, dd, ds, dp, dlen, dcap, d3, hacc, hb5, HF5.out.2.2.2, HF5.out.1, HF5.out.2.1, Or.inr (Or.inl ⟨rfl, Nat.le_refl _, z, by rw [HF5.out.2.2.1]; exact skip_stays HF.out.2.2.2 z, HF.out.2.2.1⟩)⟩
    · obtain ⟨H, hH⟩ : ∃ H, headN (skipB false (s.data.toList.drop b)) = H := ⟨_, rfl⟩
      obtain ⟨M, hM⟩ : ∃ M, md pair = M := ⟨_, rfl⟩
      rw [hM] at hway
      have C := nextr_any B s b (-1) wr hh hb hs
      rw [hH] at C h41 h46
      have t41 : (H == 41) = false := beq_eq_false_iff_ne.2 h41
      have ways : (H == 46) = false ∨ ((H == 46) = true ∧ pair = false) ∨ ((H == 46) = true ∧ pair = true ∧ acc = []) := by
        by_cases e : (H == 46) = true
        · rcases h46 with h | h | h
          · exact Or.inr (Or.inl ⟨e, h⟩)
          · cases pair
            · exact Or.inr (Or.inl ⟨e, rfl⟩)
            · exact Or.inr (Or.inr ⟨e, rfl, h⟩)
          · exact absurd (beq_iff_eq.1 e) h
        · exact Or.inl (Bool.eq_false_iff.2 e)
      have HC := Lib.hid C; clear C
      have HAT := Lib.hid hat
      have HK := Lib.hid (And.intro hheld (And.intro hrd1 hway)); clear hheld hat hh hrd1 hway hH h41 h46
      have HSK := Lib.hid hsk0; clear hsk0
      have ha0 : 0 ≤ acc.length := Nat.zero_le _
      rcases ways with t46 | ⟨t46, rfl⟩ | ⟨t46, rfl, hem⟩
      case' inr.inr =>
        have hpos : (acc.length : Int) ≤ 0 := by rw [hem]; simp
        clear hem
      all_goals
        go_wp2_with fail
        refine (HC.out).mono ?_
        rintro _ w1 ⟨rfl, hk, b1, hb1, hh1, hd1⟩
        have h1 := HK.out.1.on hk hB
        have hb01 : b ≤ b1 := by have h3 := HSK.out; have h4 := congrArg List.length hd1; simp at h3 h4; omega
        have C := fun D' => IH.out B s b1 w1 r1 D' (by omega) hh1 hb1 hs (hd1.symm ▸ HK.out.2.1)
        have HC2 := Lib.hid C
        have HW := Lib.hid h1
        have HD1 := Lib.hid hd1
        clear C hh1 hd1 hk h1
        go_wp2_with fail
        refine (HC2.out _).mono ?_
        rintro _ w3 ⟨hk3, d3, v3, b3, z3, rfl, hat3, hb3, hh3, hst3⟩
        obtain ⟨dk, dn, dd, ds, dp, dlen, dcap, rfl⟩ := at_five hat3
        have held3 := HW.out.on hk3 hB
        have hatx := hat3.on (xo_up HW.out)
        have key2 : (∃ q, res = .bad q ∧ z3 = ((s.size - q.length : Nat) : Int)) ∨ (z3 = -1 ∧ b1 < b3 ∧ Rd (M (acc ++ [d3])) (s.data.toList.drop b3) res) := by
          rcases hst3 with ⟨q, e1, e2⟩ | ⟨e1, e2⟩
          · rcases HK.out.2.2 with ⟨q', e3, e4⟩ | ⟨d', q', e3, hl, h⟩
            · obtain rfl := Res.bad.inj (e1.symm.trans e3)
              exact Or.inl ⟨q, e4, e2⟩
            · cases e1.symm.trans e3
          · rcases HK.out.2.2 with ⟨q', e3, e4⟩ | ⟨d', q', e3, hl, h⟩
            · cases e1.symm.trans e3
            · obtain ⟨rfl, rfl⟩ := Res.ok.inj (e1.symm.trans e3)
              rw [← HD1.out] at hl
              simp at hl
              exact Or.inr ⟨e2, by omega, h⟩
        have HK3 := Lib.hid (And.intro held3 (And.intro hatx (And.intro hh3 key2)))
        have hsz3 := held3.size
        clear hat3 hh3 held3 hatx hk3 hst3 key2
        obtain ⟨i0', hi, hz⟩ := Option.map_eq_some_iff.1 Tryd.infoDt
        simp only [Prod.mk.injEq] at hz
        obtain ⟨hz0, hz1, hz2⟩ := hz
        have HI0 := Lib.hid (And.intro hi (And.intro hz0 (And.intro hz1 hz2)))
        clear hi hz0 hz1 hz2
        go_wp2_with (first
          | (at_builtin; refine wpList_append_own_at _ rfl (.tmp 67) (.tmp 72) 22 rfl (w.heap.size + 2) 24 i0' (.agg #[.int .i64 0, .int .i64 0, .int .i64 0, .string ⟨#[]⟩, .slice none 0 0]) 5 64 Tryd.underlying22 HI0.out.1 HI0.out.2.1 HI0.out.2.2.1 HI0.out.2.2.2 rfl (by decide) _ _ _ rfl (HK3.out.1.own.alloc _) ⟨w3.heap.size, 0, none⟩ 1 1 [.int .i64 dk, .int .i64 dn, .int .i64 dd, .string ds, .slice dp dlen dcap] rfl rfl (five_new _ _ _ _ _ _ _) (by intro u hu; simp at hu; rcases hu with rfl | rfl | rfl | rfl | rfl <;> rfl) (by unfold maxLen; omega) (by omega) (by simp; omega) ?_
             intro v4 w4 hown4 hgrow4 hnil4 hat4
             have HP := Lib.hid (And.intro hown4 (And.intro hgrow4 hat4))
             clear hown4 hgrow4 hnil4 hat4))
        go_roundg (2 * (s.size - b1))
        case measure => omega
        case rel =>
          obtain ⟨h1, h2⟩ := HK3.out.1.push HK3.out.2.1 hB _ HP.out.1 HP.out.2.1 HP.out.2.2
          refine ⟨acc ++ [d3], _, b3, z3, k, n, m, x, p, len, cap, nullD, by simp; omega, hb3, (h2 B (by omega)).trans HK3.out.2.2.1, h1, null_five HAT.out _, ?_⟩
          rcases HK3.out.2.2.2 with h | ⟨h3, h4, h5⟩
          · exact Or.inr (Or.inr h)
          · exact Or.inl ⟨h3, by omega, by simp; omega, by omega, rfl, by rw [hM]; exact h5⟩
end Go.Proofs.YtabofebepefbgaaDoor.Dat

/- The reference's reader: what stands behind a #. -/
namespace Go.Proofs.YtabofebepefbgaaDoor.Dat
open Go.RowKit
open Go.Proofs.YtabofebepefbgaaDoor (textL parse res outL)
open NumPlain (rightB)
set_option linter.unusedVariables false

theorem one_none {l : List UInt8} {res : Res Dt} (h : Rd .one l res) (e : skipB false l = []) : res = .bad [] := by
  generalize hm : Md.one = mm at h
  cases h with
  | none h => rfl
  | str h => rw [e] at h; cases h
  | word h n1 n2 n3 n4 => rw [e] at h; cases h
  | quoteBad h hb => rw [e] at h; cases h
  | quote h hb => rw [e] at h; cases h
  | list h hb => rw [e] at h; cases h
  | hashEnd h => rfl
  | hashLeaf h hz => rw [e] at h; cases h
  | hashVec h hb => rw [e] at h; cases h
  | hashBad h hz hn => rw [e] at h; cases h
  | _ => cases hm
theorem one_str {l r : List UInt8} {res : Res Dt} (h : Rd .one l res) (e : skipB false l = 34 :: r) : res = strR r := by
  generalize hm : Md.one = mm at h
  cases h with
  | none h => rw [e] at h; cases h
  | str h => rw [e] at h; obtain ⟨-, rfl⟩ := List.cons.inj h; rfl
  | word h n1 n2 n3 n4 => rw [e] at h; obtain ⟨rfl, -⟩ := List.cons.inj h; exact absurd rfl n3
  | quoteBad h hb => rw [e] at h; cases h
  | quote h hb => rw [e] at h; cases h
  | list h hb => rw [e] at h; cases h
  | hashEnd h => rw [e] at h; cases h
  | hashLeaf h hz => rw [e] at h; cases h
  | hashVec h hb => rw [e] at h; cases h
  | hashBad h hz hn => rw [e] at h; cases h
  | _ => cases hm
theorem one_list {l r : List UInt8} {res : Res Dt} (h : Rd .one l res) (e : skipB false l = 40 :: r) : Rd (.list []) r res := by
  generalize hm : Md.one = mm at h
  cases h with
  | none h => rw [e] at h; cases h
  | str h => rw [e] at h; cases h
  | word h n1 n2 n3 n4 => rw [e] at h; obtain ⟨rfl, -⟩ := List.cons.inj h; exact absurd rfl n1
  | quoteBad h hb => rw [e] at h; cases h
  | quote h hb => rw [e] at h; cases h
  | list h hb => rw [e] at h; obtain ⟨-, rfl⟩ := List.cons.inj h; exact hb
  | hashEnd h => rw [e] at h; cases h
  | hashLeaf h hz => rw [e] at h; cases h
  | hashVec h hb => rw [e] at h; cases h
  | hashBad h hz hn => rw [e] at h; cases h
  | _ => cases hm
theorem one_quote {l r : List UInt8} {res : Res Dt} (h : Rd .one l res) (e : skipB false l = 39 :: r) : ∃ r1, Rd .one r r1 ∧ ((∃ q, r1 = .bad q ∧ res = .bad q) ∨ ∃ d q, r1 = .ok d q ∧ res = .ok (Dt.chain nullD [quoteD, d]) q) := by
  generalize hm : Md.one = mm at h
  cases h with
  | none h => rw [e] at h; cases h
  | str h => rw [e] at h; cases h
  | word h n1 n2 n3 n4 => rw [e] at h; obtain ⟨rfl, -⟩ := List.cons.inj h; exact absurd rfl n2
  | quoteBad h hb => rw [e] at h; obtain ⟨-, rfl⟩ := List.cons.inj h; exact ⟨_, hb, Or.inl ⟨_, rfl, rfl⟩⟩
  | quote h hb => rw [e] at h; obtain ⟨-, rfl⟩ := List.cons.inj h; exact ⟨_, hb, Or.inr ⟨_, _, rfl, rfl⟩⟩
  | list h hb => rw [e] at h; cases h
  | hashEnd h => rw [e] at h; cases h
  | hashLeaf h hz => rw [e] at h; cases h
  | hashVec h hb => rw [e] at h; cases h
  | hashBad h hz hn => rw [e] at h; cases h
  | _ => cases hm
theorem one_word {l r : List UInt8} {c : UInt8} {res : Res Dt} (h : Rd .one l res) (e : skipB false l = c :: r) (m1 : c ≠ 40) (m2 : c ≠ 39) (m3 : c ≠ 34) (m4 : c ≠ 35) : res = wordR (c :: r) := by
  generalize hm : Md.one = mm at h
  cases h with
  | none h => rw [e] at h; cases h
  | str h => rw [e] at h; obtain ⟨rfl, -⟩ := List.cons.inj h; exact absurd rfl m3
  | word h n1 n2 n3 n4 => rw [e] at h; obtain ⟨rfl, rfl⟩ := List.cons.inj h; rfl
  | quoteBad h hb => rw [e] at h; obtain ⟨rfl, -⟩ := List.cons.inj h; exact absurd rfl m2
  | quote h hb => rw [e] at h; obtain ⟨rfl, -⟩ := List.cons.inj h; exact absurd rfl m2
  | list h hb => rw [e] at h; obtain ⟨rfl, -⟩ := List.cons.inj h; exact absurd rfl m1
  | hashEnd h => rw [e] at h; obtain ⟨rfl, -⟩ := List.cons.inj h; exact absurd rfl m4
  | hashLeaf h hz => rw [e] at h; obtain ⟨rfl, -⟩ := List.cons.inj h; exact absurd rfl m4
  | hashVec h hb => rw [e] at h; obtain ⟨rfl, -⟩ := List.cons.inj h; exact absurd rfl m4
  | hashBad h hz hn => rw [e] at h; obtain ⟨rfl, -⟩ := List.cons.inj h; exact absurd rfl m4
  | _ => cases hm
/-- Behind a #. -/
def HashR (r : List UInt8) (res : Res Dt) : Prop :=
  (r = [] ∧ res = .bad []) ∨ ∃ m r', r = m :: r' ∧ ((∃ d, leafH m = some d ∧ res = .ok d r') ∨ (m = 40 ∧ Rd (.vec []) r' res) ∨ (leafH m = Option.none ∧ m ≠ 40 ∧ res = .bad (m :: r')))
theorem one_hash {l r : List UInt8} {res : Res Dt} (h : Rd .one l res) (e : skipB false l = 35 :: r) : HashR r res := by
  generalize hm : Md.one = mm at h
  cases h with
  | none h => rw [e] at h; cases h
  | str h => rw [e] at h; cases h
  | word h n1 n2 n3 n4 => rw [e] at h; obtain ⟨rfl, -⟩ := List.cons.inj h; exact absurd rfl n4
  | quoteBad h hb => rw [e] at h; cases h
  | quote h hb => rw [e] at h; cases h
  | list h hb => rw [e] at h; cases h
  | hashEnd h => rw [e] at h; obtain ⟨-, rfl⟩ := List.cons.inj h; exact Or.inl ⟨rfl, rfl⟩
  | hashLeaf h hz => rw [e] at h; obtain ⟨-, rfl⟩ := List.cons.inj h; exact Or.inr ⟨_, _, rfl, Or.inl ⟨_, hz, rfl⟩⟩
  | hashVec h hb => rw [e] at h; obtain ⟨-, rfl⟩ := List.cons.inj h; exact Or.inr ⟨_, _, rfl, Or.inr (Or.inl ⟨rfl, hb⟩)⟩
  | hashBad h hz hn => rw [e] at h; obtain ⟨-, rfl⟩ := List.cons.inj h; exact Or.inr ⟨_, _, rfl, Or.inr (Or.inr ⟨hz, hn, rfl⟩)⟩
  | _ => cases hm
/-- What a callee told is told on, out of the result's box. -/
theorem toldr_up {B : Nat} {s : ByteArray} {res : Res Dt} {w W w2 : World} {k n m : Int} {x : ByteArray} {p : Option Addr} {len cap : Nat} (hB : B < w.heap.size) (hk : Keeps B w W) (hsz : w.heap.size < W.heap.size) (h : Toldr B s res W (.returned (.agg #[.int .i64 k, .int .i64 n, .int .i64 m, .string x, .slice p len cap])) w2) :
    Toldr B s res w (.returned (.agg #[.int .i64 k, .int .i64 n, .int .i64 m, .string x, .slice p len cap])) (((((w2.setCell ⟨w.heap.size, 0, none⟩ (.int .i64 k)).setCell ⟨w.heap.size, 1, none⟩ (.int .i64 n)).setCell ⟨w.heap.size, 2, none⟩ (.int .i64 m)).setCell ⟨w.heap.size, 3, none⟩ (.string x)).setCell ⟨w.heap.size, 4, none⟩ (.slice p len cap)) := by
  obtain ⟨hk2, d, v, a, z, e, hd, ha, hh, hz⟩ := h
  obtain rfl := Ending.returned.inj e
  exact ⟨keeps_five (hk.trans hk2) (Nat.le_refl _), d, _, a, z, rfl, hd.on fun b o x hx => off_on (X := old W.heap.size) (fun b _ hx => decide_eq_false (by have := of_decide_eq_false hx; omega)) (fun b _ hx => set_five_other (by have := of_decide_eq_false hx; omega)) b o x hx,
    ha, (set_five_other (Nat.ne_of_lt hB)).trans hh, hz⟩
theorem toldr_five {B : Nat} {s : ByteArray} {res : Res Dt} {w w2 : World} {e : Ending} (h : Toldr B s res w e w2) : ∃ k n m x p len cap, e = .returned (.agg #[.int .i64 k, .int .i64 n, .int .i64 m, .string x, .slice p len cap]) := by
  obtain ⟨hk2, d, v, a, z, rfl, hd, -⟩ := h
  obtain ⟨k, n, m, x, p, len, cap, rfl⟩ := at_five hd
  exact ⟨k, n, m, x, p, len, cap, rfl⟩
theorem leaf_none {m : UInt8} (h : leafH m = Option.none) : m ≠ 116 ∧ m ≠ 102 ∧ m ≠ 118 := by
  unfold leafH at h
  refine ⟨?_, ?_, ?_⟩ <;> (intro e; subst e; simp at h)
theorem leaf_some {m : UInt8} {d : Dt} (h : leafH m = some d) : (m = 116 ∧ d = .node 1 1 0 nil8 []) ∨ (m = 102 ∧ d = .node 1 0 0 nil8 []) ∨ (m = 118 ∧ d = .node 5 0 0 nil8 []) := by
  unfold leafH at h
  split at h
  · rename_i e; exact Or.inl ⟨e, (Option.some.inj h).symm⟩
  · split at h
    · rename_i e; exact Or.inr (Or.inl ⟨e, (Option.some.inj h).symm⟩)
    · split at h
      · rename_i e; exact Or.inr (Or.inr ⟨e, (Option.some.inj h).symm⟩)
      · cases h

set_option maxHeartbeats 8000000 in
set_option maxRecDepth 100000 in
theorem hashr_any (N : Nat) (ih : OneAtR N) (B : Nat) (s : ByteArray) (a : Nat) (w : World) (res : Res Dt) (D : Int) (r : List UInt8) (hN : s.size - a ≤ N) (hb : w.heap[B]? = some (Tr s a (-1))) (ha : a < s.size) (hs : s.size ≤ 65536) (hd : s.data.toList.drop (a + 1) = r) (hr : HashR r res) :
    Calls Tryd.prog 69 #[.pointer (some ⟨B, 0, none⟩), .int .i64 D] w fun e w' => Toldr B s res w e w' := by
  have hB : B < w.heap.size := (Array.getElem?_eq_some_iff.1 hb).1
  have hh0 : (w.alloc Zero5).heap[B]? = some (Tr s a (-1)) := block_on (box_below _ _) hb
  have hbx0 : (w.alloc Zero5).heap[w.heap.size]? = some Zero5 := at_new _ _
  have hk0 : Keeps B w (w.alloc Zero5) := Keeps.of (box_below _ _)
  have hsz0 : w.heap.size < (w.alloc Zero5).heap.size := by simp
  obtain ⟨W0, hW0⟩ : ∃ W, w.alloc Zero5 = W := ⟨_, rfl⟩
  rw [hW0] at hh0 hbx0 hk0 hsz0
  obtain ⟨c0, c1, c2, z1, z2⟩ := tr_cells hh0
  have hw0 : IntKind.i64.wrap ((a : Int) + 1) = (a : Int) + 1 := IntWalk.i64_in _ (by omega)
  have HH0 := Lib.hid (And.intro hh0 (And.intro hbx0 hk0)); clear hh0 hbx0 hk0
  have HR := Lib.hid hr; clear hr
  have IH := Lib.hid ih; clear ih
  clear hb
  go_enter Tryd.func69, Tryd.ntmps69
  go_wp2_with (first | rw [hW0] | fail)
  generalize hW1 : W0.setCell ⟨B, 1, none⟩ (.int .i64 ((a : Int) + 1)) = W1
  obtain ⟨p, hp⟩ : ∃ p, a + 1 = p := ⟨_, rfl⟩
  have hh1 : W1.heap[B]? = some (Tr s p (-1)) := hW1 ▸ tr_set1 p HH0.out.1 (by omega)
  have hbx1 : W1.heap[w.heap.size]? = some Zero5 := hW1 ▸ (Below.heap_setCell _ _ _ _ (Nat.ne_of_gt hB)).trans HH0.out.2.1
  have hk1 : Keeps B w W1 := hW1 ▸ HH0.out.2.2.setCell 1 _
  have hsz1 : w.heap.size < W1.heap.size := by rw [← hW1]; simpa [World.setCell] using hsz0
  clear hW1 hW0 HH0 hsz0 c0 c1 c2 z1 z2
  rw [hp] at hd
  have hps : p ≤ s.size := by omega
  have p0 : (0 : Int) ≤ p := by omega
  obtain ⟨c0, c1, c2, z1, z2⟩ := tr_cells hh1
  rcases HR.out with ⟨hr0, hres⟩ | ⟨m, r', hr0, hway⟩
  · have hpe : p = s.size := by have := congrArg List.length hd; rw [hr0] at this; simp at this; omega
    subst hpe
    have HX := Lib.hid (fun k => failr_any B s s.size s.size (W1.drewN k) hh1)
    have HK := Lib.hid (And.intro hbx1 (And.intro hk1 hres)); clear hbx1 hk1 hres hh1 hd
    go_wp2_with fail
    go_quiet (fail)
    go_wp2_with fail
    refine (HX.out _).mono ?_
    rintro _ W2 ⟨rfl, hk2, hh2⟩
    have hbx2 := keeps_block hk2 (show (W1.drewN _).heap[w.heap.size]? = some Zero5 from HK.out.1) (Nat.ne_of_gt hB)
    have y0 := box_frozen hbx2 0
    have y1 := box_frozen hbx2 1
    have y2 := box_frozen hbx2 2
    have y3 := box_frozen hbx2 3
    have y4 := box_frozen hbx2 4
    obtain ⟨v0, v1, v2, v3, v4⟩ := box_cells hbx2
    have HK2 := Lib.hid (And.intro hbx2 (And.intro ((HK.out.2.1.trans (Keeps.of (below_drewN _ _))).trans hk2) hh2)); clear hbx2 hk2 hh2
    go_wp2_with fail
    refine bodyPost_ret (results_cell_row rfl _ _ w.heap.size 24 _ (0, 0) _ rfl (set_five (b0 := .int .i64 4) (b1 := .int .i64 0) (b2 := .int .i64 0) (b3 := .string ⟨#[]⟩) (b4 := .slice none 0 0) HK2.out.1) Tryd.underlying24 rfl Tryd.sizeDt) rfl ?_
    rw [HK.out.2.2]
    exact fin_bad hB HK2.out.2.1 HK2.out.2.2 (Nat.le_refl _) (by simp) (null_at _ _)
  · rw [hr0] at hd
    obtain ⟨hlt, hd2⟩ := drop_tail hd
    have hm : s[p] = m := by rw [drop_cons s p hlt] at hd; exact (List.cons.inj hd).1
    have p1 : (p : Int) < s.size := by omega
    have e2 : ((p : Int) == (s.size : Int)) = false := by rw [beq_eq_false_iff_ne]; omega
    have hw1 : IntKind.i64.wrap ((p : Int) + 1) = (p : Int) + 1 := IntWalk.i64_in _ (by omega)
    have hhn : ∀ k, ((W1.drewN k).setCell ⟨B, 1, none⟩ (.int .i64 ((p : Int) + 1))).heap[B]? = some (Tr s (p + 1) (-1)) := fun k => tr_set1 (w := W1.drewN k) (p + 1) hh1 (by omega)
    have hbxn : ∀ k, ((W1.drewN k).setCell ⟨B, 1, none⟩ (.int .i64 ((p : Int) + 1))).heap[w.heap.size]? = some Zero5 := fun k => (Below.heap_setCell _ _ _ _ (Nat.ne_of_gt hB)).trans hbx1
    have hkn : ∀ k, Keeps B w ((W1.drewN k).setCell ⟨B, 1, none⟩ (.int .i64 ((p : Int) + 1))) := fun k => (hk1.trans (Keeps.of (below_drewN _ _))).setCell 1 _
    have HHN := Lib.hid hhn
    have HBXN := Lib.hid hbxn
    have HKN := Lib.hid hkn
    have HM := Lib.hid hm
    have HD := Lib.hid hd
    clear hhn hbxn hkn hh1 hbx1 hk1 hd hm
    rcases hway with ⟨d, hlf, hres⟩ | ⟨rfl, hvec⟩ | ⟨hlf, hm40, hres⟩
    · rcases leaf_some hlf with ⟨rfl, rfl⟩ | ⟨rfl, rfl⟩ | ⟨rfl, rfl⟩
      · have t1 : ((s[p].toNat : Int) == 116) = true := by rw [HM.out]; rfl
        go_wp2_with fail
        go_quiet (fail)
        generalize nq = n1
        go_wp2_with fail
        go_quiet (fail)
        generalize nq = n2
        have hbx := HBXN.out (n1 + n2)
        have y0 := box_frozen hbx 0
        have y1 := box_frozen hbx 1
        have y2 := box_frozen hbx 2
        have y3 := box_frozen hbx 3
        have y4 := box_frozen hbx 4
        obtain ⟨v0, v1, v2, v3, v4⟩ := box_cells hbx
        have HK := Lib.hid (And.intro hbx (And.intro (HKN.out (n1 + n2)) (HHN.out (n1 + n2)))); clear hbx
        go_wp2_with fail
        refine bodyPost_ret (results_cell_row rfl _ _ w.heap.size 24 _ (0, 0) _ rfl (set_five (b0 := .int .i64 1) (b1 := .int .i64 1) (b2 := .int .i64 0) (b3 := .string ⟨#[]⟩) (b4 := .slice none 0 0) HK.out.1) Tryd.underlying24 rfl Tryd.sizeDt) rfl ?_
        exact fin_ok hB HK.out.2.1 HK.out.2.2 (by omega) (by rw [hd2]; exact hres) (leaf_off _ _ _ _ _ (by unfold I64; omega) (by unfold I64; omega) (by unfold I64; omega) (by unfold maxLen; decide))
      · have t1 : ((s[p].toNat : Int) == 116) = false := by rw [HM.out]; rfl
        have t2 : ((s[p].toNat : Int) == 102) = true := by rw [HM.out]; rfl
        go_wp2_with fail
        go_quiet (fail)
        generalize nq = n1
        go_wp2_with fail
        go_quiet (fail)
        generalize nq = n2
        have hbx := HBXN.out (n1 + n2)
        have y0 := box_frozen hbx 0
        have y1 := box_frozen hbx 1
        have y2 := box_frozen hbx 2
        have y3 := box_frozen hbx 3
        have y4 := box_frozen hbx 4
        obtain ⟨v0, v1, v2, v3, v4⟩ := box_cells hbx
        have HK := Lib.hid (And.intro hbx (And.intro (HKN.out (n1 + n2)) (HHN.out (n1 + n2)))); clear hbx
        go_wp2_with fail
        refine bodyPost_ret (results_cell_row rfl _ _ w.heap.size 24 _ (0, 0) _ rfl (set_five (b0 := .int .i64 1) (b1 := .int .i64 0) (b2 := .int .i64 0) (b3 := .string ⟨#[]⟩) (b4 := .slice none 0 0) HK.out.1) Tryd.underlying24 rfl Tryd.sizeDt) rfl ?_
        exact fin_ok hB HK.out.2.1 HK.out.2.2 (by omega) (by rw [hd2]; exact hres) (leaf_off _ _ _ _ _ (by unfold I64; omega) (by unfold I64; omega) (by unfold I64; omega) (by unfold maxLen; decide))
      · have t1 : ((s[p].toNat : Int) == 116) = false := by rw [HM.out]; rfl
        have t2 : ((s[p].toNat : Int) == 102) = false := by rw [HM.out]; rfl
        have t3 : ((s[p].toNat : Int) == 118) = true := by rw [HM.out]; rfl
        go_wp2_with fail
        go_quiet (fail)
        generalize nq = n1
        go_wp2_with fail
        go_quiet (fail)
        generalize nq = n2
        have hbx := HBXN.out (n1 + n2)
        have y0 := box_frozen hbx 0
        have y1 := box_frozen hbx 1
        have y2 := box_frozen hbx 2
        have y3 := box_frozen hbx 3
        have y4 := box_frozen hbx 4
        obtain ⟨v0, v1, v2, v3, v4⟩ := box_cells hbx
        have HK := Lib.hid (And.intro hbx (And.intro (HKN.out (n1 + n2)) (HHN.out (n1 + n2)))); clear hbx
        go_wp2_with fail
        refine bodyPost_ret (results_cell_row rfl _ _ w.heap.size 24 _ (0, 0) _ rfl (set_five (b0 := .int .i64 5) (b1 := .int .i64 0) (b2 := .int .i64 0) (b3 := .string ⟨#[]⟩) (b4 := .slice none 0 0) HK.out.1) Tryd.underlying24 rfl Tryd.sizeDt) rfl ?_
        exact fin_ok hB HK.out.2.1 HK.out.2.2 (by omega) (by rw [hd2]; exact hres) (leaf_off _ _ _ _ _ (by unfold I64; omega) (by unfold I64; omega) (by unfold I64; omega) (by unfold maxLen; decide))
    · have t1 : ((s[p].toNat : Int) == 116) = false := by rw [HM.out]; rfl
      have t2 : ((s[p].toNat : Int) == 102) = false := by rw [HM.out]; rfl
      have t3 : ((s[p].toNat : Int) == 118) = false := by rw [HM.out]; rfl
      have t4 : ((s[p].toNat : Int) == 40) = true := by rw [HM.out]; rfl
      go_wp2_with fail
      go_quiet (fail)
      generalize nq = n1
      go_wp2_with fail
      go_quiet (fail)
      generalize nq = n2
      have C := fun D' => data_any N IH.out false B s (p + 1) _ res D' (by omega) (HHN.out (n1 + n2)) (by omega) hs (hd2.symm ▸ hvec)
      have HC := Lib.hid C; clear C
      go_wp2_with fail
      refine (HC.out _).mono ?_
      rintro _ W3 ⟨hk3, acc, d, p3, cap3, k, n, m, x, p2, len2, cap2, b3, z3, rfl, hrow, hat, hl, hb3, hh3, hst⟩
      have hbx3 := keeps_block hk3 (HBXN.out (n1 + n2)) (Nat.ne_of_gt hB)
      have hszc : w.heap.size < ((W1.drewN (n1 + n2)).setCell ⟨B, 1, none⟩ (.int .i64 ((p : Int) + 1))).heap.size := (Array.getElem?_eq_some_iff.1 (HBXN.out (n1 + n2))).1
      have hkc := (HKN.out (n1 + n2)).trans hk3
      have hh4 : (W3.alloc (Five k n m x (.slice p2 len2 cap2))).heap[B]? = some (Tr s b3 z3) := block_on (box_below _ _) hh3
      have hbx4 : (W3.alloc (Five k n m x (.slice p2 len2 cap2))).heap[w.heap.size]? = some Zero5 := block_on (box_below _ _) hbx3
      have hk4 : Keeps B w (W3.alloc (Five k n m x (.slice p2 len2 cap2))) := hkc.trans (Keeps.of (box_below _ _))
      have hrow4 : acc = [] ∨ ∃ b o, p3 = some ⟨b, o, none⟩ ∧ Dt.AllAt (off (W3.alloc (Five k n m x (.slice p2 len2 cap2))) (old (w.heap.size + 1))) acc b o := by
        rcases hrow with h | ⟨b, o, hp3, ha3⟩
        · exact Or.inl h
        · exact Or.inr ⟨b, o, hp3, ha3.on fun b o u hu => off_on (X := old _) (fun b _ hx => decide_eq_false (by have := of_decide_eq_false hx; omega)) (fun b hb' hx => Below.heap_alloc _ _ _ hb') b o u hu⟩
      obtain ⟨W4, hW4⟩ : ∃ W, W3.alloc (Five k n m x (.slice p2 len2 cap2)) = W := ⟨_, rfl⟩
      rw [hW4] at hh4 hbx4 hk4 hrow4
      have y0 := box_frozen hbx4 0
      have y1 := box_frozen hbx4 1
      have y2 := box_frozen hbx4 2
      have y3 := box_frozen hbx4 3
      have y4 := box_frozen hbx4 4
      obtain ⟨v0, v1, v2, v3, v4⟩ := box_cells hbx4
      have HK := Lib.hid (And.intro hbx4 (And.intro hk4 (And.intro hh4 (And.intro hrow4 hst)))); clear hbx4 hk4 hh4 hrow4 hst hrow hat hk3 hbx3 hkc hh3 c0 c1 c2 z1 z2
      go_wp2_with (first | rw [hW4] | fail)
      refine bodyPost_ret (results_cell_row rfl _ _ w.heap.size 24 _ (0, 0) _ rfl (set_five (b0 := .int .i64 7) (b1 := .int .i64 0) (b2 := .int .i64 0) (b3 := .string ⟨#[]⟩) (b4 := .slice p3 acc.length cap3) HK.out.1) Tryd.underlying24 rfl Tryd.sizeDt) rfl ?_
      have hatv : (Dt.node 7 0 0 nil8 acc).At (off W4 (old (w.heap.size + 1))) (.agg #[.int .i64 7, .int .i64 0, .int .i64 0, .string ⟨#[]⟩, .slice p3 acc.length cap3]) := by
        unfold Dt.At
        exact ⟨by unfold I64; omega, by unfold I64; omega, by unfold I64; omega, by unfold maxLen; decide, by unfold maxLen; omega, p3, cap3, rfl, HK.out.2.2.2.1⟩
      rcases HK.out.2.2.2.2 with ⟨q, e1, e2⟩ | ⟨e1, e2⟩
      · rw [e1]
        exact fin_bad hB HK.out.2.1 HK.out.2.2.1 hb3 e2 hatv
      · have h3 := HK.out.2.2.1
        rw [e2] at h3
        exact fin_ok hB HK.out.2.1 h3 hb3 e1 hatv
    · obtain ⟨n116, n102, n118⟩ := leaf_none hlf
      have t1 : ((s[p].toNat : Int) == 116) = false := by rw [HM.out]; exact byte_ne (k := 116) n116
      have t2 : ((s[p].toNat : Int) == 102) = false := by rw [HM.out]; exact byte_ne (k := 102) n102
      have t3 : ((s[p].toNat : Int) == 118) = false := by rw [HM.out]; exact byte_ne (k := 118) n118
      have t4 : ((s[p].toNat : Int) == 40) = false := by rw [HM.out]; exact byte_ne (k := 40) hm40
      have hw2 : IntKind.i64.wrap ((p : Int) + 1 - 1) = (p : Int) := by rw [show (p : Int) + 1 - 1 = p by omega]; exact IntWalk.i64_in _ (by omega)
      have hw3 : IntKind.i64.wrap (p : Int) = (p : Int) := IntWalk.i64_in _ (by omega)
      go_wp2_with fail
      go_quiet (fail)
      generalize nq = n1
      go_wp2_with fail
      go_quiet (fail)
      generalize nq = n2
      obtain ⟨f0, f1, f2, g1, g2⟩ := tr_cells (HHN.out (n1 + n2))
      rw [show (((p + 1 : Nat)) : Int) = (p : Int) + 1 by omega] at f1
      have HX := Lib.hid (failr_any B s (p + 1) p _ (HHN.out (n1 + n2)))
      go_wp2_with fail
      refine (HX.out).mono ?_
      rintro _ W2 ⟨rfl, hk2, hh2⟩
      have hbx2 := keeps_block hk2 (HBXN.out (n1 + n2)) (Nat.ne_of_gt hB)
      have y0 := box_frozen hbx2 0
      have y1 := box_frozen hbx2 1
      have y2 := box_frozen hbx2 2
      have y3 := box_frozen hbx2 3
      have y4 := box_frozen hbx2 4
      obtain ⟨v0, v1, v2, v3, v4⟩ := box_cells hbx2
      have HK2 := Lib.hid (And.intro hbx2 (And.intro ((HKN.out (n1 + n2)).trans hk2) hh2)); clear hbx2 hk2 hh2
      go_wp2_with fail
      refine bodyPost_ret (results_cell_row rfl _ _ w.heap.size 24 _ (0, 0) _ rfl (set_five (b0 := .int .i64 4) (b1 := .int .i64 0) (b2 := .int .i64 0) (b3 := .string ⟨#[]⟩) (b4 := .slice none 0 0) HK2.out.1) Tryd.underlying24 rfl Tryd.sizeDt) rfl ?_
      rw [hres]
      exact fin_bad hB HK2.out.2.1 HK2.out.2.2 (by omega) (by have := congrArg List.length HD.out; simp at this ⊢; omega) (null_at _ _)
end Go.Proofs.YtabofebepefbgaaDoor.Dat

/- The reference's reader: a datum, one theorem a way. -/
namespace Go.Proofs.YtabofebepefbgaaDoor.Dat
open Go.RowKit
open Go.Proofs.YtabofebepefbgaaDoor (textL parse res outL)
open NumPlain (rightB)
set_option linter.unusedVariables false

theorem mark_is {c : UInt8} {b : Bool} (h : wordChar c = b) (W : World) : Calls Tryd.prog 66 #[.int .u8 c.toNat] W fun e w' => e = .returned (.bool b) ∧ ∃ k, w' = W.drewN k := h ▸ markr_any c W
theorem keeps_up {B G : Nat} {w W W' : World} (h : Keeps B w W) (k : Keeps G W W') (hG : w.heap.size ≤ G) : Keeps B w W' :=
  ⟨k.os.trans h.os, k.tape.trans h.tape, k.output.trans h.output, Nat.le_trans h.size k.size, fun i hi hn => (k.block i (Nat.lt_of_lt_of_le hi h.size) (by omega)).trans (h.block i hi hn)⟩

set_option maxHeartbeats 8000000 in
set_option maxRecDepth 100000 in
theorem dat_end (N : Nat) (B : Nat) (s : ByteArray) (a : Nat) (w : World) (res : Res Dt) (D : Int) (hN : s.size - a < N + 1) (hb : w.heap[B]? = some (Tr s a (-1))) (ha : a ≤ s.size) (hs : s.size ≤ 65536) (hq : skipB false (s.data.toList.drop a) = []) (hr : res = .bad []) :
    Calls Tryd.prog 46 #[.pointer (some ⟨B, 0, none⟩), .int .i64 D] w fun e w' => Toldr B s res w e w' := by
  have hB : B < w.heap.size := (Array.getElem?_eq_some_iff.1 hb).1
  have hh0 : (w.alloc Zero5).heap[B]? = some (Tr s a (-1)) := block_on (box_below _ _) hb
  have hbx0 : (w.alloc Zero5).heap[w.heap.size]? = some Zero5 := at_new _ _
  have hk0 : Keeps B w (w.alloc Zero5) := Keeps.of (box_below _ _)
  obtain ⟨W0, hW0⟩ : ∃ W, w.alloc Zero5 = W := ⟨_, rfl⟩
  rw [hW0] at hh0 hbx0 hk0
  have C := nextr_any B s a (-1) W0 hh0 ha hs
  rw [hq, show headN [] = 0 from rfl] at C
  have HC := Lib.hid C
  have HH0 := Lib.hid (And.intro hbx0 hk0); clear C hh0 hbx0 hk0 hb
  have hsk0 := skip_len false (s.data.toList.drop a)
  rw [hq] at hsk0
  clear hq
  go_enter Tryd.func46, Tryd.ntmps46
  go_wp2_with (first | rw [hW0] | fail)
  refine (HC.out).mono ?_
  rintro _ w1 ⟨rfl, hk, p, hps, hh1, hd1⟩
  have hbx1 := keeps_block hk HH0.out.1 (Nat.ne_of_gt hB)
  have hk1 := HH0.out.2.trans hk
  clear hk HH0 HC hW0
  obtain ⟨c0, c1, c2, z1, z2⟩ := tr_cells hh1
  have p0 : (0 : Int) ≤ p := by omega
  have hpe : p = s.size := by have := congrArg List.length hd1; simp at this; omega
  subst hpe
  have HX := Lib.hid (fun k => failr_any B s s.size s.size (w1.drewN k) hh1)
  have HK := Lib.hid (And.intro hbx1 hk1); clear hbx1 hk1 hh1 hd1
  go_wp2_with fail
  go_quiet (fail)
  go_wp2_with fail
  refine (HX.out _).mono ?_
  rintro _ w3 ⟨rfl, hk3, hh3⟩
  have hbx3 := keeps_block hk3 (show (w1.drewN _).heap[w.heap.size]? = some Zero5 from HK.out.1) (Nat.ne_of_gt hB)
  have y0 := box_frozen hbx3 0
  have y1 := box_frozen hbx3 1
  have y2 := box_frozen hbx3 2
  have y3 := box_frozen hbx3 3
  have y4 := box_frozen hbx3 4
  obtain ⟨v0, v1, v2, v3, v4⟩ := box_cells hbx3
  have HK3 := Lib.hid (And.intro hbx3 (And.intro ((HK.out.2.trans (Keeps.of (below_drewN _ _))).trans hk3) hh3)); clear hbx3 hk3 hh3
  go_wp2_with fail
  refine bodyPost_ret (results_cell_row rfl _ _ w.heap.size 24 _ (0, 0) _ rfl (set_five (b0 := .int .i64 4) (b1 := .int .i64 0) (b2 := .int .i64 0) (b3 := .string ⟨#[]⟩) (b4 := .slice none 0 0) HK3.out.1) Tryd.underlying24 rfl Tryd.sizeDt) rfl ?_
  rw [hr]
  exact fin_bad hB HK3.out.2.1 HK3.out.2.2 (Nat.le_refl _) (by simp) (null_at _ _)

set_option maxHeartbeats 8000000 in
set_option maxRecDepth 100000 in
theorem dat_word (N : Nat) (c : UInt8) (r : List UInt8) (B : Nat) (s : ByteArray) (a : Nat) (w : World) (res : Res Dt) (D : Int) (hN : s.size - a < N + 1) (hb : w.heap[B]? = some (Tr s a (-1))) (ha : a ≤ s.size) (hs : s.size ≤ 65536) (hq : skipB false (s.data.toList.drop a) = c :: r) (hwc : wordChar c = true) (hr : res = wordR (c :: r)) :
    Calls Tryd.prog 46 #[.pointer (some ⟨B, 0, none⟩), .int .i64 D] w fun e w' => Toldr B s res w e w' := by
  have hB : B < w.heap.size := (Array.getElem?_eq_some_iff.1 hb).1
  have hh0 : (w.alloc Zero5).heap[B]? = some (Tr s a (-1)) := block_on (box_below _ _) hb
  have hbx0 : (w.alloc Zero5).heap[w.heap.size]? = some Zero5 := at_new _ _
  have hk0 : Keeps B w (w.alloc Zero5) := Keeps.of (box_below _ _)
  obtain ⟨W0, hW0⟩ : ∃ W, w.alloc Zero5 = W := ⟨_, rfl⟩
  rw [hW0] at hh0 hbx0 hk0
  have C := nextr_any B s a (-1) W0 hh0 ha hs
  rw [hq, show headN (c :: r) = (c.toNat : Int) from rfl] at C
  have HC := Lib.hid C
  have HH0 := Lib.hid (And.intro hbx0 hk0); clear C hh0 hbx0 hk0 hb
  have hsk0 := skip_len false (s.data.toList.drop a)
  rw [hq] at hsk0
  clear hq
  have HWC := Lib.hid (mark_is hwc)
  go_enter Tryd.func46, Tryd.ntmps46
  go_wp2_with (first | rw [hW0] | fail)
  refine (HC.out).mono ?_
  rintro _ w1 ⟨rfl, hk, p, hps, hh1, hd1⟩
  have hbx1 := keeps_block hk HH0.out.1 (Nat.ne_of_gt hB)
  have hk1 := HH0.out.2.trans hk
  clear hk HH0 HC hW0
  obtain ⟨c0, c1, c2, z1, z2⟩ := tr_cells hh1
  have p0 : (0 : Int) ≤ p := by omega
  obtain ⟨hlt, hd2⟩ := drop_tail hd1
  have hsp : s[p] = c := by rw [drop_cons s p hlt] at hd1; exact (List.cons.inj hd1).1
  have hpl : s.size - p ≤ s.size - a := by have h4 := congrArg List.length hd1; simp at h4 hsk0; omega
  have p1 : (p : Int) < s.size := by omega
  have e2 : ((p : Int) == (s.size : Int)) = false := by rw [beq_eq_false_iff_ne]; omega
  have HS := Lib.hid (And.intro hsp (And.intro hd1 hd2)); clear hsp hd1 hd2
  have HK1 := Lib.hid (And.intro hbx1 (And.intro hk1 hh1)); clear hbx1 hk1 hh1
  go_wp2_with fail
  go_quiet (fail)
  go_wp2_with fail
  refine (HWC.out _).mono ?_
  rintro _ w2 ⟨rfl, k2, hw2⟩
  have hh2 : w2.heap[B]? = some (Tr s p (-1)) := by rw [hw2]; exact HK1.out.2.2
  have hbx2 : w2.heap[w.heap.size]? = some Zero5 := by rw [hw2]; exact HK1.out.1
  have hk2 : Keeps B w w2 := by rw [hw2]; exact HK1.out.2.1.trans ((Keeps.of (below_drewN _ _)).trans (Keeps.of (below_drewN _ _)))
  have hsz2 : w.heap.size < w2.heap.size := (Array.getElem?_eq_some_iff.1 hbx2).1
  clear hw2 c0 c1 c2 z1 z2 HK1
  obtain ⟨c0, c1, c2, z1, z2⟩ := tr_cells hh2
  have HX := Lib.hid (wordr_any B s p w2 hh2 hlt hs (by rw [HS.out.1]; exact hwc))
  have HK := Lib.hid (And.intro hbx2 hk2); clear hbx2 hk2 hh2
  go_wp2_with fail
  refine (HX.out).mono ?_
  intro e w3 ht
  obtain ⟨k, n, m, x, p2, len2, cap2, rfl⟩ := toldr_five ht
  have hbx3 := keeps_block ht.1 HK.out.1 (Nat.ne_of_gt hB)
  have y0 := box_frozen hbx3 0
  have y1 := box_frozen hbx3 1
  have y2 := box_frozen hbx3 2
  have y3 := box_frozen hbx3 3
  have y4 := box_frozen hbx3 4
  obtain ⟨v0, v1, v2, v3, v4⟩ := box_cells hbx3
  have HF := Lib.hid (And.intro hbx3 (toldr_up hB HK.out.2 hsz2 ht)); clear hbx3 ht
  go_wp2_with fail
  refine bodyPost_ret (results_cell_row rfl _ _ w.heap.size 24 _ (0, 0) _ rfl (set_five (b0 := .int .i64 k) (b1 := .int .i64 n) (b2 := .int .i64 m) (b3 := .string x) (b4 := .slice p2 len2 cap2) HF.out.1) Tryd.underlying24 rfl Tryd.sizeDt) rfl ?_
  have h := HF.out.2
  rw [HS.out.2.1] at h
  rw [hr]; exact h

set_option maxHeartbeats 8000000 in
set_option maxRecDepth 100000 in
theorem dat_str (N : Nat) (r : List UInt8) (B : Nat) (s : ByteArray) (a : Nat) (w : World) (res : Res Dt) (D : Int) (hN : s.size - a < N + 1) (hb : w.heap[B]? = some (Tr s a (-1))) (ha : a ≤ s.size) (hs : s.size ≤ 65536) (hq : skipB false (s.data.toList.drop a) = 34 :: r) (hr : res = strR r) :
    Calls Tryd.prog 46 #[.pointer (some ⟨B, 0, none⟩), .int .i64 D] w fun e w' => Toldr B s res w e w' := by
  have hB : B < w.heap.size := (Array.getElem?_eq_some_iff.1 hb).1
  have hh0 : (w.alloc Zero5).heap[B]? = some (Tr s a (-1)) := block_on (box_below _ _) hb
  have hbx0 : (w.alloc Zero5).heap[w.heap.size]? = some Zero5 := at_new _ _
  have hk0 : Keeps B w (w.alloc Zero5) := Keeps.of (box_below _ _)
  obtain ⟨W0, hW0⟩ : ∃ W, w.alloc Zero5 = W := ⟨_, rfl⟩
  rw [hW0] at hh0 hbx0 hk0
  have C := nextr_any B s a (-1) W0 hh0 ha hs
  rw [hq, show headN (34 :: r) = 34 from rfl] at C
  have HC := Lib.hid C
  have HH0 := Lib.hid (And.intro hbx0 hk0); clear C hh0 hbx0 hk0 hb
  have hsk0 := skip_len false (s.data.toList.drop a)
  rw [hq] at hsk0
  clear hq
  have HWC := Lib.hid (mark_is (c := 34) rfl)
  go_enter Tryd.func46, Tryd.ntmps46
  go_wp2_with (first | rw [hW0] | fail)
  refine (HC.out).mono ?_
  rintro _ w1 ⟨rfl, hk, p, hps, hh1, hd1⟩
  have hbx1 := keeps_block hk HH0.out.1 (Nat.ne_of_gt hB)
  have hk1 := HH0.out.2.trans hk
  clear hk HH0 HC hW0
  obtain ⟨c0, c1, c2, z1, z2⟩ := tr_cells hh1
  have p0 : (0 : Int) ≤ p := by omega
  obtain ⟨hlt, hd2⟩ := drop_tail hd1
  have hsp : s[p] = 34 := by rw [drop_cons s p hlt] at hd1; exact (List.cons.inj hd1).1
  have hpl : s.size - p ≤ s.size - a := by have h4 := congrArg List.length hd1; simp at h4 hsk0; omega
  have p1 : (p : Int) < s.size := by omega
  have e2 : ((p : Int) == (s.size : Int)) = false := by rw [beq_eq_false_iff_ne]; omega
  have HS := Lib.hid (And.intro hsp (And.intro hd1 hd2)); clear hsp hd1 hd2
  have HK1 := Lib.hid (And.intro hbx1 (And.intro hk1 hh1)); clear hbx1 hk1 hh1
  go_wp2_with fail
  go_quiet (fail)
  go_wp2_with fail
  refine (HWC.out _).mono ?_
  rintro _ w2 ⟨rfl, k2, hw2⟩
  have hh2 : w2.heap[B]? = some (Tr s p (-1)) := by rw [hw2]; exact HK1.out.2.2
  have hbx2 : w2.heap[w.heap.size]? = some Zero5 := by rw [hw2]; exact HK1.out.1
  have hk2 : Keeps B w w2 := by rw [hw2]; exact HK1.out.2.1.trans ((Keeps.of (below_drewN _ _)).trans (Keeps.of (below_drewN _ _)))
  have hsz2 : w.heap.size < w2.heap.size := (Array.getElem?_eq_some_iff.1 hbx2).1
  clear hw2 c0 c1 c2 z1 z2 HK1
  obtain ⟨c0, c1, c2, z1, z2⟩ := tr_cells hh2
  have HX := Lib.hid (strr_any B s p w2 hh2 hlt hs)
  have HK := Lib.hid (And.intro hbx2 hk2); clear hbx2 hk2 hh2
  go_wp2_with fail
  refine (HX.out).mono ?_
  intro e w3 ht
  obtain ⟨k, n, m, x, p2, len2, cap2, rfl⟩ := toldr_five ht
  have hbx3 := keeps_block ht.1 HK.out.1 (Nat.ne_of_gt hB)
  have y0 := box_frozen hbx3 0
  have y1 := box_frozen hbx3 1
  have y2 := box_frozen hbx3 2
  have y3 := box_frozen hbx3 3
  have y4 := box_frozen hbx3 4
  obtain ⟨v0, v1, v2, v3, v4⟩ := box_cells hbx3
  have HF := Lib.hid (And.intro hbx3 (toldr_up hB HK.out.2 hsz2 ht)); clear hbx3 ht
  go_wp2_with fail
  refine bodyPost_ret (results_cell_row rfl _ _ w.heap.size 24 _ (0, 0) _ rfl (set_five (b0 := .int .i64 k) (b1 := .int .i64 n) (b2 := .int .i64 m) (b3 := .string x) (b4 := .slice p2 len2 cap2) HF.out.1) Tryd.underlying24 rfl Tryd.sizeDt) rfl ?_
  have h := HF.out.2
  rw [HS.out.2.2] at h
  rw [hr]; exact h

set_option maxHeartbeats 8000000 in
set_option maxRecDepth 100000 in
theorem dat_hash (N : Nat) (ih : OneAtR N) (r : List UInt8) (B : Nat) (s : ByteArray) (a : Nat) (w : World) (res : Res Dt) (D : Int) (hN : s.size - a < N + 1) (hb : w.heap[B]? = some (Tr s a (-1))) (ha : a ≤ s.size) (hs : s.size ≤ 65536) (hq : skipB false (s.data.toList.drop a) = 35 :: r) (hr : HashR r res) :
    Calls Tryd.prog 46 #[.pointer (some ⟨B, 0, none⟩), .int .i64 D] w fun e w' => Toldr B s res w e w' := by
  have hB : B < w.heap.size := (Array.getElem?_eq_some_iff.1 hb).1
  have hh0 : (w.alloc Zero5).heap[B]? = some (Tr s a (-1)) := block_on (box_below _ _) hb
  have hbx0 : (w.alloc Zero5).heap[w.heap.size]? = some Zero5 := at_new _ _
  have hk0 : Keeps B w (w.alloc Zero5) := Keeps.of (box_below _ _)
  obtain ⟨W0, hW0⟩ : ∃ W, w.alloc Zero5 = W := ⟨_, rfl⟩
  rw [hW0] at hh0 hbx0 hk0
  have C := nextr_any B s a (-1) W0 hh0 ha hs
  rw [hq, show headN (35 :: r) = 35 from rfl] at C
  have HC := Lib.hid C
  have HH0 := Lib.hid (And.intro hbx0 hk0); clear C hh0 hbx0 hk0 hb
  have hsk0 := skip_len false (s.data.toList.drop a)
  rw [hq] at hsk0
  clear hq
  have HWC := Lib.hid (mark_is (c := 35) rfl)
  go_enter Tryd.func46, Tryd.ntmps46
  go_wp2_with (first | rw [hW0] | fail)
  refine (HC.out).mono ?_
  rintro _ w1 ⟨rfl, hk, p, hps, hh1, hd1⟩
  have hbx1 := keeps_block hk HH0.out.1 (Nat.ne_of_gt hB)
  have hk1 := HH0.out.2.trans hk
  clear hk HH0 HC hW0
  obtain ⟨c0, c1, c2, z1, z2⟩ := tr_cells hh1
  have p0 : (0 : Int) ≤ p := by omega
  obtain ⟨hlt, hd2⟩ := drop_tail hd1
  have hsp : s[p] = 35 := by rw [drop_cons s p hlt] at hd1; exact (List.cons.inj hd1).1
  have hpl : s.size - p ≤ s.size - a := by have h4 := congrArg List.length hd1; simp at h4 hsk0; omega
  have p1 : (p : Int) < s.size := by omega
  have e2 : ((p : Int) == (s.size : Int)) = false := by rw [beq_eq_false_iff_ne]; omega
  have HS := Lib.hid (And.intro hsp (And.intro hd1 hd2)); clear hsp hd1 hd2
  have HK1 := Lib.hid (And.intro hbx1 (And.intro hk1 hh1)); clear hbx1 hk1 hh1
  go_wp2_with fail
  go_quiet (fail)
  go_wp2_with fail
  refine (HWC.out _).mono ?_
  rintro _ w2 ⟨rfl, k2, hw2⟩
  have hh2 : w2.heap[B]? = some (Tr s p (-1)) := by rw [hw2]; exact HK1.out.2.2
  have hbx2 : w2.heap[w.heap.size]? = some Zero5 := by rw [hw2]; exact HK1.out.1
  have hk2 : Keeps B w w2 := by rw [hw2]; exact HK1.out.2.1.trans ((Keeps.of (below_drewN _ _)).trans (Keeps.of (below_drewN _ _)))
  have hsz2 : w.heap.size < w2.heap.size := (Array.getElem?_eq_some_iff.1 hbx2).1
  clear hw2 c0 c1 c2 z1 z2 HK1
  obtain ⟨c0, c1, c2, z1, z2⟩ := tr_cells hh2
  have HX := Lib.hid (hashr_any N ih B s p w2 res D r (by omega) hh2 hlt hs HS.out.2.2 hr)
  have HK := Lib.hid (And.intro hbx2 hk2); clear hbx2 hk2 hh2
  go_wp2_with fail
  refine (HX.out).mono ?_
  intro e w3 ht
  obtain ⟨k, n, m, x, p2, len2, cap2, rfl⟩ := toldr_five ht
  have hbx3 := keeps_block ht.1 HK.out.1 (Nat.ne_of_gt hB)
  have y0 := box_frozen hbx3 0
  have y1 := box_frozen hbx3 1
  have y2 := box_frozen hbx3 2
  have y3 := box_frozen hbx3 3
  have y4 := box_frozen hbx3 4
  obtain ⟨v0, v1, v2, v3, v4⟩ := box_cells hbx3
  have HF := Lib.hid (And.intro hbx3 (toldr_up hB HK.out.2 hsz2 ht)); clear hbx3 ht
  go_wp2_with fail
  refine bodyPost_ret (results_cell_row rfl _ _ w.heap.size 24 _ (0, 0) _ rfl (set_five (b0 := .int .i64 k) (b1 := .int .i64 n) (b2 := .int .i64 m) (b3 := .string x) (b4 := .slice p2 len2 cap2) HF.out.1) Tryd.underlying24 rfl Tryd.sizeDt) rfl ?_
  exact HF.out.2

set_option maxHeartbeats 8000000 in
set_option maxRecDepth 100000 in
theorem dat_else (N : Nat) (c : UInt8) (r : List UInt8) (B : Nat) (s : ByteArray) (a : Nat) (w : World) (res : Res Dt) (D : Int) (hN : s.size - a < N + 1) (hb : w.heap[B]? = some (Tr s a (-1))) (ha : a ≤ s.size) (hs : s.size ≤ 65536) (hq : skipB false (s.data.toList.drop a) = c :: r) (hwc : wordChar c = false) (n34 : c ≠ 34) (n39 : c ≠ 39) (n35 : c ≠ 35) (n40 : c ≠ 40) (hr : res = .bad (c :: r)) :
    Calls Tryd.prog 46 #[.pointer (some ⟨B, 0, none⟩), .int .i64 D] w fun e w' => Toldr B s res w e w' := by
  have hB : B < w.heap.size := (Array.getElem?_eq_some_iff.1 hb).1
  have hh0 : (w.alloc Zero5).heap[B]? = some (Tr s a (-1)) := block_on (box_below _ _) hb
  have hbx0 : (w.alloc Zero5).heap[w.heap.size]? = some Zero5 := at_new _ _
  have hk0 : Keeps B w (w.alloc Zero5) := Keeps.of (box_below _ _)
  obtain ⟨W0, hW0⟩ : ∃ W, w.alloc Zero5 = W := ⟨_, rfl⟩
  rw [hW0] at hh0 hbx0 hk0
  have C := nextr_any B s a (-1) W0 hh0 ha hs
  rw [hq, show headN (c :: r) = (c.toNat : Int) from rfl] at C
  have HC := Lib.hid C
  have HH0 := Lib.hid (And.intro hbx0 hk0); clear C hh0 hbx0 hk0 hb
  have hsk0 := skip_len false (s.data.toList.drop a)
  rw [hq] at hsk0
  clear hq
  have HWC := Lib.hid (mark_is hwc)
  have t34 : ((c.toNat : Int) == 34) = false := byte_ne (k := 34) n34
  have t39 : ((c.toNat : Int) == 39) = false := byte_ne (k := 39) n39
  have t35 : ((c.toNat : Int) == 35) = false := byte_ne (k := 35) n35
  have t40 : ((c.toNat : Int) == 40) = false := byte_ne (k := 40) n40
  go_enter Tryd.func46, Tryd.ntmps46
  go_wp2_with (first | rw [hW0] | fail)
  refine (HC.out).mono ?_
  rintro _ w1 ⟨rfl, hk, p, hps, hh1, hd1⟩
  have hbx1 := keeps_block hk HH0.out.1 (Nat.ne_of_gt hB)
  have hk1 := HH0.out.2.trans hk
  clear hk HH0 HC hW0
  obtain ⟨c0, c1, c2, z1, z2⟩ := tr_cells hh1
  have p0 : (0 : Int) ≤ p := by omega
  obtain ⟨hlt, hd2⟩ := drop_tail hd1
  have hsp : s[p] = c := by rw [drop_cons s p hlt] at hd1; exact (List.cons.inj hd1).1
  have hpl : s.size - p ≤ s.size - a := by have h4 := congrArg List.length hd1; simp at h4 hsk0; omega
  have p1 : (p : Int) < s.size := by omega
  have e2 : ((p : Int) == (s.size : Int)) = false := by rw [beq_eq_false_iff_ne]; omega
  have HS := Lib.hid (And.intro hsp (And.intro hd1 hd2)); clear hsp hd1 hd2
  have HK1 := Lib.hid (And.intro hbx1 (And.intro hk1 hh1)); clear hbx1 hk1 hh1
  go_wp2_with fail
  go_quiet (fail)
  go_wp2_with fail
  refine (HWC.out _).mono ?_
  rintro _ w2 ⟨rfl, k2, hw2⟩
  have hh2 : w2.heap[B]? = some (Tr s p (-1)) := by rw [hw2]; exact HK1.out.2.2
  have hbx2 : w2.heap[w.heap.size]? = some Zero5 := by rw [hw2]; exact HK1.out.1
  have hk2 : Keeps B w w2 := by rw [hw2]; exact HK1.out.2.1.trans ((Keeps.of (below_drewN _ _)).trans (Keeps.of (below_drewN _ _)))
  have hsz2 : w.heap.size < w2.heap.size := (Array.getElem?_eq_some_iff.1 hbx2).1
  clear hw2 c0 c1 c2 z1 z2 HK1
  obtain ⟨c0, c1, c2, z1, z2⟩ := tr_cells hh2
  have HX := Lib.hid (failr_any B s p p w2 hh2)
  have HK := Lib.hid (And.intro hbx2 hk2); clear hbx2 hk2 hh2
  go_wp2_with fail
  refine (HX.out).mono ?_
  rintro _ w3 ⟨rfl, hk3, hh3⟩
  have hbx3 := keeps_block hk3 HK.out.1 (Nat.ne_of_gt hB)
  have y0 := box_frozen hbx3 0
  have y1 := box_frozen hbx3 1
  have y2 := box_frozen hbx3 2
  have y3 := box_frozen hbx3 3
  have y4 := box_frozen hbx3 4
  obtain ⟨v0, v1, v2, v3, v4⟩ := box_cells hbx3
  have HK3 := Lib.hid (And.intro hbx3 (And.intro (HK.out.2.trans hk3) hh3)); clear hbx3 hk3 hh3
  go_wp2_with fail
  refine bodyPost_ret (results_cell_row rfl _ _ w.heap.size 24 _ (0, 0) _ rfl (set_five (b0 := .int .i64 4) (b1 := .int .i64 0) (b2 := .int .i64 0) (b3 := .string ⟨#[]⟩) (b4 := .slice none 0 0) HK3.out.1) Tryd.underlying24 rfl Tryd.sizeDt) rfl ?_
  rw [hr]
  exact fin_bad hB HK3.out.2.1 HK3.out.2.2 hps (by have h4 := congrArg List.length HS.out.2.1; simp at h4 ⊢; omega) (null_at _ _)
end Go.Proofs.YtabofebepefbgaaDoor.Dat

/- The reference's reader: a datum behind a mark, a list; any datum. -/
namespace Go.Proofs.YtabofebepefbgaaDoor.Dat
open Go.RowKit
open Go.Proofs.YtabofebepefbgaaDoor (textL parse res outL)
open NumPlain (rightB)
set_option linter.unusedVariables false

/-- The blocks ahead of this one, and one more. -/
def Xg (n G b : Nat) : Bool := old n b || decide (b = G)
theorem Xg_no {n G b : Nat} : Xg n G b = false ↔ n ≤ b ∧ b ≠ G := by unfold Xg; simp
theorem list_two (d : Dt) : Dt.list [quoteD, d] = Dt.chain nullD [quoteD, d] := rfl
theorem two_rows {W : World} {n : Nat} (hn : n ≤ W.heap.size) {d : Dt} {k m y : Int} {x : ByteArray} {v : Value} (hd : d.At (off W (old n)) (.agg #[.int .i64 k, .int .i64 m, .int .i64 y, .string x, v])) :
    Dt.AllAt (off (W.alloc (.cells #[.int .i64 2, .int .i64 0, .int .i64 0, .string ⟨#[113, 117, 111, 116, 101]⟩, .slice none 0 0, .int .i64 k, .int .i64 m, .int .i64 y, .string x, v] 24)) (old n)) [quoteD, d] W.heap.size 0 := by
  have tc : ∀ j u, #[Value.int IntKind.i64 2, Value.int IntKind.i64 0, Value.int IntKind.i64 0, Value.string ⟨#[113, 117, 111, 116, 101]⟩, Value.slice none 0 0, Value.int IntKind.i64 k, Value.int IntKind.i64 m, Value.int IntKind.i64 y, Value.string x, v][j]? = some u → (off (W.alloc (.cells #[.int .i64 2, .int .i64 0, .int .i64 0, .string ⟨#[113, 117, 111, 116, 101]⟩, .slice none 0 0, .int .i64 k, .int .i64 m, .int .i64 y, .string x, v] 24)) (old n)).cell? ⟨W.heap.size, j, none⟩ = some u := by
    intro j u hj
    exact off_cell.2 ⟨decide_eq_false (by omega), by rw [heap_cell (at_new W _)]; exact hj⟩
  unfold Dt.AllAt
  refine ⟨⟨_, _, _, _, _, tc 0 _ rfl, tc 1 _ rfl, tc 2 _ rfl, tc 3 _ rfl, tc 4 _ rfl, leaf_off _ _ _ _ _ (by unfold I64; omega) (by unfold I64; omega) (by unfold I64; omega) (by unfold maxLen; decide)⟩, ?_⟩
  unfold Dt.AllAt
  refine ⟨⟨_, _, _, _, _, tc 5 _ rfl, tc 6 _ rfl, tc 7 _ rfl, tc 8 _ rfl, tc 9 _ rfl, ?_⟩, by unfold Dt.AllAt; trivial⟩
  exact hd.on fun b o u hu => off_on (X := old n) (fun _ _ hx => hx) (fun b hb _ => Below.heap_alloc _ _ _ hb) b o u hu
theorem List_two {n : Nat} (W : World) (hn : n ≤ W.heap.size) {d : Dt} {k m y : Int} {x : ByteArray} {v : Value} (hd : d.At (off W (old n)) (.agg #[.int .i64 k, .int .i64 m, .int .i64 y, .string x, v])) :
    Calls Tryd.prog 29 #[.slice (some ⟨W.heap.size, 0, none⟩) 2 2] (W.alloc (.cells #[.int .i64 2, .int .i64 0, .int .i64 0, .string ⟨#[113, 117, 111, 116, 101]⟩, .slice none 0 0, .int .i64 k, .int .i64 m, .int .i64 y, .string x, v] 24)) fun e w' =>
      (∃ k' n' m' x' p len cap, e = .returned (.agg #[.int .i64 k', .int .i64 n', .int .i64 m', .string x', .slice p len cap]) ∧ (Dt.chain nullD [quoteD, d]).At (off w' (old n)) (.agg #[.int .i64 k', .int .i64 n', .int .i64 m', .string x', .slice p len cap])) ∧ Below W.heap.size W w' := by
  refine (List_any (old n) [quoteD, d] (some ⟨W.heap.size, 0, none⟩) 2 _ (fun b hb => decide_eq_false (by simp at hb; omega)) (by simp [maxLen]) (Or.inr ⟨_, _, rfl, two_rows hn hd⟩)).mono ?_
  rintro e w' ⟨⟨u, rfl, hu⟩, hb⟩
  rw [list_two] at hu
  obtain ⟨k', n', m', x', p, len, cap, rfl⟩ := at_five hu
  exact ⟨⟨k', n', m', x', p, len, cap, rfl, hu⟩, (box_below W _).trans (hb.mono (box_below W _).size)⟩

set_option maxHeartbeats 8000000 in
set_option maxRecDepth 100000 in
theorem dat_quote (N : Nat) (ih : OneAtR N) (r : List UInt8) (r1 : Res Dt) (B : Nat) (s : ByteArray) (a : Nat) (w : World) (res : Res Dt) (D : Int) (hN : s.size - a < N + 1) (hb : w.heap[B]? = some (Tr s a (-1))) (ha : a ≤ s.size) (hs : s.size ≤ 65536) (hq : skipB false (s.data.toList.drop a) = 39 :: r) (hrd1 : Rd .one r r1) (hway : (∃ q, r1 = .bad q ∧ res = .bad q) ∨ ∃ d q, r1 = .ok d q ∧ res = .ok (Dt.chain nullD [quoteD, d]) q) :
    Calls Tryd.prog 46 #[.pointer (some ⟨B, 0, none⟩), .int .i64 D] w fun e w' => Toldr B s res w e w' := by
  have hB : B < w.heap.size := (Array.getElem?_eq_some_iff.1 hb).1
  have hh0 : (w.alloc Zero5).heap[B]? = some (Tr s a (-1)) := block_on (box_below _ _) hb
  have hbx0 : (w.alloc Zero5).heap[w.heap.size]? = some Zero5 := at_new _ _
  have hk0 : Keeps B w (w.alloc Zero5) := Keeps.of (box_below _ _)
  obtain ⟨W0, hW0⟩ : ∃ W, w.alloc Zero5 = W := ⟨_, rfl⟩
  rw [hW0] at hh0 hbx0 hk0
  have C := nextr_any B s a (-1) W0 hh0 ha hs
  rw [hq, show headN (39 :: r) = 39 from rfl] at C
  have HC := Lib.hid C
  have HH0 := Lib.hid (And.intro hbx0 hk0); clear C hh0 hbx0 hk0 hb
  have hsk0 := skip_len false (s.data.toList.drop a)
  rw [hq] at hsk0
  clear hq
  have HWC := Lib.hid (mark_is (c := 39) rfl)
  have HRD := Lib.hid hrd1; clear hrd1
  have HWY := Lib.hid hway; clear hway
  go_enter Tryd.func46, Tryd.ntmps46
  go_wp2_with (first | rw [hW0] | fail)
  refine (HC.out).mono ?_
  rintro _ w1 ⟨rfl, hk, p, hps, hh1, hd1⟩
  have hbx1 := keeps_block hk HH0.out.1 (Nat.ne_of_gt hB)
  have hk1 := HH0.out.2.trans hk
  clear hk HH0 HC hW0
  obtain ⟨c0, c1, c2, z1, z2⟩ := tr_cells hh1
  have p0 : (0 : Int) ≤ p := by omega
  obtain ⟨hlt, hd2⟩ := drop_tail hd1
  have hsp : s[p] = 39 := by rw [drop_cons s p hlt] at hd1; exact (List.cons.inj hd1).1
  have hpl : s.size - p ≤ s.size - a := by have h4 := congrArg List.length hd1; simp at h4 hsk0; omega
  have p1 : (p : Int) < s.size := by omega
  have e2 : ((p : Int) == (s.size : Int)) = false := by rw [beq_eq_false_iff_ne]; omega
  have HS := Lib.hid (And.intro hsp (And.intro hd1 hd2)); clear hsp hd1 hd2
  have HK1 := Lib.hid (And.intro hbx1 (And.intro hk1 hh1)); clear hbx1 hk1 hh1
  go_wp2_with fail
  go_quiet (fail)
  go_wp2_with fail
  refine (HWC.out _).mono ?_
  rintro _ w2 ⟨rfl, k2, hw2⟩
  have hh2 : w2.heap[B]? = some (Tr s p (-1)) := by rw [hw2]; exact HK1.out.2.2
  have hbx2 : w2.heap[w.heap.size]? = some Zero5 := by rw [hw2]; exact HK1.out.1
  have hk2 : Keeps B w w2 := by rw [hw2]; exact HK1.out.2.1.trans ((Keeps.of (below_drewN _ _)).trans (Keeps.of (below_drewN _ _)))
  have hsz2 : w.heap.size < w2.heap.size := (Array.getElem?_eq_some_iff.1 hbx2).1
  clear hw2 c0 c1 c2 z1 z2 HK1
  obtain ⟨c0, c1, c2, z1, z2⟩ := tr_cells hh2
  have hw1 : IntKind.i64.wrap ((p : Int) + 1) = (p : Int) + 1 := IntWalk.i64_in _ (by omega)
  have hh3 := tr_set1 (p + 1) hh2 (show ((p : Int) + 1) = ((p + 1 : Nat) : Int) by omega)
  have hbx3 := (Below.heap_setCell w2 ⟨B, 1, none⟩ (.int .i64 ((p : Int) + 1)) _ (Nat.ne_of_gt hB)).trans hbx2
  have hk3 := hk2.setCell 1 (.int .i64 ((p : Int) + 1))
  have hsz3 := (Array.getElem?_eq_some_iff.1 hbx3).1
  have C := fun D' => ih B s (p + 1) _ r1 D' (by omega) hh3 (by omega) hs (HS.out.2.2.symm ▸ HRD.out)
  have HC2 := Lib.hid C
  have HK := Lib.hid (And.intro hbx3 hk3); clear hbx2 hk2 hh2 hbx3 hk3 hh3 C
  go_wp2_with fail
  refine (HC2.out _).mono ?_
  rintro _ w4 ⟨hk4, d, v, b4, z4, rfl, hat, hb4, hh4, hst⟩
  obtain ⟨k, n, m, x, p2, len2, cap2, rfl⟩ := at_five hat
  have hbx4 := keeps_block hk4 HK.out.1 (Nat.ne_of_gt hB)
  have hat4 := hat.on (old_up (show w.heap.size + 1 ≤ _ from hsz3))
  have hsz4 : w.heap.size + 1 ≤ w4.heap.size := (Array.getElem?_eq_some_iff.1 hbx4).1
  have HC3 := Lib.hid (List_two w4 hsz4 hat4)
  have HK4 := Lib.hid (And.intro hbx4 (And.intro (HK.out.2.trans hk4) (And.intro hh4 hst))); clear hbx4 hk4 hh4 hst hat hat4 c0 c1 c2 z1 z2
  go_wp2_with fail
  refine (HC3.out).mono ?_
  rintro _ w5 ⟨⟨k5, n5, m5, x5, p5, len5, cap5, rfl, hu⟩, hb5⟩
  have hbx5 := block_on hb5 HK4.out.1
  have hh5 := block_on hb5 HK4.out.2.2.1
  have hk5 := HK4.out.2.1.trans (Keeps.of hb5)
  have y0 := box_frozen hbx5 0
  have y1 := box_frozen hbx5 1
  have y2 := box_frozen hbx5 2
  have y3 := box_frozen hbx5 3
  have y4 := box_frozen hbx5 4
  obtain ⟨v0, v1, v2, v3, v4⟩ := box_cells hbx5
  have HK5 := Lib.hid (And.intro hbx5 (And.intro hk5 (And.intro hh5 hu))); clear hbx5 hk5 hh5 hu hb5
  go_wp2_with fail
  refine bodyPost_ret (results_cell_row rfl _ _ w.heap.size 24 _ (0, 0) _ rfl (set_five (b0 := .int .i64 k5) (b1 := .int .i64 n5) (b2 := .int .i64 m5) (b3 := .string x5) (b4 := .slice p5 len5 cap5) HK5.out.1) Tryd.underlying24 rfl Tryd.sizeDt) rfl ?_
  rcases HK4.out.2.2.2 with ⟨q, e1, e2⟩ | ⟨e1, e2⟩
  · rcases HWY.out with ⟨q', e3, e4⟩ | ⟨d', q', e3, e4⟩
    · obtain rfl := Res.bad.inj (e1.symm.trans e3)
      rw [e4]
      exact fin_bad hB HK5.out.2.1 HK5.out.2.2.1 hb4 e2 HK5.out.2.2.2
    · cases e1.symm.trans e3
  · rcases HWY.out with ⟨q', e3, e4⟩ | ⟨d', q', e3, e4⟩
    · cases e1.symm.trans e3
    · obtain ⟨rfl, rfl⟩ := Res.ok.inj (e1.symm.trans e3)
      have h3 := HK5.out.2.2.1
      rw [e2] at h3
      exact fin_ok hB HK5.out.2.1 h3 hb4 e4 HK5.out.2.2.2

/-- The Pairs that have been made so far. -/
def Chr (d : Dt) (acc : List Dt) (w W5 : World) (G j : Nat) (wr : World) (k n m : Int) (x : ByteArray) (l' : List Dt) (p : Option Addr) (cap : Nat) : Prop :=
  wr.heap[G]? = some (Five k n m x (.slice p l'.length cap)) ∧ Dt.chain d (acc.drop j) = .node k n m x l' ∧ (Dt.node k n m x l').At (off wr (Xg (w.heap.size + 1) G)) (.agg #[.int .i64 k, .int .i64 n, .int .i64 m, .string x, .slice p l'.length cap]) ∧ Keeps G W5 wr
theorem xg_keeps {n G : Nat} {W W' : World} (hk : Keeps G W W') (b o : Nat) (u : Value) (hu : (off W (Xg n G)).cell? ⟨b, o, none⟩ = some u) : (off W' (Xg n G)).cell? ⟨b, o, none⟩ = some u :=
  off_on (fun _ _ hx => hx) (fun b hb hx => hk.block b hb (Xg_no.1 hx).2) b o u hu

set_option maxHeartbeats 8000000 in
set_option maxRecDepth 100000 in
theorem dat_list (N : Nat) (ih : OneAtR N) (r : List UInt8) (B : Nat) (s : ByteArray) (a : Nat) (w : World) (res : Res Dt) (D : Int) (hN : s.size - a < N + 1) (hb : w.heap[B]? = some (Tr s a (-1))) (ha : a ≤ s.size) (hs : s.size ≤ 65536) (hq : skipB false (s.data.toList.drop a) = 40 :: r) (hrd1 : Rd (.list []) r res) :
    Calls Tryd.prog 46 #[.pointer (some ⟨B, 0, none⟩), .int .i64 D] w fun e w' => Toldr B s res w e w' := by
  have hB : B < w.heap.size := (Array.getElem?_eq_some_iff.1 hb).1
  have hh0 : (w.alloc Zero5).heap[B]? = some (Tr s a (-1)) := block_on (box_below _ _) hb
  have hbx0 : (w.alloc Zero5).heap[w.heap.size]? = some Zero5 := at_new _ _
  have hk0 : Keeps B w (w.alloc Zero5) := Keeps.of (box_below _ _)
  obtain ⟨W0, hW0⟩ : ∃ W, w.alloc Zero5 = W := ⟨_, rfl⟩
  rw [hW0] at hh0 hbx0 hk0
  have C := nextr_any B s a (-1) W0 hh0 ha hs
  rw [hq, show headN (40 :: r) = 40 from rfl] at C
  have HC := Lib.hid C
  have HH0 := Lib.hid (And.intro hbx0 hk0); clear C hh0 hbx0 hk0 hb
  have hsk0 := skip_len false (s.data.toList.drop a)
  rw [hq] at hsk0
  clear hq
  have HWC := Lib.hid (mark_is (c := 40) rfl)
  have HRD := Lib.hid hrd1; clear hrd1
  go_enter Tryd.func46, Tryd.ntmps46
  go_wp2_with (first | rw [hW0] | fail)
  refine (HC.out).mono ?_
  rintro _ w1 ⟨rfl, hk, p, hps, hh1, hd1⟩
  have hbx1 := keeps_block hk HH0.out.1 (Nat.ne_of_gt hB)
  have hk1 := HH0.out.2.trans hk
  clear hk HH0 HC hW0
  obtain ⟨c0, c1, c2, z1, z2⟩ := tr_cells hh1
  have p0 : (0 : Int) ≤ p := by omega
  obtain ⟨hlt, hd2⟩ := drop_tail hd1
  have hsp : s[p] = 40 := by rw [drop_cons s p hlt] at hd1; exact (List.cons.inj hd1).1
  have hpl : s.size - p ≤ s.size - a := by have h4 := congrArg List.length hd1; simp at h4 hsk0; omega
  have p1 : (p : Int) < s.size := by omega
  have e2 : ((p : Int) == (s.size : Int)) = false := by rw [beq_eq_false_iff_ne]; omega
  have HS := Lib.hid (And.intro hsp (And.intro hd1 hd2)); clear hsp hd1 hd2
  have HK1 := Lib.hid (And.intro hbx1 (And.intro hk1 hh1)); clear hbx1 hk1 hh1
  go_wp2_with fail
  go_quiet (fail)
  go_wp2_with fail
  refine (HWC.out _).mono ?_
  rintro _ w2 ⟨rfl, k2, hw2⟩
  have hh2 : w2.heap[B]? = some (Tr s p (-1)) := by rw [hw2]; exact HK1.out.2.2
  have hbx2 : w2.heap[w.heap.size]? = some Zero5 := by rw [hw2]; exact HK1.out.1
  have hk2 : Keeps B w w2 := by rw [hw2]; exact HK1.out.2.1.trans ((Keeps.of (below_drewN _ _)).trans (Keeps.of (below_drewN _ _)))
  have hsz2 : w.heap.size < w2.heap.size := (Array.getElem?_eq_some_iff.1 hbx2).1
  clear hw2 c0 c1 c2 z1 z2 HK1
  obtain ⟨c0, c1, c2, z1, z2⟩ := tr_cells hh2
  have hw1 : IntKind.i64.wrap ((p : Int) + 1) = (p : Int) + 1 := IntWalk.i64_in _ (by omega)
  have hh3 := tr_set1 (p + 1) hh2 (show ((p : Int) + 1) = ((p + 1 : Nat) : Int) by omega)
  have hbx3 := (Below.heap_setCell w2 ⟨B, 1, none⟩ (.int .i64 ((p : Int) + 1)) _ (Nat.ne_of_gt hB)).trans hbx2
  have hk3 := hk2.setCell 1 (.int .i64 ((p : Int) + 1))
  have hsz3 := (Array.getElem?_eq_some_iff.1 hbx3).1
  have C := fun D' => data_any N ih true B s (p + 1) _ res D' (by omega) hh3 (by omega) hs (HS.out.2.2.symm ▸ HRD.out)
  have HC2 := Lib.hid C
  have HK := Lib.hid (And.intro hbx3 hk3); clear hbx2 hk2 hh2 hbx3 hk3 hh3 C
  go_wp2_with fail
  refine (HC2.out _).mono ?_
  rintro _ w4 ⟨hk4, acc, d, p3, cap3, k, n, m, x, p2, len2, cap2, b4, z4, rfl, hrow, hat, hl, hb4, hh4, hst⟩
  have hbx4 := keeps_block hk4 HK.out.1 (Nat.ne_of_gt hB)
  obtain ⟨G, hG⟩ : ∃ G, w4.heap.size = G := ⟨_, rfl⟩
  have hG1 : w.heap.size < G := by rw [← hG]; exact (Array.getElem?_eq_some_iff.1 hbx4).1
  have hhG : (w4.alloc (Five k n m x (.slice p2 len2 cap2))).heap[G]? = some (Five k n m x (.slice p2 len2 cap2)) := hG ▸ at_new w4 _
  have hh5 : (w4.alloc (Five k n m x (.slice p2 len2 cap2))).heap[B]? = some (Tr s b4 z4) := block_on (box_below _ _) hh4
  have hbx5 : (w4.alloc (Five k n m x (.slice p2 len2 cap2))).heap[w.heap.size]? = some Zero5 := block_on (box_below _ _) hbx4
  have hk5 : Keeps B w (w4.alloc (Five k n m x (.slice p2 len2 cap2))) := (HK.out.2.trans hk4).trans (Keeps.of (box_below _ _))
  have up : ∀ (b o : Nat) (u : Value), (off w4 (old ((w2.setCell ⟨B, 1, none⟩ (.int .i64 ((p : Int) + 1))).heap.size))).cell? ⟨b, o, none⟩ = some u → (off (w4.alloc (Five k n m x (.slice p2 len2 cap2))) (Xg (w.heap.size + 1) G)).cell? ⟨b, o, none⟩ = some u :=
    fun b o u hu => off_on (X := old _) (fun b hb' hx => Xg_no.2 ⟨by have := of_decide_eq_false hx; omega, by omega⟩) (fun b hb' hx => Below.heap_alloc _ _ _ hb') b o u hu
  have hat5 := hat.on up
  have hrow5 : acc = [] ∨ ∃ b o, p3 = some ⟨b, o, none⟩ ∧ Dt.AllAt (off (w4.alloc (Five k n m x (.slice p2 len2 cap2))) (Xg (w.heap.size + 1) G)) acc b o := by
    rcases hrow with h | ⟨b, o, hp3, ha3⟩
    · exact Or.inl h
    · exact Or.inr ⟨b, o, hp3, ha3.on up⟩
  have hsz5 : G < (w4.alloc (Five k n m x (.slice p2 len2 cap2))).heap.size := by rw [← hG]; simp
  obtain ⟨W5, hW5⟩ : ∃ W, w4.alloc (Five k n m x (.slice p2 len2 cap2)) = W := ⟨_, rfl⟩
  rw [hW5] at hhG hh5 hbx5 hk5 hat5 hrow5 hsz5
  obtain ⟨el, rfl, hde⟩ : ∃ el : List Dt, len2 = el.length ∧ d = .node k n m x el := by
    obtain ⟨k', n', d', s', l', p', cap', he, e0, e1, e2, e3, e4, -, -⟩ := hat5.open5
    simp only [Value.int.injEq, true_and, Value.string.injEq, Value.slice.injEq] at e0 e1 e2 e3 e4
    obtain ⟨rfl, rfl, rfl⟩ := e4
    subst e0 e1 e2 e3
    exact ⟨l', rfl, he⟩
  have HK5 := Lib.hid (And.intro hhG (And.intro hh5 (And.intro hbx5 (And.intro hk5 (And.intro hat5 (And.intro hde hst))))))
  have HROW := Lib.hid hrow5
  clear hhG hh5 hbx5 hk5 hat5 hde hst hrow5 up hrow hat hk4 hbx4 hh4 c0 c1 c2 z1 z2
  go_wp2_with (first | rw [hW5] | fail)
  try rw [hG]
  have hX : ∀ b, W5.heap.size ≤ b → Xg (w.heap.size + 1) G b = false := fun b hb => Xg_no.2 ⟨by omega, by omega⟩
  have HX := Lib.hid hX; clear hX
  go_loopw [8] (fun y wr => ∃ (j : Nat) (k n m : Int) (x : ByteArray) (l' : List Dt) (p' : Option Addr) (cap' : Nat), j ≤ acc.length ∧ y = .int .i64 ((j : Int) - 1) ∧ Chr d acc w W5 G j wr k n m x l' p' cap') (fun y _ => (intOf y + 1).toNat)
  case atStart =>
    refine ⟨acc.length, k, n, m, x, el, p2, cap2, Nat.le_refl _, rfl, ?_⟩
    exact ⟨HK5.out.1, by rw [List.drop_length]; exact HK5.out.2.2.2.2.2.1, by rw [← HK5.out.2.2.2.2.2.1]; exact HK5.out.2.2.2.2.1, Keeps.refl _ _⟩
  case round =>
    obtain ⟨j, k, n, m, x, l', p', cap', hj, rfl, hm⟩ := hrel
    have HM := Lib.hid hm
    have hh := hm.1
    have hszr := hm.2.2.2.size
    have hszG : G < wr.heap.size := (Array.getElem?_eq_some_iff.1 hh).1
    clear hm
    obtain ⟨c0, c1, c2, c3, c4⟩ := box_cells hh
    cases j with
    | zero =>
      have hr := keeps_block HM.out.2.2.2 HK5.out.2.2.1 (Nat.ne_of_lt hG1)
      have y0 := box_frozen hr 0
      have y1 := box_frozen hr 1
      have y2 := box_frozen hr 2
      have y3 := box_frozen hr 3
      have y4 := box_frozen hr 4
      obtain ⟨v0, v1, v2, v3, v4⟩ := box_cells hr
      have HR := Lib.hid hr; clear hh hr
      go_wp2_with fail
      refine bodyPost_ret (results_cell_row rfl _ _ w.heap.size 24 _ (0, 0) _ rfl (set_five (b0 := .int .i64 k) (b1 := .int .i64 n) (b2 := .int .i64 m) (b3 := .string x) (b4 := .slice p' l'.length cap') HR.out) Tryd.underlying24 rfl Tryd.sizeDt) rfl ?_
      have h1 := HM.out.2.1
      rw [List.drop_zero] at h1
      have hatr : (Dt.chain d acc).At (off wr (old (w.heap.size + 1))) (.agg #[.int .i64 k, .int .i64 n, .int .i64 m, .string x, .slice p' l'.length cap']) := by
        rw [h1]
        exact HM.out.2.2.1.on fun b o u hu => off_cell.2 ⟨decide_eq_false (by have := (Xg_no.1 (off_cell.1 hu).1).1; omega), (off_cell.1 hu).2⟩
      have hkr := keeps_up HK5.out.2.2.2.1 HM.out.2.2.2 (Nat.le_of_lt hG1)
      have hhr := keeps_block HM.out.2.2.2 HK5.out.2.1 (by omega)
      rcases HK5.out.2.2.2.2.2.2 with ⟨q, e1, e2⟩ | ⟨e1, e2⟩
      · rw [e1]
        exact fin_bad hB hkr hhr hb4 e2 hatr
      · rw [e2] at hhr
        exact fin_ok hB hkr hhr hb4 e1 hatr
    | succ i =>
      have hi : i < acc.length := hj
      obtain ⟨t, ht⟩ : ∃ t, acc[i]? = some t := ⟨acc[i], by simp [hi]⟩
      rcases HROW.out with hn | ⟨b, o, rfl, hall⟩
      · rw [hn] at hi; simp at hi
      obtain ⟨v0, v1, v2, v3, v4, d0, d1, d2, d3, d4, hta⟩ := (hall.on (xg_keeps HM.out.2.2.2)).kid ht
      replace d0 := (off_cell.1 d0).2
      replace d1 := (off_cell.1 d1).2
      replace d2 := (off_cell.1 d2).2
      replace d3 := (off_cell.1 d3).2
      replace d4 := (off_cell.1 d4).2
      obtain ⟨kt, nt, dt, st, lt, pt, capt, hte, rfl, rfl, rfl, rfl, rfl, _, _⟩ := hta.open5
      have z0 := box_frozen hh 0
      have z1 := box_frozen hh 1
      have z2 := box_frozen hh 2
      have z3 := box_frozen hh 3
      have z4 := box_frozen hh 4
      have ei : (((i + 1 : Nat) : Int) - 1) = (i : Int) := by omega
      have HT := Lib.hid ht
      have HTA := Lib.hid hta
      have HH := Lib.hid hh
      rw [ei]
      clear hall hta hte hh ht ei
      go_wp2_with fail
      go_still_tail 5, (by kernel_rfl)
      change wpList _ _ _ _ _ wr.drew
      go_wp2_with fail
      go_roundw
      case rel =>
        have hls := HM.out.2.1
        have hat := HM.out.2.2.1
        have hkw := HM.out.2.2.2
        obtain ⟨O, hO⟩ : ∃ O, Obj.cells #[Value.int IntKind.i64 kt, Value.int IntKind.i64 nt, Value.int IntKind.i64 dt, Value.string st, Value.slice pt lt.length capt, Value.int IntKind.i64 k, Value.int IntKind.i64 n, Value.int IntKind.i64 m, Value.string x, Value.slice p' l'.length cap'] 24 = O := ⟨_, rfl⟩
        obtain ⟨S, hS⟩ : ∃ S, (((((wr.setCell ⟨G, 0, none⟩ (.int .i64 6)).setCell ⟨G, 1, none⟩ (.int .i64 0)).setCell ⟨G, 2, none⟩ (.int .i64 0)).setCell ⟨G, 3, none⟩ (.string ⟨#[]⟩)).setCell ⟨G, 4, none⟩ (.slice (some ⟨wr.heap.size, 0, none⟩) 2 2)) = S := ⟨_, rfl⟩
        have s1 : S.heap.size = wr.heap.size := by rw [← hS]; exact set_five_size
        have s2 : S.heap[G]? = some (.cells #[.int .i64 6, .int .i64 0, .int .i64 0, .string ⟨#[]⟩, .slice (some ⟨wr.heap.size, 0, none⟩) 2 2] 24 (0, 0)) := by rw [← hS]; exact set_five HH.out
        have s3 : ∀ b, b ≠ G → S.heap[b]? = wr.heap[b]? := fun b hb => by rw [← hS]; exact set_five_other hb
        have s4 : Keeps G W5 S := by rw [← hS]; exact ((((hkw.setCell 0 _).setCell 1 _).setCell 2 _).setCell 3 _).setCell 4 _
        rw [hS, hO]
        have t0 : ∀ b, b < wr.heap.size → (S.alloc O).drew.heap[b]? = S.heap[b]? := fun b hb => Below.heap_alloc S O b (by omega)
        have t1 : (S.alloc O).drew.heap[wr.heap.size]? = some O := by rw [← s1]; exact heap_alloc_new S O
        have t2 : Keeps G W5 (S.alloc O).drew := (s4.trans (Keeps.of (box_below S O))).drew
        have upr : ∀ (b o : Nat) (u : Value), (off wr (Xg (w.heap.size + 1) G)).cell? ⟨b, o, none⟩ = some u → (off (S.alloc O).drew (Xg (w.heap.size + 1) G)).cell? ⟨b, o, none⟩ = some u :=
          fun b o u hu => off_on (fun _ _ hx => hx) (fun b hb hx => (t0 b hb).trans (s3 b (Xg_no.1 hx).2)) b o u hu
        refine ⟨i, 6, 0, 0, nil8, [t, Dt.chain d (acc.drop (i + 1))], some ⟨wr.heap.size, 0, none⟩, 2, by omega, rfl, ?_⟩
        refine ⟨?_, by rw [Dt.drop_at HT.out]; rfl, ?_, t2⟩
        · rw [t0 _ (by omega)]; exact s2
        · have tc : ∀ j v, #[Value.int IntKind.i64 kt, Value.int IntKind.i64 nt, Value.int IntKind.i64 dt, Value.string st, Value.slice pt lt.length capt, Value.int IntKind.i64 k, Value.int IntKind.i64 n, Value.int IntKind.i64 m, Value.string x, Value.slice p' l'.length cap'][j]? = some v → (off (S.alloc O).drew (Xg (w.heap.size + 1) G)).cell? ⟨wr.heap.size, j, none⟩ = some v := by
            intro j v hj
            exact off_cell.2 ⟨HX.out _ (by omega), by rw [heap_cell (t1.trans (congrArg some hO.symm))]; exact hj⟩
          unfold Dt.At
          refine ⟨by unfold I64; omega, by unfold I64; omega, by unfold I64; omega, by unfold maxLen; decide, by simp [maxLen], _, _, rfl, Or.inr ⟨_, _, rfl, ?_⟩⟩
          unfold Dt.AllAt
          refine ⟨⟨_, _, _, _, _, tc 0 _ rfl, tc 1 _ rfl, tc 2 _ rfl, tc 3 _ rfl, tc 4 _ rfl, (HTA.out).on upr⟩, ?_⟩
          unfold Dt.AllAt
          refine ⟨⟨_, _, _, _, _, tc 5 _ rfl, tc 6 _ rfl, tc 7 _ rfl, tc 8 _ rfl, tc 9 _ rfl, ?_⟩, by unfold Dt.AllAt; trivial⟩
          rw [hls]
          exact hat.on upr
      case measure => simp [intOf]

/-- WHAT THE REFERENCE's DATUM ANSWERS. -/
theorem oner_any (N : Nat) : OneAtR N := by
  induction N with
  | zero => intro B s a w res D h; omega
  | succ N ih =>
    intro B s a w res D hN hb ha hs hr
    cases hq : skipB false (s.data.toList.drop a) with
    | nil => exact dat_end N B s a w res D hN hb ha hs hq (one_none hr hq)
    | cons c r =>
      by_cases h34 : c = 34
      · subst h34; exact dat_str N r B s a w res D hN hb ha hs hq (one_str hr hq)
      by_cases h39 : c = 39
      · subst h39
        obtain ⟨r1, h1, h2⟩ := one_quote hr hq
        exact dat_quote N ih r r1 B s a w res D hN hb ha hs hq h1 h2
      by_cases h35 : c = 35
      · subst h35; exact dat_hash N ih r B s a w res D hN hb ha hs hq (one_hash hr hq)
      by_cases h40 : c = 40
      · subst h40; exact dat_list N ih r B s a w res D hN hb ha hs hq (one_list hr hq)
      have hw := one_word hr hq h40 h39 h34 h35
      by_cases hwc : wordChar c = true
      · exact dat_word N c r B s a w res D hN hb ha hs hq hwc hw
      · have hwc := Bool.eq_false_iff.2 hwc
        exact dat_else N c r B s a w res D hN hb ha hs hq hwc h34 h39 h35 h40 (by rw [hw]; exact word_none hwc r)
end Go.Proofs.YtabofebepefbgaaDoor.Dat

/- WHAT THE REFERENCE's Read ANSWERS, for any text. -/
namespace Go.Proofs.YtabofebepefbgaaDoor.Dat
open Go.RowKit
open Go.Proofs.YtabofebepefbgaaDoor (textL parse res outL)
open NumPlain (rightB)
set_option linter.unusedVariables false

theorem top_view {acc : List Dt} {l : List UInt8} {res : Res (List Dt)} (h : Top acc l res) :
    (skipB false l = [] ∧ res = .ok acc []) ∨ ∃ c r r1, skipB false l = c :: r ∧ Rd .one (c :: r) r1 ∧ ((∃ q, r1 = .bad q ∧ res = .bad q) ∨ ∃ d q, r1 = .ok d q ∧ q.length < (c :: r).length ∧ ((rightDt d = false ∧ res = .bad (c :: r)) ∨ (rightDt d = true ∧ Top (acc ++ [d]) q res))) := by
  cases h with
  | fin h => exact Or.inl ⟨h, rfl⟩
  | bad h hb => exact Or.inr ⟨_, _, _, h, hb, Or.inl ⟨_, rfl, rfl⟩⟩
  | deep h hd hr => exact Or.inr ⟨_, _, _, h, hd, Or.inr ⟨_, _, rfl, rd_shorter hd, Or.inl ⟨hr, rfl⟩⟩⟩
  | more h hd hr hm => exact Or.inr ⟨_, _, _, h, hd, Or.inr ⟨_, _, rfl, rd_shorter hd, Or.inr ⟨hr, hm⟩⟩⟩
/-- What has been read so far. -/
structure HeldT (B : Nat) (w : World) (acc : List Dt) (v : Value) (xs : List Value) (wr : World) : Prop where
  keeps : Keeps B w wr
  own : wr.ownsRow w.heap.size 24 5 v acc.length xs
  row : Dt.Row (off wr (Xo w.heap.size v)) acc xs
theorem HeldT.on {B : Nat} {w wr w1 : World} {acc : List Dt} {v : Value} {xs : List Value} (h : HeldT B w acc v xs wr) (hk : Keeps B wr w1) (hB : B < w.heap.size) : HeldT B w acc v xs w1 :=
  ⟨h.keeps.trans hk, own_keeps (w := w) h.own hk hB, h.row.on (off_keeps hk hB)⟩
theorem HeldT.slice {B : Nat} {w wr : World} {acc : List Dt} {v : Value} {xs : List Value} (h : HeldT B w acc v xs wr) : ∃ p cap, v = .slice p acc.length cap ∧ Rowed wr acc p := by
  obtain ⟨hlen, hv⟩ := h.own
  rcases hv with ⟨rfl, h0⟩ | ⟨g, cap, cur, rfl, hB, hg, hn, hm, hs, ht⟩
  · exact ⟨none, 0, by rw [h0], Or.inl (List.eq_nil_of_length_eq_zero h0)⟩
  · refine ⟨_, cap, rfl, Or.inr ⟨g, 0, rfl, h.row.allAt (w' := wr) (fun b o u hu => (off_cell.1 hu).2) fun j u hj => ?_⟩⟩
    rw [← ht, List.getElem?_take] at hj
    split at hj
    · rw [cell_of_block hg]; simpa using hj
    · cases hj
theorem HeldT.push {B : Nat} {w W w3 : World} {acc : List Dt} {v v3 : Value} {xs : List Value} {d : Dt} {u0 u1 u2 u3 u4 : Value} (h : HeldT B w acc v xs W) (hd : d.At (off W (Xo w.heap.size v)) (.agg #[u0, u1, u2, u3, u4])) (hB : B < w.heap.size) (O : Obj)
    (ho : w3.ownsRow w.heap.size 24 5 v3 (acc.length + 1) (xs ++ [u0, u1, u2, u3, u4])) (hg : (W.alloc O).grownBy w3 v.ownBlock) (ha : v3.ownBlock = v.ownBlock ∨ v3.ownBlock = some (W.alloc O).heap.size) :
    HeldT B w (acc ++ [d]) v3 (xs ++ [u0, u1, u2, u3, u4]) w3 ∧ ∀ b, b < w.heap.size → w3.heap[b]? = W.heap[b]? := by
  have hlo : ∀ b, v.ownBlock = some b → w.heap.size ≤ b := fun b hb => (own_lt h.own b hb).1
  have hsame : ∀ b, b < W.heap.size → v.ownBlock ≠ some b → w3.heap[b]? = W.heap[b]? := fun b hb hn => (hg.block b (by simp; omega) (fun e => hn e.symm)).trans (Below.heap_alloc _ _ _ hb)
  have hs := h.keeps.size
  have hsm : ∀ b, b < w.heap.size → w3.heap[b]? = W.heap[b]? := fun b hb => hsame b (by omega) (fun e => by have := hlo b e; omega)
  have hsz : W.heap.size ≤ w3.heap.size := by have := hg.size; simp at this; omega
  have htr : ∀ (b o : Nat) (u : Value), (off W (Xo w.heap.size v)).cell? ⟨b, o, none⟩ = some u → (off w3 (Xo w.heap.size v3)).cell? ⟨b, o, none⟩ = some u := by
    intro b o u hu
    refine off_on (fun b hb hx => ?_) (fun b hb hx => hsame b hb (Xo_no.1 hx).2) b o u hu
    obtain ⟨h1, h2⟩ := Xo_no.1 hx
    refine Xo_no.2 ⟨h1, ?_⟩
    rcases ha with e | e
    · rw [e]; exact h2
    · rw [e]; simp; omega
  have hbw : Below w.heap.size W w3 := ((Below.refl w.heap.size W).alloc (by omega) O).grown hg (by simp; omega) (fun b hb => by have := hlo b hb; omega)
  have hk : Keeps B w w3 := ⟨hbw.os.trans h.keeps.os, hbw.tape.trans h.keeps.tape, hbw.output.trans h.keeps.output, Nat.le_trans h.keeps.size hsz, fun k hk hn => (hbw.block k hk).trans (h.keeps.block k hk hn)⟩
  exact ⟨⟨hk, by rw [List.length_append]; exact ho, (h.row.on htr).snoc (hd.on htr)⟩, hsm⟩
theorem xo_upT {B : Nat} {w wr w' : World} {acc : List Dt} {v : Value} {xs : List Value} (h : HeldT B w acc v xs wr) (b o : Nat) (u : Value) (hu : (off w' (old wr.heap.size)).cell? ⟨b, o, none⟩ = some u) : (off w' (Xo w.heap.size v)).cell? ⟨b, o, none⟩ = some u := by
  obtain ⟨h0, hc⟩ := off_cell.1 hu
  have h1 := of_decide_eq_false h0
  exact off_cell.2 ⟨Xo_no.2 ⟨by have := h.keeps.size; omega, fun e => by have := (own_lt h.own b e).2; omega⟩, hc⟩
/-- What holds ahead of each round. -/
def Topr (B : Nat) (s : ByteArray) (w : World) (res : Res (List Dt)) (g : Nat) (v : Value) (wr : World) : Prop :=
  ∃ (acc : List Dt) (xs : List Value) (b : Nat) (z : Int), acc.length ≤ 65537 ∧ b ≤ s.size ∧ wr.heap[B]? = some (Tr s b z) ∧ HeldT B w acc v xs wr ∧
    ((z = -1 ∧ 2 * (s.size - b) + 2 ≤ g ∧ acc.length ≤ b ∧ Top acc (s.data.toList.drop b) res) ∨ (∃ q, res = .bad q ∧ z = ((s.size - q.length : Nat) : Int)))
/-- All that was made is new. -/
theorem below_keeps {w W1 W : World} {O : Obj} (h1 : W1 = w.alloc O) (h : Keeps w.heap.size W1 W) : Below w.heap.size w W := by
  subst h1
  have h0 := box_below w O
  exact ⟨h.os.trans h0.os, h.tape.trans h0.tape, h.output.trans h0.output, Nat.le_trans h0.size h.size, fun k hk => (h.block k (Nat.lt_of_lt_of_le hk h0.size) (by omega)).trans (h0.block k hk)⟩
set_option maxHeartbeats 8000000 in
set_option maxRecDepth 100000 in
theorem readr_any (s : ByteArray) (w : World) (res : Res (List Dt)) (hs : s.size ≤ 65536) (hr : Top [] s.data.toList res) :
    Calls Tryd.prog 22 #[.string s] w fun e w' => Red s res e w' ∧ Below w.heap.size w w' := by
  obtain ⟨W1, hW1⟩ : ∃ W, w.alloc (.cells #[.string s, .int .i64 0, .int .i64 (-1)] 64) = W := ⟨_, rfl⟩
  obtain ⟨B, hBe⟩ : ∃ B, w.heap.size = B := ⟨_, rfl⟩
  have hh1 : W1.heap[B]? = some (Tr s 0 (-1)) := by rw [← hW1, ← hBe]; exact at_new _ _
  have hB : B < W1.heap.size := (Array.getElem?_eq_some_iff.1 hh1).1
  have hend : ∀ W, Keeps B W1 W → Below w.heap.size w W := fun W h => by subst hBe; exact below_keeps hW1.symm h
  have HH1 := Lib.hid hh1; clear hh1
  have HR := Lib.hid hr; clear hr
  have HE := Lib.hid hend; clear hend
  go_enter Tryd.func22, Tryd.ntmps22
  go_wp2_with (first | rw [hW1] | fail)
  try rw [hBe]
  try rw [hW1]
  go_loopg [6] (2 * s.size + 2) (fun g v wr => Topr B s W1 res g v wr)
  case atStart =>
    exact ⟨[], [], 0, -1, by simp, by omega, HH1.out, ⟨Keeps.refl _ _, ⟨rfl, Or.inl ⟨rfl, rfl⟩⟩, rfl⟩, Or.inl ⟨rfl, by omega, by simp, HR.out⟩⟩
  case round =>
    obtain ⟨acc, xs, b, z, hacc, hb, hh, hheld, hst⟩ := hrel
    obtain ⟨pv, cv, rfl, hrow⟩ := hheld.slice
    obtain ⟨c0, c1, c2, z1, z2⟩ := tr_cells hh
    rcases hst with ⟨rfl, hg, hacc2, htop⟩ | ⟨q, hres, hz⟩
    · have hsk0 := skip_len false (s.data.toList.drop b)
      rcases top_view htop with ⟨hsk, hres⟩ | ⟨c, r, r1, hsk, hrd, hway⟩
      · have HC := Lib.hid (nextr_any B s b (-1) wr hh hb hs)
        have HK := Lib.hid (And.intro hheld (And.intro hres hsk)); clear hheld hrow hres hh htop hsk hsk0
        go_wp2_with fail
        refine (HC.out).mono ?_
        rintro _ w1 ⟨rfl, hk, b1, hb1, hh1, hd1⟩
        have hbe : b1 = s.size := by rw [HK.out.2.2] at hd1; have := congrArg List.length hd1; simp at this; omega
        subst hbe
        have held1 := HK.out.1.on hk hB
        obtain ⟨pw, cw, e, hrow1⟩ := held1.slice
        simp only [Value.slice.injEq, true_and] at e
        obtain ⟨rfl, rfl⟩ := e
        clear c0 c1 c2 z1 z2
        obtain ⟨c0, c1, c2, z1, z2⟩ := tr_cells hh1
        have HF := Lib.hid (And.intro hrow1 held1.keeps); clear hrow1 held1 hk hh1 hd1
        go_wp2_with fail
        go_ret3
        exact ⟨Or.inr ⟨acc, _, _, HK.out.2.1, Nat.le_trans hacc2 hb, rfl, HF.out.1⟩, HE.out _ HF.out.2⟩
      · have hbb : ∀ b1, s.data.toList.drop b1 = c :: r → b1 ≤ s.size → b ≤ b1 := fun b1 h h2 => by have h4 := congrArg List.length h; rw [hsk] at hsk0; simp at h4 hsk0; omega
        have HBB := Lib.hid hbb
        have HC := Lib.hid (nextr_any B s b (-1) wr hh hb hs)
        have HK := Lib.hid (And.intro hheld (And.intro hrd (And.intro hway hsk))); clear hheld hrow hrd hway hh htop hsk hsk0 hbb
        go_wp2_with fail
        refine (HC.out).mono ?_
        rintro _ w1 ⟨rfl, hk, b1, hb1, hh1, hd1⟩
        rw [HK.out.2.2.2] at hd1
        obtain ⟨hlt, hd2⟩ := drop_tail hd1
        have hb01 := HBB.out b1 hd1 hb1
        have held1 := HK.out.1.on hk hB
        have e2 : ((b1 : Int) == (s.size : Int)) = false := by rw [beq_eq_false_iff_ne]; omega
        clear c0 c1 c2 z1 z2
        obtain ⟨c0, c1, c2, z1, z2⟩ := tr_cells hh1
        have HC2 := Lib.hid (oner_any (s.size - b1 + 1) B s b1 w1 r1 0 (by omega) hh1 hb1 hs (hd1.symm ▸ HK.out.2.1))
        have HD1 := Lib.hid hd1
        have HL1 := Lib.hid held1; clear hk hh1 hd1 hd2 held1
        go_wp2_with fail
        refine (HC2.out).mono ?_
        rintro _ w3 ⟨hk3, d, v3, b3, z3, rfl, hat, hb3, hh3, hst3⟩
        obtain ⟨k, n, m, x, p2, len2, cap2, rfl⟩ := at_five hat
        obtain ⟨G, hG⟩ : ∃ G, w3.heap.size = G := ⟨_, rfl⟩
        have hk4 : Keeps B w3 (w3.alloc (Five k n m x (.slice p2 len2 cap2))) := Keeps.of (box_below _ _)
        have hatx := hat.on (xo_upT HL1.out)
        have hat4 : d.At (off (w3.alloc (Five k n m x (.slice p2 len2 cap2))) (Xo W1.heap.size (.slice pv acc.length cv))) (.agg #[.int .i64 k, .int .i64 n, .int .i64 m, .string x, .slice p2 len2 cap2]) :=
          hatx.on fun b o u hu => off_on (fun _ _ hx => hx) (fun b hb' hx => Below.heap_alloc _ _ _ hb') b o u hu
        have held4 := (HL1.out.on hk3 hB).on hk4 hB
        have hhG : (w3.alloc (Five k n m x (.slice p2 len2 cap2))).heap[G]? = some (Five k n m x (.slice p2 len2 cap2)) := hG ▸ at_new w3 _
        have hh4 : (w3.alloc (Five k n m x (.slice p2 len2 cap2))).heap[B]? = some (Tr s b3 z3) := block_on (box_below _ _) hh3
        have hGB : G ≠ B := by
          have := (Array.getElem?_eq_some_iff.1 hh3).1
          omega
        obtain ⟨W4, hW4⟩ : ∃ W, w3.alloc (Five k n m x (.slice p2 len2 cap2)) = W := ⟨_, rfl⟩
        rw [hW4] at hat4 held4 hhG hh4
        have key3 : (∃ q, res = .bad q ∧ z3 = ((s.size - q.length : Nat) : Int)) ∨ (z3 = -1 ∧ b1 < b3 ∧ ((rightDt d = false ∧ res = .bad (c :: r)) ∨ (rightDt d = true ∧ Top (acc ++ [d]) (s.data.toList.drop b3) res))) := by
          rcases hst3 with ⟨q, e1, e2⟩ | ⟨e1, e2⟩
          · rcases HK.out.2.2.1 with ⟨q', e3, e4⟩ | ⟨d', q', e3, hl, h⟩
            · obtain rfl := Res.bad.inj (e1.symm.trans e3)
              exact Or.inl ⟨q, e4, e2⟩
            · cases e1.symm.trans e3
          · rcases HK.out.2.2.1 with ⟨q', e3, e4⟩ | ⟨d', q', e3, hl, h⟩
            · cases e1.symm.trans e3
            · obtain ⟨rfl, rfl⟩ := Res.ok.inj (e1.symm.trans e3)
              rw [← HD1.out] at hl
              simp at hl
              exact Or.inr ⟨e2, by omega, h⟩
        clear hst3 hatx hat hk3 hk4 hh3 c0 c1 c2 z1 z2
        have hszc := held4.keeps.size
        obtain ⟨g0, g1, g2, g3, g4⟩ := box_cells hhG
        obtain ⟨c0, c1, c2, z1, z2⟩ := tr_cells hh4
        have hplain : d.At W4 (.agg #[.int .i64 k, .int .i64 n, .int .i64 m, .string x, .slice p2 len2 cap2]) := hat4.on fun b o u hu => (off_cell.1 hu).2
        rcases key3 with ⟨q, hres, hz⟩ | ⟨rfl, hbb3, ⟨hnr, hres⟩ | ⟨hnr, htop⟩⟩
        · obtain ⟨y, hy⟩ : ∃ y : Nat, s.size - q.length = y := ⟨_, rfl⟩
          rw [hy] at hz
          subst hz
          have hz0 : decide ((y : Int) < 0) = false := by simp
          have HK4 := Lib.hid (And.intro held4 (And.intro hat4 (And.intro hh4 (And.intro hres hy)))); clear held4 hat4 hh4 hres hy hhG hplain
          obtain ⟨i0', hi, hz⟩ := Option.map_eq_some_iff.1 Tryd.infoDt
          simp only [Prod.mk.injEq] at hz
          obtain ⟨hz0, hz1, hz2⟩ := hz
          have HI0 := Lib.hid (And.intro hi (And.intro hz0 (And.intro hz1 hz2)))
          clear hi hz0 hz1 hz2
          go_wp2_with (first
            | rw [hW4]
            | (at_builtin; refine wpList_append_own_at _ rfl (.tmp 51) (.tmp 53) 22 rfl W1.heap.size 24 i0' (.agg #[.int .i64 0, .int .i64 0, .int .i64 0, .string ⟨#[]⟩, .slice none 0 0]) 5 64 Tryd.underlying22 HI0.out.1 HI0.out.2.1 HI0.out.2.2.1 HI0.out.2.2.2 rfl (by decide) _ _ _ rfl (HK4.out.1.own.alloc _) ⟨W4.heap.size, 0, none⟩ 1 1 [.int .i64 k, .int .i64 n, .int .i64 m, .string x, .slice p2 len2 cap2] rfl rfl (five_new _ _ _ _ _ _ _) (by intro u hu; simp at hu; rcases hu with rfl | rfl | rfl | rfl | rfl <;> rfl) (by unfold maxLen; omega) (by omega) (by simp; omega) ?_
               intro v4 w4 hown4 hgrow4 hnil4 hat4
               have HP := Lib.hid (And.intro hown4 (And.intro hgrow4 hat4))
               clear hown4 hgrow4 hnil4 hat4))
          go_roundg (2 * (s.size - b1))
          case measure => omega
          case rel =>
            obtain ⟨h1, h2⟩ := HK4.out.1.push HK4.out.2.1 hB _ HP.out.1 HP.out.2.1 HP.out.2.2
            exact ⟨acc ++ [d], _, b3, y, by simp; omega, hb3, (h2 B hB).trans HK4.out.2.2.1, h1, Or.inr ⟨q, HK4.out.2.2.2.1, by rw [HK4.out.2.2.2.2]⟩⟩
        · have CR := rRight d _ W4 hplain
          rw [show d.right rightB nameB 0 = false from hnr] at CR
          have HCR := Lib.hid CR
          have HK4 := Lib.hid (And.intro held4 (And.intro hat4 (And.intro hh4 hhG))); clear held4 hat4 hh4 hhG hplain CR hnr
          go_wp2_with (first | rw [hW4] | fail)
          refine (HCR.out).mono ?_
          rintro _ w5 ⟨rfl, hb5⟩
          have HX := Lib.hid (failr_any B s b3 b1 w5 (block_on hb5 HK4.out.2.2.1))
          have HB5 := Lib.hid hb5; clear hb5 g0 g1 g2 g3 g4 c0 c1 c2 z1 z2
          go_wp2_with fail
          refine (HX.out).mono ?_
          rintro _ w6 ⟨rfl, hk6, hh6⟩
          have hk46 := (Keeps.of (B := B) HB5.out).trans hk6
          have held6 := HK4.out.1.on hk46 hB
          have hat6 := HK4.out.2.1.on (off_keeps hk46 hB)
          have hhG6 := keeps_block hk46 HK4.out.2.2.2 hGB
          obtain ⟨g0, g1, g2, g3, g4⟩ := box_cells hhG6
          have hszc := held6.keeps.size
          have HK6 := Lib.hid (And.intro held6 (And.intro hat6 hh6)); clear held6 hat6 hh6 hhG6 hk46 hk6
          obtain ⟨i0', hi, hz⟩ := Option.map_eq_some_iff.1 Tryd.infoDt
          simp only [Prod.mk.injEq] at hz
          obtain ⟨hz0, hz1, hz2⟩ := hz
          have HI0 := Lib.hid (And.intro hi (And.intro hz0 (And.intro hz1 hz2)))
          clear hi hz0 hz1 hz2
          go_wp2_with (first
            | (at_builtin; refine wpList_append_own_at _ rfl (.tmp 51) (.tmp 53) 22 rfl W1.heap.size 24 i0' (.agg #[.int .i64 0, .int .i64 0, .int .i64 0, .string ⟨#[]⟩, .slice none 0 0]) 5 64 Tryd.underlying22 HI0.out.1 HI0.out.2.1 HI0.out.2.2.1 HI0.out.2.2.2 rfl (by decide) _ _ _ rfl (HK6.out.1.own.alloc _) ⟨w6.heap.size, 0, none⟩ 1 1 [.int .i64 k, .int .i64 n, .int .i64 m, .string x, .slice p2 len2 cap2] rfl rfl (five_new _ _ _ _ _ _ _) (by intro u hu; simp at hu; rcases hu with rfl | rfl | rfl | rfl | rfl <;> rfl) (by unfold maxLen; omega) (by omega) (by simp; omega) ?_
               intro v4 w4 hown4 hgrow4 hnil4 hat4
               have HP := Lib.hid (And.intro hown4 (And.intro hgrow4 hat4))
               clear hown4 hgrow4 hnil4 hat4))
          go_roundg (2 * (s.size - b1))
          case measure => omega
          case rel =>
            obtain ⟨h1, h2⟩ := HK6.out.1.push HK6.out.2.1 hB _ HP.out.1 HP.out.2.1 HP.out.2.2
            exact ⟨acc ++ [d], _, b3, b1, by simp; omega, hb3, (h2 B hB).trans HK6.out.2.2, h1, Or.inr ⟨_, hres, by have h4 := congrArg List.length HD1.out; simp at h4 ⊢; omega⟩⟩
        · have CR := rRight d _ W4 hplain
          rw [show d.right rightB nameB 0 = true from hnr] at CR
          have HCR := Lib.hid CR
          have HK4 := Lib.hid (And.intro held4 (And.intro hat4 (And.intro hh4 hhG))); clear held4 hat4 hh4 hhG hplain CR hnr
          have HTOP := Lib.hid htop; clear htop
          go_wp2_with (first | rw [hW4] | fail)
          refine (HCR.out).mono ?_
          rintro _ w5 ⟨rfl, hb5⟩
          have hk45 := Keeps.of (B := B) hb5
          have held5 := HK4.out.1.on hk45 hB
          have hat5 := HK4.out.2.1.on (off_keeps hk45 hB)
          have hhG5 := block_on hb5 HK4.out.2.2.2
          have hh5 := block_on hb5 HK4.out.2.2.1
          clear g0 g1 g2 g3 g4 c0 c1 c2 z1 z2
          obtain ⟨g0, g1, g2, g3, g4⟩ := box_cells hhG5
          have hszc := held5.keeps.size
          have HK5 := Lib.hid (And.intro held5 (And.intro hat5 hh5)); clear held5 hat5 hh5 hhG5 hk45 hb5
          obtain ⟨i0', hi, hz⟩ := Option.map_eq_some_iff.1 Tryd.infoDt
          simp only [Prod.mk.injEq] at hz
          obtain ⟨hz0, hz1, hz2⟩ := hz
          have HI0 := Lib.hid (And.intro hi (And.intro hz0 (And.intro hz1 hz2)))
          clear hi hz0 hz1 hz2
          go_wp2_with (first
            | (at_builtin; refine wpList_append_own_at _ rfl (.tmp 51) (.tmp 53) 22 rfl W1.heap.size 24 i0' (.agg #[.int .i64 0, .int .i64 0, .int .i64 0, .string ⟨#[]⟩, .slice none 0 0]) 5 64 Tryd.underlying22 HI0.out.1 HI0.out.2.1 HI0.out.2.2.1 HI0.out.2.2.2 rfl (by decide) _ _ _ rfl (HK5.out.1.own.alloc _) ⟨w5.heap.size, 0, none⟩ 1 1 [.int .i64 k, .int .i64 n, .int .i64 m, .string x, .slice p2 len2 cap2] rfl rfl (five_new _ _ _ _ _ _ _) (by intro u hu; simp at hu; rcases hu with rfl | rfl | rfl | rfl | rfl <;> rfl) (by unfold maxLen; omega) (by omega) (by simp; omega) ?_
               intro v4 w4 hown4 hgrow4 hnil4 hat4
               have HP := Lib.hid (And.intro hown4 (And.intro hgrow4 hat4))
               clear hown4 hgrow4 hnil4 hat4))
          go_roundg (2 * (s.size - b1))
          case measure => omega
          case rel =>
            obtain ⟨h1, h2⟩ := HK5.out.1.push HK5.out.2.1 hB _ HP.out.1 HP.out.2.1 HP.out.2.2
            exact ⟨acc ++ [d], _, b3, -1, by simp; omega, hb3, (h2 B hB).trans HK5.out.2.2, h1, Or.inl ⟨rfl, by omega, by simp; omega, HTOP.out⟩⟩
    · obtain ⟨y, hy⟩ : ∃ y : Nat, s.size - q.length = y := ⟨_, rfl⟩
      rw [hy] at hz
      subst hz
      have hz0 : decide ((y : Int) < 0) = false := by simp
      have HK := Lib.hid (And.intro hheld.keeps (And.intro hres hy)); clear hheld hrow hres hy
      go_wp2_with fail
      go_quiet (fail)
      go_wp2_with fail
      go_ret3
      exact ⟨Or.inl ⟨q, HK.out.2.1, by rw [HK.out.2.2]; rfl⟩, HE.out _ (HK.out.1.trans (Keeps.of (below_drewN _ _)))⟩
end Go.Proofs.YtabofebepefbgaaDoor.Dat

/- ReaderReads answers true. -/
namespace Go.Proofs.YtabofebepefbgaaDoor.Dat
open Go.RowKit
open Go.Proofs.YtabofebepefbgaaDoor (textL parse res str_of textRef_any)
open NumPlain (rightB)
set_option linter.unusedVariables false

set_option maxHeartbeats 400000 in
set_option maxRecDepth 100000 in
theorem readr_long (s : ByteArray) (w : World) (hs : 65536 < s.size) (hm : s.size ≤ maxLen) :
    Answers 22 #[.string s] w (.tuple #[.slice none 0 0, .int .i64 65536, .int .i64 2]) := by
  unfold Answers
  unfold maxLen at hm
  have q1 : (decide ((65536 : Int) < s.size)) = true := by rw [decide_eq_true_iff]; omega
  go_enter Tryd.func22, Tryd.ntmps22
  go_wp2_with fail
  go_ret3
  exact ⟨rfl, Below.refl _ _⟩
theorem same_rows (l : List Dt) (p p' : Option Addr) (cap cap' : Nat) (w : World) (hm : l.length ≤ maxLen) (hl : Rowed w l p) (hl' : Rowed w l p') :
    Answers 23 #[.slice p l.length cap, .slice p' l.length cap'] w (.bool true) := by
  have := rows_same l l p p' cap cap' w hm hm hl hl'
  rwa [(Dt.alikeAll_iff l l).2 rfl] at this
set_option maxHeartbeats 1000000 in
set_option maxRecDepth 100000 in
theorem reads_any (s : ByteArray) (hs : s.size ≤ maxLen) (w : World) (ht : Tab w) :
    Answers 5 #[.string s] w (.bool true) := by
  unfold Answers
  have HS := Lib.hid hs
  unfold maxLen at hs
  have HT := Lib.hid ht; clear ht
  go_enter Tryd.func5, Tryd.ntmps5
  go_wp2_with fail
  refine (awake3_any _ HT.out).mono ?_
  rintro _ w1 ⟨rfl, hb1⟩
  have HB1 := Lib.hid hb1; clear hb1
  by_cases h6 : s.size ≤ 65536
  · have q1 : (decide ((s.size : Int) ≤ 65536)) = true := by rw [decide_eq_true_iff]; omega
    go_wp2_with fail
    refine (deep_any s h6 _).mono ?_
    rintro _ w2 ⟨⟨n, hn, rfl⟩, hb2⟩
    have HB2 := Lib.hid ((HB1.out).trans (hb2.mono (HB1.out).size)); clear hb2
    by_cases h3 : n ≤ 3000
    case neg =>
      have q2 : (decide ((3000 : Int) < (n : Int))) = true := by rw [decide_eq_true_iff]; omega
      go_wp2_with fail
      go_ret
      exact ⟨rfl, HB2.out⟩
    have q2 : (decide ((3000 : Int) < (n : Int))) = false := by rw [decide_eq_false_iff_not]; omega
    obtain ⟨r, hr, C1⟩ := red_any s w2 h6
    have HR := Lib.hid hr; clear hr
    have HC1 := Lib.hid C1; clear C1
    go_wp2_with fail
    refine (HC1.out).mono ?_
    rintro e1 w3 ⟨hred, hb3⟩
    have C2 := readr_any s w3 r h6 HR.out
    have HC2 := Lib.hid C2; clear C2
    rcases hred with ⟨q, rfl, rfl⟩ | ⟨l, p, cap, rfl, hl, rfl, hrow⟩
    · have HB3 := Lib.hid ((HB2.out).trans (hb3.mono (HB2.out).size)); clear hb3
      go_wp2_with fail
      refine (HC2.out).mono ?_
      rintro e2 w4 ⟨hred, hb4⟩
      rcases hred with ⟨q', he, rfl⟩ | ⟨l, p, cap, he, hl, rfl, hrow⟩
      · obtain rfl := Res.bad.inj he
        have HB4 := Lib.hid ((HB3.out).trans (hb4.mono (HB3.out).size)); clear hb4
        go_wp2_with fail
        refine (same_rows [] none none 0 0 w4 (by simp) (Or.inl rfl) (Or.inl rfl)).mono ?_
        rintro _ w5 ⟨rfl, hb5⟩
        have HB5 := Lib.hid ((HB4.out).trans (hb5.mono (HB4.out).size)); clear hb5
        go_wp2_with fail
        go_ret
        exact ⟨rfl, HB5.out⟩
      · cases he
    · have HROW := Lib.hid hrow; clear hrow
      have HB3 := Lib.hid ((HB2.out).trans (hb3.mono (HB2.out).size)); clear hb3
      go_wp2_with fail
      refine (HC2.out).mono ?_
      rintro e2 w4 ⟨hred, hb4⟩
      rcases hred with ⟨q', he, rfl⟩ | ⟨l', p', cap', he, hl', rfl, hrow'⟩
      · cases he
      · obtain ⟨rfl, -⟩ := Res.ok.inj he
        have HC := Lib.hid (same_rows l p p' cap cap' w4 (by unfold maxLen; omega) ((HROW.out).below hb4) hrow')
        have HB4 := Lib.hid ((HB3.out).trans (hb4.mono (HB3.out).size)); clear hb4 hrow'
        go_wp2_with fail
        refine (HC.out).mono ?_
        rintro _ w5 ⟨rfl, hb5⟩
        have HB5 := Lib.hid ((HB4.out).trans (hb5.mono (HB4.out).size)); clear hb5
        go_wp2_with fail
        go_ret
        exact ⟨rfl, HB5.out⟩
  · have q1 : (decide ((s.size : Int) ≤ 65536)) = false := by rw [decide_eq_false_iff_not]; omega
    have HC1 := Lib.hid (read_long s w1 (by omega) HS.out)
    go_wp2_with fail
    refine (HC1.out).mono ?_
    rintro e1 w3 ⟨rfl, hb3⟩
    have HB3 := Lib.hid ((HB1.out).trans (hb3.mono (HB1.out).size)); clear hb3
    have HC2 := Lib.hid (readr_long s w3 (by omega) HS.out)
    go_wp2_with fail
    refine (HC2.out).mono ?_
    rintro e2 w4 ⟨rfl, hb4⟩
    have HB4 := Lib.hid ((HB3.out).trans (hb4.mono (HB3.out).size)); clear hb4
    go_wp2_with fail
    refine (same_rows [] none none 0 0 w4 (by simp) (Or.inl rfl) (Or.inl rfl)).mono ?_
    rintro _ w5 ⟨rfl, hb5⟩
    have HB5 := Lib.hid ((HB4.out).trans (hb5.mono (HB4.out).size)); clear hb5
    go_wp2_with fail
    go_ret
    exact ⟨rfl, HB5.out⟩
end Go.Proofs.YtabofebepefbgaaDoor.Dat


namespace Go.Proofs.YtabofebepefbgaaDoor.readerReads
open Go.ChangeShapes Go.WideShapes Go.ChangeAt Go.RowKit
open Go.ChangeMaps (open_string shut_string)
open Go.Proofs.YtabofebepefbgaaDoor.Dat

set_option maxRecDepth 100000 in
theorem lifted (os : Os) (started : os.Started) (H : Type) (enc : TypeId × Value → H) :
    ReturnsInHanded {} Tryd.checked os 5 .any (fun w args => (Rows.readerReadsSpec.pre enc Tryd.prog Tryd.f5 [] false w args ∧ laidMetH Tryd.prog laid3 w) ∧ sizedMet enc Tryd.prog Tryd.f5 (OpenSpec.ofChange Rows.readerReadsSpec) false w args)
      (Rows.readerReadsSpec.post enc Tryd.prog Tryd.f5 false true false false) := by
  refine returnsInHanded_of_change_and (C := Tryd.checked) (X := fun w _ => laidMetH Tryd.prog laid3 w) (fun _ _ _ hh h => h.of_heap hh) own started (by kernel_rfl) Tryd.func5
    (ChangeSpec.witness_shaped (enc := enc) (C := Tryd.checked) (os := os) (X := fun w _ => laidMetH Tryd.prog laid3 w) false (World.doorLaid Tryd.prog 24 os) #[.string ⟨#[]⟩] 8 rfl (World.shaped_of_RefB (by kernel_rfl) (by kernel_rfl)) (by kernel_rfl) (by kernel_rfl) (by kernel_rfl) (door_met os _)) ?_
  intro W base args ds gs before hval0 hW _ _ hL _
  have hval : ∀ (j : Nat) t v, Tryd.f5.params[j]? = some t → args[j]? = some v → Value.okWide Tryd.prog W .any base t v := hval0
  have hW' := hW
  obtain ⟨p, q, hA0, hV, rfl, hfz, hnd⟩ := hW
  have hA : DataW.TrodAll enc Tryd.prog W 0 (fun _ => true) true Tryd.f5.params.toList args.toList ds p := hA0
  rw [Tryd.params5] at hA hval
  obtain ⟨v0, vs0, d0, ds0, p0, q0, hargs, rfl, rfl, h0, r0⟩ := trodAll_cons hA
  obtain ⟨rfl, rfl, rfl⟩ := trodAll_nil r0
  obtain rfl : args = #[v0] := by cases args; simp_all
  obtain ⟨rfl, rfl⟩ := trodVars_none hV
  obtain ⟨s0, rfl, rfl, rfl, hs0⟩ := open_string Tryd.underlying9 (hval 0 9 v0 rfl rfl) h0
  clear hA0 hval0
  simp only [List.append_nil] at hW'
  refine (reads_any s0 hs0 W (tab_of_laid hL)).mono fun e W' ⟨he, hnx⟩ => ?_
  subst he
  refine ⟨_, rfl, _, _, _, [], [], [], hW', ?_, ?_, rfl, hnx.frame _, fun h => by cases h⟩
  · exact trodAll_cons_mk (shut_bool Tryd.underlying4 _) trodAll_mk0
  · exact trodAll_cons_mk (shut_string Tryd.underlying9 hs0) (trodAll_mk0)

theorem row_holds : Rows.ReaderReadsSaid :=
  OpenClaim.holds_of_wide 5 Tryd.f5 rfl rfl rfl rfl rfl rfl rfl ⟨rfl, rfl, rfl, rfl, rfl⟩ rfl rfl rfl rfl rfl (by kernel_rfl) Tryd.func5 (by kernel_rfl)
    (of_decide_eq_true (by kernel_rfl)) (by unfold Func.isWrapper; first | (rw [if_pos (by decide +kernel)]; kernel_rfl) | (rw [if_neg (by decide +kernel)]; exact ⟨rfl, rfl⟩))
    (fun os started H enc _ => lifted os started H enc)

theorem proved : Rows.ReaderReadsCardSaid :=
  Claim7.holds_tied_plain_at .later [] [.data, .data, .data] true (true, "b5aab2e4575c67165dee852d4a059ea827c416131030dee3c0fa9ff6b191e51b") true
    row_holds (fun _ h => by cases h) (by kernel_rfl) (fun _ h => by cases h) readerReads_row_tie rfl ⟨rfl, rfl⟩ (by kernel_rfl) rfl
    (fun f fn hf hfn => by
      obtain rfl : f = 5 := Option.some.inj ((show Tryd.prog.funcNamed "corbel/corbellaw03.ReaderReads" = some 5 by kernel_rfl).symm.trans hf) |>.symm
      obtain rfl : fn = Tryd.f5 := (Option.some.inj (Tryd.func5.symm.trans hfn)).symm
      exact ⟨by kernel_rfl, fun j t ht => by
        rw [Tryd.params5] at ht
        have hm : t ∈ [9] := by simpa using Array.mem_of_getElem? ht
        have hall : ([9].all fun u => !Tryd.prog.wantsStandIn u) = true := by kernel_rfl
        exact (show Tryd.prog.wantsStandIn t = false by simpa using List.all_eq_true.1 hall t hm)⟩)
    (by kernel_rfl)
#print axioms proved
end Go.Proofs.YtabofebepefbgaaDoor.readerReads
