/- The text that is read, as it lies in memory; the program's skip, here, fail, next. -/
import Derived.Test.YtabofebepefbgaaDoorRdOne
import Derived.Test.YtabofebepefbgaaDoorDatVv
import Derived.Test.YtabofebepefbgaaDoorShelf
import Derived.Deep.LoopGhost
import Derived.WalkSmall
import Derived.Lib.IndexLaws
import Derived.Test.YtabofebepefbgaaDoorDatW0M
import Derived.StillTailTactics


namespace Go.Proofs.YtabofebepefbgaaDoor.Dat
open Go.RowKit
open Go.Proofs.YtabofebepefbgaaDoor (textL parse)
set_option linter.unusedVariables false

/-- The text and the place of the byte that is read next. -/
abbrev Tx (s : ByteArray) (a : Nat) : Obj := .cells #[.string s, .int .i64 a] 60 (0, 0)
theorem tx_cells {w : World} {B : Nat} {s : ByteArray} {a : Nat} (h : w.heap[B]? = some (Tx s a)) : w.cell? ⟨B, 0, none⟩ = some (.string s) ∧ w.cell? ⟨B, 1, none⟩ = some (.int .i64 a) ∧ w.frozen? ⟨B, 1, none⟩ = false := by
  refine ⟨?_, ?_, ?_⟩ <;> simp [World.cell?, World.frozen?, h]
theorem tx_set {w : World} {B : Nat} {s : ByteArray} {a : Nat} {b : Int} (c : Nat) (h : w.heap[B]? = some (Tx s a)) (hc : b = (c : Int)) : (w.setCell ⟨B, 1, none⟩ (.int .i64 b)).heap[B]? = some (Tx s c) := by
  subst hc
  refine (heap_setCell_same _ _ 1 _ 60 _ h).trans ?_
  simp
theorem drop_cons (s : ByteArray) (a : Nat) (h : a < s.size) : s.data.toList.drop a = s[a] :: s.data.toList.drop (a + 1) := by
  rw [List.drop_eq_getElem_cons (by simpa using h)]; rfl
theorem drop_end (s : ByteArray) : s.data.toList.drop s.size = [] := List.drop_of_length_le (by simp)
theorem line_end : ∀ {l : List UInt8}, Lib.indexByte l 10 = -1 → skipB true l = []
  | [], _ => rfl
  | c :: r, h => by
    have h0 := Lib.indexByte_none h 0
    have hc : c ≠ 10 := fun e => h0 (by rw [e]; rfl)
    unfold Lib.indexByte at h
    rw [show (c == 10) = false from beq_eq_false_iff_ne.2 hc] at h
    simp only [skipB, show (c != 10) = true from bne_iff_ne.2 hc]
    by_cases hr : Lib.indexByte r 10 = -1
    · exact line_end hr
    · have := Lib.indexByte_ge r 10
      rw [show (Lib.indexByte r 10 == -1) = false from beq_eq_false_iff_ne.2 hr] at h
      simp at h; omega
theorem line_at : ∀ {l : List UInt8} {n : Nat}, Lib.indexByte l 10 = (n : Int) → n < l.length ∧ skipB true l = skipB false (l.drop (n + 1))
  | [], n, h => by have : (-1 : Int) = n := h; omega
  | c :: r, n, h => by
    unfold Lib.indexByte at h
    by_cases hc : c = 10
    · subst hc
      simp at h
      obtain rfl : n = 0 := by omega
      simp [skipB]
    · rw [show (c == 10) = false from beq_eq_false_iff_ne.2 hc] at h
      simp only [skipB, show (c != 10) = true from bne_iff_ne.2 hc]
      by_cases hr : Lib.indexByte r 10 = -1
      · rw [hr] at h; simp at h
      · rw [show (Lib.indexByte r 10 == -1) = false from beq_eq_false_iff_ne.2 hr] at h
        simp at h
        obtain ⟨m, rfl⟩ : ∃ m, n = m + 1 := ⟨n - 1, by have := Lib.indexByte_ge r 10; omega⟩
        obtain ⟨h1, h2⟩ := line_at (l := r) (n := m) (by omega)
        exact ⟨by simp only [List.length_cons]; omega, by rw [h2]; rfl⟩
theorem skip_blank {c : UInt8} {r : List UInt8} (h : c = 32 ∨ c = 10 ∨ c = 9) : skipB false (c :: r) = skipB false r := by
  rcases h with rfl | rfl | rfl <;> rfl
theorem skip_mark (r : List UInt8) : skipB false (59 :: r) = skipB true r := rfl
theorem skip_rest {c : UInt8} {r : List UInt8} (h1 : c ≠ 32) (h2 : c ≠ 10) (h3 : c ≠ 9) (h4 : c ≠ 59) : skipB false (c :: r) = c :: r := by
  simp [skipB, h1, h2, h3, h4]

theorem byte_test (c : UInt8) (k : UInt8) : ((c.toNat : Int) == (k.toNat : Int)) = decide (c = k) := by
  rw [Bool.eq_iff_iff, beq_iff_eq, decide_eq_true_iff, Int.ofNat_inj, UInt8.toNat_inj]

theorem byte_no {c k : UInt8} (h : c ≠ k) : ((c.toNat : Int) != (k.toNat : Int)) = true := by
  rw [bne, byte_test, decide_eq_false h]; rfl
theorem byte_yes {c k : UInt8} (h : c = k) : ((c.toNat : Int) == (k.toNat : Int)) = true := by
  rw [byte_test, decide_eq_true h]
theorem byte_ne {c k : UInt8} (h : c ≠ k) : ((c.toNat : Int) == (k.toNat : Int)) = false := by
  rw [byte_test, decide_eq_false h]
theorem byte_nn {c k : UInt8} (h : c = k) : ((c.toNat : Int) != (k.toNat : Int)) = false := by
  rw [bne, byte_yes h]; rfl
/-- A call that leaves each world as it was, behind draws. -/
theorem calm_call {f : FuncId} {args : Array Value} {v : Value} (h : ∀ W : World, Calls Tryd.prog f args W fun e w' => e = .returned v ∧ w' = W) (w : World) (k n : Nat) :
    Calls Tryd.prog f args (w.drewN (k + n)) fun e w' => e = .returned v ∧ ∃ m, w' = w.drewN (k + m) := (h _).mono fun _ _ hh => ⟨hh.1, n, hh.2⟩

/-- What a panic with a place is. -/
abbrev pan (p : Nat) : Ending := .panicked [{ v := .iface 57 (.int .i64 p), recovered := false }]

set_option maxHeartbeats 400000 in
theorem fail_any (B : Nat) (s : ByteArray) (a : Nat) (w : World) (hb : w.heap[B]? = some (Tx s a)) :
    Calls Tryd.prog 95 #[.pointer (some ⟨B, 0, none⟩)] w fun e w' => e = pan a ∧ w = w' := by
  obtain ⟨c0, c1, z1⟩ := tx_cells hb
  go_enter Tryd.func95, Tryd.ntmps95
  go_wp2
  exact ⟨rfl, rfl, rfl⟩

set_option maxHeartbeats 400000 in
theorem here_in (B : Nat) (s : ByteArray) (a : Nat) (w : World) (hb : w.heap[B]? = some (Tx s a)) (ha : a < s.size) (hs : s.size ≤ 65536) :
    Calls Tryd.prog 94 #[.pointer (some ⟨B, 0, none⟩)] w fun e w' => e = .returned (.int .u8 s[a].toNat) ∧ ∃ k, w' = w.drewN k := by
  obtain ⟨c0, c1, z1⟩ := tx_cells hb
  have e1 : ((a : Int) == (s.size : Int)) = false := by rw [beq_eq_false_iff_ne]; omega
  have b0 : (0 : Int) ≤ a := by omega
  have b1 : (a : Int) < s.size := by omega
  go_enter Tryd.func94, Tryd.ntmps94
  go_wp2
  go_quiet (fail)
  go_wp2
  go_quiet (fail)
  go_wp2
  go_ret
  exact ⟨rfl, _, World.drewN_drewN _ _ _⟩

set_option maxHeartbeats 400000 in
theorem here_out (B : Nat) (s : ByteArray) (a : Nat) (w : World) (hb : w.heap[B]? = some (Tx s a)) (ha : a = s.size) (hs : s.size ≤ 65536) :
    Calls Tryd.prog 94 #[.pointer (some ⟨B, 0, none⟩)] w fun e w' => e = pan s.size ∧ ∃ k, w' = w.drewN k := by
  subst ha
  obtain ⟨c0, c1, z1⟩ := tx_cells hb
  have e1 : ((s.size : Int) == (s.size : Int)) = true := by simp
  have C := fun k => fail_any B s s.size (w.drewN k) hb
  have HC := Lib.hid C; clear C
  go_enter Tryd.func94, Tryd.ntmps94
  go_wp2_with fail
  go_quiet (fail)
  go_wp2_with fail
  refine (HC.out _).mono ?_
  rintro _ w1 ⟨rfl, rfl⟩
  go_wp2_with fail
  exact ⟨rfl, rfl, _, rfl⟩

/-- The text as it stands behind what has been passed. -/
def Stood (B : Nat) (s : ByteArray) (q : List UInt8) (w w' : World) : Prop :=
  Keeps B w w' ∧ ∃ a : Nat, a ≤ s.size ∧ w'.heap[B]? = some (Tx s a) ∧ s.data.toList.drop a = q

set_option maxHeartbeats 2000000 in
theorem skip_any (B : Nat) (s : ByteArray) (a : Nat) (w : World) (hb : w.heap[B]? = some (Tx s a)) (ha : a ≤ s.size) (hs : s.size ≤ 65536) :
    Calls Tryd.prog 43 #[.pointer (some ⟨B, 0, none⟩)] w fun e w' => e = .returned (.tuple #[]) ∧ Stood B s (skipB false (s.data.toList.drop a)) w w' := by
  have HB := Lib.hid hb; clear hb
  go_enter Tryd.func43, Tryd.ntmps43
  go_wp2_with fail
  go_loopg [] (s.size - a) (fun g wr => ∃ b : Nat, b ≤ s.size ∧ s.size - b ≤ g ∧ wr.heap[B]? = some (Tx s b) ∧ skipB false (s.data.toList.drop b) = skipB false (s.data.toList.drop a) ∧ Keeps B w wr)
  case atStart => exact ⟨a, ha, Nat.le_refl _, HB.out, rfl, Keeps.refl _ _⟩
  case round =>
    obtain ⟨b, hb, hg, hh, hk, hkeep⟩ := hrel
    obtain ⟨c0, c1, z1⟩ := tx_cells hh
    have HH := Lib.hid hh; clear hh
    have HK := Lib.hid hk; clear hk
    have HKE := Lib.hid hkeep; clear hkeep
    have b0 : (0 : Int) ≤ b := by omega
    by_cases hlt : b < s.size
    · have b1 : (b : Int) < s.size := by omega
      have hd := drop_cons s b hlt
      have w1 : ∀ z : Int, 0 ≤ z → z ≤ 65536 → IntKind.i64.wrap (z + 1) = z + 1 := fun z h1 h2 => IntWalk.i64_in _ (by omega)
      have HD := Lib.hid hd; clear hd
      have hw : IntKind.i64.wrap ((b : Int) + 1) = (b : Int) + 1 := w1 _ (by omega) (by omega)
      have HW := Lib.hid w1; clear w1
      have blank : (s[b] = 32 ∨ s[b] = 10 ∨ s[b] = 9) → ∀ k, ∃ c : Nat, c ≤ s.size ∧ s.size - c ≤ s.size - (b + 1) ∧ ((wr.drewN k).setCell ⟨B, 1, none⟩ (.int .i64 ((b : Int) + 1))).heap[B]? = some (Tx s c) ∧ skipB false (s.data.toList.drop c) = skipB false (s.data.toList.drop a) ∧ Keeps B w ((wr.drewN k).setCell ⟨B, 1, none⟩ (.int .i64 ((b : Int) + 1))) := by
        intro hc k
        refine ⟨b + 1, by omega, Nat.le_refl _, tx_set (w := wr.drewN k) (b + 1) HH.out (by omega), ?_, ?_⟩
        · rw [← HK.out, HD.out, skip_blank hc]
        · exact (HKE.out.trans (Keeps.of (below_drewN wr k))).setCell 1 _
      have HBL := Lib.hid blank; clear blank
      by_cases h32 : ((s[b].toNat : Int) == 32) = true
      · have HC := Lib.hid (HBL.out (Or.inl (of_decide_eq_true ((byte_test s[b] 32).symm.trans h32))))
        go_wp2_with fail
        go_quiet (fail)
        go_wp2_with fail
        go_quiet (fail)
        go_wp2_with fail
        go_roundg (s.size - (b + 1))
        case measure => omega
        case rel => exact HC.out _
      have h32 : ((s[b].toNat : Int) == 32) = false := Bool.eq_false_iff.2 h32
      by_cases h10 : ((s[b].toNat : Int) == 10) = true
      · have HC := Lib.hid (HBL.out (Or.inr (Or.inl (of_decide_eq_true ((byte_test s[b] 10).symm.trans h10)))))
        go_wp2_with fail
        go_quiet (fail)
        go_wp2_with fail
        go_quiet (fail)
        go_wp2_with fail
        go_roundg (s.size - (b + 1))
        case measure => omega
        case rel => exact HC.out _
      have h10 : ((s[b].toNat : Int) == 10) = false := Bool.eq_false_iff.2 h10
      by_cases h9 : ((s[b].toNat : Int) == 9) = true
      · have HC := Lib.hid (HBL.out (Or.inr (Or.inr (of_decide_eq_true ((byte_test s[b] 9).symm.trans h9)))))
        go_wp2_with fail
        go_quiet (fail)
        go_wp2_with fail
        go_quiet (fail)
        go_wp2_with fail
        go_roundg (s.size - (b + 1))
        case measure => omega
        case rel => exact HC.out _
      have h9 : ((s[b].toNat : Int) == 9) = false := Bool.eq_false_iff.2 h9
      by_cases h59 : ((s[b].toNat : Int) == 59) = true
      · have hc59 : s[b] = 59 := of_decide_eq_true ((byte_test s[b] 59).symm.trans h59)
        have hx : (s.extract b s.size).data.toList = s.data.toList.drop b := Lib.extract_to_end s b
        obtain ⟨N, hN⟩ : ∃ N, Lib.indexByte (s.extract b s.size).data.toList (10 : Int).toNat.toUInt8 = N := ⟨_, rfl⟩
        have C := fun w' => Tryd.strings_IndexByte (s.extract b s.size) 10 w'
        rw [hN] at C
        have hge : -1 ≤ N := by rw [← hN]; exact Lib.indexByte_ge _ _
        rw [hx] at hN
        have HC := Lib.hid C; clear C
        have HN := Lib.hid hN; clear hN hx
        have HS := Lib.hid hc59; clear hc59
        by_cases hneg : N < 0
        · have hend : skipB false (s.data.toList.drop b) = [] := by
            have h1 : Lib.indexByte (s.data.toList.drop b) 10 = -1 := by rw [show (10 : UInt8) = (10 : Int).toNat.toUInt8 from rfl, HN.out]; omega
            rw [HD.out, HS.out, skip_mark]
            rw [HD.out, HS.out] at h1
            have h2 := line_end h1
            simpa [skipB] using h2
          have HE := Lib.hid hend; clear hend
          go_wp2_with fail
          go_quiet (fail)
          go_wp2_with fail
          go_quiet (fail)
          go_wp2_with fail
          go_quiet ((go_at_call 64; exact calm_call HC.out _ _ _))
          go_wp2_with fail
          refine bodyPost_ret (results_none rfl _ _ _) rfl ?_
          exact ⟨rfl, (HKE.out.trans (Keeps.of (below_drewN _ _))).setCell 1 _, s.size, Nat.le_refl _, tx_set (w := wr.drewN _) s.size HH.out rfl, (drop_end s).trans (HE.out.symm.trans HK.out)⟩
        · obtain ⟨M, hM⟩ : ∃ M : Nat, N = M := ⟨N.toNat, by omega⟩
          subst hM
          have hline : M < s.size - b ∧ skipB false (s.data.toList.drop b) = skipB false (s.data.toList.drop (b + M + 1)) := by
            have h1 : Lib.indexByte (s.data.toList.drop b) 10 = (M : Int) := by rw [show (10 : UInt8) = (10 : Int).toNat.toUInt8 from rfl, HN.out]
            obtain ⟨h2, h3⟩ := line_at h1
            refine ⟨by simpa using h2, ?_⟩
            rw [List.drop_drop] at h3
            have h4 : skipB false (s.data.toList.drop b) = skipB true (s.data.toList.drop b) := by
              rw [HD.out, HS.out, skip_mark]; rfl
            rw [h4, h3]; congr 2
          have HL := Lib.hid hline.2
          have hlt2 := hline.1
          clear hline
          have hw2 : IntKind.i64.wrap ((b : Int) + M) = (b : Int) + M := IntWalk.i64_in _ (by omega)
          have hw3 : IntKind.i64.wrap ((b : Int) + M + 1) = (b : Int) + M + 1 := IntWalk.i64_in _ (by omega)
          have hnn : decide ((M : Int) < 0) = false := by simp
          go_wp2_with fail
          go_quiet (fail)
          go_wp2_with fail
          go_quiet (fail)
          go_wp2_with fail
          go_quiet ((go_at_call 64; exact calm_call HC.out _ _ _))
          go_wp2_with fail
          go_roundg (s.size - (b + M + 1))
          case measure => omega
          case rel => exact ⟨b + M + 1, by omega, Nat.le_refl _, tx_set (b + M + 1) (tx_set (w := wr.drewN _) (b + M) HH.out (by omega)) (by omega), HL.out.symm.trans HK.out, ((HKE.out.trans (Keeps.of (below_drewN _ _))).setCell 1 _).setCell 1 _⟩
      have h59 : ((s[b].toNat : Int) == 59) = false := Bool.eq_false_iff.2 h59
      have hrest : skipB false (s.data.toList.drop a) = s.data.toList.drop b := by
        rw [← HK.out, HD.out]
        refine skip_rest ?_ ?_ ?_ ?_
        · exact of_decide_eq_false ((byte_test s[b] 32).symm.trans h32)
        · exact of_decide_eq_false ((byte_test s[b] 10).symm.trans h10)
        · exact of_decide_eq_false ((byte_test s[b] 9).symm.trans h9)
        · exact of_decide_eq_false ((byte_test s[b] 59).symm.trans h59)
      have HR := Lib.hid hrest; clear hrest
      go_wp2_with fail
      go_quiet (fail)
      go_wp2_with fail
      go_quiet (fail)
      go_wp2_with fail
      refine bodyPost_ret (results_none rfl _ _ _) rfl ?_
      exact ⟨rfl, HKE.out.trans (Keeps.of (below_drewN _ _)), b, hb, HH.out, HR.out.symm⟩
    · obtain rfl : b = s.size := by omega
      have e1 : decide ((s.size : Int) < s.size) = false := by simp
      have hend : skipB false (s.data.toList.drop a) = [] := by rw [← HK.out, drop_end]; rfl
      have HR := Lib.hid hend; clear hend
      go_wp2_with fail
      go_quiet (fail)
      go_wp2
      go_end0
      exact ⟨rfl, HKE.out.trans (Keeps.of (below_drewN _ _)), s.size, hb, HH.out, (drop_end s).trans HR.out.symm⟩

set_option maxHeartbeats 400000 in
/-- The next byte behind blanks, if there is one. -/
theorem next_in (B : Nat) (s : ByteArray) (a : Nat) (w : World) (c : UInt8) (r : List UInt8) (hb : w.heap[B]? = some (Tx s a)) (ha : a ≤ s.size) (hs : s.size ≤ 65536) (hq : skipB false (s.data.toList.drop a) = c :: r) :
    Calls Tryd.prog 83 #[.pointer (some ⟨B, 0, none⟩)] w fun e w' => e = .returned (.int .u8 c.toNat) ∧ Stood B s (c :: r) w w' := by
  have C := skip_any B s a w hb ha hs
  rw [hq] at C
  have HC := Lib.hid C; clear C hb hq
  go_enter Tryd.func83, Tryd.ntmps83
  go_wp2_with fail
  refine (HC.out).mono ?_
  rintro _ w1 ⟨rfl, hk, b, hb, hh, hd⟩
  have hlt : b < s.size := by
    have := congrArg List.length hd
    simp at this; omega
  have hcs : s[b] = c := by
    rw [drop_cons s b hlt] at hd
    exact (List.cons.inj hd).1
  have C := here_in B s b w1 hh hlt hs
  rw [hcs] at C
  have HC2 := Lib.hid C; clear C hcs
  have HX := Lib.hid (And.intro hk (And.intro hh hd)); clear hk hh hd
  go_wp2_with fail
  refine (HC2.out).mono ?_
  rintro _ w2 ⟨rfl, k, rfl⟩
  go_wp2_with fail
  go_ret
  exact ⟨rfl, HX.out.1.trans (Keeps.of (below_drewN _ _)), b, hb, HX.out.2.1, HX.out.2.2⟩

set_option maxHeartbeats 400000 in
/-- The text ends too early. -/
theorem next_out (B : Nat) (s : ByteArray) (a : Nat) (w : World) (hb : w.heap[B]? = some (Tx s a)) (ha : a ≤ s.size) (hs : s.size ≤ 65536) (hq : skipB false (s.data.toList.drop a) = []) :
    Calls Tryd.prog 83 #[.pointer (some ⟨B, 0, none⟩)] w fun e w' => e = pan s.size ∧ Keeps B w w' := by
  have C := skip_any B s a w hb ha hs
  rw [hq] at C
  have HC := Lib.hid C; clear C hb hq
  go_enter Tryd.func83, Tryd.ntmps83
  go_wp2_with fail
  refine (HC.out).mono ?_
  rintro _ w1 ⟨rfl, hk, b, hb, hh, hd⟩
  have hbe : b = s.size := by
    have := congrArg List.length hd
    simp at this; omega
  have HC2 := Lib.hid (here_out B s b w1 hh hbe hs)
  have HX := Lib.hid hk; clear hk hh hd hbe
  go_wp2_with fail
  refine (HC2.out).mono ?_
  rintro _ w2 ⟨rfl, k, rfl⟩
  go_wp2_with fail
  exact ⟨rfl, rfl, HX.out.trans (Keeps.of (below_drewN _ _))⟩
end Go.Proofs.YtabofebepefbgaaDoor.Dat

/- The program's reader: which bytes make words and strings; words. -/
namespace Go.Proofs.YtabofebepefbgaaDoor.Dat
open Go.RowKit
open Go.Proofs.YtabofebepefbgaaDoor (textL parse res outL)
open NumPlain (rightB mk mk_ends right_of_fits right_num bodyL)
set_option linter.unusedVariables false

theorem calm_draw {f : FuncId} {args : Array Value} {v : Value} (h : ∀ W : World, Calls Tryd.prog f args W fun e w' => e = .returned v ∧ ∃ k, w' = W.drewN k) (w : World) (k n : Nat) :
    Calls Tryd.prog f args (w.drewN (k + n)) fun e w' => e = .returned v ∧ ∃ m, w' = w.drewN (k + m) := (h _).mono fun _ _ hh => ⟨hh.1, by obtain ⟨m, hm⟩ := hh.2; exact ⟨n + m, by rw [hm, World.drewN_drewN, Nat.add_assoc]⟩⟩
theorem calm_one {f : FuncId} {args : Array Value} {v : Value} (h : ∀ W : World, Calls Tryd.prog f args W fun e w' => e = .returned v ∧ ∃ k, w' = W.drewN k) (w : World) (n : Nat) :
    Calls Tryd.prog f args (w.drewN n) fun e w' => e = .returned v ∧ ∃ m, w' = w.drewN m := (h _).mono fun _ _ hh => ⟨hh.1, by obtain ⟨m, hm⟩ := hh.2; exact ⟨n + m, by rw [hm, World.drewN_drewN]⟩⟩
theorem name_two (c : UInt8) : nameB ⟨#[97, c]⟩ = nameChar c := by
  have all : ∀ n : Fin 256, nameB ⟨#[97, ⟨⟨n⟩⟩]⟩ = nameChar ⟨⟨n⟩⟩ := by decide +kernel
  exact all c.toBitVec.toFin
theorem one_byte {x : ByteArray} {c : UInt8} (h : x.data.toList = [c]) : x = ⟨#[c]⟩ := by
  apply ByteArray.ext; apply Array.toList_inj.1; exact h
theorem bytes_is {x y : ByteArray} (h : x.data.toList = y.data.toList) : x = y := by
  apply ByteArray.ext; apply Array.toList_inj.1; exact h
theorem ofWord_any (c : UInt8) (w : World) : Calls Tryd.prog 99 #[.string ⟨#[c]⟩] w fun e w' => e = .returned (.bool (wordChar c)) ∧ ∃ k, w' = w.drewN k := by
  have hn : ∀ w, Calls Tryd.prog 25 #[.string ⟨#[97, c]⟩] w fun e w' => e = .returned (.bool (nameB ⟨#[97, c]⟩)) ∧ ∃ k, w' = w.drewN k := fun w => Name_any idx (fun s => parse s.data.toList) (fun s w hs => Go.Proofs.YtabofebepefbgaaDoor.parse_any s hs w) ⟨#[97, c]⟩ (show 2 ≤ maxLen by decide) w
  rw [name_two] at hn
  obtain ⟨r, hr⟩ : ∃ r, nameChar c = r := ⟨_, rfl⟩
  have ha : (⟨#[97]⟩ : ByteArray) ++ ⟨#[c]⟩ = ⟨#[97, c]⟩ := bytes_is (by simp)
  unfold wordChar
  rw [hr] at hn ⊢
  have HN := Lib.hid hn; clear hn
  have HR := Lib.hid hr; clear hr
  by_cases hc : c = 37
  · subst hc
    rw [show ((37 : UInt8) != 37) = false from rfl, Bool.and_false]
    clear ha
    go_enter Tryd.func99, Tryd.ntmps99
    go_wp2
    go_ret
    exact ⟨rfl, 0, rfl⟩
  · rw [show (c != 37) = true from bne_iff_ne.2 hc, Bool.and_true]
    have h1 : ¬ (⟨#[c]⟩ : ByteArray).toList = (⟨#[37]⟩ : ByteArray).toList := fun e => hc (by have := bytes_inj e; simpa using this)
    go_enter Tryd.func99, Tryd.ntmps99
    go_wp2_with fail
    refine (HN.out _).mono ?_
    rintro _ w1 ⟨rfl, k, rfl⟩
    have h2 : (c == 37) = false := beq_eq_false_iff_ne.2 hc
    go_wp2_with fail
    go_ret
    exact ⟨rfl, k, rfl⟩
theorem ofString_one (c : UInt8) (w : World) : Calls Tryd.prog 96 #[.string ⟨#[c]⟩] w fun e w' => e = .returned (.bool (strChar c)) ∧ Below w.heap.size w w' := by
  have hr : (Dt.node 3 0 0 ⟨#[c]⟩ []).right rightB nameB 0 = strChar c := by
    simp [Dt.right, headRight, Dt.rightAll]
  have C := fun w' => pRight (.node 3 0 0 ⟨#[c]⟩ []) (.agg #[.int .i64 3, .int .i64 0, .int .i64 0, .string ⟨#[c]⟩, .slice none 0 0]) w' (by unfold Dt.At; exact ⟨by unfold I64; omega, by unfold I64; omega, by unfold I64; omega, show 1 ≤ maxLen by decide, by simp, none, 0, rfl, Or.inl rfl⟩)
  rw [hr] at C
  have HC := Lib.hid C; clear C hr
  go_enter Tryd.func96, Tryd.ntmps96
  go_wp2_with fail
  refine (HC.out _).mono ?_
  rintro _ w1 ⟨rfl, hb⟩
  have HB := Lib.hid hb; clear hb
  go_wp2_with fail
  go_ret
  exact ⟨rfl, HB.out⟩
theorem clone_str (x : ByteArray) (w : World) (hx : x.size ≤ 65536) : Calls Tryd.prog 97 #[.string x] w fun e w' => e = .returned (.string x) ∧ Below w.heap.size w w' := by
  have HC := Lib.hid (Tryd.stringslite_Clone x w (by omega))
  go_enter Tryd.func97, Tryd.ntmps97
  go_wp2_with fail
  refine (HC.out).mono ?_
  rintro _ w1 ⟨rfl, hb⟩
  have HB := Lib.hid hb; clear hb
  go_wp2_with fail
  go_ret
  exact ⟨rfl, HB.out⟩
theorem parse_right {l : List UInt8} (h : (parse l).2.2 = true) : rightB (parse l).1 (parse l).2.1 = true := by
  unfold parse outL at h ⊢
  split at h
  · cases h
  · rename_i n d hb
    obtain ⟨x, y, e, hm, -, -, h0, -⟩ := mk_ends (if decide (l.head? = some 45) then -(n : Int) else n) d
    rw [hb] at *
    simp only [hm] at h ⊢
    obtain ⟨q, hf, -, -, rfl, rfl⟩ := h0 (by simpa using h)
    exact right_of_fits hf
theorem parse_bounds {l : List UInt8} (h : (parse l).2.2 = true) : I64 (parse l).1 ∧ I64 (parse l).2.1 := by
  obtain ⟨-, -, -, h1, h2, h3, h4⟩ := right_num (parse_right h)
  unfold I64; omega

/-- The blocks ahead of this one. -/
abbrev old (n b : Nat) : Bool := decide (b < n)
theorem old_up {w : World} {n m : Nat} (h : n ≤ m) (b o : Nat) (v : Value) (hv : (off w (old m)).cell? ⟨b, o, none⟩ = some v) : (off w (old n)).cell? ⟨b, o, none⟩ = some v := by
  obtain ⟨h0, hc⟩ := off_cell.1 hv
  exact off_cell.2 ⟨decide_eq_false (by have := of_decide_eq_false h0; omega), hc⟩
/-- What a call of the reader's answers: a panic with the place where the text is none; or a datum that lies in new memory alone, and the text stands behind it. -/
def Told (B : Nat) (s : ByteArray) (res : Res Dt) (w : World) (e : Ending) (w' : World) : Prop :=
  Keeps B w w' ∧ ((∃ q, res = .bad q ∧ e = pan (s.size - q.length)) ∨
    ∃ d q v a, res = .ok d q ∧ e = .returned v ∧ d.At (off w' (old w.heap.size)) v ∧ a ≤ s.size ∧ w'.heap[B]? = some (Tx s a) ∧ s.data.toList.drop a = q)
theorem told_ok {B : Nat} {s : ByteArray} {d : Dt} {q : List UInt8} {w w' : World} {e : Ending} (h : Told B s (.ok d q) w e w') :
    Keeps B w w' ∧ ∃ k n d' s' p len cap a, e = .returned (.agg #[.int .i64 k, .int .i64 n, .int .i64 d', .string s', .slice p len cap]) ∧ d.At (off w' (old w.heap.size)) (.agg #[.int .i64 k, .int .i64 n, .int .i64 d', .string s', .slice p len cap]) ∧ a ≤ s.size ∧ w'.heap[B]? = some (Tx s a) ∧ s.data.toList.drop a = q := by
  obtain ⟨hk, ⟨_, h, _⟩ | ⟨d, q, v, a, h, rfl, h1, h2, h3, h4⟩⟩ := h
  · cases h
  · obtain ⟨rfl, rfl⟩ := Res.ok.inj h
    obtain ⟨k, n, d', s', l⟩ := d
    have h5 := h1
    unfold Dt.At at h5
    obtain ⟨-, -, -, -, -, p, cap, rfl, -⟩ := h5
    exact ⟨hk, k, n, d', s', p, l.length, cap, a, rfl, h1, h2, h3, h4⟩
theorem told_bad {B : Nat} {s : ByteArray} {q : List UInt8} {w w' : World} {e : Ending} (h : Told B s (.bad q) w e w') : Keeps B w w' ∧ e = pan (s.size - q.length) := by
  obtain ⟨hk, ⟨_, h, rfl⟩ | ⟨d, q, v, a, h, _⟩⟩ := h
  · obtain rfl := Res.bad.inj h; exact ⟨hk, rfl⟩
  · cases h
theorem Told.later {B : Nat} {s : ByteArray} {res : Res Dt} {w0 w w' : World} {e : Ending} (h : Told B s res w e w') (hk : Keeps B w0 w) : Told B s res w0 e w' :=
  ⟨hk.trans h.1, h.2.imp id fun ⟨d, q, v, a, h0, h1, h2, h3⟩ => ⟨d, q, v, a, h0, h1, h2.on (old_up hk.size), h3⟩⟩
theorem leaf_off (w : World) (k n d : Int) (s : ByteArray) (hk : I64 k) (hn : I64 n) (hd : I64 d) (hs : s.size ≤ maxLen) : (Dt.node k n d s []).At w (.agg #[.int .i64 k, .int .i64 n, .int .i64 d, .string s, .slice none 0 0]) := by
  unfold Dt.At
  exact ⟨hk, hn, hd, hs, by simp, none, 0, rfl, Or.inl rfl⟩
theorem off_same {w w' : World} {B : Nat} (h : Keeps B w w') (b o : Nat) (v : Value) (hv : (off w (just B)).cell? ⟨b, o, none⟩ = some v) : (off w' (just B)).cell? ⟨b, o, none⟩ = some v := Keeps.off h b o v hv
theorem keeps_block {B b : Nat} {w w' : World} {o : Obj} (h : Keeps B w w') (hb : w.heap[b]? = some o) (hne : b ≠ B) : w'.heap[b]? = some o := by
  have hlt : b < w.heap.size := (Array.getElem?_eq_some_iff.1 hb).1
  rw [← hb]; exact h.block b hlt hne
theorem keeps_set {B g : Nat} {w W : World} (h : Keeps B w W) (hg : w.heap.size ≤ g) (i : Nat) (u : Value) : Keeps B w (W.setCell ⟨g, i, none⟩ u) :=
  ⟨h.os, h.tape, h.output, by simp only [World.setCell, Array.size_modify]; exact h.size, fun k hk hn => (Below.heap_setCell _ _ _ _ (show k ≠ g by omega)).trans (h.block k hk hn)⟩
theorem keeps_five {B g : Nat} {w W : World} {b0 b1 b2 b3 b4 : Value} (h : Keeps B w W) (hg : w.heap.size ≤ g) :
    Keeps B w (((((W.setCell ⟨g, 0, none⟩ b0).setCell ⟨g, 1, none⟩ b1).setCell ⟨g, 2, none⟩ b2).setCell ⟨g, 3, none⟩ b3).setCell ⟨g, 4, none⟩ b4) :=
  keeps_set (keeps_set (keeps_set (keeps_set (keeps_set h hg _ _) hg _ _) hg _ _) hg _ _) hg _ _
theorem drop_len {s : ByteArray} {a : Nat} {q : List UInt8} (h : s.data.toList.drop a = q) (ha : a ≤ s.size) : s.size - q.length = a := by
  rw [← h]; simp; omega
end Go.Proofs.YtabofebepefbgaaDoor.Dat

/- The program's reader: words, strings. -/
namespace Go.Proofs.YtabofebepefbgaaDoor.Dat
open Go.RowKit
open Go.Proofs.YtabofebepefbgaaDoor (textL parse res outL)
open NumPlain (rightB)
set_option linter.unusedVariables false

theorem piece_one (s : ByteArray) (b : Nat) (h : b < s.size) : s.extract b (b + 1) = ⟨#[s[b]]⟩ := by
  apply bytes_is
  rw [Lib.extract_data, drop_cons s b h]
  simp
theorem piece_list {s : ByteArray} {a b : Nat} {u : List UInt8} (hab : a ≤ b) (hb : b ≤ s.size) (h : s.data.toList.drop a = u ++ s.data.toList.drop b) : (s.extract a b).data.toList = u := by
  rw [Lib.extract_data, h]
  have hl := congrArg List.length h
  simp only [List.length_append, List.length_drop, Array.length_toList] at hl
  have hs : s.data.size = s.size := rfl
  rw [hs] at hl
  exact List.take_left' (by omega)
/-- A word as it has been gone through so far. -/
def Worded (B : Nat) (s : ByteArray) (a : Nat) (w : World) (g : Nat) (wr : World) : Prop :=
  ∃ (b : Nat) (u : List UInt8), a ≤ b ∧ b ≤ s.size ∧ s.size - b ≤ g ∧ wr.heap[B]? = some (Tx s b) ∧ s.data.toList.drop a = u ++ s.data.toList.drop b ∧ (∀ c ∈ u, wordChar c = true) ∧ Keeps B w wr ∧ w.heap.size < wr.heap.size ∧
    wr.heap[w.heap.size]? = some (.cells #[.int .i64 0, .int .i64 0, .int .i64 0, .string ⟨#[]⟩, .slice none 0 0] 24 (0, 0))

set_option maxHeartbeats 2000000 in
set_option maxRecDepth 100000 in
theorem wordT_any (B : Nat) (s : ByteArray) (a : Nat) (w : World) (hb : w.heap[B]? = some (Tx s a)) (ha : a ≤ s.size) (hs : s.size ≤ 65536) :
    Calls Tryd.prog 88 #[.pointer (some ⟨B, 0, none⟩)] w fun e w' => Told B s (wordR (s.data.toList.drop a)) w e w' := by
  have hB : B < w.heap.size := (Array.getElem?_eq_some_iff.1 hb).1
  obtain ⟨c0, c1, z1⟩ := tx_cells hb
  have HB := Lib.hid hb; clear hb
  go_enter Tryd.func88, Tryd.ntmps88
  go_wp2_with fail
  go_loopg [] (s.size - a) (fun g wr => Worded B s a w g wr)
  case atStart =>
    exact ⟨a, [], Nat.le_refl _, ha, Nat.le_refl _, block_on (box_below _ _) HB.out, rfl, by simp, Keeps.of (box_below _ _), by simp, at_new _ _⟩
  case round =>
    obtain ⟨b, u, hab, hb, hg, hh, hu, hall, hkeep, hsz, hbox⟩ := hrel
    obtain ⟨c0, c1, z1⟩ := tx_cells hh
    have HH := Lib.hid (And.intro hh (And.intro hu (And.intro hall (And.intro hkeep hbox)))); clear hh hu hall hkeep hbox
    have b0 : (0 : Int) ≤ b := by omega
    by_cases hgo : ∃ h : b < s.size, wordChar s[b] = true
    · obtain ⟨hlt, hc⟩ := hgo
      have b1 : (b : Int) < s.size := by omega
      have hw1 : IntKind.i64.wrap ((b : Int) + 1) = (b : Int) + 1 := IntWalk.i64_in _ (by omega)
      have hn1 : ((b : Int) + 1).toNat = b + 1 := by omega
      have hp1 : (0 : Int) ≤ (b : Int) + 1 := by omega
      have hp2 : (b : Int) + 1 ≤ s.size := by omega
      have hp3 : (b : Int) ≤ (b : Int) + 1 := by omega
      have C := fun W => ofWord_any s[b] W
      rw [← piece_one s b hlt, hc] at C
      have HC := Lib.hid C; clear C
      have HCH := Lib.hid hc; clear hc
      go_wp2_with fail
      go_quiet ((go_at_call 99; exact calm_one HC.out _ _))
      go_wp2_with fail
      go_roundg (s.size - (b + 1))
      case measure => omega
      case rel =>
        obtain ⟨hh, hu, hall, hkeep, hbox⟩ := HH.out
        refine ⟨b + 1, u ++ [s[b]], by omega, by omega, Nat.le_refl _, tx_set (w := wr.drewN _) (b + 1) hh (by omega), ?_, ?_, (hkeep.trans (Keeps.of (below_drewN _ _))).setCell 1 _, ?_, ?_⟩
        · rw [hu, drop_cons s b hlt]; simp
        · intro c hc
          rcases List.mem_append.1 hc with h | h
          · exact hall c h
          · simp at h; rw [h]; exact HCH.out
        · simp only [World.setCell, Array.size_modify]; exact hsz
        · exact (Below.heap_setCell _ _ _ _ (Nat.ne_of_gt hB)).trans hbox
    · have hend : ∀ c y, s.data.toList.drop b = c :: y → wordChar c = false := by
        intro c y e
        by_cases hlt : b < s.size
        · rw [drop_cons s b hlt] at e
          obtain ⟨rfl, _⟩ := List.cons.inj e
          exact Bool.eq_false_iff.2 fun h => hgo ⟨hlt, h⟩
        · rw [List.drop_of_length_le (by simp; omega)] at e; cases e
      obtain ⟨hT, hDr⟩ := take_app (p := wordChar) (l := u) (x := s.data.toList.drop b) HH.out.2.2.1 hend
      rw [← HH.out.2.1] at hT hDr
      obtain ⟨x, hx⟩ : ∃ x, s.extract a b = x := ⟨_, rfl⟩
      have hxl : x.data.toList = u := by rw [← hx]; exact piece_list hab hb HH.out.2.1
      have hxs : x.size = u.length := by rw [← hxl]; simp
      have hus : u.length ≤ 65536 := by
        have := congrArg List.length HH.out.2.1
        simp at this; omega
      have hwr : wordR (s.data.toList.drop a) = if (parse u).2.2 then .ok (.node 0 (parse u).1 (parse u).2.1 nil8 []) (s.data.toList.drop b) else if u.length = 0 ∨ 40 < u.length then .bad (s.data.toList.drop a) else .ok (.node 2 0 0 x []) (s.data.toList.drop b) := by
        unfold wordR
        rw [hT, hDr, show x = ⟨u.toArray⟩ from bytes_is (by rw [hxl])]
      have hnm : (parse u).2.2 = false → nameB x = !(decide (u.length = 0 ∨ 40 < u.length)) := by
        intro h
        unfold nameB
        rw [hxl, h, hxs]
        have : u.all nameChar = true := by
          rw [List.all_eq_true]
          intro c hc
          have := HH.out.2.2.1 c hc
          unfold wordChar at this
          exact (Bool.and_eq_true _ _ ▸ this).1
        rw [this]
        by_cases h0 : u.length = 0 <;> by_cases h1 : 40 < u.length <;> simp [h0, h1] <;> omega
      obtain ⟨n, d, ok, hp⟩ : ∃ n d ok, parse u = (n, d, ok) := ⟨_, _, _, rfl⟩
      have hbd := @parse_bounds u
      have C1 : ∀ W, Calls Tryd.prog 52 #[.string x] W fun e w' => e = .returned (.tuple #[.int .i64 n, .int .i64 d, .bool ok]) ∧ ∃ k, w' = W.drewN k := fun W => by
        have := Go.Proofs.YtabofebepefbgaaDoor.parse_any x (by unfold maxLen; omega) W
        rw [hxl, hp] at this
        exact this
      have C2 := fun W => nameIs x W (by unfold maxLen; omega)
      have C3 := fun W => clone_str x W (by omega)
      rw [hp] at hwr hnm hbd
      simp only at hwr hnm hbd
      have a0 : (0 : Int) ≤ a := by omega
      have ab0 : (a : Int) ≤ b := by omega
      have bs0 : (b : Int) ≤ s.size := by omega
      have an0 : ((a : Int)).toNat = a := by omega
      have bn0 : ((b : Int)).toNat = b := by omega
      have HC1 := Lib.hid C1; clear C1
      have HX := Lib.hid (And.intro hx (And.intro hxl hxs)); clear hx hxl hxs
      have HC3 := Lib.hid C3; clear C3
      have HT := Lib.hid (And.intro hT hDr); clear hT hDr hp
      have HE := Lib.hid hend; clear hend
      have HNM := Lib.hid hnm; clear hnm
      have HC2 := Lib.hid C2; clear C2
      have HWR := Lib.hid hwr; clear hwr
      have HBD := Lib.hid hbd; clear hbd
      rcases Nat.lt_or_ge b s.size with hlt | hge
      case' inl =>
        have b1 : (b : Int) < s.size := by omega
        have hc : wordChar s[b] = false := Bool.eq_false_iff.2 fun h => hgo ⟨hlt, h⟩
        have hw1 : IntKind.i64.wrap ((b : Int) + 1) = (b : Int) + 1 := IntWalk.i64_in _ (by omega)
        have hn1 : ((b : Int) + 1).toNat = b + 1 := by omega
        have hp1 : (0 : Int) ≤ (b : Int) + 1 := by omega
        have hp2 : (b : Int) + 1 ≤ s.size := by omega
        have hp3 : (b : Int) ≤ (b : Int) + 1 := by omega
        have C := fun W => ofWord_any s[b] W
        rw [← piece_one s b hlt, hc] at C
        have HC := Lib.hid C; clear C hc hgo
        go_wp2_with fail
        go_quiet ((go_at_call 99; exact calm_one HC.out _ _))
        clear hw1 hn1 hp1 hp2 hp3
        go_wp2_with fail
        go_quiet (fail)
        rw [HX.out.1]
      case' inr =>
        have e1 : decide (b < s.size) = false := by rw [decide_eq_false_iff_not]; omega
        clear hgo
        go_wp2_with fail
        go_quiet (fail)
        go_wp2_with fail
        go_quiet (fail)
        rw [HX.out.1]
      all_goals
        go_wp2_with fail
        refine (HC1.out _).mono ?_
        rintro _ W ⟨rfl, k, hW⟩
        have hbx : W.heap[w.heap.size]? = some (.cells #[.int .i64 0, .int .i64 0, .int .i64 0, .string ⟨#[]⟩, .slice none 0 0] 24 (0, 0)) := by rw [hW]; exact HH.out.2.2.2.2
        have hkW : Keeps B w W := by rw [hW]; exact HH.out.2.2.2.1.trans ((Keeps.of (below_drewN _ _)).trans (Keeps.of (below_drewN _ _)))
        have hhW : W.heap[B]? = some (Tx s b) := by rw [hW]; exact HH.out.1
        have z0 := box_frozen hbx 0
        have z1 := box_frozen hbx 1
        have z2 := box_frozen hbx 2
        have z3 := box_frozen hbx 3
        have z4 := box_frozen hbx 4
        obtain ⟨x0, x1, x2, x3, x4⟩ := box_cells hbx
        have HK := Lib.hid (And.intro hbx (And.intro hkW hhW)); clear hbx hkW hhW hW
        cases ok
        · have hnm2 := HNM.out rfl
          have hwr2 := HWR.out
          simp only [Bool.false_eq_true, if_false] at hwr2
          by_cases hbad : u.length = 0 ∨ 40 < u.length
          · rw [if_pos hbad] at hwr2
            rw [decide_eq_true hbad, Bool.not_true] at hnm2
            have C2 := HC2.out
            rw [hnm2] at C2
            have HC2' := Lib.hid C2; clear C2
            have HWR2 := Lib.hid hwr2; clear hwr2 hnm2 hbad
            go_wp2_with fail
            refine (HC2'.out _).mono ?_
            rintro _ W2 ⟨rfl, hb2⟩
            have HB2 := Lib.hid hb2; clear hb2
            go_wp2_with fail
            refine ⟨rfl, HK.out.2.1.trans (Keeps.of HB2.out), Or.inl ⟨_, HWR2.out, ?_⟩⟩
            rw [show s.size - (s.data.toList.drop a).length = a by simp; omega]
          · rw [if_neg hbad] at hwr2
            rw [decide_eq_false hbad, Bool.not_false] at hnm2
            have C2 := HC2.out
            rw [hnm2] at C2
            have HC2' := Lib.hid C2; clear C2
            have HWR2 := Lib.hid hwr2; clear hwr2 hnm2 hbad
            go_wp2_with fail
            refine (HC2'.out _).mono ?_
            rintro _ W2 ⟨rfl, hb2⟩
            have HB2 := Lib.hid hb2; clear hb2
            go_wp2_with fail
            refine (HC3.out _).mono ?_
            rintro _ W3 ⟨rfl, hb3⟩
            have hbx := block_on hb3 (block_on HB2.out HK.out.1)
            have hk3 := HK.out.2.1.trans ((Keeps.of HB2.out).trans (Keeps.of hb3))
            have hh3 := block_on hb3 (block_on HB2.out HK.out.2.2)
            have y0 := box_frozen hbx 0
            have y1 := box_frozen hbx 1
            have y2 := box_frozen hbx 2
            have y3 := box_frozen hbx 3
            have y4 := box_frozen hbx 4
            obtain ⟨v0, v1, v2, v3, v4⟩ := box_cells hbx
            have HK3 := Lib.hid (And.intro hbx (And.intro hk3 hh3)); clear hbx hk3 hh3 hb3 z0 z1 z2 z3 z4 x0 x1 x2 x3 x4
            go_wp2_with fail
            refine bodyPost_ret (results_cell_row rfl _ _ w.heap.size 24 _ (0, 0) _ rfl (set_five (b0 := .int .i64 2) (b1 := .int .i64 0) (b2 := .int .i64 0) (b3 := .string x) (b4 := .slice none 0 0) HK3.out.1) Tryd.underlying24 rfl Tryd.sizeDt) rfl ?_
            exact ⟨keeps_five HK3.out.2.1 (Nat.le_refl _), Or.inr ⟨_, _, _, b, HWR2.out, rfl, leaf_off _ _ _ _ _ (by unfold I64; omega) (by unfold I64; omega) (by unfold I64; omega) (by have := HX.out.2.2; unfold maxLen; omega), hb, (set_five_other (Nat.ne_of_lt hB)).trans HK3.out.2.2, rfl⟩⟩
        · have hwr2 := HWR.out
          simp only [if_true] at hwr2
          have hbd2 := HBD.out rfl
          have HWR2 := Lib.hid (And.intro hwr2 hbd2); clear hwr2 hbd2
          go_wp2_with fail
          refine bodyPost_ret (results_cell_row rfl _ _ w.heap.size 24 _ (0, 0) _ rfl (set_five (b0 := .int .i64 0) (b1 := .int .i64 n) (b2 := .int .i64 d) (b3 := .string ⟨#[]⟩) (b4 := .slice none 0 0) HK.out.1) Tryd.underlying24 rfl Tryd.sizeDt) rfl ?_
          exact ⟨keeps_five HK.out.2.1 (Nat.le_refl _), Or.inr ⟨_, _, _, b, HWR2.out.1, rfl, leaf_off _ _ _ _ _ (by unfold I64; omega) HWR2.out.2.1 HWR2.out.2.2 (by unfold maxLen; decide), hb, (set_five_other (Nat.ne_of_lt hB)).trans HK.out.2.2, rfl⟩⟩

/-- A string as it has been gone through so far. -/
def Strung (B : Nat) (s : ByteArray) (a : Nat) (w : World) (g : Nat) (wr : World) : Prop :=
  ∃ (b : Nat) (u : List UInt8), a ≤ b ∧ b ≤ s.size ∧ s.size - b ≤ g ∧ wr.heap[B]? = some (Tx s b) ∧ s.data.toList.drop a = u ++ s.data.toList.drop b ∧ (∀ c ∈ u, strChar c = true) ∧ Keeps B w wr ∧ w.heap.size < wr.heap.size ∧
    wr.heap[w.heap.size]? = some (.cells #[.int .i64 0, .int .i64 0, .int .i64 0, .string ⟨#[]⟩, .slice none 0 0] 24 (0, 0))

set_option maxHeartbeats 2000000 in
set_option maxRecDepth 100000 in
theorem str_any (B : Nat) (s : ByteArray) (a : Nat) (w : World) (hb : w.heap[B]? = some (Tx s a)) (ha : a ≤ s.size) (hs : s.size ≤ 65536) :
    Calls Tryd.prog 86 #[.pointer (some ⟨B, 0, none⟩)] w fun e w' => Told B s (strR (s.data.toList.drop a)) w e w' := by
  have hB : B < w.heap.size := (Array.getElem?_eq_some_iff.1 hb).1
  obtain ⟨c0, c1, z1⟩ := tx_cells hb
  have HB := Lib.hid hb; clear hb
  go_enter Tryd.func86, Tryd.ntmps86
  go_wp2_with fail
  go_loopg [] (s.size - a) (fun g wr => Strung B s a w g wr)
  case atStart =>
    exact ⟨a, [], Nat.le_refl _, ha, Nat.le_refl _, block_on (box_below _ _) HB.out, rfl, by simp, Keeps.of (box_below _ _), by simp, at_new _ _⟩
  case round =>
    obtain ⟨b, u, hab, hb, hg, hh, hu, hall, hkeep, hsz, hbox⟩ := hrel
    have b0 : (0 : Int) ≤ b := by omega
    by_cases hend : b = s.size
    · have HO := Lib.hid (here_out B s b wr hh hend hs)
      have HH := Lib.hid (And.intro hh (And.intro hu (And.intro hall (And.intro hkeep hbox)))); clear hh hu hall hkeep hbox
      go_wp2_with fail
      refine (HO.out).mono ?_
      rintro _ W ⟨rfl, k, rfl⟩
      go_wp2_with fail
      refine ⟨rfl, HH.out.2.2.2.1.trans (Keeps.of (below_drewN _ _)), Or.inl ⟨[], ?_, rfl⟩⟩
      have hl := HH.out.2.1
      rw [hend, drop_end, List.append_nil] at hl
      obtain ⟨h1, h2⟩ := take_app (p := strChar) (l := u) (x := []) HH.out.2.2.1 (fun c y e => by cases e)
      rw [List.append_nil] at h2
      unfold strR
      rw [hl, h2]; rfl
    have hlt : b < s.size := by omega
    have hd := drop_cons s b hlt
    have C0 := here_in B s b wr hh hlt hs
    have hw1 : IntKind.i64.wrap ((b : Int) + 1) = (b : Int) + 1 := IntWalk.i64_in _ (by omega)
    have hn1 : ((b : Int) + 1).toNat = b + 1 := by omega
    have hp0 : (b : Int) < s.size := by omega
    have hp1 : (0 : Int) ≤ (b : Int) + 1 := by omega
    have hp2 : (b : Int) + 1 ≤ s.size := by omega
    have hp3 : (b : Int) ≤ (b : Int) + 1 := by omega
    obtain ⟨c0, c1, z1⟩ := tx_cells hh
    have HC0 := Lib.hid C0; clear C0
    have HH := Lib.hid (And.intro hh (And.intro hu (And.intro hall (And.intro hkeep (And.intro hbox hd))))); clear hh hu hall hkeep hbox hd
    by_cases h34 : s[b] = 34
    · have t34 : ((s[b].toNat : Int) != 34) = false := by
        have := byte_test s[b] 34
        rw [h34] at this ⊢; rfl
      obtain ⟨x, hx⟩ : ∃ x, s.extract a b = x := ⟨_, rfl⟩
      have hxl : x.data.toList = u := by rw [← hx]; exact piece_list hab hb HH.out.2.1
      have hxs : x.size ≤ 65536 := by
        have := congrArg List.length HH.out.2.1
        have h2 : x.size = u.length := by rw [← hxl]; simp
        simp at this; omega
      have hsr : strR (s.data.toList.drop a) = .ok (.node 3 0 0 x []) (s.data.toList.drop (b + 1)) := by
        have hl := HH.out.2.1
        rw [HH.out.2.2.2.2.2, h34] at hl
        obtain ⟨h1, h2⟩ := take_app (p := strChar) (l := u) (x := 34 :: s.data.toList.drop (b + 1)) HH.out.2.2.1 (fun c y e => by obtain ⟨rfl, _⟩ := List.cons.inj e; decide)
        unfold strR
        rw [hl, h1, h2, show x = ⟨u.toArray⟩ from bytes_is (by rw [hxl])]
        simp [strEnd]
      have C3 := fun W => clone_str x W hxs
      have a0 : (0 : Int) ≤ a := by omega
      have ab0 : (a : Int) ≤ b := by omega
      have bs0 : (b : Int) ≤ s.size := by omega
      have an0 : ((a : Int)).toNat = a := by omega
      have bn0 : ((b : Int)).toNat = b := by omega
      have HX := Lib.hid (And.intro hx hsr); clear hx hxl hsr
      have HC3 := Lib.hid C3; clear C3
      have HS := Lib.hid h34; clear h34
      go_wp2_with fail
      refine (HC0.out).mono ?_
      rintro _ W ⟨rfl, k, rfl⟩
      go_wp2_with fail
      go_quiet (fail)
      rw [HX.out.1]
      go_wp2_with fail
      refine (HC3.out _).mono ?_
      rintro _ W3 ⟨rfl, hb3⟩
      have hbx := block_on hb3 ((Below.heap_setCell (wr.drewN _) ⟨B, 1, none⟩ (.int .i64 ((b : Int) + 1)) w.heap.size (Nat.ne_of_gt hB)).trans HH.out.2.2.2.2.1)
      have hh3 := block_on hb3 (tx_set (w := wr.drewN _) (b + 1) HH.out.1 rfl)
      have hk3 := ((HH.out.2.2.2.1.trans (Keeps.of (below_drewN _ _))).setCell 1 _).trans (Keeps.of hb3)
      have y0 := box_frozen hbx 0
      have y1 := box_frozen hbx 1
      have y2 := box_frozen hbx 2
      have y3 := box_frozen hbx 3
      have y4 := box_frozen hbx 4
      obtain ⟨v0, v1, v2, v3, v4⟩ := box_cells hbx
      have HK3 := Lib.hid (And.intro hbx (And.intro hk3 hh3)); clear hbx hk3 hh3 hb3
      go_wp2_with fail
      refine bodyPost_ret (results_cell_row rfl _ _ w.heap.size 24 _ (0, 0) _ rfl (set_five (b0 := .int .i64 3) (b1 := .int .i64 0) (b2 := .int .i64 0) (b3 := .string x) (b4 := .slice none 0 0) HK3.out.1) Tryd.underlying24 rfl Tryd.sizeDt) rfl ?_
      exact ⟨keeps_five HK3.out.2.1 (Nat.le_refl _), Or.inr ⟨_, _, _, b + 1, HX.out.2, rfl, leaf_off _ _ _ _ _ (by unfold I64; omega) (by unfold I64; omega) (by unfold I64; omega) (by unfold maxLen; omega), by omega, (set_five_other (Nat.ne_of_lt hB)).trans HK3.out.2.2, rfl⟩⟩
    · have t34 : ((s[b].toNat : Int) != 34) = true := byte_no h34
      have C := fun W => ofString_one s[b] W
      rw [← piece_one s b hlt] at C
      cases hc : strChar s[b]
      · rw [hc] at C
        have hsr : strR (s.data.toList.drop a) = .bad (s.data.toList.drop b) := by
          have hl := HH.out.2.1
          rw [HH.out.2.2.2.2.2] at hl
          obtain ⟨h1, h2⟩ := take_app (p := strChar) (l := u) (x := s[b] :: s.data.toList.drop (b + 1)) HH.out.2.2.1 (fun c y e => by obtain ⟨rfl, _⟩ := List.cons.inj e; exact hc)
          rw [HH.out.2.2.2.2.2]
          unfold strR
          rw [hl, h2]
          simp [strEnd, h34]
        have HC := Lib.hid C; clear C hc
        have HS := Lib.hid hsr; clear hsr
        have HF := Lib.hid (fun W h => fail_any B s b W h)
        go_wp2_with fail
        refine (HC0.out).mono ?_
        rintro _ W ⟨rfl, k, hW⟩
        have hhW : W.heap[B]? = some (Tx s b) := by rw [hW]; exact HH.out.1
        obtain ⟨c0, c1, z1⟩ := tx_cells hhW
        have HW := Lib.hid (And.intro hW hhW); clear hW hhW
        go_wp2_with fail
        go_still_tail 14, (by kernel_rfl)
        change wpList _ _ _ _ _ W.drew
        go_wp2_with fail
        refine (HC.out _).mono ?_
        rintro _ W2 ⟨rfl, hb2⟩
        have hh2 := block_on hb2 (show W.drew.heap[B]? = _ from HW.out.2)
        have HF2 := Lib.hid (HF.out _ hh2)
        have HB2 := Lib.hid hb2; clear hb2 hh2
        go_wp2_with fail
        refine (HF2.out).mono ?_
        rintro _ W3 ⟨rfl, rfl⟩
        go_wp2_with fail
        refine ⟨rfl, HH.out.2.2.2.1.trans (((Keeps.of (below_drewN wr _)).trans ((Keeps.refl B _).drew)).trans (HW.out.1 ▸ Keeps.of HB2.out)), Or.inl ⟨_, HS.out, ?_⟩⟩
        rw [show s.size - (s.data.toList.drop b).length = b by simp; omega]
      · rw [hc] at C
        have HC := Lib.hid C; clear C
        have HCH := Lib.hid hc; clear hc
        go_wp2_with fail
        refine (HC0.out).mono ?_
        rintro _ W ⟨rfl, k, hW⟩
        have hhW : W.heap[B]? = some (Tx s b) := by rw [hW]; exact HH.out.1
        obtain ⟨c0, c1, z1⟩ := tx_cells hhW
        have HW := Lib.hid (And.intro hW hhW); clear hW hhW
        go_wp2_with fail
        go_still_tail 14, (by kernel_rfl)
        change wpList _ _ _ _ _ W.drew
        go_wp2_with fail
        refine (HC.out _).mono ?_
        rintro _ W2 ⟨rfl, hb2⟩
        have hh2 := block_on hb2 (show W.drew.heap[B]? = _ from HW.out.2)
        obtain ⟨d0, d1, y1⟩ := tx_cells hh2
        have HB2 := Lib.hid (And.intro hb2 hh2); clear hb2 hh2
        go_wp2_with fail
        go_roundg (s.size - (b + 1))
        case measure => omega
        case rel =>
          have hk2 : Keeps B w W2 := HH.out.2.2.2.1.trans (((Keeps.of (below_drewN wr _)).trans ((Keeps.refl B _).drew)).trans (HW.out.1 ▸ Keeps.of HB2.out.1))
          have hbx2 : W2.heap[w.heap.size]? = _ := block_on HB2.out.1 (show W.drew.heap[w.heap.size]? = _ from by rw [HW.out.1]; exact HH.out.2.2.2.2.1)
          refine ⟨b + 1, u ++ [s[b]], by omega, by omega, Nat.le_refl _, tx_set (b + 1) HB2.out.2 (by omega), ?_, ?_, hk2.setCell 1 _, ?_, ?_⟩
          · rw [HH.out.2.1, drop_cons s b hlt]; simp
          · intro c hc
            rcases List.mem_append.1 hc with h | h
            · exact HH.out.2.2.1 c h
            · simp at h; rw [h]; exact HCH.out
          · simp only [World.setCell, Array.size_modify]
            exact (Array.getElem?_eq_some_iff.1 hbx2).1
          · exact (Below.heap_setCell _ _ _ _ (Nat.ne_of_gt hB)).trans hbx2
end Go.Proofs.YtabofebepefbgaaDoor.Dat

/- The program's reader: Pairs, one behind another, and an end. -/
namespace Go.Proofs.YtabofebepefbgaaDoor.Dat
open Go.RowKit
set_option linter.unusedVariables false

/-- What holds in a round. -/
def Chained (e : Dt) (X : Nat → Bool) (w : World) (l : List Dt) (j : Nat) (wr : World) (k n d : Int) (s : ByteArray) (l' : List Dt) (p : Option Addr) (cap : Nat) : Prop :=
  wr.heap[w.heap.size + 1]? = some (.cells #[.int .i64 0, .int .i64 0, .int .i64 0, .string ⟨#[]⟩, .slice none 0 0] 24 (0, 0)) ∧ wr.heap[w.heap.size]? = some (.cells #[.int .i64 k, .int .i64 n, .int .i64 d, .string s, .slice p l'.length cap] 24 (0, 0)) ∧
    Dt.chain e (l.drop j) = .node k n d s l' ∧ (Dt.node k n d s l').At (off wr (more X w.heap.size)) (.agg #[.int .i64 k, .int .i64 n, .int .i64 d, .string s, .slice p l'.length cap]) ∧ Below w.heap.size w wr

set_option maxHeartbeats 2000000 in
set_option maxRecDepth 100000 in
theorem chain_any (X : Nat → Bool) (e : Dt) (ek en ed : Int) (es : ByteArray) (el : List Dt) (ep : Option Addr) (ec : Nat) (l : List Dt) (p : Option Addr) (cap : Nat) (w : World) (hX : ∀ b, w.heap.size ≤ b → X b = false)
    (he : e = .node ek en ed es el) (hea : e.At (off w X) (.agg #[.int .i64 ek, .int .i64 en, .int .i64 ed, .string es, .slice ep el.length ec])) (hlm : l.length ≤ maxLen) (hl : l = [] ∨ ∃ b o, p = some ⟨b, o, none⟩ ∧ Dt.AllAt (off w X) l b o) :
    Calls Tryd.prog 85 #[.agg #[.int .i64 ek, .int .i64 en, .int .i64 ed, .string es, .slice ep el.length ec], .slice p l.length cap] w fun e' w' => (∃ u, e' = .returned u ∧ (Dt.chain e l).At (off w' X) u) ∧ Below w.heap.size w w' := by
  unfold maxLen at hlm
  have HL := Lib.hid hl; clear hl
  have HX := Lib.hid hX; clear hX
  have HE := Lib.hid (And.intro he hea); clear he hea
  go_enter Tryd.func85, Tryd.ntmps85
  go_wp2_with fail
  go_loopw [5] (fun x wr => ∃ (j : Nat) (k n d : Int) (s : ByteArray) (l' : List Dt) (p' : Option Addr) (cap' : Nat), j ≤ l.length ∧ x = .int .i64 ((j : Int) - 1) ∧ w.heap.size + 1 < wr.heap.size ∧ Chained e X w l j wr k n d s l' p' cap') (fun x _ => (intOf x + 1).toNat)
  case atStart =>
    refine ⟨l.length, ek, en, ed, es, el, ep, ec, Nat.le_refl _, rfl, by simp, ?_⟩
    unfold Chained
    refine ⟨two_second _ _ _, two_first _ _ _, by rw [List.drop_length]; exact HE.out.1, ?_, two_below _ _ _⟩
    rw [← HE.out.1]
    exact HE.out.2.on (old_off (two_below _ _ _))
  case round =>
    obtain ⟨j, k, n, d, s, l', p', cap', hj, rfl, hsz, hm⟩ := hrel
    have HM := Lib.hid hm
    have hsz0 : w.heap.size < wr.heap.size := by omega
    have hh := hm.2.1
    clear hm
    obtain ⟨c0, c1, c2, c3, c4⟩ := box_cells hh
    cases j with
    | zero =>
      have hr := HM.out.1
      have z0 := box_frozen hr 0
      have z1 := box_frozen hr 1
      have z2 := box_frozen hr 2
      have z3 := box_frozen hr 3
      have z4 := box_frozen hr 4
      obtain ⟨r0, r1, r2, r3, r4⟩ := box_cells hr
      clear hh
      go_wp2_with fail
      have hr2 := set_five (b0 := .int .i64 k) (b1 := .int .i64 n) (b2 := .int .i64 d) (b3 := .string s) (b4 := .slice p' l'.length cap') hr
      refine bodyPost_ret (results_cell_row rfl _ _ (w.heap.size + 1) 24 _ (0, 0) _ rfl hr2 Tryd.underlying24 rfl Tryd.sizeDt) rfl ?_
      refine ⟨⟨_, rfl, ?_⟩, set_five_below (HM.out).2.2.2.2 (Nat.le_succ _)⟩
      have h1 := (HM.out).2.2.1
      rw [List.drop_zero] at h1
      rw [h1]
      refine (HM.out).2.2.2.1.on fun b o v hv => ?_
      refine off_on (fun b _ hx => (more_no.1 hx).1) (fun b _ hx => set_five_other (more_no.1 hx).2.2) b o v hv
    | succ i =>
      have hi : i < l.length := hj
      obtain ⟨t, ht⟩ : ∃ t, l[i]? = some t := ⟨l[i], by simp [hi]⟩
      rcases HL.out with hn | ⟨b, o, rfl, hall⟩
      · rw [hn] at hi; simp at hi
      obtain ⟨v0, v1, v2, v3, v4, d0, d1, d2, d3, d4, hta⟩ := (hall.on fun b o v h => cell_on (HM.out).2.2.2.2 b o v (off_cell.1 h).2).kid ht
      obtain ⟨w0, w1, w2, w3, w4, e0, e1, e2, e3, e4, hta0⟩ := hall.kid ht
      replace e0 := (off_cell.1 e0).2
      replace e1 := (off_cell.1 e1).2
      replace e2 := (off_cell.1 e2).2
      replace e3 := (off_cell.1 e3).2
      replace e4 := (off_cell.1 e4).2
      have f0 := cell_on (HM.out).2.2.2.2 _ _ _ e0
      have f1 := cell_on (HM.out).2.2.2.2 _ _ _ e1
      have f2 := cell_on (HM.out).2.2.2.2 _ _ _ e2
      have f3 := cell_on (HM.out).2.2.2.2 _ _ _ e3
      have f4 := cell_on (HM.out).2.2.2.2 _ _ _ e4
      rw [d0] at f0; rw [d1] at f1; rw [d2] at f2; rw [d3] at f3; rw [d4] at f4
      simp only [Option.some.injEq] at f0 f1 f2 f3 f4
      subst f0 f1 f2 f3 f4
      clear e0 e1 e2 e3 e4
      obtain ⟨kt, nt, dt, st, lt, pt, capt, hte, rfl, rfl, rfl, rfl, rfl, _, _⟩ := hta.open5
      have z0 := box_frozen hh 0
      have z1 := box_frozen hh 1
      have z2 := box_frozen hh 2
      have z3 := box_frozen hh 3
      have z4 := box_frozen hh 4
      have ei : (((i + 1 : Nat) : Int) - 1) = (i : Int) := by omega
      have HALL := Lib.hid hta0
      have HT := Lib.hid ht
      have HTE := Lib.hid hte
      have HH := Lib.hid hh
      rw [ei]
      clear hall hta hta0 hte hh ht ei
      go_wp2_with fail
      go_still_tail 5, (by kernel_rfl)
      change wpList _ _ _ _ _ wr.drew
      go_wp2_with fail
      go_roundw
      case rel =>
        have hw0 := (HM.out).1
        have hbw := (HM.out).2.2.2.2
        have hat := (HM.out).2.2.2.1
        have hls := (HM.out).2.2.1
        obtain ⟨O, hO⟩ : ∃ O, Obj.cells #[Value.int IntKind.i64 kt, Value.int IntKind.i64 nt, Value.int IntKind.i64 dt, Value.string st, Value.slice pt lt.length capt, Value.int IntKind.i64 k, Value.int IntKind.i64 n, Value.int IntKind.i64 d, Value.string s, Value.slice p' l'.length cap'] 24 = O := ⟨_, rfl⟩
        obtain ⟨S, hS⟩ : ∃ S, (((((wr.setCell ⟨w.heap.size, 0, none⟩ (.int .i64 6)).setCell ⟨w.heap.size, 1, none⟩ (.int .i64 0)).setCell ⟨w.heap.size, 2, none⟩ (.int .i64 0)).setCell ⟨w.heap.size, 3, none⟩ (.string ⟨#[]⟩)).setCell ⟨w.heap.size, 4, none⟩ (.slice (some ⟨wr.heap.size, 0, none⟩) 2 2)) = S := ⟨_, rfl⟩
        have s1 : S.heap.size = wr.heap.size := by rw [← hS]; exact set_five_size
        have s2 : S.heap[w.heap.size]? = some (.cells #[.int .i64 6, .int .i64 0, .int .i64 0, .string ⟨#[]⟩, .slice (some ⟨wr.heap.size, 0, none⟩) 2 2] 24 (0, 0)) := by rw [← hS]; exact set_five HH.out
        have s3 : ∀ b, b ≠ w.heap.size → S.heap[b]? = wr.heap[b]? := fun b hb => by rw [← hS]; exact set_five_other hb
        have s4 : Below w.heap.size w S := by rw [← hS]; exact set_five_below hbw (Nat.le_refl _)
        rw [hS, hO]
        have t0 : ∀ b, b < wr.heap.size → (S.alloc O).drew.heap[b]? = S.heap[b]? := fun b hb => Below.heap_alloc S O b (by omega)
        have t1 : (S.alloc O).drew.heap[wr.heap.size]? = some O := by rw [← s1]; exact heap_alloc_new S O
        have t2 : Below w.heap.size w (S.alloc O).drew := (s4.alloc (by omega) O).drew
        have t3 : (S.alloc O).drew.heap.size = wr.heap.size + 1 := by rw [← s1]; show (S.heap.push O).size = _; simp
        refine ⟨i, 6, 0, 0, nil8, [t, Dt.chain e (l.drop (i + 1))], some ⟨wr.heap.size, 0, none⟩, 2, by omega, rfl, by omega, ?_⟩
        unfold Chained
        refine ⟨?_, ?_, by rw [Dt.drop_at HT.out]; rfl, ?_, t2⟩
        · rw [t0 _ (by omega), s3 _ (by omega)]; exact hw0
        · rw [t0 _ (by omega)]; exact s2
        · have tc : ∀ j v, #[Value.int IntKind.i64 kt, Value.int IntKind.i64 nt, Value.int IntKind.i64 dt, Value.string st, Value.slice pt lt.length capt, Value.int IntKind.i64 k, Value.int IntKind.i64 n, Value.int IntKind.i64 d, Value.string s, Value.slice p' l'.length cap'][j]? = some v → (off (S.alloc O).drew (more X w.heap.size)).cell? ⟨wr.heap.size, j, none⟩ = some v := by
            intro j v hj
            exact off_cell.2 ⟨more_no.2 ⟨HX.out _ (by omega), by omega, by omega⟩, by rw [heap_cell (t1.trans (congrArg some hO.symm))]; exact hj⟩
          unfold Dt.At
          refine ⟨by unfold I64; omega, by unfold I64; omega, by unfold I64; omega, by unfold maxLen; decide, by simp [maxLen], _, _, rfl, Or.inr ⟨_, _, rfl, ?_⟩⟩
          unfold Dt.AllAt
          refine ⟨⟨_, _, _, _, _, tc 0 _ rfl, tc 1 _ rfl, tc 2 _ rfl, tc 3 _ rfl, tc 4 _ rfl, (HALL.out).on (old_off t2)⟩, ?_⟩
          unfold Dt.AllAt
          refine ⟨⟨_, _, _, _, _, tc 5 _ rfl, tc 6 _ rfl, tc 7 _ rfl, tc 8 _ rfl, tc 9 _ rfl, ?_⟩, by unfold Dt.AllAt; trivial⟩
          rw [hls]
          exact hat.on (off_on (fun _ _ hx => hx) fun b hb hx => (t0 b hb).trans (s3 b (more_no.1 hx).2.1))
      case measure => simp [intOf]
end Go.Proofs.YtabofebepefbgaaDoor.Dat
