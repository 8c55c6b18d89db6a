/- The walk of the statement NumTexts. -/
import Derived.Test.YtfkeiokoghaciaaDoorText
namespace Go.Proofs.YtfkeiokoghaciaaDoor
open Go.RowKit NumPlain

theorem below_drewN (w : World) (k : Nat) : Below w.heap.size w (w.drewN k) := ⟨rfl, rfl, rfl, Nat.le_refl _, fun _ _ => rfl⟩
theorem below_over {w w' : World} {k : Nat} (h : Below (w.drewN k).heap.size (w.drewN k) w') : Below w.heap.size w w' := (below_drewN w k).trans h

set_option maxHeartbeats 400000 in
theorem texts_true (n d : Int) (hn : I64 n) (hd : I64 d) (s : ByteArray) (hs : s.size ≤ maxLen) (w : World) (htab : Lib.TabIs Tryd.prog w "internal/strconv.uint64pow10" .u64 Lib.pow10Tab) :
    Calls Tryd.prog 3 #[.int .i64 n, .int .i64 d, .string s] w fun e w' => e = .returned (.bool true) ∧ Below w.heap.size w w' := by
  obtain ⟨t, ht, _⟩ := str_of (l := textL n d)
  have HTAB := Lib.hid htab; clear htab
  have A := fun w => parse_any s hs w
  have B := fun w => parseRef_any s hs w
  obtain ⟨r, hr⟩ : ∃ r, parse s.data.toList = r := ⟨_, rfl⟩
  rw [hr] at A B
  obtain ⟨x, y, ok⟩ := r
  unfold res at A B
  have HA := Lib.hid A; clear A
  have HB := Lib.hid B; clear B
  have HT := Lib.hid ht; clear ht hr
  have HS := Lib.hid hs; clear hs
  go_enter Tryd.func3, Tryd.ntmps3
  go_wp2_with fail
  refine (awake_true _).mono ?_
  rintro _ w' ⟨rfl, k0, rfl⟩
  go_wp2_with fail
  refine (HA.out _).mono ?_
  rintro _ w' ⟨rfl, k1, rfl⟩
  go_wp2_with fail
  refine (HB.out _).mono ?_
  rintro _ w' ⟨rfl, rfl⟩
  go_wp2_with fail
  refine (text_any n d hn hd t HT.out _ (tab_on HTAB.out (below_drewN _ _))).mono ?_
  rintro _ w1 ⟨rfl, hb1⟩
  have HB1 := Lib.hid (below_over hb1); clear hb1
  go_wp2_with fail
  refine (textRef_any n d hn hd t HT.out _).mono ?_
  rintro _ w2 ⟨rfl, hb2⟩
  have HB2 := Lib.hid hb2; clear hb2
  go_wp2_with fail
  go_ret
  exact ⟨rfl, (HB1.out).trans ((HB2.out).mono (HB1.out).size)⟩
end Go.Proofs.YtfkeiokoghaciaaDoor
