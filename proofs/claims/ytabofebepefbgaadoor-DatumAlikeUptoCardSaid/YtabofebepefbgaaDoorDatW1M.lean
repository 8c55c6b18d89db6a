/- What the program's Text answers at this seat; the laws' common part. -/
import Derived.Test.YtabofebepefbgaaDoorDatW0M
import Derived.Test.YtabofebepefbgaaDoorDatVv

namespace Go.Proofs.YtabofebepefbgaaDoor.Dat
open Go.RowKit
open Go.Proofs.YtabofebepefbgaaDoor (textL parse res)
open NumPlain (rightB)
set_option linter.unusedVariables false

abbrev Tab (w : World) : Prop := Lib.TabIs Tryd.prog w "internal/strconv.uint64pow10" .u64 Lib.pow10Tab
theorem tab_lasts : Lasts Tab := fun _ _ h hb => tab_on h hb
theorem numText : NumText Tab textL := fun n d a w ht hn hd ha => Go.Proofs.YtabofebepefbgaaDoor.text_any n d hn hd a ha w ht
theorem pText (t : Dt) (v : Value) (a : ByteArray) (w : World) (hat : t.At w v) (ht : Tab w) (hlen : t.right rightB nameB 0 = true → (t.text textL).length ≤ 140737488355328) (ha : a.data.toList = t.full rightB nameB textL) :
    Calls Tryd.prog 15 #[v] w fun e w' => e = .returned (.string a) ∧ Below w.heap.size w w' := ownText_any Tab numText tab_lasts pRight t v a w hat ht hlen ha
set_option maxHeartbeats 400000 in
set_option maxRecDepth 100000 in
theorem fewLaw_any (t : Dt) (v : Value) (m : Int) (w : World) (h0 : 0 ≤ m) (h1 : m ≤ 100000) (hat : t.At w v) : Answers 11 #[v, .int .i64 m] w (.bool (decide ((t.size : Int) ≤ m))) := by
  have hd : decide (0 ≤ t.few m) = decide ((t.size : Int) ≤ m) := by
    rw [Bool.eq_iff_iff, decide_eq_true_iff, decide_eq_true_iff]; exact t.few_iff m h0
  obtain ⟨k, n, d, s, l⟩ := t
  have C := fun w' (h : (Dt.node k n d s l).At w' v) => Few_any (Dt.node k n d s l) v m w' h0 h1 h
  rw [hd] at C
  obtain ⟨b, hb⟩ : ∃ b, decide (((Dt.node k n d s l).size : Int) ≤ m) = b := ⟨_, rfl⟩
  rw [hb] at C ⊢
  have hat2 := hat
  unfold Dt.At at hat2
  obtain ⟨hk, hn, hd, hs, hlm, p, cap, rfl, hl⟩ := hat2
  have HC := Lib.hid C; clear C
  have HAT := Lib.hid hat; clear hat hl hlm hs hk hn hd
  unfold Answers
  go_enter Tryd.func11, Tryd.ntmps11
  go_wp2_with fail
  refine (HC.out _ ((HAT.out).below ((Below.refl _ _).alloc (Nat.le_refl _) _))).mono ?_
  rintro _ w1 ⟨rfl, hb1⟩
  have HB1 := Lib.hid hb1; clear hb1
  go_wp2_with fail
  go_ret
  exact ⟨rfl, below_after HB1.out⟩
end Go.Proofs.YtabofebepefbgaaDoor.Dat
