/- The reader, in plain Lean: numbers and names alone. -/
import Derived.Test.YtabofebepefbgaaDoorRdRM
import Derived.Test.YtabofebepefbgaaDoorDatW0M

namespace Go.Proofs.YtabofebepefbgaaDoor.Dat
open Go.RowKit
open Go.Proofs.YtabofebepefbgaaDoor (textL parse)
open NumPlain (rightB isDig)
set_option linter.unusedVariables false

theorem num_right {n d : Int} (h : rightB n d = true) (deep : Nat) (hd : deep ≤ 200) : (Dt.node 0 n d nil8 []).right rightB nameB deep = true := by
  unfold Dt.right Dt.rightAll
  simp [headRight, h, hd]; rfl
theorem sym_right {s : ByteArray} (h : nameB s = true) (deep : Nat) (hd : deep ≤ 200) : (Dt.node 2 0 0 s []).right rightB nameB deep = true := by
  unfold Dt.right Dt.rightAll
  unfold headRight
  rw [nameSub s h]
  simp [h, hd]
theorem skip_two (b : Bool) : ∀ l : List UInt8, skipB false (skipB b l) = skipB b l := by
  intro l
  cases h : skipB b l with
  | nil => rfl
  | cons c r => exact skip_stays h r
theorem top_one {l : List UInt8} {d : Dt} (hne : skipB false l ≠ []) (h : Rd .one l (.ok d [])) (hr : rightDt d = true) : Top [] l (.ok [d] []) := by
  cases hs : skipB false l with
  | nil => exact absurd hs hne
  | cons c r =>
    refine .more hs (rd_from (m := []) h ?_) hr (.fin rfl)
    rw [← hs]; exact skip_two _ _
theorem num_reads {n d : Int} (h : rightB n d = true) : Rd .one (textL n d) (.ok (.node 0 n d nil8 []) []) := by
  have h1 := text_reads (num_right h 0 (by omega)) (by simp [Dt.marked, Dt.markedAll]) (x := []) (fun c y e => by cases e)
  rwa [text_num, List.append_nil] at h1
theorem num_heads {n d : Int} (h : rightB n d = true) : ∃ c r, textL n d = c :: r ∧ Heads c := by
  have h1 := text_heads (num_right h 0 (by omega)) (by simp [Dt.marked, Dt.markedAll])
  rwa [text_num] at h1
theorem top_num {n d : Int} (h : rightB n d = true) : Top [] (textL n d) (.ok [.node 0 n d nil8 []] []) := by
  obtain ⟨c, r, hc, hh⟩ := num_heads h
  refine top_one ?_ (num_reads h) (num_right h 0 (by omega))
  rw [hc, (heads_skip hh r).1]; simp
abbrev quoted (t : Dt) : Dt := .node 6 0 0 nil8 [quoteD, .node 6 0 0 nil8 [t, nullD]]
theorem quoted_right {n d : Int} (h : rightB n d = true) : (quoted (.node 0 n d nil8 [])).right rightB nameB 0 = true := by
  have hn : nullD.right rightB nameB 2 = true := by decide +kernel
  have h1 := num_right h 2 (by omega)
  unfold Dt.right Dt.rightAll Dt.rightAll Dt.rightAll Dt.right Dt.rightAll Dt.rightAll Dt.rightAll
  simp only [hn, h1]
  rfl
theorem top_quoted {n d : Int} (h : rightB n d = true) : Top [] (39 :: textL n d) (.ok [quoted (.node 0 n d nil8 [])] []) := by
  refine top_one (by simp [skipB]) (.quote rfl (num_reads h)) (quoted_right h)
theorem quoted_text {n d : Int} (h : rightB n d = true) : [40, 113, 117, 111, 116, 101, 32] ++ textL n d ++ [41] = (quoted (.node 0 n d nil8 [])).full rightB nameB textL := by
  unfold Dt.full
  rw [quoted_right h, if_pos rfl, text_pair, tail_pair, text_num, show quoteD = Dt.node 2 0 0 ⟨#[113, 117, 111, 116, 101]⟩ [] from rfl, text_sym, show nullD = Dt.node 4 0 0 nil8 [] from rfl, tail_null]
  simp
theorem top_sym {s : ByteArray} (h : nameB s = true) (hm : s.data.toList.any (fun c => c == 37) = false) : Top [] s.data.toList (.ok [.node 2 0 0 s []] []) := by
  have hr := sym_right h 0 (by omega)
  have hk : (Dt.node 2 0 0 s []).marked = false := by simp only [Dt.marked, Dt.markedAll, hm]; rfl
  have h1 := text_reads hr hk (x := []) (fun c y e => by cases e)
  obtain ⟨c, r, hc, hh⟩ := text_heads hr hk
  rw [text_sym] at h1 hc
  rw [List.append_nil] at h1
  refine top_one ?_ h1 hr
  rw [hc, (heads_skip hh r).1]; simp
end Go.Proofs.YtabofebepefbgaaDoor.Dat
