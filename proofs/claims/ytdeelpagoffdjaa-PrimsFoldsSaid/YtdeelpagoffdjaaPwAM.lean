/- The document's example; how many data there are in a row. -/
import Derived.Test.YtdeelpagoffdjaaPrMs
import Derived.Test.YtdeelpagoffdjaaDatPz

namespace Go.Proofs.Ytdeelpagoffdjaa.Dat
open Go.RowKit
open NumPlain
set_option linter.unusedVariables false

theorem fold_one : foldB nameB 0 [.node 0 1 2 ⟨#[]⟩ [], .node 0 1 3 ⟨#[]⟩ []] = (numD 5 6, 0, true) := by
  have h1 : foldsB 0 = true := by decide +kernel
  have h2 : Dt.rightAll rightB nameB [.node 0 1 2 ⟨#[]⟩ [], .node 0 1 3 ⟨#[]⟩ []] 0 = true := by decide +kernel
  have h3 : takesB 0 2 = true := by decide +kernel
  have h4 : sumB 0 [.node 0 1 2 ⟨#[]⟩ [], .node 0 1 3 ⟨#[]⟩ []] = (5, 6, 0) := by decide +kernel
  unfold foldB
  rw [if_pos ⟨h1, h2⟩, does_made h3 rfl, made_sum (by omega), h4]; rfl
theorem fold_two : foldB nameB 18 [.node 4 0 0 ⟨#[]⟩ []] = (zeroD, 1, true) := by
  have h1 : foldsB 18 = true := by decide +kernel
  have h2 : Dt.rightAll rightB nameB [.node 4 0 0 ⟨#[]⟩ []] 0 = true := by decide +kernel
  have h3 : takesB 18 1 = true := by decide +kernel
  have h4 : fitB 18 [.node 4 0 0 ⟨#[]⟩ []] = false := by decide +kernel
  unfold foldB
  rw [if_pos ⟨h1, h2⟩, does_fit h3 h4]
/-- A leaf that is told. -/
theorem fold_leaf {X : Nat → Bool} {k n d e : Int} {ok : Bool} {x : Ending} {w : World} (h : FoldX X (.node k n d ⟨#[]⟩ [], e, ok) x w) : ∃ p cap, x = .returned (.tuple #[.agg #[.int .i64 k, .int .i64 n, .int .i64 d, .string ⟨#[]⟩, .slice p 0 cap], .int .i64 e, .bool ok]) := by
  obtain ⟨k', n', d', s', p, len, cap, he, ht⟩ := h
  unfold Dt.At at ht
  obtain ⟨-, -, -, -, -, q, c, hv, -⟩ := ht
  simp only [Value.agg.injEq, Array.mk.injEq, List.cons.injEq, and_true, Value.int.injEq, Value.string.injEq, Value.slice.injEq, true_and] at hv
  obtain ⟨rfl, rfl, rfl, rfl, rfl, rfl, rfl⟩ := hv
  exact ⟨p, cap, he⟩
/-- It answers this datum, this end, and whether. -/
def FoldR (r : Dt × Int × Bool) (e : Ending) (w' : World) : Prop := ∃ k n d s p len cap, e = .returned (.tuple #[.agg #[.int .i64 k, .int .i64 n, .int .i64 d, .string s, .slice p len cap], .int .i64 r.2.1, .bool r.2.2]) ∧ r.1.At w' (.agg #[.int .i64 k, .int .i64 n, .int .i64 d, .string s, .slice p len cap])
theorem Fold_any (n : Int) (l : List Dt) (p : Option Addr) (cap : Nat) (w : World) (hn : I64 n) (hlm : l.length ≤ maxLen) (hsz : Dt.sizes l ≤ 90000) (hcap : l.length ≤ cap) (hl : Lies w l p) :
    Calls Try.prog 18 #[.int .i64 n, .slice p l.length cap] w fun e w' => FoldR (foldB nameB n l) e w' ∧ Below w.heap.size w w' :=
  (FoldP_any n l p cap w (fun _ => false) hn hlm hsz hcap (fun _ _ => rfl) (by
    rcases hl with h | ⟨b, o, h1, h2⟩
    · exact Or.inl h
    · exact Or.inr ⟨b, o, h1, h2.on fun b o x h => off_cell.2 ⟨rfl, h⟩⟩)).mono fun e w' ⟨⟨k, n, d, s, p, len, cap, he, ht⟩, hb⟩ => ⟨⟨k, n, d, s, p, len, cap, he, ht.on fun b o x h => (off_cell.1 h).2⟩, hb⟩
theorem leaf_is {k n d e : Int} {ok : Bool} {x : Ending} {w : World} (h : FoldR (.node k n d ⟨#[]⟩ [], e, ok) x w) : ∃ p cap, x = .returned (.tuple #[.agg #[.int .i64 k, .int .i64 n, .int .i64 d, .string ⟨#[]⟩, .slice p 0 cap], .int .i64 e, .bool ok]) := by
  obtain ⟨k', n', d', s', p, len, cap, he, ht⟩ := h
  unfold Dt.At at ht
  obtain ⟨-, -, -, -, -, q, c, hv, -⟩ := ht
  simp only [Value.agg.injEq, Array.mk.injEq, List.cons.injEq, and_true, Value.int.injEq, Value.string.injEq, Value.slice.injEq, true_and] at hv
  obtain ⟨rfl, rfl, rfl, rfl, rfl, rfl, rfl⟩ := hv
  exact ⟨p, cap, he⟩
theorem lies_one {W : World} {B : Nat} {a0 a1 a2 a3 a4 : Value} {ty : TypeId} {t : Dt} (h : W.heap[B]? = some (.cells #[a0, a1, a2, a3, a4] ty (0, 0))) (ht : t.At W (.agg #[a0, a1, a2, a3, a4])) : Lies W [t] (some ⟨B, 0, none⟩) := by
  refine Or.inr ⟨B, 0, rfl, ?_⟩
  unfold Dt.AllAt
  refine ⟨⟨a0, a1, a2, a3, a4, ?_, ?_, ?_, ?_, ?_, ht⟩, ?_⟩
  all_goals (first | (unfold Dt.AllAt; trivial) | simp [World.cell?, h])
theorem lies_two {W : World} {B : Nat} {a0 a1 a2 a3 a4 b0 b1 b2 b3 b4 : Value} {ty : TypeId} {t u : Dt} (h : W.heap[B]? = some (.cells #[a0, a1, a2, a3, a4, b0, b1, b2, b3, b4] ty (0, 0))) (ht : t.At W (.agg #[a0, a1, a2, a3, a4])) (hu : u.At W (.agg #[b0, b1, b2, b3, b4])) : Lies W [t, u] (some ⟨B, 0, none⟩) := by
  refine Or.inr ⟨B, 0, rfl, ?_⟩
  unfold Dt.AllAt
  refine ⟨⟨a0, a1, a2, a3, a4, ?_, ?_, ?_, ?_, ?_, ht⟩, ?_⟩
  · simp [World.cell?, h]
  · simp [World.cell?, h]
  · simp [World.cell?, h]
  · simp [World.cell?, h]
  · simp [World.cell?, h]
  unfold Dt.AllAt
  refine ⟨⟨b0, b1, b2, b3, b4, ?_, ?_, ?_, ?_, ?_, hu⟩, ?_⟩
  all_goals (first | (unfold Dt.AllAt; trivial) | simp [World.cell?, h])
theorem fold1_call (w : World) : Calls Try.prog 18 #[.int .i64 0, .slice (some ⟨w.heap.size, 0, none⟩) 2 2] (w.alloc (Obj.cells #[.int .i64 0, .int .i64 1, .int .i64 2, .string ⟨#[]⟩, .slice none 0 0, .int .i64 0, .int .i64 1, .int .i64 3, .string ⟨#[]⟩, .slice none 0 0] 37)) fun e w' => (∃ p cap, e = .returned (.tuple #[.agg #[.int .i64 0, .int .i64 5, .int .i64 6, .string ⟨#[]⟩, .slice p 0 cap], .int .i64 0, .bool true])) ∧ Below w.heap.size w w' := by
  have C := Fold_any 0 [.node 0 1 2 ⟨#[]⟩ [], .node 0 1 3 ⟨#[]⟩ []] (some ⟨w.heap.size, 0, none⟩) 2 (w.alloc (Obj.cells #[.int .i64 0, .int .i64 1, .int .i64 2, .string ⟨#[]⟩, .slice none 0 0, .int .i64 0, .int .i64 1, .int .i64 3, .string ⟨#[]⟩, .slice none 0 0] 37)) i64_lit0 (by unfold maxLen; simp) (by simp [Dt.sizes, Dt.size]) (by simp)
    (lies_two (at_new w _) (leaf_at _ 0 1 2 i64_lit0 (by unfold I64; omega) (by unfold I64; omega) none 0) (leaf_at _ 0 1 3 i64_lit0 (by unfold I64; omega) (by unfold I64; omega) none 0))
  rw [fold_one] at C
  exact C.mono fun e w' h => ⟨leaf_is h.1, below_after h.2⟩
theorem fold2_call (w : World) : Calls Try.prog 18 #[.int .i64 18, .slice (some ⟨w.heap.size, 0, none⟩) 1 1] (w.alloc (Obj.cells #[.int .i64 4, .int .i64 0, .int .i64 0, .string ⟨#[]⟩, .slice none 0 0] 37)) fun e w' => (∃ p cap, e = .returned (.tuple #[.agg #[.int .i64 0, .int .i64 0, .int .i64 0, .string ⟨#[]⟩, .slice p 0 cap], .int .i64 1, .bool true])) ∧ Below w.heap.size w w' := by
  have C := Fold_any 18 [.node 4 0 0 ⟨#[]⟩ []] (some ⟨w.heap.size, 0, none⟩) 1 (w.alloc (Obj.cells #[.int .i64 4, .int .i64 0, .int .i64 0, .string ⟨#[]⟩, .slice none 0 0] 37)) (by unfold I64; omega) (by unfold maxLen; simp) (by simp [Dt.sizes, Dt.size]) (by simp)
    (lies_one (at_new w _) (leaf_at _ 4 0 0 (by unfold I64; omega) i64_lit0 i64_lit0 none 0))
  rw [fold_two] at C
  exact C.mono fun e w' h => ⟨leaf_is h.1, below_after h.2⟩
set_option maxHeartbeats 2000000 in
set_option maxRecDepth 100000 in
theorem awake5_any (w : World) : Calls Try.prog 10 #[] w fun e w' => e = .returned (.bool true) ∧ Below w.heap.size w w' := by
  go_enter Try.func10, Try.ntmps10
  go_wp2_with fail
  refine (fold1_call w).mono ?_
  rintro _ w1 ⟨⟨p, cap, rfl⟩, hb⟩
  have HB := Lib.hid (And.intro hb True.intro); clear hb
  go_upto_region 2 with fail
  obtain ⟨W, hW⟩ : ∃ W, w1.alloc (Obj.cells #[.int .i64 0, .int .i64 5, .int .i64 6, .string ⟨#[]⟩, .slice p 0 cap] 37) = W := ⟨_, rfl⟩
  have hbw : Below w1.heap.size w1 W := hW ▸ box_below w1 _
  have hnx := hW ▸ at_new w1 (Obj.cells #[.int .i64 0, .int .i64 5, .int .i64 6, .string ⟨#[]⟩, .slice p 0 cap] 37)
  rw [hW]
  have HW := Lib.hid (And.intro (below_seq HB.out.1 hbw) hnx); clear hbw hnx hW
  go_wp2_with fail
  refine (fold2_call W).mono ?_
  rintro _ w2 ⟨⟨p2, cap2, rfl⟩, hb⟩
  have hbb := below_seq hb (box_below w2 (Obj.cells #[.int .i64 0, .int .i64 0, .int .i64 0, .string ⟨#[]⟩, .slice p2 0 cap2] 37))
  have hbx := block_on hbb HW.out.2
  have HB2 := Lib.hid (below_seq HW.out.1 hbb)
  obtain ⟨c0, c1, c2, c3, c4⟩ := box_cells hbx
  clear hb hbb hbx
  go_wp2_with fail
  go_ret
  exact ⟨rfl, HB2.out⟩
end Go.Proofs.Ytdeelpagoffdjaa.Dat
