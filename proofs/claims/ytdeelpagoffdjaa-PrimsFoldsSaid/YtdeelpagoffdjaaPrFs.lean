/- The table of facts, as the program makes it. -/
import Derived.Test.YtdeelpagoffdjaaPrK
import Derived.Test.YtdeelpagoffdjaaPrT
import Derived.Test.YtdeelpagoffdjaaDatH
import Derived.Deep.Cut
import Derived.Deep.WholeRow
import Derived.Test.YtdeelpagoffdjaaDatVy


namespace Go.Proofs.Ytdeelpagoffdjaa.Dat
open Go.RowKit
set_option linter.unusedVariables false

/-- The frame behind a list of operations, each of which answers a value at once; none if one does not. -/
def runList (P : Program) (ops : Array Oper) : List Oper → Act → World → Option (Act × World)
  | [], a, w => some (a, w)
  | o :: l, a, w => if Region.wanted o (yielded ops a.tmps) = true then
      match (execOp a.eval o).run P w with
      | .ok (.value v) w' => runList P ops l (a.put o.dst v) w'
      | _ => none
    else runList P ops l (a.put o.dst undef) w
theorem runList_part {P : Program} {ops : Array Oper} {Q : Exit → Act → World → Prop} {m : List Oper} : ∀ (l : List Oper) (a : Act) (w : World) {a' : Act} {w' : World}, runList P ops l a w = some (a', w') → wpList P ops Q m a' w' → wpList P ops Q (l ++ m) a w
  | [], a, w, a', w', h, hq => by
    simp only [runList, Option.some.injEq, Prod.mk.injEq] at h
    obtain ⟨rfl, rfl⟩ := h
    exact hq
  | o :: l, a, w, a', w', h, hq => by
    unfold runList at h
    show wpList P ops Q (o :: (l ++ m)) a w
    unfold wpList
    split at h
    · rename_i hw
      rw [if_pos hw]
      refine Or.inl ?_
      unfold Oper.wp
      split at h
      · rename_i v w1 hr
        rw [hr]
        exact runList_part l _ _ h hq
      · cases h
    · rename_i hw
      rw [if_neg hw]
      exact runList_part l _ _ h hq
theorem runList_take {P : Program} {ops : Array Oper} {Q : Exit → Act → World → Prop} {l : List Oper} (n : Nat) {a a' : Act} {w w' : World} (h : runList P ops (l.take n) a w = some (a', w')) (hq : wpList P ops Q (l.drop n) a' w') : wpList P ops Q l a w := by
  have := runList_part (m := l.drop n) _ _ _ h hq
  rwa [List.take_append_drop] at this

def tableL : List Value := table.flatMap fun f => [.string f.name, .int .i64 f.least, .int .i64 f.most, .bool f.pure, .bool f.folds]
def tableA : Array Value := tableL.toArray
def tableV : Value := .agg tableA
theorem tableL_at : ∀ {i : Nat} {f : Fc}, table[i]? = some f → tableL[5 * i]? = some (.string f.name) ∧ tableL[5 * i + 1]? = some (.int .i64 f.least) ∧ tableL[5 * i + 2]? = some (.int .i64 f.most) ∧ tableL[5 * i + 3]? = some (.bool f.pure) ∧ tableL[5 * i + 4]? = some (.bool f.folds) := by
  unfold tableL
  generalize table = l
  induction l with
  | nil => intro i f h; simp at h
  | cons x r ih =>
    intro i f h
    cases i with
    | zero => simp at h; subst h; simp
    | succ i =>
      have := ih (i := i) (f := f) (by simpa using h)
      simp only [List.flatMap_cons, List.cons_append, List.nil_append]
      rw [show 5 * (i + 1) = 5 * i + 5 from by omega]
      simpa using this
theorem tableA_size : tableA.size = 155 := by decide +kernel
theorem table51 : (Try.prog.info? 51).map (·.size) = some tableA.size := by kernel_rfl
theorem tableOne : tableA.all (·.oneCell') = true := by kernel_rfl
set_option maxRecDepth 100000 in
theorem facts_any (w : World) : Calls Try.prog 27 #[] w fun e w' => e = .returned tableV ∧ Below w.heap.size w w' := by
  go_enter Try.func27, Try.ntmps27
  go_upto_region 1 with fail
  refine wp_region_list ?_
  refine runList_take 32 (a' := ⟨(#[Value.pointer (some ⟨w.heap.size, 0, none⟩)] ++ (table.map Fc.val).toArray).push tableV, []⟩) (w' := w.alloc (Obj.cells Try.zeroCells51 51)) (by kernel_rfl) ?_
  refine wpList_store_row rfl 51 (.tmp 0) (.tmp 32) rfl w.heap.size tableA (by kernel_rfl) (by kernel_rfl) 51 Try.zeroCells51 (heap_alloc_last w _) table51 (by kernel_rfl) tableOne ?_
  rw [World.setRow_alloc_new]
  go_wp2_with fail
  refine bodyPost_ret (results_cell_row rfl _ _ w.heap.size 51 tableA (0, 0) _ (by kernel_rfl) (heap_alloc_last w _) Try.underlying51 rfl table51) rfl ?_
  exact ⟨rfl, box_below w _⟩
end Go.Proofs.Ytdeelpagoffdjaa.Dat

/- The program's Facts, Find, Takes. -/
namespace Go.Proofs.Ytdeelpagoffdjaa.Dat
open Go.RowKit
set_option linter.unusedVariables false

theorem tableA_at (k : Nat) : tableA[k]? = tableL[k]? := by unfold tableA; simp
theorem Try.infoFc : (Try.prog.info? 24).map (·.size) = some 5 := by kernel_rfl
def factV (o : Option Fc) : Value := match o with
  | none => .tuple #[noF.val, .bool false]
  | some f => .tuple #[f.val, .bool true]
set_option maxHeartbeats 1000000 in
set_option maxRecDepth 100000 in
theorem facts_none (n : Int) (hn : I64 n) (h : n < 0 ∨ 30 < n) (w : World) : Calls Try.prog 11 #[.int .i64 n] w fun e w' => e = .returned (.tuple #[noF.val, .bool false]) ∧ Below w.heap.size w w' := by
  unfold I64 at hn
  by_cases h0 : n < 0
  · go_enter Try.func11, Try.ntmps11
    go_wp2_with fail
    refine bodyPost_ret (results_row1 rfl _ _ w.heap.size 24 _ (0, 0) _ _ rfl rfl (at_new w _) Try.underlying24 rfl Try.infoFc) rfl ?_
    exact ⟨rfl, box_below w _⟩
  · have h1 : 31 ≤ n := by omega
    go_enter Try.func11, Try.ntmps11
    go_wp2_with fail
    refine bodyPost_ret (results_row1 rfl _ _ w.heap.size 24 _ (0, 0) _ _ rfl rfl (at_new w _) Try.underlying24 rfl Try.infoFc) rfl ?_
    exact ⟨rfl, box_below w _⟩
/-- The table, its cells hidden. -/
theorem facts_table : ∃ T : Array Value, T.size = 155 ∧ (Try.prog.info? 51).map (·.size) = some T.size ∧ Try.zeroCells51.size = T.size ∧ T.all (·.oneCell') = true ∧
    (∀ (i : Nat) (f : Fc), table[i]? = some f → T[i * 5]? = some (.string f.name) ∧ T[i * 5 + 1]? = some (.int .i64 f.least) ∧ T[i * 5 + 2]? = some (.int .i64 f.most) ∧ T[i * 5 + 3]? = some (.bool f.pure) ∧ T[i * 5 + 4]? = some (.bool f.folds)) ∧
    ∀ w : World, Calls Try.prog 27 #[] w fun e w' => e = .returned (.agg T) ∧ Below w.heap.size w w' := by
  refine ⟨tableA, tableA_size, table51, by kernel_rfl, tableOne, fun i f hf => ?_, facts_any⟩
  obtain ⟨y0, y1, y2, y3, y4⟩ := tableL_at hf
  rw [Nat.mul_comm 5 i] at y0 y1 y2 y3 y4
  exact ⟨(tableA_at _).trans y0, (tableA_at _).trans y1, (tableA_at _).trans y2, (tableA_at _).trans y3, (tableA_at _).trans y4⟩
set_option maxHeartbeats 1000000 in
set_option maxRecDepth 100000 in
theorem facts_some (i : Nat) (f : Fc) (hi : i < 31) (hf : table[i]? = some f) (w : World) : Calls Try.prog 11 #[.int .i64 (i : Int)] w fun e w' => e = .returned (.tuple #[.agg #[.string f.name, .int .i64 f.least, .int .i64 f.most, .bool f.pure, .bool f.folds], .bool true]) ∧ Below w.heap.size w w' := by
  obtain ⟨T, hsz, h51, hz, h1, hat, hF⟩ := facts_table
  obtain ⟨y0, y1, y2, y3, y4⟩ := hat i f hf
  obtain ⟨fn, fl, fm, fp, ff⟩ := f
  simp only at y0 y1 y2 y3 y4 ⊢
  have HH := Lib.hid (And.intro h51 (And.intro hz h1))
  have HF := Lib.hid hF
  clear h51 hz h1 hat hF hf
  go_enter Try.func11, Try.ntmps11
  go_wp2_with fail
  refine (HF.out _).mono ?_
  rintro _ w1 ⟨rfl, hb⟩
  have hbx := one_box hb
  have HB := Lib.hid (And.intro hbx (below_after hb))
  have hst := run_storeCells_new (P := Try.prog) w1 51 Try.zeroCells51 T HH.out.1 HH.out.2.1 HH.out.2.2
  clear hb hbx
  go_upto_region 4 with fail
  obtain ⟨W, hW⟩ : ∃ W, w1.alloc (Obj.cells T 51) = W := ⟨_, rfl⟩
  have hnew := hW ▸ at_new w1 (Obj.cells T 51)
  have hbw : Below w1.heap.size w1 W := hW ▸ box_below w1 _
  rw [hW]
  have d0 := (cell_of_block hnew (j := i * 5)).trans y0
  have d1 := (cell_of_block hnew (j := i * 5 + 1)).trans y1
  have d2 := (cell_of_block hnew (j := i * 5 + 2)).trans y2
  have d3 := (cell_of_block hnew (j := i * 5 + 3)).trans y3
  have d4 := (cell_of_block hnew (j := i * 5 + 4)).trans y4
  have hbx2 := block_on hbw HB.out.1
  obtain ⟨e0, e1, e2, e3, e4⟩ := box_cells hbx2
  have z0' := box_frozen hbx2 0
  have z1' := box_frozen hbx2 1
  have z2' := box_frozen hbx2 2
  have z3' := box_frozen hbx2 3
  have z4' := box_frozen hbx2 4
  have HB2 := Lib.hid (And.intro hbx2 (below_seq HB.out.2 hbw))
  have hlt : w.heap.size < w1.heap.size := lt_of_block HB.out.1
  clear y0 y1 y2 y3 y4 hnew hbx2 hbw hW hst
  go_wp2_with fail
  refine bodyPost_ret (results_row1 rfl _ _ w.heap.size 24 _ (0, 0) _ _ rfl rfl (set_five HB2.out.1) Try.underlying24 rfl Try.infoFc) rfl ?_
  exact ⟨rfl, set_five_below HB2.out.2 (Nat.le_refl _)⟩
theorem Facts_any (n : Int) (hn : I64 n) (w : World) : Calls Try.prog 11 #[.int .i64 n] w fun e w' => e = .returned (factV (factOf n)) ∧ Below w.heap.size w w' := by
  unfold factOf
  by_cases h : 0 ≤ n ∧ n ≤ 30
  · obtain ⟨i, rfl⟩ : ∃ i : Nat, n = (i : Int) := ⟨n.toNat, by omega⟩
    rw [if_pos h]
    have hl : i < table.length := by rw [table_len]; omega
    have hf : table[i]? = some table[i] := List.getElem?_eq_getElem hl
    rw [show (i : Int).toNat = i from rfl, hf]
    exact facts_some i _ (by omega) hf w
  · rw [if_neg h]
    exact facts_none n hn (by omega) w
end Go.Proofs.Ytdeelpagoffdjaa.Dat

/- The program's Takes, Find. -/
namespace Go.Proofs.Ytdeelpagoffdjaa.Dat
open Go.RowKit
set_option linter.unusedVariables false

def Fc.Fits (f : Fc) : Prop := I64 f.least ∧ I64 f.most
theorem table_fits : ∀ {n : Int} {f : Fc}, factOf n = some f → f.Fits := by
  intro n f h
  unfold factOf at h
  split at h
  · have : ∀ g ∈ table, (-1 : Int) ≤ g.least ∧ g.least ≤ 2 ∧ (-1 : Int) ≤ g.most ∧ g.most ≤ 2 := by decide +kernel
    have := this f (List.mem_of_getElem? h)
    unfold Fc.Fits I64; omega
  · cases h
set_option maxHeartbeats 1000000 in
set_option maxRecDepth 100000 in
theorem takes_none (n k : Int) (hn : I64 n) (h : factOf n = none) (w : World) : Calls Try.prog 15 #[.int .i64 n, .int .i64 k] w fun e w' => e = .returned (.bool false) ∧ Below w.heap.size w w' := by
  have F := Facts_any n hn w
  rw [h] at F
  unfold factV noF Fc.val at F
  have HF := Lib.hid F; clear F h hn
  go_enter Try.func15, Try.ntmps15
  go_wp2_with fail
  refine HF.out.mono ?_
  rintro _ w1 ⟨rfl, hb⟩
  have HB := Lib.hid (below_seq hb (box_below w1 (Obj.cells #[.string ⟨#[]⟩, .int .i64 0, .int .i64 0, .bool false, .bool false] 24))); clear hb
  go_wp2_with fail
  go_ret
  exact ⟨rfl, HB.out⟩
set_option maxHeartbeats 2000000 in
set_option maxRecDepth 100000 in
theorem takes_some (n k : Int) (hn : I64 n) (hk : I64 k) (f : Fc) (h : factOf n = some f) (w : World) : Calls Try.prog 15 #[.int .i64 n, .int .i64 k] w fun e w' => e = .returned (.bool (decide (f.least ≤ k) && (decide (k ≤ f.most) || decide (f.most = -1)))) ∧ Below w.heap.size w w' := by
  have F := Facts_any n hn w
  have ft := table_fits h
  rw [h] at F
  obtain ⟨fn, fl, fm, fp, ff⟩ := f
  unfold factV Fc.val at F
  unfold Fc.Fits I64 at ft
  obtain ⟨⟨l0, l1⟩, ⟨m0, m1⟩⟩ := ft
  unfold I64 at hk
  obtain ⟨k0, k1⟩ := hk
  simp only at F l0 l1 m0 m1 ⊢
  have HF := Lib.hid F; clear F h hn
  have HB := Lib.hid (fun w1 (hb : Below w.heap.size w w1) => below_seq hb (box_below w1 (Obj.cells #[.string fn, .int .i64 fl, .int .i64 fm, .bool fp, .bool ff] 24)))
  by_cases h1 : fl ≤ k
  · have D1 := Lib.hid (decide_eq_true h1)
    by_cases h2 : k ≤ fm
    · have D2 := Lib.hid (decide_eq_true h2)
      go_enter Try.func15, Try.ntmps15
      go_wp2_with fail
      refine HF.out.mono ?_
      rintro _ w1 ⟨rfl, hb⟩
      have HB1 := Lib.hid (HB.out w1 hb); clear hb
      go_wp2_with fail
      go_ret
      exact ⟨ret_bool (by rw [D1.out, D2.out]; rfl), HB1.out⟩
    · have D2 := Lib.hid (decide_eq_false h2)
      by_cases h3 : fm = -1
      · subst h3
        go_enter Try.func15, Try.ntmps15
        go_wp2_with fail
        refine HF.out.mono ?_
        rintro _ w1 ⟨rfl, hb⟩
        have HB1 := Lib.hid (HB.out w1 hb); clear hb
        go_wp2_with fail
        go_ret
        exact ⟨ret_bool (by rw [D1.out, D2.out]; rfl), HB1.out⟩
      · have D3 := Lib.hid (decide_eq_false h3)
        have q : (fm == -1) = false := by rw [beq_eq_false_iff_ne]; exact h3
        go_enter Try.func15, Try.ntmps15
        go_wp2_with fail
        refine HF.out.mono ?_
        rintro _ w1 ⟨rfl, hb⟩
        have HB1 := Lib.hid (HB.out w1 hb); clear hb
        go_wp2_with fail
        go_ret
        exact ⟨ret_bool (by rw [D1.out, D2.out, D3.out]; rfl), HB1.out⟩
  · have D1 := Lib.hid (decide_eq_false h1)
    go_enter Try.func15, Try.ntmps15
    go_wp2_with fail
    refine HF.out.mono ?_
    rintro _ w1 ⟨rfl, hb⟩
    have HB1 := Lib.hid (HB.out w1 hb); clear hb
    go_wp2_with fail
    go_ret
    exact ⟨ret_bool (by rw [D1.out]; rfl), HB1.out⟩
theorem Takes_any (n k : Int) (hn : I64 n) (hk : I64 k) (w : World) : Calls Try.prog 15 #[.int .i64 n, .int .i64 k] w fun e w' => e = .returned (.bool (takesB n k)) ∧ Below w.heap.size w w' := by
  unfold takesB
  cases h : factOf n with
  | none => exact takes_none n k hn h w
  | some f => exact takes_some n k hn hk f h w

theorem extract5 {T : Array Value} {k : Nat} {a0 a1 a2 a3 a4 : Value} (h0 : T[k]? = some a0) (h1 : T[k + 1]? = some a1) (h2 : T[k + 2]? = some a2) (h3 : T[k + 3]? = some a3) (h4 : T[k + 4]? = some a4) : T.extract k (k + 5) = #[a0, a1, a2, a3, a4] := by
  have hs : k + 4 < T.size := (Array.getElem?_eq_some_iff.1 h4).1
  have hm : min (k + 5) T.size - k = 5 := by omega
  apply Array.ext_getElem?
  intro j
  rw [Array.getElem?_extract, hm]
  rcases j with _ | _ | _ | _ | _ | j
  · simpa using h0
  · simpa using h1
  · simpa using h2
  · simpa using h3
  · simpa using h4
  · rw [if_neg (by omega)]; simp
theorem run_index_table (T : Array Value) (i : Nat) (hi : i < 31) {a0 a1 a2 a3 a4 : Value} (h0 : T[i * 5]? = some a0) (h1 : T[i * 5 + 1]? = some a1) (h2 : T[i * 5 + 2]? = some a2) (h3 : T[i * 5 + 3]? = some a3) (h4 : T[i * 5 + 4]? = some a4) (w : World) :
    (Instr.index 51 (.agg T) (.int .i64 (i : Int))).run Try.prog w = .ok (.agg #[a0, a1, a2, a3, a4]) w := by
  have hi' : (0 : Int) ≤ (i : Int) ∧ (i : Int) < 31 := by omega
  rw [← extract5 h0 h1 h2 h3 h4]
  simp [Instr.index, run_underlying Try.underlying51, asIntOf, go_sem]
  intro h; omega
theorem find_step {s : ByteArray} {i : Nat} {f : Fc} (h : table[i]? = some f) : findIn s (table.drop i) (i : Int) = if f.name = s then ((i : Int), true) else findIn s (table.drop (i + 1)) ((i : Int) + 1) := by
  obtain ⟨hi, ht⟩ := List.getElem?_eq_some_iff.1 h
  rw [List.drop_eq_getElem_cons hi, ht]; rfl
set_option maxHeartbeats 2000000 in
set_option maxRecDepth 100000 in
theorem Find_any (s : ByteArray) (hs : s.size ≤ maxLen) (w : World) : Calls Try.prog 13 #[.string s] w fun e w' => e = .returned (.tuple #[.int .i64 (findB s).1, .bool (findB s).2]) ∧ Below w.heap.size w w' := by
  unfold maxLen at hs
  obtain ⟨r, hr⟩ : ∃ r, findB s = r := ⟨_, rfl⟩
  rw [hr]
  unfold findB at hr
  by_cases h : s = ⟨#[37, 101, 113, 63]⟩
  · rw [if_pos h] at hr
    subst h
    have HR := Lib.hid hr; clear hr
    go_enter Try.func13, Try.ntmps13
    go_wp2_with fail
    go_ret2
    exact ⟨by rw [← HR.out]; rfl, Below.refl _ _⟩
  · rw [if_neg h] at hr
    have q : (s.toList == [37, 101, 113, 63]) = false := by
      rw [beq_eq_false_iff_ne, ← show (⟨#[37, 101, 113, 63]⟩ : ByteArray).toList = [37, 101, 113, 63] from by decide +kernel]
      exact fun e => h (bytes_inj e)
    obtain ⟨T, hsz, h51, hz, h1, hat, hF⟩ := facts_table
    have HT := Lib.hid (And.intro hsz hat)
    have HF := Lib.hid hF
    have HR := Lib.hid hr
    clear hr hat hF h51 hz h1 h
    go_enter Try.func13, Try.ntmps13
    go_wp2_with fail
    refine (HF.out _).mono ?_
    rintro _ w1 ⟨rfl, hb⟩
    have HB := Lib.hid hb; clear hb
    go_wp2_with fail
    go_loopw [9] (fun x wr => ∃ (i : Nat), i ≤ 31 ∧ x = .int .i64 i ∧ r = findIn s (table.drop i) (i : Int) ∧ Below w.heap.size w wr) (fun x _ => 31 - (intOf x).toNat)
    case atStart => exact ⟨0, by omega, rfl, by rw [← HR.out]; rfl, HB.out⟩
    case round =>
      obtain ⟨i, hi, rfl, hf, hbw⟩ := hrel
      have HFF := Lib.hid (And.intro hf hbw); clear hf hbw
      by_cases hlt : i < 31
      · have hl : i < table.length := by rw [table_len]; omega
        obtain ⟨f, hfi⟩ : ∃ f, table[i]? = some f := ⟨_, List.getElem?_eq_getElem hl⟩
        obtain ⟨y0, y1, y2, y3, y4⟩ := HT.out.2 i f hfi
        obtain ⟨fn, fl, fm, fp, ff⟩ := f
        simp only at y0 y1 y2 y3 y4
        have HFI := Lib.hid hfi
        have hix := run_index_table T i hlt y0 y1 y2 y3 y4 wr
        have ob := Lib.hid (below_seq HFF.out.2 (box_below wr (Obj.cells #[.string fn, .int .i64 fl, .int .i64 fm, .bool fp, .bool ff] 24)))
        have HST := Lib.hid (find_step (s := s) hfi)
        clear hl hfi y0 y1 y2 y3 y4
        by_cases he : fn = s
        · subst he
          go_wp2_with fail
          go_ret2
          exact ⟨by rw [HFF.out.1, HST.out]; simp, ob.out⟩
        · have q : (fn.toList == s.toList) = false := by rw [beq_eq_false_iff_ne]; exact fun e => he (bytes_inj e)
          have HE := Lib.hid he; clear he
          go_wp2_with fail
          go_roundw
          case rel => exact ⟨i + 1, by omega, by go_num, by rw [HFF.out.1, HST.out, if_neg HE.out]; push_cast; rfl, ob.out⟩
          case measure => simp [intOf]; omega
      · have hr : r = (0, false) := by
          rw [HFF.out.1, List.drop_of_length_le (by rw [table_len]; omega)]; rfl
        have HR2 := Lib.hid hr; clear hr
        go_wp2_with fail
        go_ret2
        exact ⟨by rw [HR2.out]; rfl, HFF.out.2⟩
end Go.Proofs.Ytdeelpagoffdjaa.Dat
