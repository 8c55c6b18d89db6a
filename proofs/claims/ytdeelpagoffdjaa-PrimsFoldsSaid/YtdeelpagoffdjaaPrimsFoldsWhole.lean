/- PrimsFolds: what any primitive makes of any data, and how it ends, is what the document says: the statement is proved for all inputs, with no condition. -/
import Derived.Test.YtdeelpagoffdjaaPyTwo
import Derived.Test.YtdeelpagoffdjaaPxEM
import Derived.Test.YtdeelpagoffdjaaPwAM
import Derived.Test.YtdeelpagoffdjaaPwBM
import Derived.Test.YtdeelpagoffdjaaRows
import Derived.Test.YtdeelpagoffdjaaPwXM
import Derived.WalkKit
import Derived.ProofKit
import Derived.OpenShut

/- The reference's does: what it makes. -/
namespace Go.Proofs.Ytdeelpagoffdjaa.Dat
open Go.RowKit
open NumPlain
set_option linter.unusedVariables false

/-- What does answers. -/
def RDoes0 (n : Int) : Prop := ∀ (l : List Dt) (p : Option Addr) (cap : Nat) (w : World), l.length ≤ maxLen → Dt.sizes l ≤ 90000 → l.length ≤ cap → Lies w l p → Dt.rightAll rightB nameB l 0 = true → takesB n l.length = true →
    Calls Try.prog 33 #[.int .i64 n, .slice p l.length cap] w fun e w' => Gives (doesB n l) e w' ∧ Below w.heap.size w w'
/-- The same, beside what is kept off. -/
def RDoes (n : Int) : Prop := ∀ (X : Nat → Bool) (l : List Dt) (p : Option Addr) (cap : Nat) (w : World), l.length ≤ maxLen → Dt.sizes l ≤ 90000 → l.length ≤ cap → Lies (off w X) l p → Dt.rightAll rightB nameB l 0 = true → takesB n l.length = true →
    Calls Try.prog 33 #[.int .i64 n, .slice p l.length cap] w fun e w' => GivesX X (doesB n l) e w' ∧ Below w.heap.size w w'
theorem rdoes_leaf {n : Int} (h1 : n ≠ 18) (h2 : n ≠ 19) (h3 : n ≠ 22) (h : RDoes0 n) : RDoes n := by
  intro X l p cap w hlm hsz hcap hl hr htk
  exact (h l p cap w hlm hsz hcap (off_lies hl) hr htk).mono fun e w' h => ⟨h.1.keep (does_ls h1 h2 h3) X, h.2⟩
theorem gives_sums {w : World} {l : List Dt} {n : Int} {e : Ending} (hn : n ≤ 3) (htk : takesB n l.length = true) (he : e = .returned (sumsV l (sumB n l))) : Gives (doesB n l) e w := by
  have hf : fitB n l = l.all isNum := by unfold fitB; rw [if_pos (by omega)]
  unfold sumsV at he
  cases h : l.all isNum
  · rw [h] at he hf
    rw [if_neg (by simp)] at he
    rw [does_fit htk hf]
    exact gives_zero he
  · rw [h] at he hf
    rw [if_pos rfl] at he
    rw [does_made htk hf, made_sum hn]
    unfold numV leafV at he
    have hk := sum_okEnd n l
    obtain ⟨⟨x1, x2, x3⟩, hx⟩ : ∃ x, sumB n l = x := ⟨_, rfl⟩
    rw [hx] at hk he ⊢
    unfold numR
    by_cases h0 : x3 = 0
    · subst h0
      have hi := i64_end hk
      exact gives_leaf i64_lit0 hi.1 hi.2 none 0 he
    · rw [if_neg h0]
      rw [if_neg h0] at he
      exact gives_zero he
theorem rdoes_sums (n : Int) (hn : n = 0 ∨ n = 1 ∨ n = 2 ∨ n = 3) : RDoes0 n := by
  intro l p cap w hlm hsz hcap hl hr htk
  rcases hn with rfl | rfl | rfl | rfl
  · exact (rdoes_sum0 l p cap w hlm hcap hl).mono fun e w' h => ⟨gives_sums (by omega) htk h.1, h.2⟩
  · exact (rdoes_sum1 l p cap w hlm hcap hl).mono fun e w' h => ⟨gives_sums (by omega) htk h.1, h.2⟩
  · exact (rdoes_sum2 l p cap w hlm hcap hl).mono fun e w' h => ⟨gives_sums (by omega) htk h.1, h.2⟩
  · exact (rdoes_sum3 l p cap w hlm hcap hl).mono fun e w' h => ⟨gives_sums (by omega) htk h.1, h.2⟩
theorem takes_two {n : Int} {l : List Dt} {fn : ByteArray} {fp ff : Bool} (hf : factOf n = some ⟨fn, 2, 2, fp, ff⟩) (h : takesB n l.length = true) : ∃ t u, l = [t, u] := by
  unfold takesB at h
  rw [hf] at h
  simp only [Bool.and_eq_true, Bool.or_eq_true, decide_eq_true_eq] at h
  exact len_two h.1 (by omega)
theorem takes_one {n : Int} {l : List Dt} {fn : ByteArray} {fp ff : Bool} (hf : factOf n = some ⟨fn, 1, 1, fp, ff⟩) (h : takesB n l.length = true) : ∃ t, l = [t] := by
  unfold takesB at h
  rw [hf] at h
  simp only [Bool.and_eq_true, Bool.or_eq_true, decide_eq_true_eq] at h
  exact len_one h.1 (by omega)
theorem two_right {t u : Dt} (h : Dt.rightAll rightB nameB [t, u] 0 = true) : t.right rightB nameB 0 = true ∧ u.right rightB nameB 0 = true := ⟨mem_right h (i := 0) rfl, mem_right h (i := 1) rfl⟩
theorem rdoes_cmp (n : Int) (hn : n = 4 ∨ n = 5) : RDoes0 n := by
  intro l p cap w hlm hsz hcap hl hr htk
  obtain ⟨t, u, rfl⟩ : ∃ t u, l = [t, u] := by
    rcases hn with rfl | rfl
    · exact takes_two (n := 4) rfl htk
    · exact takes_two (n := 5) rfl htk
  obtain ⟨ht, hu⟩ := two_right hr
  have hf : fitB n [t, u] = (isNum t && isNum u) := by
    unfold fitB; rw [if_pos (by omega)]
    show (isNum t && (isNum u && true)) = _
    rw [Bool.and_true]
  by_cases h1 : t.kd = 0
  · by_cases h2 : u.kd = 0
    · have hf : fitB n [t, u] = true := by rw [hf]; simp [isNum, h1, h2]
      rw [does_made htk hf]
      rcases hn with rfl | rfl
      · have e : t.alike u = eqB t u := by rw [← rEq_is ht hu]; simp [rEqB, h1, h2]
        have h := rdoes4 t u p cap w h1 h2 hl
        rw [e] at h
        exact h
      · exact rdoes5 t u p cap w h1 h2 hl
    · have hf : fitB n [t, u] = false := by rw [hf]; simp [isNum, h2]
      rw [does_fit htk hf]
      rcases hn with rfl | rfl
      · exact rdoes4_badb t u p cap w h1 h2 hl
      · exact rdoes5_badb t u p cap w h1 h2 hl
  · have hf : fitB n [t, u] = false := by rw [hf]; simp [isNum, h1]
    rw [does_fit htk hf]
    rcases hn with rfl | rfl
    · exact rdoes4_bada t u p cap w h1 hl
    · exact rdoes5_bada t u p cap w h1 hl
theorem rdoes_six : RDoes0 6 := by
  intro l p cap w hlm hsz hcap hl hr htk
  obtain ⟨t, u, rfl⟩ := takes_two (n := 6) rfl htk
  obtain ⟨ht, hu⟩ := two_right hr
  rw [does_made htk rfl]
  have h := rdoes6 t u p cap w hl
  rw [rEq_is ht hu] at h
  exact h
theorem rdoes_seven : RDoes0 7 := by
  intro l p cap w hlm hsz hcap hl hr htk
  obtain ⟨t, u, rfl⟩ := takes_two (n := 7) rfl htk
  rw [does_made htk rfl]
  show Calls _ _ _ _ fun e w' => Gives (equalR t u) e w' ∧ _
  unfold equalR
  by_cases h : (eqD t u 1000).2 < 0
  · rw [if_pos h]; exact rdoes7_bad t u p cap w h hl
  · rw [if_neg h]; exact rdoes7_good t u p cap w (by omega) hl
theorem rdoes_eight : RDoes0 8 := by
  intro l p cap w hlm hsz hcap hl hr htk
  obtain ⟨t, rfl⟩ := takes_one (n := 8) rfl htk
  rw [does_made htk rfl]
  show Calls _ _ _ _ fun e w' => Gives (boolD (decide (t.kd = 1) && decide (t.nm = 0)), 0) e w' ∧ _
  by_cases h1 : t.kd = 1
  · by_cases h2 : t.nm = 0
    · rw [show (decide (t.kd = 1) && decide (t.nm = 0)) = true by simp [h1, h2]]
      exact rdoes8c t p cap w h1 h2 hl
    · rw [show (decide (t.kd = 1) && decide (t.nm = 0)) = false by simp [h2]]
      exact rdoes8b t p cap w h1 h2 hl
  · rw [show (decide (t.kd = 1) && decide (t.nm = 0)) = false by simp [h1]]
    exact rdoes8a t p cap w h1 hl
theorem rdoes_kind (n : Int) (h : n = 9 ∨ n = 10 ∨ n = 11 ∨ n = 12 ∨ n = 13 ∨ n = 14 ∨ n = 15 ∨ n = 16) : RDoes0 n := by
  intro l p cap w hlm hsz hcap hl hr htk
  obtain ⟨t, rfl⟩ : ∃ t, l = [t] := by
    rcases h with rfl | rfl | rfl | rfl | rfl | rfl | rfl | rfl
    · exact takes_one (n := 9) rfl htk
    · exact takes_one (n := 10) rfl htk
    · exact takes_one (n := 11) rfl htk
    · exact takes_one (n := 12) rfl htk
    · exact takes_one (n := 13) rfl htk
    · exact takes_one (n := 14) rfl htk
    · exact takes_one (n := 15) rfl htk
    · exact takes_one (n := 16) rfl htk
  have hf : fitB n [t] = true := by
    unfold fitB
    rw [if_neg (by omega), if_neg (by omega), if_neg (by omega), if_neg (by omega), if_neg (by omega)]
  rw [does_made htk hf]
  rcases h with rfl | rfl | rfl | rfl | rfl | rfl | rfl | rfl
  · exact rdoes9 t p cap w hl
  · exact rdoes10 t p cap w hl
  · exact rdoes11 t p cap w hl
  · exact rdoes12 t p cap w hl
  · exact rdoes13 t p cap w hl
  · exact rdoes14 t p cap w hl
  · exact rdoes15 t p cap w hl
  · exact rdoes16 t p cap w hl
theorem rdoes_part (n : Int) (hn : n = 18 ∨ n = 19) : RDoes n := by
  intro X l p cap w hlm hsz hcap hlx hr htk
  have hl := off_lies hlx
  obtain ⟨t, rfl⟩ : ∃ t, l = [t] := by
    rcases hn with rfl | rfl
    · exact takes_one (n := 18) rfl htk
    · exact takes_one (n := 19) rfl htk
  have hrt : t.right rightB nameB 0 = true := mem_right hr (i := 0) rfl
  have hf : fitB n [t] = decide (t.kd = 6) := by
    unfold fitB
    rw [if_neg (by omega), if_pos (by omega)]; rfl
  by_cases h6 : t.kd = 6
  · have hf : fitB n [t] = true := by rw [hf]; simp [h6]
    obtain ⟨x, y, hxy⟩ := pair_parts hrt h6
    rw [does_made htk hf]
    rcases hn with rfl | rfl
    · have e : madeB 18 [t] = (x, 0) := by
        show (fst t.ls, (0 : Int)) = _
        rw [hxy]; rfl
      rw [e]
      exact rdoes18 X t x y p cap w h6 hxy hlx
    · have e : madeB 19 [t] = (y, 0) := by
        show (snd t.ls, (0 : Int)) = _
        rw [hxy]; rfl
      rw [e]
      exact rdoes19 X t x y p cap w h6 hxy hlx
  · have hf : fitB n [t] = false := by rw [hf]; simp [h6]
    rw [does_fit htk hf]
    rcases hn with rfl | rfl
    · exact (rdoes18_bad t p cap w h6 hl).mono fun e w' h => ⟨h.1.keep rfl X, h.2⟩
    · exact (rdoes19_bad t p cap w h6 hl).mono fun e w' h => ⟨h.1.keep rfl X, h.2⟩
theorem rdoes_at : RDoes 22 := by
  intro X l p cap w hlm hsz hcap hlx hr htk
  have hl := off_lies hlx
  obtain ⟨t, u, rfl⟩ := takes_two (n := 22) rfl htk
  have hf : fitB 22 [t, u] = (decide (t.kd = 7) && decide (u.kd = 0)) := rfl
  by_cases h7 : t.kd = 7
  · by_cases h0 : u.kd = 0
    · have hf : fitB 22 [t, u] = true := by rw [hf]; simp [h7, h0]
      rw [does_made htk hf]
      show Calls _ _ _ _ fun e w' => GivesX X (atB t.ls u) e w' ∧ _
      unfold atB
      by_cases h1 : u.dn = 1
      · by_cases h2 : u.nm < 0
        · rw [if_pos (Or.inr (Or.inl h2))]
          exact (rdoes22_rangeb t u p cap w h7 h0 h1 h2 hl).mono fun e w' h => ⟨h.1.keep rfl X, h.2⟩
        · by_cases h3 : (t.ls.length : Int) ≤ u.nm
          · rw [if_pos (Or.inr (Or.inr h3))]
            exact (rdoes22_rangec t u p cap w h7 h0 h1 (by omega) h3 hl).mono fun e w' h => ⟨h.1.keep rfl X, h.2⟩
          · rw [if_neg (by omega)]
            have hlt : u.nm.toNat < t.ls.length := by omega
            obtain ⟨x, hx⟩ : ∃ x, t.ls[u.nm.toNat]? = some x := ⟨_, List.getElem?_eq_getElem hlt⟩
            rw [hx]
            exact rdoes22 X t u x u.nm.toNat p cap w h7 h0 h1 (by omega) hx hlx
      · rw [if_pos (Or.inl h1)]
        exact (rdoes22_rangea t u p cap w h7 h0 h1 hl).mono fun e w' h => ⟨h.1.keep rfl X, h.2⟩
    · have hf : fitB 22 [t, u] = false := by rw [hf]; simp [h0]
      rw [does_fit htk hf]
      exact (rdoes22_badb t u p cap w h7 h0 hl).mono fun e w' h => ⟨h.1.keep rfl X, h.2⟩
  · have hf : fitB 22 [t, u] = false := by rw [hf]; simp [h7]
    rw [does_fit htk hf]
    exact (rdoes22_bada t u p cap w h7 hl).mono fun e w' h => ⟨h.1.keep rfl X, h.2⟩
theorem rdoes_len : RDoes0 23 := by
  intro l p cap w hlm hsz hcap hl hr htk
  obtain ⟨t, rfl⟩ := takes_one (n := 23) rfl htk
  have hf : fitB 23 [t] = decide (t.kd = 7) := rfl
  by_cases h7 : t.kd = 7
  · rw [does_made htk (by rw [hf]; simp [h7])]
    exact rdoes23 t p cap w h7 hl
  · rw [does_fit htk (by rw [hf]; simp [h7])]
    exact rdoes23_bad t p cap w h7 hl
theorem rdoes_length : RDoes0 24 := by
  intro l p cap w hlm hsz hcap hl hr htk
  obtain ⟨t, rfl⟩ := takes_one (n := 24) rfl htk
  have hf : fitB 24 [t] = t.items.isSome := rfl
  have hts : t.size ≤ 100000 := by unfold Dt.sizes at hsz; omega
  have hrt : t.right rightB nameB 0 = true := mem_right hr (i := 0) rfl
  cases h : t.items with
  | none =>
    rw [does_fit htk (by rw [hf, h]; rfl)]
    exact rdoes24_bad t p cap w hts h hl
  | some L =>
    rw [does_made htk (by rw [hf, h]; rfl)]
    have e : madeB 24 [t] = (numD (L.length : Nat) 1, 0) := by
      show (numD ((t.items.getD []).length : Nat) 1, (0 : Int)) = _
      rw [h]; rfl
    rw [e]
    exact rdoes24 t L p cap w hts hrt h hl
theorem rdoes_void : RDoes0 25 := by
  intro l p cap w hlm hsz hcap hl hr htk
  have hk : (decide ((0 : Int) ≤ (l.length : Int)) && (decide ((l.length : Int) ≤ 0) || decide ((0 : Int) = -1))) = true := htk
  simp only [Bool.and_eq_true, Bool.or_eq_true, decide_eq_true_eq] at hk
  obtain rfl := len_zero (l := l) (by omega)
  rw [does_made htk rfl]
  exact rdoes25 p cap w
theorem rDoes_any (n : Int) (h : foldsB n = true) : RDoes n := by
  rcases folds_cases h with rfl | rfl | rfl | rfl | rfl | rfl | rfl | rfl | rfl | rfl | rfl | rfl | rfl | rfl | rfl | rfl | rfl | rfl | rfl | rfl | rfl | rfl | rfl
  · exact rdoes_leaf (by omega) (by omega) (by omega) (rdoes_sums 0 (by omega))
  · exact rdoes_leaf (by omega) (by omega) (by omega) (rdoes_sums 1 (by omega))
  · exact rdoes_leaf (by omega) (by omega) (by omega) (rdoes_sums 2 (by omega))
  · exact rdoes_leaf (by omega) (by omega) (by omega) (rdoes_sums 3 (by omega))
  · exact rdoes_leaf (by omega) (by omega) (by omega) (rdoes_cmp 4 (by omega))
  · exact rdoes_leaf (by omega) (by omega) (by omega) (rdoes_cmp 5 (by omega))
  · exact rdoes_leaf (by omega) (by omega) (by omega) rdoes_six
  · exact rdoes_leaf (by omega) (by omega) (by omega) rdoes_seven
  · exact rdoes_leaf (by omega) (by omega) (by omega) rdoes_eight
  · exact rdoes_leaf (by omega) (by omega) (by omega) (rdoes_kind 9 (by omega))
  · exact rdoes_leaf (by omega) (by omega) (by omega) (rdoes_kind 10 (by omega))
  · exact rdoes_leaf (by omega) (by omega) (by omega) (rdoes_kind 11 (by omega))
  · exact rdoes_leaf (by omega) (by omega) (by omega) (rdoes_kind 12 (by omega))
  · exact rdoes_leaf (by omega) (by omega) (by omega) (rdoes_kind 13 (by omega))
  · exact rdoes_leaf (by omega) (by omega) (by omega) (rdoes_kind 14 (by omega))
  · exact rdoes_leaf (by omega) (by omega) (by omega) (rdoes_kind 15 (by omega))
  · exact rdoes_leaf (by omega) (by omega) (by omega) (rdoes_kind 16 (by omega))
  · exact rdoes_part 18 (by omega)
  · exact rdoes_part 19 (by omega)
  · exact rdoes_at
  · exact rdoes_leaf (by omega) (by omega) (by omega) rdoes_len
  · exact rdoes_leaf (by omega) (by omega) (by omega) rdoes_length
  · exact rdoes_leaf (by omega) (by omega) (by omega) rdoes_void
end Go.Proofs.Ytdeelpagoffdjaa.Dat

/- The reference's Fold. -/
namespace Go.Proofs.Ytdeelpagoffdjaa.Dat
open Go.RowKit
open NumPlain
set_option linter.unusedVariables false

set_option maxHeartbeats 2000000 in
set_option maxRecDepth 100000 in
theorem rfold_none (n : Int) (l : List Dt) (p : Option Addr) (cap : Nat) (w : World) (hn : I64 n) (h : factOf n = none) :
    Calls Try.prog 19 #[.int .i64 n, .slice p l.length cap] w fun e w' => FoldR (zeroD, 0, false) e w' ∧ Below w.heap.size w w' := by
  have F := fun W => rFacts_any n hn W
  rw [h] at F
  unfold factV noF Fc.val at F
  have HF := Lib.hid F; clear F h hn
  go_enter Try.func19, Try.ntmps19
  go_wp2_with fail
  refine (HF.out _).mono ?_
  rintro _ w1 ⟨rfl, hb⟩
  have HB1 := Lib.hid (And.intro (one_box hb) (below_after hb)); clear hb
  go_upto_region 3 with fail
  obtain ⟨W, hW⟩ : ∃ W, w1.alloc (Obj.cells #[.string ⟨#[]⟩, .int .i64 0, .int .i64 0, .bool false, .bool false] 27) = W := ⟨_, rfl⟩
  have hbw : Below w1.heap.size w1 W := hW ▸ box_below w1 _
  rw [hW]
  have hbx := block_on hbw HB1.out.1
  have HB2 := Lib.hid (And.intro hbx (below_seq HB1.out.2 hbw))
  obtain ⟨c0, c1, c2, c3, c4⟩ := box_cells hbx
  have z0 := box_frozen hbx 0
  have z1 := box_frozen hbx 1
  have z2 := box_frozen hbx 2
  have z3 := box_frozen hbx 3
  have z4 := box_frozen hbx 4
  clear hbx hbw hW
  go_wp2_with fail
  refine bodyPost_ret (results_row2 rfl _ _ w.heap.size 37 _ (0, 0) _ _ _ rfl rfl rfl (set_five HB2.out.1) Try.underlying37 rfl Try.sizD) rfl ?_
  exact ⟨⟨0, 0, 0, ⟨#[]⟩, none, 0, 0, rfl, leaf_at _ 0 0 0 i64_lit0 i64_lit0 i64_lit0 none 0⟩, set_five_below HB2.out.2 (Nat.le_refl _)⟩
set_option maxHeartbeats 2000000 in
set_option maxRecDepth 100000 in
theorem rfold_not (n : Int) (l : List Dt) (p : Option Addr) (cap : Nat) (w : World) (hn : I64 n) (fn : ByteArray) (fl fm : Int) (fp : Bool) (h : factOf n = some ⟨fn, fl, fm, fp, false⟩) :
    Calls Try.prog 19 #[.int .i64 n, .slice p l.length cap] w fun e w' => FoldR (zeroD, 0, false) e w' ∧ Below w.heap.size w w' := by
  have F := fun W => rFacts_any n hn W
  rw [h] at F
  unfold factV Fc.val at F
  have HF := Lib.hid F; clear F h hn
  go_enter Try.func19, Try.ntmps19
  go_wp2_with fail
  refine (HF.out _).mono ?_
  rintro _ w1 ⟨rfl, hb⟩
  have HB1 := Lib.hid (And.intro (one_box hb) (below_after hb)); clear hb
  go_upto_region 3 with fail
  obtain ⟨W, hW⟩ : ∃ W, w1.alloc (Obj.cells #[.string fn, .int .i64 fl, .int .i64 fm, .bool fp, .bool false] 27) = W := ⟨_, rfl⟩
  have hbw : Below w1.heap.size w1 W := hW ▸ box_below w1 _
  rw [hW]
  have hbx := block_on hbw HB1.out.1
  have HB2 := Lib.hid (And.intro hbx (below_seq HB1.out.2 hbw))
  obtain ⟨c0, c1, c2, c3, c4⟩ := box_cells hbx
  have z0 := box_frozen hbx 0
  have z1 := box_frozen hbx 1
  have z2 := box_frozen hbx 2
  have z3 := box_frozen hbx 3
  have z4 := box_frozen hbx 4
  clear hbx hbw hW
  go_wp2_with fail
  refine bodyPost_ret (results_row2 rfl _ _ w.heap.size 37 _ (0, 0) _ _ _ rfl rfl rfl (set_five HB2.out.1) Try.underlying37 rfl Try.sizD) rfl ?_
  exact ⟨⟨0, 0, 0, ⟨#[]⟩, none, 0, 0, rfl, leaf_at _ 0 0 0 i64_lit0 i64_lit0 i64_lit0 none 0⟩, set_five_below HB2.out.2 (Nat.le_refl _)⟩
theorem foldB_off {n : Int} {l : List Dt} (h : Dt.rightAll rightB nameB l 0 = false) : foldB nameB n l = (zeroD, 0, false) := by
  unfold foldB; rw [if_neg (by rw [h]; simp)]
theorem foldB_on {n : Int} {l : List Dt} (hf : foldsB n = true) (h : Dt.rightAll rightB nameB l 0 = true) : foldB nameB n l = ((doesB n l).1, (doesB n l).2, true) := by
  unfold foldB; rw [if_pos ⟨hf, h⟩]
set_option maxHeartbeats 4000000 in
set_option maxRecDepth 100000 in
theorem rfold_does (n : Int) (l : List Dt) (p : Option Addr) (cap : Nat) (w : World) (hn : I64 n) (fn : ByteArray) (fl fm : Int) (fp : Bool) (h : factOf n = some ⟨fn, fl, fm, fp, true⟩) (hlm : l.length ≤ maxLen) (hsz : Dt.sizes l ≤ 90000) (hcap : l.length ≤ cap) (hl : Lies w l p) :
    Calls Try.prog 19 #[.int .i64 n, .slice p l.length cap] w fun e w' => FoldR (foldB nameB n l) e w' ∧ Below w.heap.size w w' := by
  have hfo : foldsB n = true := by unfold foldsB; rw [h]
  have HFO := Lib.hid hfo
  have F := fun W => rFacts_any n hn W
  rw [h] at F
  unfold factV Fc.val at F
  have HF := Lib.hid F
  have HT := Lib.hid (fun W => rTakes_any n l.length hn (by unfold maxLen at hlm; unfold I64; omega) W)
  obtain ⟨tb, htb⟩ : ∃ tb, takesB n l.length = tb := ⟨_, rfl⟩
  rw [htb] at HT
  have HTB := Lib.hid htb
  have HD := Lib.hid (fun W (hb : Below w.heap.size w W) (hr : Dt.rightAll rightB nameB l 0 = true) (htk : takesB n l.length = true) => rDoes_any n hfo (just w.heap.size) l p cap W hlm hsz hcap (by
    rcases hl with h | ⟨b, o, h1, h2⟩
    · exact Or.inl h
    · exact Or.inr ⟨b, o, h1, h2.on fun b o x h => below_off (w := w) (W := W) hb (Nat.le_refl _) b o x h⟩) hr htk)
  have HL := Lib.hid hl
  clear F h hn htb hfo hsz hcap hl
  unfold maxLen at hlm
  go_enter Try.func19, Try.ntmps19
  go_wp2_with fail
  refine (HF.out _).mono ?_
  rintro _ w1 ⟨rfl, hb⟩
  have HB1 := Lib.hid (And.intro (one_box hb) (below_after hb)); clear hb
  go_upto_region 2 with fail
  obtain ⟨W, hW⟩ : ∃ W, w1.alloc (Obj.cells #[.string fn, .int .i64 fl, .int .i64 fm, .bool fp, .bool true] 27) = W := ⟨_, rfl⟩
  have hbw : Below w1.heap.size w1 W := hW ▸ box_below w1 _
  have hfx := hW ▸ at_new w1 (Obj.cells #[.string fn, .int .i64 fl, .int .i64 fm, .bool fp, .bool true] 27)
  rw [hW]
  obtain ⟨g0, g1, g2, g3, g4⟩ := box_cells hfx
  have HB2 := Lib.hid (And.intro (block_on hbw HB1.out.1) (below_seq HB1.out.2 hbw))
  clear hbw hW hfx
  go_wp2_with fail
  clear g0 g1 g2 g3 g4
  go_loopw [9] (fun x wr => ∃ (i : Nat), i ≤ l.length ∧ x = .int .i64 i ∧ Dt.rightAll rightB nameB l 0 = Dt.rightAll rightB nameB (l.drop i) 0 ∧ wr.heap[w.heap.size]? = some (.cells #[.int .i64 0, .int .i64 0, .int .i64 0, .string ⟨#[]⟩, .slice none 0 0] 37 (0, 0)) ∧ Below w.heap.size w wr) (fun x _ => l.length - (intOf x).toNat)
  case atStart => exact ⟨0, by omega, rfl, by simp, HB2.out.1, HB2.out.2⟩
  case round =>
    obtain ⟨i, hi, rfl, hf, hbx, hb⟩ := hrel
    have HR := Lib.hid (And.intro hf (And.intro hbx hb)); clear hf hbx hb
    by_cases hlt : i < l.length
    · obtain ⟨t, ht⟩ : ∃ t, l[i]? = some t := ⟨l[i], by simp [hlt]⟩
      rcases HL.out with he | ⟨b, o, rfl, hall⟩
      · rw [he] at hlt; simp at hlt
      obtain ⟨v0, v1, v2, v3, v4, d0, d1, d2, d3, d4, hta⟩ := (hall.on (cell_on HR.out.2.2)).kid ht
      have C := rRight t _ wr hta
      obtain ⟨kt, nt, dt, st, lt, pt, capt, hte, rfl, rfl, rfl, rfl, rfl, _, _⟩ := hta.open5
      obtain ⟨rb, hrb⟩ : ∃ rb, t.right rightB nameB 0 = rb := ⟨_, rfl⟩
      rw [hrb] at C
      have HC := Lib.hid C
      have HTT := Lib.hid (And.intro ht hrb)
      clear C hta hall hte ht hrb
      cases rb
      · go_wp2_with fail
        refine (HC.out).mono ?_
        rintro _ w2 ⟨rfl, hb⟩
        have hbx := block_on hb HR.out.2.1
        have HQ := Lib.hid (And.intro hbx (below_seq HR.out.2.2 hb))
        obtain ⟨y0, y1, y2, y3, y4⟩ := box_cells hbx
        have z0 := box_frozen hbx 0
        have z1 := box_frozen hbx 1
        have z2 := box_frozen hbx 2
        have z3 := box_frozen hbx 3
        have z4 := box_frozen hbx 4
        clear hbx hb d0 d1 d2 d3 d4
        go_wp2_with fail
        refine bodyPost_ret (results_row2 rfl _ _ w.heap.size 37 _ (0, 0) _ _ _ rfl rfl rfl (set_five HQ.out.1) Try.underlying37 rfl Try.sizD) rfl ?_
        rw [foldB_off (by rw [HR.out.1, Dt.rightAll_step HTT.out.1, HTT.out.2]; rfl)]
        exact ⟨⟨0, 0, 0, ⟨#[]⟩, none, 0, 0, rfl, leaf_at _ 0 0 0 i64_lit0 i64_lit0 i64_lit0 none 0⟩, set_five_below HQ.out.2 (Nat.le_refl _)⟩
      · go_wp2_with fail
        refine (HC.out).mono ?_
        rintro _ w2 ⟨rfl, hb⟩
        have HQ := Lib.hid (And.intro (block_on hb HR.out.2.1) (below_seq HR.out.2.2 hb))
        clear hb d0 d1 d2 d3 d4
        go_wp2_with fail
        go_roundw
        case rel => exact ⟨i + 1, by omega, by go_num, by rw [HR.out.1, Dt.rightAll_step HTT.out.1, HTT.out.2, Bool.true_and], HQ.out.1, HQ.out.2⟩
        case measure => simp [intOf]; omega
    · have hr : Dt.rightAll rightB nameB l 0 = true := by rw [HR.out.1, Dt.rightAll_stop (by omega)]
      have HRR := Lib.hid hr; clear hr
      cases tb
      · go_wp2_with fail
        refine (HT.out _).mono ?_
        rintro _ w2 ⟨rfl, hb⟩
        have hbx := block_on hb HR.out.2.1
        have HQ := Lib.hid (And.intro hbx (below_seq HR.out.2.2 hb))
        obtain ⟨y0, y1, y2, y3, y4⟩ := box_cells hbx
        have z0 := box_frozen hbx 0
        have z1 := box_frozen hbx 1
        have z2 := box_frozen hbx 2
        have z3 := box_frozen hbx 3
        have z4 := box_frozen hbx 4
        clear hbx hb
        go_wp2_with fail
        refine bodyPost_ret (results_row2 rfl _ _ w.heap.size 37 _ (0, 0) _ _ _ rfl rfl rfl (set_five HQ.out.1) Try.underlying37 rfl Try.sizD) rfl ?_
        rw [foldB_on HFO.out HRR.out, does_count HTB.out]
        exact ⟨⟨0, 0, 0, ⟨#[]⟩, none, 0, 0, rfl, leaf_at _ 0 0 0 i64_lit0 i64_lit0 i64_lit0 none 0⟩, set_five_below HQ.out.2 (Nat.le_refl _)⟩
      · go_wp2_with fail
        refine (HT.out _).mono ?_
        rintro _ w2 ⟨rfl, hb⟩
        have HQ := Lib.hid (And.intro (block_on hb HR.out.2.1) (below_seq HR.out.2.2 hb)); clear hb
        have HD2 := Lib.hid (HD.out w2 HQ.out.2 HRR.out HTB.out)
        obtain ⟨⟨rd, re⟩, hre⟩ : ∃ r, doesB n l = r := ⟨_, rfl⟩
        rw [hre] at HD2
        have HRE := Lib.hid hre; clear hre
        go_wp2_with fail
        refine HD2.out.mono ?_
        rintro _ w3 ⟨⟨ka, na, da, sa, pa, lena, capa, rfl, hat⟩, hb⟩
        have HP := Lib.hid (And.intro (block_on hb HQ.out.1) (And.intro (below_seq HQ.out.2 hb) hat))
        clear hb hat
        go_upto_region 12 with fail
        obtain ⟨W3, hW3⟩ : ∃ W, w3.alloc (Obj.cells #[.int .i64 ka, .int .i64 na, .int .i64 da, .string sa, .slice pa lena capa] 37) = W := ⟨_, rfl⟩
        have hbx3 := hW3 ▸ at_new w3 (Obj.cells #[.int .i64 ka, .int .i64 na, .int .i64 da, .string sa, .slice pa lena capa] 37)
        have hbw3 : Below w3.heap.size w3 W3 := hW3 ▸ box_below w3 _
        rw [hW3]
        have hbx := block_on hbw3 HP.out.1
        have HZ := Lib.hid (And.intro hbx (And.intro (below_seq HP.out.2.1 hbw3) (HP.out.2.2.on fun b o x h => off_cell.2 ⟨(off_cell.1 h).1, cell_on hbw3 _ _ _ (off_cell.1 h).2⟩)))
        obtain ⟨x0, x1, x2, x3, x4⟩ := box_cells hbx3
        obtain ⟨y0, y1, y2, y3, y4⟩ := box_cells hbx
        have z0 := box_frozen hbx 0
        have z1 := box_frozen hbx 1
        have z2 := box_frozen hbx 2
        have z3 := box_frozen hbx 3
        have z4 := box_frozen hbx 4
        clear hbx hbx3 hbw3 hW3
        go_wp2_with fail
        refine bodyPost_ret (results_row2 rfl _ _ w.heap.size 37 _ (0, 0) _ _ _ rfl rfl rfl (set_five HZ.out.1) Try.underlying37 rfl Try.sizD) rfl ?_
        rw [foldB_on HFO.out HRR.out, HRE.out]
        exact ⟨⟨_, _, _, _, _, _, _, rfl, at_five HZ.out.2.2⟩, set_five_below HZ.out.2.1 (Nat.le_refl _)⟩
theorem rFold_any (n : Int) (l : List Dt) (p : Option Addr) (cap : Nat) (w : World) (hn : I64 n) (hlm : l.length ≤ maxLen) (hsz : Dt.sizes l ≤ 90000) (hcap : l.length ≤ cap) (hl : Lies w l p) :
    Calls Try.prog 19 #[.int .i64 n, .slice p l.length cap] w fun e w' => FoldR (foldB nameB n l) e w' ∧ Below w.heap.size w w' := by
  cases h : factOf n with
  | none =>
    have : foldsB n = false := by unfold foldsB; rw [h]
    have e : foldB nameB n l = (zeroD, 0, false) := by unfold foldB; rw [if_neg (by rw [this]; simp)]
    rw [e]
    exact rfold_none n l p cap w hn h
  | some f =>
    obtain ⟨fn, fl, fm, fp, ff⟩ := f
    cases ff
    · have : foldsB n = false := by unfold foldsB; rw [h]
      have e : foldB nameB n l = (zeroD, 0, false) := by unfold foldB; rw [if_neg (by rw [this]; simp)]
      rw [e]
      exact rfold_not n l p cap w hn fn fl fm fp h
    · exact rfold_does n l p cap w hn fn fl fm fp h hlm hsz hcap hl
end Go.Proofs.Ytdeelpagoffdjaa.Dat

/- The law PrimsFolds. -/
namespace Go.Proofs.Ytdeelpagoffdjaa.Dat
open Go.RowKit
open NumPlain
set_option linter.unusedVariables false

mutual
theorem Dt.alike_same : ∀ t : Dt, t.alike t = true
  | .node k n d s l => by unfold Dt.alike; simp [alikeAll_self l]
theorem alikeAll_self : ∀ l : List Dt, Dt.alikeAll l l = true
  | [] => rfl
  | t :: r => by unfold Dt.alikeAll; rw [Dt.alike_same t, alikeAll_self r]; rfl
end
set_option maxHeartbeats 8000000 in
set_option maxRecDepth 100000 in
theorem primsFolds_any (n : Int) (l : List Dt) (p : Option Addr) (cap : Nat) (w : World) (hn : I64 n) (hlm : l.length ≤ maxLen) (hcap : l.length ≤ cap) (hl : Lies w l p) :
    Calls Try.prog 4 #[.int .i64 n, .slice p l.length cap] w fun e w' => e = .returned (.bool true) ∧ Below w.heap.size w w' := by
  have HL := Lib.hid (And.intro hn (And.intro hlm (And.intro hcap hl)))
  have HFW := Lib.hid (fun W (hb : Below w.heap.size w W) => few5_any l p cap 500 W hlm (by omega) (by omega) (hl.below hb))
  obtain ⟨fe, hfe⟩ : ∃ r, decide ((Dt.sizes l : Int) ≤ 500) = r := ⟨_, rfl⟩
  rw [hfe] at HFW
  have HFE := Lib.hid hfe
  unfold I64 at hn
  unfold maxLen at hlm
  clear hl hfe hcap
  go_enter Try.func4, Try.ntmps4
  go_wp2_with fail
  refine (awake5_any _).mono ?_
  rintro _ w1 ⟨rfl, hb1⟩
  have HB1 := Lib.hid hb1; clear hb1
  go_wp2_with fail
  refine (HFW.out w1 HB1.out).mono ?_
  rintro _ w2 ⟨rfl, hb2⟩
  have HB2 := Lib.hid (below_seq HB1.out hb2); clear hb2
  cases fe
  · go_wp2_with fail
    go_ret
    exact ⟨rfl, HB2.out⟩
  have hsz : Dt.sizes l ≤ 90000 := by have := of_decide_eq_true HFE.out; omega
  have HFO := Lib.hid (Fold_any n l p cap w2 HL.out.1 HL.out.2.1 hsz HL.out.2.2.1 (HL.out.2.2.2.below HB2.out))
  have HRO := Lib.hid (fun W (hb : Below w.heap.size w W) => rFold_any n l p cap W HL.out.1 HL.out.2.1 hsz HL.out.2.2.1 (HL.out.2.2.2.below hb))
  obtain ⟨⟨ad, ae, ao⟩, hr⟩ : ∃ r, foldB nameB n l = r := ⟨_, rfl⟩
  rw [hr] at HFO HRO
  clear hr hsz
  go_wp2_with fail
  refine HFO.out.mono ?_
  rintro _ w3 ⟨⟨ka, na, da, sa, pa, lena, capa, rfl, ht⟩, hb3⟩
  have HB3 := Lib.hid (And.intro ht (below_seq HB2.out hb3)); clear ht hb3
  go_upto_region 5 with fail
  obtain ⟨W3, hW3⟩ : ∃ W, w3.alloc (Obj.cells #[.int .i64 ka, .int .i64 na, .int .i64 da, .string sa, .slice pa lena capa] 37) = W := ⟨_, rfl⟩
  have hbx3 := hW3 ▸ at_new w3 (Obj.cells #[.int .i64 ka, .int .i64 na, .int .i64 da, .string sa, .slice pa lena capa] 37)
  have hbw3 : Below w3.heap.size w3 W3 := hW3 ▸ box_below w3 _
  rw [hW3]
  have HW3 := Lib.hid (And.intro hbx3 (And.intro (HB3.out.1.below hbw3) (below_seq HB3.out.2 hbw3)))
  clear hbx3 hbw3 hW3
  go_wp2_with fail
  refine (HRO.out W3 HW3.out.2.2).mono ?_
  rintro _ w4 ⟨⟨kb, nb, db, sb, pb, lenb, capb, rfl, ht⟩, hb4⟩
  have HB4 := Lib.hid (And.intro (block_on hb4 HW3.out.1) (And.intro (HW3.out.2.1.below hb4) (And.intro ht (below_seq HW3.out.2.2 hb4)))); clear ht hb4
  go_upto_region 6 with fail
  obtain ⟨W4, hW4⟩ : ∃ W, w4.alloc (Obj.cells #[.int .i64 kb, .int .i64 nb, .int .i64 db, .string sb, .slice pb lenb capb] 37) = W := ⟨_, rfl⟩
  have hbx4 := hW4 ▸ at_new w4 (Obj.cells #[.int .i64 kb, .int .i64 nb, .int .i64 db, .string sb, .slice pb lenb capb] 37)
  have hbw4 : Below w4.heap.size w4 W4 := hW4 ▸ box_below w4 _
  rw [hW4]
  have hba := block_on hbw4 HB4.out.1
  have C := alike_any ad.size ad ad _ _ W4 (Nat.le_refl _) (HB4.out.2.1.below hbw4) (HB4.out.2.2.1.below hbw4)
  rw [Dt.alike_same] at C
  have HC := Lib.hid C
  have HW4 := Lib.hid (below_seq HB4.out.2.2.2 hbw4)
  obtain ⟨c0, c1, c2, c3, c4⟩ := box_cells hba
  obtain ⟨g0, g1, g2, g3, g4⟩ := box_cells hbx4
  clear C hbx4 hbw4 hW4 hba
  go_wp2_with fail
  refine HC.out.mono ?_
  rintro _ w5 ⟨rfl, hb5⟩
  have HB5 := Lib.hid (below_seq HW4.out hb5); clear hb5
  go_wp2_with fail
  go_ret
  exact ⟨rfl, HB5.out⟩
end Go.Proofs.Ytdeelpagoffdjaa.Dat


namespace Go.Proofs.Ytdeelpagoffdjaa.primsFolds
open Go.ChangeShapes Go.WideShapes Go.ChangeAt Go.RowKit
open Go.ChangeMaps (open_string shut_string)
open Go.Proofs.Ytdeelpagoffdjaa.Dat
set_option linter.unusedVariables false

theorem own : ownKnob Try.prog.godebug = none := by kernel_rfl

set_option maxRecDepth 100000 in
theorem lifted (os : Os) (started : os.Started) (H : Type) (enc : TypeId × Value → H) :
    ReturnsInHanded {} Try.checked os 4 .any (Rows.primsFoldsSpec.pre6 enc Try.prog Try.f4 Rows.primsFoldsRow.domain false) (Rows.primsFoldsSpec.post enc Try.prog Try.f4 false true false false) := by
  refine returnsInHanded_of_change (C := Try.checked) own started (by kernel_rfl) Try.func4
    (ChangeSpec.witness6 (enc := enc) (C := Try.checked) false ⟨#[], #[.int .i64 0, .slice none 0 0], []⟩ 8 (by kernel_rfl) (by kernel_rfl) (by kernel_rfl) (by kernel_rfl)) ?_
  intro W base args ds gs before hval0 hW hcnd _
  have hval : ∀ (j : Nat) t v, Try.f4.params[j]? = some t → args[j]? = some v → Value.okWide Try.prog W .any base t v := hval0
  have hW' := hW
  obtain ⟨p, q, hA0, hV, rfl, hfz, hnd⟩ := hW
  have hA : DataW.TrodAll enc Try.prog W 0 (fun _ => true) true Try.f4.params.toList args.toList ds p := hA0
  rw [Try.params4] at hA hval
  obtain ⟨v0, vs0, d0, ds0, p0, q0, hargs, rfl, rfl, h0, r0⟩ := trodAll_cons hA
  obtain ⟨v1, vs1, d1, ds1, p1, q1, rfl, rfl, rfl, h1, r1⟩ := trodAll_cons r0
  obtain ⟨rfl, rfl, rfl⟩ := trodAll_nil r1
  obtain rfl : args = #[v0, v1] := by cases args; simp_all
  obtain ⟨rfl, rfl⟩ := trodVars_none hV
  obtain ⟨a0, rfl, rfl, rfl, w0⟩ := open_int Try.underlying3 (hval 0 3 v0 rfl rfl) h0
  have k1 := h1
  obtain ⟨l1, a1, cap1, rfl, hlm1, hcap1, hl1⟩ := open_rowP (hval 1 34 v1 rfl rfl) h1
  clear hA0 hval0
  simp only [List.append_nil, List.nil_append] at hW'
  have hlt1 : ∀ x ∈ p1, x.block < W.heap.size := fun x hx => by simpa using hW'.lt x (by simpa using hx)
  refine (primsFolds_any a0 l1 a1 cap1 W (Dat.wf64 w0) hlm1 hcap1 hl1).mono fun e W' ⟨he, hnx⟩ => ?_
  subst he
  refine ⟨_, rfl, _, _, _, [], ([] ++ (p1 ++ [])), [], hW', ?_, ?_, rfl, hnx.frame _, fun h => by cases h⟩
  · exact trodAll_cons_mk (shut_bool Try.underlying4 _) trodAll_mk0
  · exact (trodAll_cons_mk (shut_int Try.underlying3 w0) (trodAll_cons_mk (data_stay k1 hnx hlt1) trodAll_mk0))

theorem over : Rows.primsFoldsRow.holds Try.pinned (OpenSpec.ofChange Rows.primsFoldsSpec) :=
  OpenClaim.holds_of_wide 4 Try.f4 rfl rfl rfl rfl rfl rfl rfl ⟨rfl, rfl, rfl, rfl, rfl⟩ rfl rfl rfl rfl rfl (by kernel_rfl) Try.func4 (by kernel_rfl)
    (of_decide_eq_true (by kernel_rfl)) (by unfold Func.isWrapper; first | (rw [if_pos (by decide +kernel)]; kernel_rfl) | (rw [if_neg (by decide +kernel)]; exact ⟨rfl, rfl⟩))
    (fun os started H enc _ => lifted os started H enc)

theorem proved : Rows.PrimsFoldsSaid :=
  over
#print axioms proved
end Go.Proofs.Ytdeelpagoffdjaa.primsFolds
