/- The law PrimsSums. -/
import Derived.Test.YtdeelpagoffdjaaPwSM
import Derived.Test.YtdeelpagoffdjaaPwBM
import Derived.Test.YtdeelpagoffdjaaPwCM
import Derived.Test.YtdeelpagoffdjaaPrMs
import Derived.Deep.RegionHeld3

namespace Go.Proofs.Ytdeelpagoffdjaa.Dat
open Go.RowKit
open Go.Proofs.Ytdeelpagoffdjaa (three addF mulF make_any)
open NumPlain
set_option linter.unusedVariables false

theorem thr_snoc (f : Int → Int → Int → Int → Int × Int × Int) (t : Dt) : ∀ (l : List Dt) (a b : Int), thr f a b (l ++ [t]) = if (thr f a b l).2.2 = 0 then (if (f (thr f a b l).1 (thr f a b l).2.1 t.nm t.dn).2.2 = 0 then ((f (thr f a b l).1 (thr f a b l).2.1 t.nm t.dn).1, (f (thr f a b l).1 (thr f a b l).2.1 t.nm t.dn).2.1, 0) else (0, 0, (f (thr f a b l).1 (thr f a b l).2.1 t.nm t.dn).2.2)) else thr f a b l
  | [], a, b => by
    show thr f a b [t] = _
    by_cases h : (f a b t.nm t.dn).2.2 = 0 <;> simp [thr, h]
  | u :: r, a, b => by
    show thr f a b (u :: (r ++ [t])) = _
    unfold thr
    by_cases h : (f a b u.nm u.dn).2.2 = 0
    · simp only [if_pos h]
      exact thr_snoc f t r _ _
    · simp only [if_neg h]
/-- Where a sum stands: its end, and while there is none its value. -/
def Ends (f : Int → Int → Int → Int → Int × Int × Int) (u : Int) (acc : List Dt) (a b e : Int) : Prop := (thr f u 1 acc).2.2 = e ∧ (e = 0 → (thr f u 1 acc).1 = a ∧ (thr f u 1 acc).2.1 = b ∧ rightB a b = true)
theorem ends_keep {f : Int → Int → Int → Int → Int × Int × Int} {u : Int} {acc : List Dt} {a b e : Int} (h : Ends f u acc a b e) (he : e ≠ 0) (t : Dt) : Ends f u (acc ++ [t]) a b e := by
  have hs := thr_snoc f t acc u 1
  rw [if_neg (by rw [h.1]; exact he)] at hs
  refine ⟨by rw [hs]; exact h.1, fun h0 => absurd h0 he⟩
theorem ends_step {f : Int → Int → Int → Int → Int × Int × Int} (hf : ∀ n d m e, okEnd (f n d m e)) {u : Int} {acc : List Dt} {a b n m x y z : Int} (h : Ends f u acc a b 0) (hx : f a b n m = (x, y, z)) : Ends f u (acc ++ [numD n m]) x y z := by
  have hs := thr_snoc f (numD n m) acc u 1
  obtain ⟨h2, h3, -⟩ := h.2 rfl
  rw [if_pos h.1, h2, h3, show f a b (numD n m).nm (numD n m).dn = (x, y, z) from hx] at hs
  have hk := hf a b n m
  rw [hx] at hk
  by_cases hz : z = 0
  · rw [if_pos hz] at hs
    refine ⟨by rw [hs]; exact hz.symm, fun _ => ⟨by rw [hs], by rw [hs], ?_⟩⟩
    rcases hk with h | h | h
    · exact h.2
    · have : z = 3 := h; omega
    · have : z = 4 := h; omega
  · rw [if_neg hz] at hs
    exact ⟨by rw [hs], fun h0 => absurd h0 hz⟩
def allNum (l : List Dt) : Prop := ∀ t ∈ l, ∃ n d, t = numD n d ∧ rightB n d = true
theorem allNum_snoc {l : List Dt} {n d : Int} (h : allNum l) (hr : rightB n d = true) : allNum (l ++ [numD n d]) := by
  intro t ht
  rcases List.mem_append.1 ht with h1 | h1
  · exact h t h1
  · exact ⟨n, d, by simpa using h1, hr⟩
theorem allNum_right : ∀ {l : List Dt}, allNum l → Dt.rightAll rightB nameB l 0 = true
  | [], _ => by unfold Dt.rightAll; rfl
  | t :: r, h => by
    obtain ⟨n, d, rfl, hr⟩ := h t (by simp)
    unfold Dt.rightAll
    rw [show (numD n d).right rightB nameB 0 = true from num_right hr, allNum_right (fun u hu => h u (by simp [hu]))]; rfl
theorem allNum_fit {l : List Dt} (h : allNum l) {k : Int} (hk : k ≤ 5) : fitB k l = true := by
  unfold fitB
  rw [if_pos hk, List.all_eq_true]
  intro t ht
  obtain ⟨n, d, rfl, _⟩ := h t ht
  rfl
theorem allNum_sizes : ∀ {l : List Dt}, allNum l → Dt.sizes l = l.length
  | [], _ => rfl
  | t :: r, h => by
    obtain ⟨n, d, rfl, _⟩ := h t (by simp)
    have := allNum_sizes (l := r) (fun u hu => h u (by simp [hu]))
    simp only [Dt.sizes, Dt.size, numD, List.length_cons] at this ⊢
    omega
theorem takes_many : ∀ m : Nat, m < 31 → takesB 0 (m : Int) = true ∧ takesB 2 (m : Int) = true := by decide +kernel
theorem fold_any0 {l : List Dt} (hn : allNum l) (hl : l.length ≤ 30) {a b e : Int} (h : Ends addF 0 l a b e) : foldB nameB 0 l = (numD (if e = 0 then a else 0) (if e = 0 then b else 0), e, true) := by
  have h1 : foldsB 0 = true := by decide +kernel
  unfold foldB
  rw [if_pos ⟨h1, allNum_right hn⟩, does_made (takes_many l.length (by omega)).1 (allNum_fit hn (by omega)), made_sum (by omega)]
  have hs : sumB 0 l = thr addF 0 1 l := rfl
  rw [hs]
  unfold numR
  rw [h.1]
  by_cases he : e = 0
  · rw [if_pos he, if_pos he, if_pos he, (h.2 he).1, (h.2 he).2.1, he]
  · rw [if_neg he, if_neg he, if_neg he]; rfl
theorem fold_any2 {l : List Dt} (hn : allNum l) (hl : l.length ≤ 30) {a b e : Int} (h : Ends mulF 1 l a b e) : foldB nameB 2 l = (numD (if e = 0 then a else 0) (if e = 0 then b else 0), e, true) := by
  have h1 : foldsB 2 = true := by decide +kernel
  unfold foldB
  rw [if_pos ⟨h1, allNum_right hn⟩, does_made (takes_many l.length (by omega)).2 (allNum_fit hn (by omega)), made_sum (by omega)]
  have hs : sumB 2 l = thr mulF 1 1 l := rfl
  rw [hs]
  unfold numR
  rw [h.1]
  by_cases he : e = 0
  · rw [if_pos he, if_pos he, if_pos he, (h.2 he).1, (h.2 he).2.1, he]
  · rw [if_neg he, if_neg he, if_neg he]; rfl
theorem own_slice3 {w w' : World} (hb : Below w.heap.size w w') {B : Nat} {v : Value} {l : List Dt} {xs : List Value} (ho : w'.ownsRow B 37 5 v l.length xs) (hr : Dt.Row w l xs) : ∃ p cap, v = .slice p l.length cap ∧ l.length ≤ cap ∧ Lies w' l p := by
  obtain ⟨p, cap, rfl, hl⟩ := own_slice hb ho hr
  refine ⟨p, cap, rfl, ?_, hl⟩
  obtain ⟨-, hv | ⟨g, cap', cur, hv, -, -, hn, -⟩⟩ := ho
  · simp only [Value.slice.injEq] at hv
    omega
  · simp only [Value.slice.injEq] at hv
    obtain ⟨-, -, rfl⟩ := hv
    exact hn
theorem num_at (w : World) {n d : Int} (hn : I64 n) (hd : I64 d) : (numD n d).At w (.agg #[.int .i64 0, .int .i64 n, .int .i64 d, .string ⟨#[]⟩, .slice none 0 0]) := leaf_at w 0 n d i64_lit0 hn hd none 0
theorem addEnd (n d m e : Int) : okEnd (addF n d m e) := step_okEnd 0 n d m e
theorem mulEnd (n d m e : Int) : okEnd (mulF n d m e) := step_okEnd 2 n d m e
theorem makeIs (n d : Int) (hn : I64 n) (hd : I64 d) (w : World) : Calls Try.prog 24 #[.int .i64 n, .int .i64 d] w fun e w' => e = .returned (three (mk n d)) ∧ Below w.heap.size w w' :=
  (make_any n d _ rfl w hn.1 hn.2 hd.1 hd.2).mono fun x w' ⟨h, k, hk⟩ => ⟨h, hk ▸ drew_below w k⟩

set_option maxHeartbeats 16000000 in
set_option maxRecDepth 100000 in
theorem primsSums_any (l : List (Int × Int)) (p : Option Addr) (cap : Nat) (w : World) (hlm : l.length ≤ maxLen) (hl : l = [] ∨ ∃ b o, p = some ⟨b, o, none⟩ ∧ PairsAt w l b o) :
    Calls Try.prog 8 #[.slice p l.length cap] w fun e w' => e = .returned (.bool true) ∧ Below w.heap.size w w' := by
  have HL := Lib.hid hl; clear hl
  obtain ⟨i0', hi, hz⟩ := Option.map_eq_some_iff.1 Try.infoDt
  simp only [Prod.mk.injEq] at hz
  obtain ⟨hz0, hz1, hz2⟩ := hz
  have HI0 := Lib.hid (And.intro hi (And.intro hz0 (And.intro hz1 hz2)))
  clear hi hz0 hz1 hz2
  unfold maxLen at hlm
  go_enter Try.func8, Try.ntmps8
  go_wp2_with fail
  refine (awake5_any _).mono ?_
  rintro _ w1 ⟨rfl, hb1⟩
  have HB1 := Lib.hid hb1; clear hb1
  by_cases h30 : 30 < l.length
  · go_wp2_with fail
    go_ret
    exact ⟨rfl, HB1.out⟩
  go_wp2_with fail
  go_loopw [4, 5, 6, 7, 8, 9, 10, 11] (fun v av bv ev pv qv fv x wr => ∃ (V : Value) (acc : List Dt) (xs : List Value) (a b e p q f : Int), acc.length ≤ l.length ∧ V = v ∧ x = .int .i64 (acc.length : Int) ∧ av = .int .i64 a ∧ bv = .int .i64 b ∧ ev = .int .i64 e ∧ pv = .int .i64 p ∧ qv = .int .i64 q ∧ fv = .int .i64 f ∧ wr.ownsRow w.heap.size 37 5 V acc.length xs ∧ Dt.Row w acc xs ∧ Ends addF 0 acc a b e ∧ Ends mulF 1 acc p q f ∧ allNum acc ∧ Below w.heap.size w wr) (fun _ _ _ _ _ _ _ x _ => l.length - (intOf x).toNat)
  case atStart =>
    refine ⟨_, [], [], 0, 1, 0, 1, 1, 0, by simp, rfl, rfl, rfl, rfl, rfl, rfl, rfl, rfl, ⟨rfl, Or.inl ⟨rfl, rfl⟩⟩, ?_, ⟨rfl, fun _ => ⟨rfl, rfl, by decide +kernel⟩⟩, ⟨rfl, fun _ => ⟨rfl, rfl, by decide +kernel⟩⟩, fun t ht => by simp at ht, HB1.out⟩
    unfold Dt.Row; rfl
  case round =>
    obtain ⟨V, acc, xs, a, b, e, p', q, f, hi, rfl, rfl, rfl, rfl, rfl, rfl, rfl, rfl, hown, hrow, he1, he2, hnum, hb⟩ := hrel
    have HR := Lib.hid (And.intro hown (And.intro hrow (And.intro he1 (And.intro he2 (And.intro hnum hb)))))
    obtain ⟨i, hii⟩ : ∃ i, acc.length = i := ⟨_, rfl⟩
    have HII := Lib.hid hii
    rw [hii] at hi ⊢
    clear hown hrow he1 he2 hnum hb hii
    by_cases hlt : i < l.length
    · obtain ⟨⟨x, y⟩, ht⟩ : ∃ t, l[i]? = some t := ⟨l[i], by simp [hlt]⟩
      rcases HL.out with hnil | ⟨bb, o, rfl, hall⟩
      · rw [hnil] at hlt; simp at hlt
      obtain ⟨hx, hy, c0, c1⟩ := hall i x y ht
      replace c0 := cell_on HR.out.2.2.2.2.2 _ _ _ c0
      replace c1 := cell_on HR.out.2.2.2.2.2 _ _ _ c1
      have hok := mk_okEnd x y
      have HC := Lib.hid (fun W => makeIs x y hx hy W)
      obtain ⟨⟨m1, m2, m3⟩, hm⟩ : ∃ m, mk x y = m := ⟨_, rfl⟩
      rw [hm] at HC hok
      unfold three at HC
      have HOK := Lib.hid hok
      clear hm hok hx hy hall ht
      have c0' : wr.drew.cell? ⟨bb, o + i * 2, none⟩ = some (.int .i64 x) := c0
      have c1' : wr.drew.cell? ⟨bb, o + i * 2 + 1, none⟩ = some (.int .i64 y) := c1
      go_wp2_with fail
      go_region_held3 (fun w' => w'.cell? ⟨bb, o + i * 2, none⟩ = some (.int .i64 x) ∧ w'.cell? ⟨bb, o + i * 2 + 1, none⟩ = some (.int .i64 y))
        (with_reducible (first | (refine ⟨?_, ?_⟩ <;> assumption)))
        (first
          | (go_at_call 24
             with_reducible refine Calls.mono (HC.out _) ?_
             rintro _ w2 ⟨rfl, hb⟩
             have hb' := below_drew hb
             replace c0 := cell_on hb' _ _ _ c0
             replace c1 := cell_on hb' _ _ _ c1
             have HB2 := Lib.hid hb'
             clear hb hb'))
      have hsz2 := HB2.out.size
      have HW2 := Lib.hid (below_seq HR.out.2.2.2.2.2 HB2.out)
      have hszw := HW2.out.size
      by_cases hm3 : m3 = 0
      · subst hm3
        have hrt : rightB m1 m2 = true := by
          rcases HOK.out with h | h | h
          · exact h.2
          · cases h
          · cases h
        have hI := i64_right hrt
        have HRT := Lib.hid (And.intro hrt hI)
        have hown2 : w2.ownsRow w.heap.size 37 5 V i xs := by
          rw [← HII.out]; exact row_below HR.out.1 HB2.out
        have HO2 := Lib.hid hown2
        clear hrt hI hown2 c0 c1 c0' c1'
        go_upto_region 14 with (first
          | (at_builtin; refine wpList_append_own _ rfl (.tmp 50) (.tmp 54) 34 rfl w.heap.size 37 i0' (.agg #[.int .i64 0, .int .i64 0, .int .i64 0, .string ⟨#[]⟩, .slice none 0 0]) 5 64 Try.underlying34 HI0.out.1 HI0.out.2.1 HI0.out.2.2.1 HI0.out.2.2.2 rfl (by decide) _ _ _ rfl (HO2.out.alloc _) ⟨w2.heap.size, 0, none⟩ 1 1 [.int .i64 0, .int .i64 m1, .int .i64 m2, .string ⟨#[]⟩, .slice none 0 0] rfl rfl (five_new _ _ _ _ _ _ _) (by intro u hu; simp at hu; rcases hu with rfl | rfl | rfl | rfl | rfl <;> rfl) (by unfold maxLen; omega) (by omega) (by simp; omega) ?_
             intro v3 w3 hown3 hgrow3 hnil3
             have hown0 := HO2.out
             have hb3 := (HW2.out.alloc hszw (.cells #[.int .i64 0, .int .i64 m1, .int .i64 m2, .string ⟨#[]⟩, .slice none 0 0] 37)).grown hgrow3 (by simp; omega) (fun k hk => (World.ownsRow.lt hown0 k hk).1)
             have HB3 := Lib.hid hb3
             have HO3 := Lib.hid hown3
             clear hown0 hb3 hown3 hgrow3 hnil3))
        by_cases he0 : e = 0
        · subst he0
          have hab := i64_right (HR.out.2.2.1.2 rfl).2.2
          obtain ⟨⟨s1, s2, s3⟩, hs⟩ : ∃ s, addF a b m1 m2 = s := ⟨_, rfl⟩
          have HE1 := Lib.hid (ends_step addEnd HR.out.2.2.1 hs)
          have HA := Lib.hid (fun W => stepAdd a b m1 m2 W hab.1 hab.2 HRT.out.2.1 HRT.out.2.2)
          rw [hs] at HA
          unfold three at HA
          clear hs hab
          go_wp2_with fail
          refine (HA.out _).mono ?_
          rintro _ w4 ⟨rfl, hb4⟩
          have HB4 := Lib.hid (below_seq HB3.out hb4)
          have HO4 := Lib.hid (row_below HO3.out hb4)
          clear hb4
          by_cases hf0 : f = 0
          · subst hf0
            have hpq := i64_right (HR.out.2.2.2.1.2 rfl).2.2
            obtain ⟨⟨t1, t2, t3⟩, hs⟩ : ∃ s, mulF p' q m1 m2 = s := ⟨_, rfl⟩
            have HE2 := Lib.hid (ends_step mulEnd HR.out.2.2.2.1 hs)
            have HM := Lib.hid (fun W => stepMul p' q m1 m2 W hpq.1 hpq.2 HRT.out.2.1 HRT.out.2.2)
            rw [hs] at HM
            unfold three at HM
            clear hs hpq
            go_wp2_with fail
            refine (HM.out _).mono ?_
            rintro _ w5 ⟨rfl, hb5⟩
            have HB5 := Lib.hid (below_seq HB4.out hb5)
            have HO5 := Lib.hid (row_below HO4.out hb5)
            clear hb5
            go_wp2_with fail
            go_roundw
            case rel =>
              refine ⟨v3, acc ++ [numD m1 m2], xs ++ [.int .i64 0, .int .i64 m1, .int .i64 m2, .string ⟨#[]⟩, .slice none 0 0], s1, s2, s3, t1, t2, t3, by rw [List.length_append, HII.out]; simp; omega, rfl, by rw [List.length_append, HII.out]; simp, rfl, rfl, rfl, rfl, rfl, rfl, ?_, HR.out.2.1.snoc (num_at w HRT.out.2.1 HRT.out.2.2), HE1.out, HE2.out, allNum_snoc HR.out.2.2.2.2.1 HRT.out.1, HB5.out⟩
              rw [show (acc ++ [numD m1 m2]).length = i + 1 by rw [List.length_append, HII.out]; rfl]
              exact HO5.out
            case measure => simp [intOf]; omega
          · have hfq : (f == 0) = false := by rw [beq_eq_false_iff_ne]; exact hf0
            go_wp2_with fail
            go_roundw
            case rel =>
              refine ⟨v3, acc ++ [numD m1 m2], xs ++ [.int .i64 0, .int .i64 m1, .int .i64 m2, .string ⟨#[]⟩, .slice none 0 0], s1, s2, s3, p', q, f, by rw [List.length_append, HII.out]; simp; omega, rfl, by rw [List.length_append, HII.out]; simp, rfl, rfl, rfl, rfl, rfl, rfl, ?_, HR.out.2.1.snoc (num_at w HRT.out.2.1 HRT.out.2.2), HE1.out, ends_keep HR.out.2.2.2.1 hf0 _, allNum_snoc HR.out.2.2.2.2.1 HRT.out.1, HB4.out⟩
              rw [show (acc ++ [numD m1 m2]).length = i + 1 by rw [List.length_append, HII.out]; rfl]
              exact HO4.out
            case measure => simp [intOf]; omega
        · have heq : (e == 0) = false := by rw [beq_eq_false_iff_ne]; exact he0
          by_cases hf0 : f = 0
          · subst hf0
            have hpq := i64_right (HR.out.2.2.2.1.2 rfl).2.2
            obtain ⟨⟨t1, t2, t3⟩, hs⟩ : ∃ s, mulF p' q m1 m2 = s := ⟨_, rfl⟩
            have HE2 := Lib.hid (ends_step mulEnd HR.out.2.2.2.1 hs)
            have HM := Lib.hid (fun W => stepMul p' q m1 m2 W hpq.1 hpq.2 HRT.out.2.1 HRT.out.2.2)
            rw [hs] at HM
            unfold three at HM
            clear hs hpq
            go_wp2_with fail
            refine (HM.out _).mono ?_
            rintro _ w5 ⟨rfl, hb5⟩
            have HB5 := Lib.hid (below_seq HB3.out hb5)
            have HO5 := Lib.hid (row_below HO3.out hb5)
            clear hb5
            go_wp2_with fail
            go_roundw
            case rel =>
              refine ⟨v3, acc ++ [numD m1 m2], xs ++ [.int .i64 0, .int .i64 m1, .int .i64 m2, .string ⟨#[]⟩, .slice none 0 0], a, b, e, t1, t2, t3, by rw [List.length_append, HII.out]; simp; omega, rfl, by rw [List.length_append, HII.out]; simp, rfl, rfl, rfl, rfl, rfl, rfl, ?_, HR.out.2.1.snoc (num_at w HRT.out.2.1 HRT.out.2.2), ends_keep HR.out.2.2.1 he0 _, HE2.out, allNum_snoc HR.out.2.2.2.2.1 HRT.out.1, HB5.out⟩
              rw [show (acc ++ [numD m1 m2]).length = i + 1 by rw [List.length_append, HII.out]; rfl]
              exact HO5.out
            case measure => simp [intOf]; omega
          · have hfq : (f == 0) = false := by rw [beq_eq_false_iff_ne]; exact hf0
            go_wp2_with fail
            go_roundw
            case rel =>
              refine ⟨v3, acc ++ [numD m1 m2], xs ++ [.int .i64 0, .int .i64 m1, .int .i64 m2, .string ⟨#[]⟩, .slice none 0 0], a, b, e, p', q, f, by rw [List.length_append, HII.out]; simp; omega, rfl, by rw [List.length_append, HII.out]; simp, rfl, rfl, rfl, rfl, rfl, rfl, ?_, HR.out.2.1.snoc (num_at w HRT.out.2.1 HRT.out.2.2), ends_keep HR.out.2.2.1 he0 _, ends_keep HR.out.2.2.2.1 hf0 _, allNum_snoc HR.out.2.2.2.2.1 HRT.out.1, HB3.out⟩
              rw [show (acc ++ [numD m1 m2]).length = i + 1 by rw [List.length_append, HII.out]; rfl]
              exact HO3.out
            case measure => simp [intOf]; omega
      · have hq : (m3 != 0) = true := by rw [bne_iff_ne]; exact hm3
        go_wp2_with fail
        go_ret
        exact ⟨rfl, HW2.out⟩
    · obtain ⟨pp, cc, rfl, hcc, hlies⟩ := own_slice3 HR.out.2.2.2.2.2 HR.out.1 HR.out.2.1
      have hacc : acc.length ≤ 30 := by have := HII.out; omega
      obtain ⟨xa, hxa⟩ : ∃ z, (if e = 0 then a else 0) = z := ⟨_, rfl⟩
      obtain ⟨xb, hxb⟩ : ∃ z, (if e = 0 then b else 0) = z := ⟨_, rfl⟩
      obtain ⟨ya, hya⟩ : ∃ z, (if f = 0 then p' else 0) = z := ⟨_, rfl⟩
      obtain ⟨yb, hyb⟩ : ∃ z, (if f = 0 then q else 0) = z := ⟨_, rfl⟩
      have F0 := fold_any0 HR.out.2.2.2.2.1 hacc HR.out.2.2.1
      have F2 := fold_any2 HR.out.2.2.2.2.1 hacc HR.out.2.2.2.1
      rw [hxa, hxb] at F0
      rw [hya, hyb] at F2
      have hszs := allNum_sizes HR.out.2.2.2.2.1
      have C0 := Fold_any 0 acc pp cc wr i64_lit0 (by unfold maxLen; omega) (by omega) hcc hlies
      rw [F0] at C0
      have C2 := fun W (hb : Below wr.heap.size wr W) => Fold_any 2 acc pp cc W (by unfold I64; omega) (by unfold maxLen; omega) (by omega) hcc (hlies.below hb)
      rw [F2] at C2
      have HC0 := Lib.hid C0
      have HC2 := Lib.hid C2
      have HXY := Lib.hid (And.intro hxa (And.intro hxb (And.intro hya hyb)))
      clear C0 C2 F0 F2 hszs hxa hxb hya hyb hlies hcc
      go_wp2_with fail
      refine HC0.out.mono ?_
      rintro _ w4 ⟨hg, hb4⟩
      obtain ⟨q4, c4, rfl⟩ := leaf_is hg
      have hbb := below_seq hb4 (box_below w4 (Obj.cells #[.int .i64 0, .int .i64 xa, .int .i64 xb, .string ⟨#[]⟩, .slice q4 0 c4] 37))
      have HW4 := Lib.hid (And.intro hbb (And.intro (at_new w4 (Obj.cells #[.int .i64 0, .int .i64 xa, .int .i64 xb, .string ⟨#[]⟩, .slice q4 0 c4] 37)) (below_seq HR.out.2.2.2.2.2 hbb)))
      clear hg hb4 hbb
      go_wp2_with fail
      refine (HC2.out _ HW4.out.1).mono ?_
      rintro _ w5 ⟨hg, hb5⟩
      obtain ⟨q5, c5, rfl⟩ := leaf_is hg
      have hbb := below_seq hb5 (box_below w5 (Obj.cells #[.int .i64 0, .int .i64 ya, .int .i64 yb, .string ⟨#[]⟩, .slice q5 0 c5] 37))
      obtain ⟨d0, d1, d2, d3, d4⟩ := box_cells (block_on hbb HW4.out.2.1)
      have HW5 := Lib.hid (below_seq HW4.out.2.2 hbb)
      clear hg hb5 hbb
      by_cases he0 : e = 0
      · obtain ⟨rfl, rfl⟩ : xa = a ∧ xb = b := by
          have h := HXY.out
          rw [if_pos he0, if_pos he0] at h
          exact ⟨h.1.symm, h.2.1.symm⟩
        subst he0
        by_cases hf0 : f = 0
        · obtain ⟨rfl, rfl⟩ : ya = p' ∧ yb = q := by
            have h := HXY.out
            rw [if_pos hf0, if_pos hf0] at h
            exact ⟨h.2.2.1.symm, h.2.2.2.symm⟩
          subst hf0
          go_wp2_with fail
          go_ret
          exact ⟨rfl, HW5.out⟩
        · have hfq : (f != 0) = true := by rw [bne_iff_ne]; exact hf0
          go_wp2_with fail
          go_ret
          exact ⟨rfl, HW5.out⟩
      · have heq : (e != 0) = true := by rw [bne_iff_ne]; exact he0
        by_cases hf0 : f = 0
        · obtain ⟨rfl, rfl⟩ : ya = p' ∧ yb = q := by
            have h := HXY.out
            rw [if_pos hf0, if_pos hf0] at h
            exact ⟨h.2.2.1.symm, h.2.2.2.symm⟩
          subst hf0
          go_wp2_with fail
          go_ret
          exact ⟨rfl, HW5.out⟩
        · have hfq : (f != 0) = true := by rw [bne_iff_ne]; exact hf0
          go_wp2_with fail
          go_ret
          exact ⟨rfl, HW5.out⟩
end Go.Proofs.Ytdeelpagoffdjaa.Dat
