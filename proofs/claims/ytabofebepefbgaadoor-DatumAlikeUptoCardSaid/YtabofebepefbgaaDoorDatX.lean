/- The reference's text: kinds without parts, and Vecs. -/
import Derived.Test.YtabofebepefbgaaDoorDatP
namespace Go.Proofs.YtabofebepefbgaaDoor.Dat
open Go.RowKit
set_option linter.unusedVariables false

def TCall (NT : Int → Int → List UInt8) : Prop := ∀ (n d : Int) (a : ByteArray) (w : World), I64 n → I64 d → a.data.toList = NT n d → Calls Tryd.prog 24 #[.int .i64 n, .int .i64 d] w fun e w' => e = .returned (.string a) ∧ Below w.heap.size w w'
/-- The text's length fits with room to spare. -/
def Roomy (l : List UInt8) : Prop := l.length ≤ 1152921504606846976
def TextAt (R : Int → Int → Bool) (Nm : ByteArray → Bool) (NT : Int → Int → List UInt8) (t : Dt) : Prop := ∀ (v : Value) (deep : Nat) (a : ByteArray) (w : World), t.At w v → t.right R Nm deep = true → Roomy (t.text NT) → a.data.toList = t.text NT →
    Calls Tryd.prog 37 #[v] w fun e w' => e = .returned (.string a) ∧ Below w.heap.size w w'
theorem ret_str {a b : ByteArray} (h : a.data.toList = b.data.toList) : Ending.returned (.string a) = .returned (.string b) := by
  rw [show a = b from ByteArray.ext (Array.ext' h)]
variable {R : Int → Int → Bool} {Nm : ByteArray → Bool} {NT : Int → Int → List UInt8}

set_option maxHeartbeats 400000 in
set_option maxRecDepth 100000 in
theorem text_k0 (hT : TCall NT) (n d : Int) (s : ByteArray) (l : List Dt) (p : Option Addr) (len cap : Nat) (a : ByteArray) (w : World) (hn : I64 n) (hd : I64 d) (ha : a.data.toList = (Dt.node 0 n d s l).text NT) :
    Calls Tryd.prog 37 #[.agg #[.int .i64 0, .int .i64 n, .int .i64 d, .string s, .slice p len cap]] w fun e w' => e = .returned (.string a) ∧ Below w.heap.size w w' := by
  rw [text_num] at ha
  have C := fun w => hT n d a w hn hd ha
  have HC := Lib.hid C; clear C ha hT
  go_enter Tryd.func37, Tryd.ntmps37
  go_wp2_with fail
  refine (HC.out _).mono ?_
  rintro _ w1 ⟨rfl, hb1⟩
  have HB1 := Lib.hid hb1; clear hb1
  go_wp2_with fail
  go_ret
  exact ⟨rfl, below_after HB1.out⟩
theorem text_k1 (n d : Int) (s : ByteArray) (l : List Dt) (p : Option Addr) (len cap : Nat) (a : ByteArray) (w : World) (hn : n = 0 ∨ n = 1) (ha : a.data.toList = (Dt.node 1 n d s l).text NT) :
    Calls Tryd.prog 37 #[.agg #[.int .i64 1, .int .i64 n, .int .i64 d, .string s, .slice p len cap]] w fun e w' => e = .returned (.string a) ∧ Below w.heap.size w w' := by
  rw [text_bool] at ha
  rcases hn with rfl | rfl
  all_goals
    have HA := Lib.hid ha; clear ha
    go_enter Tryd.func37, Tryd.ntmps37
    go_wp2
    go_ret
    exact ⟨ret_str (by rw [HA.out]; rfl), box_below _ _⟩
theorem text_k2 (n d : Int) (s : ByteArray) (l : List Dt) (p : Option Addr) (len cap : Nat) (a : ByteArray) (w : World) (ha : a.data.toList = (Dt.node 2 n d s l).text NT) :
    Calls Tryd.prog 37 #[.agg #[.int .i64 2, .int .i64 n, .int .i64 d, .string s, .slice p len cap]] w fun e w' => e = .returned (.string a) ∧ Below w.heap.size w w' := by
  rw [text_sym] at ha
  have HA := Lib.hid ha; clear ha
  go_enter Tryd.func37, Tryd.ntmps37
  go_wp2
  go_ret
  exact ⟨ret_str (by rw [HA.out]), box_below _ _⟩
theorem text_k3 (n d : Int) (s : ByteArray) (l : List Dt) (p : Option Addr) (len cap : Nat) (a : ByteArray) (w : World) (ha : a.data.toList = (Dt.node 3 n d s l).text NT) (hr : Roomy ((Dt.node 3 n d s l).text NT)) :
    Calls Tryd.prog 37 #[.agg #[.int .i64 3, .int .i64 n, .int .i64 d, .string s, .slice p len cap]] w fun e w' => e = .returned (.string a) ∧ Below w.heap.size w w' := by
  rw [text_str] at ha hr
  unfold Roomy at hr
  have hs : s.size ≤ 1152921504606846976 := by rw [Lib.size_eq]; simp at hr ⊢; omega
  have HA := Lib.hid ha; clear ha hr
  go_enter Tryd.func37, Tryd.ntmps37
  go_wp2
  go_ret
  exact ⟨ret_str (by rw [HA.out]; simp), box_below _ _⟩
theorem text_k4 (n d : Int) (s : ByteArray) (l : List Dt) (p : Option Addr) (len cap : Nat) (a : ByteArray) (w : World) (ha : a.data.toList = (Dt.node 4 n d s l).text NT) :
    Calls Tryd.prog 37 #[.agg #[.int .i64 4, .int .i64 n, .int .i64 d, .string s, .slice p len cap]] w fun e w' => e = .returned (.string a) ∧ Below w.heap.size w w' := by
  rw [text_null] at ha
  have HA := Lib.hid ha; clear ha
  go_enter Tryd.func37, Tryd.ntmps37
  go_wp2
  go_ret
  exact ⟨ret_str (by rw [HA.out]), box_below _ _⟩
theorem text_k5 (n d : Int) (s : ByteArray) (l : List Dt) (p : Option Addr) (len cap : Nat) (a : ByteArray) (w : World) (ha : a.data.toList = (Dt.node 5 n d s l).text NT) :
    Calls Tryd.prog 37 #[.agg #[.int .i64 5, .int .i64 n, .int .i64 d, .string s, .slice p len cap]] w fun e w' => e = .returned (.string a) ∧ Below w.heap.size w w' := by
  rw [text_void] at ha
  have HA := Lib.hid ha; clear ha
  go_enter Tryd.func37, Tryd.ntmps37
  go_wp2
  go_ret
  exact ⟨ret_str (by rw [HA.out]), box_below _ _⟩

/-- What is still to come of a Vec's inside. -/
def seqFrom (NT : Int → Int → List UInt8) (l : List Dt) (i : Nat) : List UInt8 := if i = 0 then Dt.seqB NT l else Dt.moreB NT (l.drop i)
theorem seq_zero {l : List Dt} {x : Dt} (h : l[0]? = some x) : seqFrom NT l 0 = x.text NT ++ seqFrom NT l 1 := by
  cases l with
  | nil => simp at h
  | cons y r =>
    simp at h; subst h
    unfold seqFrom
    rw [if_pos rfl, if_neg (by omega), seqB_cons]; rfl
theorem seq_step {l : List Dt} {i : Nat} {x : Dt} (h : l[i]? = some x) (hi : 0 < i) : seqFrom NT l i = 32 :: (x.text NT ++ seqFrom NT l (i + 1)) := by
  unfold seqFrom
  rw [if_neg (by omega), if_neg (by omega), Dt.drop_at h, moreB_cons]
theorem seq_stop {l : List Dt} {i : Nat} (h : l.length ≤ i) : seqFrom NT l i = [] := by
  unfold seqFrom
  split
  · rename_i h0; subst h0
    obtain rfl : l = [] := List.eq_nil_of_length_eq_zero (by omega)
    simp [Dt.seqB]
  · rw [List.drop_of_length_le h]; simp [Dt.moreB]

set_option maxHeartbeats 2000000 in
set_option maxRecDepth 100000 in
theorem text_k7 (n d : Int) (s : ByteArray) (l : List Dt) (p : Option Addr) (cap : Nat) (deep : Nat) (a : ByteArray) (w : World) (hlm : l.length ≤ maxLen) (hl : l = [] ∨ ∃ b o, p = some ⟨b, o, none⟩ ∧ Dt.AllAt w l b o)
    (hra : Dt.rightAll R Nm l deep = true) (ih : ∀ x, x ∈ l → TextAt R Nm NT x) (ha : a.data.toList = (Dt.node 7 n d s l).text NT) (hr : Roomy ((Dt.node 7 n d s l).text NT)) :
    Calls Tryd.prog 37 #[.agg #[.int .i64 7, .int .i64 n, .int .i64 d, .string s, .slice p l.length cap]] w fun e w' => e = .returned (.string a) ∧ Below w.heap.size w w' := by
  rw [text_vec] at ha hr
  unfold Roomy at hr
  unfold maxLen at hlm
  have hr' : (seqFrom NT l 0).length + 3 ≤ 1152921504606846976 := by unfold seqFrom; simp at hr ⊢; omega
  have ha' : a.data.toList = [35, 40] ++ seqFrom NT l 0 ++ [41] := by rw [ha]; unfold seqFrom; simp
  clear hr ha
  have HA := Lib.hid ha'; clear ha'
  have IH := Lib.hid ih; clear ih
  have HL := Lib.hid hl; clear hl
  have HRA := Lib.hid hra; clear hra
  have HR := Lib.hid hr'; clear hr'
  go_enter Tryd.func37, Tryd.ntmps37
  go_wp2
  go_loopw [3, 4] (fun u x wr => ∃ (z : ByteArray) (i : Nat), i ≤ l.length ∧ u = .string z ∧ x = .int .i64 i ∧ [35, 40] ++ seqFrom NT l 0 = z.data.toList ++ seqFrom NT l i ∧ w.heap.size < wr.heap.size ∧ wr.cell? ⟨w.heap.size, 4, none⟩ = some (.slice p l.length cap) ∧ Below w.heap.size w wr) (fun _ x _ => l.length - (intOf x).toNat)
  case atStart => exact ⟨_, 0, by omega, rfl, rfl, by simp, by simp, by simp, box_below _ _⟩
  case round =>
    obtain ⟨z, i, hi, rfl, rfl, hf, hsz, hc, hb⟩ := hrel
    have hz : z.size + (seqFrom NT l i).length + 1 ≤ 1152921504606846976 := by
      have h := congrArg List.length hf
      have h2 := HR.out
      rw [List.length_append, List.length_append, ← Lib.size_eq] at h
      simp at h; omega
    have hz2 : z.size ≤ 1152921504606846976 := by omega
    have HZ := Lib.hid hz; clear hz
    have HF := Lib.hid hf; clear hf
    have HB := Lib.hid hb; clear hb
    by_cases hlt : i < l.length
    · obtain ⟨t, ht⟩ : ∃ t, l[i]? = some t := ⟨l[i], by simp [hlt]⟩
      rcases HL.out with he | ⟨b, o, rfl, hall⟩
      · rw [he] at hlt; simp at hlt
      obtain ⟨v0, v1, v2, v3, v4, d0, d1, d2, d3, d4, hta⟩ := (hall.on (cell_on HB.out)).kid ht
      obtain ⟨y, hy⟩ : ∃ y : ByteArray, y.data.toList = t.text NT := ⟨⟨(t.text NT).toArray⟩, rfl⟩
      have hy2 : y.size = (t.text NT).length := by rw [Lib.size_eq, hy]
      have hmem : t ∈ l := List.mem_of_getElem? ht
      have hright : t.right R Nm deep = true := by
        have h := HRA.out
        have h2 : ∀ (l : List Dt), Dt.rightAll R Nm l deep = true → ∀ x, x ∈ l → x.right R Nm deep = true := by
          intro l
          induction l with
          | nil => intro _ x hx; cases hx
          | cons q r ih =>
            intro h x hx
            unfold Dt.rightAll at h
            rw [Bool.and_eq_true] at h
            rcases List.mem_cons.1 hx with rfl | hx
            · exact h.1
            · exact ih h.2 x hx
        exact h2 l h t hmem
      by_cases hi0 : i = 0
      · subst hi0
        simp only [Nat.zero_mul, Nat.add_zero] at d0 d1 d2 d3 d4
        have hstep := seq_zero (NT := NT) ht
        have hroom : Roomy (t.text NT) := by
          unfold Roomy
          have h := HZ.out
          rw [hstep, List.length_append] at h; omega
        have hy3 : y.size ≤ 1152921504606846976 := by rw [hy2]; exact hroom
        have C := IH.out t hmem _ deep y wr hta hright hroom hy
        have HC := Lib.hid C
        have HS := Lib.hid hstep
        have HY := Lib.hid hy
        clear C hta hall hstep hy hy2 hright hroom hmem ht
        go_wp2_with fail
        refine (HC.out).mono ?_
        rintro _ w1 ⟨rfl, hb1⟩
        have hs1 := hb1.size
        have hc' := cell_on hb1 _ _ _ hc
        have HB1 := Lib.hid hb1; clear hb1
        go_wp2_with fail
        go_roundw
        case rel => exact ⟨_, 1, by omega, rfl, by go_num, by rw [HF.out, HS.out, ← HY.out]; simp, by omega, hc', (HB.out).trans ((HB1.out).mono (by omega))⟩
        case measure => simp [intOf]; omega
      · have hi1 : 0 < i := by omega
        have hstep := seq_step (NT := NT) ht hi1
        have hroom : Roomy (t.text NT) := by
          unfold Roomy
          have h := HZ.out
          rw [hstep, List.length_cons, List.length_append] at h; omega
        have hy3 : y.size ≤ 1152921504606846976 := by rw [hy2]; exact hroom
        have C := IH.out t hmem _ deep y wr hta hright hroom hy
        have HC := Lib.hid C
        have HS := Lib.hid hstep
        have HY := Lib.hid hy
        clear C hta hall hstep hy hy2 hright hroom hmem ht hi0
        go_wp2_with fail
        refine (HC.out).mono ?_
        rintro _ w1 ⟨rfl, hb1⟩
        have hs1 := hb1.size
        have hc' := cell_on hb1 _ _ _ hc
        have HB1 := Lib.hid hb1; clear hb1
        go_wp2_with fail
        go_roundw
        case rel => exact ⟨_, i + 1, by omega, rfl, by go_num, by rw [HF.out, HS.out, ← HY.out]; simp, by omega, hc', (HB.out).trans ((HB1.out).mono (by omega))⟩
        case measure => simp [intOf]; omega
    · have hnil : seqFrom NT l i = [] := seq_stop (by omega)
      have HN := Lib.hid hnil; clear hnil
      go_wp2
      go_ret
      exact ⟨ret_str (by rw [HA.out, HF.out, HN.out]; simp), HB.out⟩
end Go.Proofs.YtabofebepefbgaaDoor.Dat
