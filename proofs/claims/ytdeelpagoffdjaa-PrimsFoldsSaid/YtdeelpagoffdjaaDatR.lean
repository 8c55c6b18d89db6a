/- The reference's right: one theorem a kind. -/
import Derived.Test.YtdeelpagoffdjaaDatN
namespace Go.Proofs.Ytdeelpagoffdjaa.Dat
open Go.RowKit
set_option linter.unusedVariables false

/-- What a call of the program's Right of numbers, of its Name answers. -/
def RCall (R : Int → Int → Bool) : Prop := ∀ (n d : Int) (w : World), I64 n → I64 d → Calls Try.prog 80 #[.int .i64 n, .int .i64 d] w fun e w' => e = .returned (.bool (R n d)) ∧ w = w'
def NCall (Nm : ByteArray → Bool) : Prop := ∀ (s : ByteArray) (w : World), s.size ≤ maxLen → Calls Try.prog 81 #[.string s] w fun e w' => e = .returned (.bool (Nm s)) ∧ ∃ k, w' = w.drewN k
def RightAt (R : Int → Int → Bool) (Nm : ByteArray → Bool) (t : Dt) : Prop := ∀ (v : Value) (D : Int) (deep : Nat) (w : World), t.At w v → D = (deep : Int) → deep ≤ 201 →
    Calls Try.prog 61 #[v, .int .i64 D] w fun e w' => e = .returned (.bool (t.right R Nm deep)) ∧ Below w.heap.size w w'
set_option maxHeartbeats 2000000 in
set_option maxRecDepth 100000 in
theorem right_k0 (R : Int → Int → Bool) (Nm : ByteArray → Bool) (hR : RCall R) (hNm : NCall Nm) (n d : Int) (s : ByteArray) (l : List Dt) (ih : ∀ t, t ∈ l → RightAt R Nm t) (p : Option Addr) (cap : Nat) (D : Int) (deep : Nat) (w : World)
    (hn : I64 n) (hd : I64 d) (hs : s.size ≤ maxLen) (hlm : l.length ≤ maxLen) (hl : l = [] ∨ ∃ b o, p = some ⟨b, o, none⟩ ∧ Dt.AllAt w l b o) (hD : D = (deep : Int)) (h1 : deep ≤ 200) :
    Calls Try.prog 61 #[.agg #[.int .i64 0, .int .i64 n, .int .i64 d, .string s, .slice p l.length cap], .int .i64 D] w fun e w' => e = .returned (.bool ((Dt.node 0 n d s l).right R Nm deep)) ∧ Below w.heap.size w w' := by
  have D0 : 0 ≤ D := by omega
  have D1 : D ≤ 200 := by omega
  have HS := Lib.hid hs
  unfold maxLen at hs hlm
  have HD := Lib.hid (show D = (deep : Int) ∧ deep ≤ 200 from ⟨hD, h1⟩); clear hD
  have hun : (Dt.node 0 n d s l).right R Nm deep = (headRight R Nm 0 n d s l.length && Dt.rightAll R Nm l (deep + 1)) := by
    conv => lhs; unfold Dt.right
    rw [decide_eq_true h1]; rfl
  rw [hun]; clear hun h1
  have HRC := Lib.hid hR; clear hR
  have HNC := Lib.hid hNm; clear hNm
  have IH := Lib.hid ih; clear ih
  have HL := Lib.hid hl; clear hl
  cases hrv : R n d
  case false =>
      have hh : headRight R Nm 0 n d s l.length = false := by unfold headRight; simp [hrv]
      have HRV := Lib.hid hrv; clear hrv
      have HH := Lib.hid hh; clear hh
      go_enter Try.func61, Try.ntmps61
      go_wp2_with fail
      refine (HRC.out n d _ hn hd).mono ?_
      rintro _ w' ⟨rfl, rfl⟩
      rw [HRV.out]
      go_wp2_with fail
      go_ret
      exact ⟨ret_bool (by rw [HH.out]; rfl), by first | exact (Below.refl _ _).alloc (Nat.le_refl _) _ | exact below_box _ _ _⟩
  have HRV := Lib.hid hrv; clear hrv
  by_cases hs0 : s.size = 0
  case neg =>
      have q : ¬ s.toList = (⟨#[]⟩ : ByteArray).toList := fun e => hs0 (by rw [bytes_inj e]; rfl)
      have q2 : s.toList ≠ [] := fun e => hs0 (by rw [Lib.size_eq, ← Lib.toList_data, e]; rfl)
      have q3 : s.toList.isEmpty = false := by cases hq : s.toList with
        | nil => exact absurd hq q2
        | cons _ _ => rfl
      have hh : headRight R Nm 0 n d s l.length = false := by unfold headRight; simp [hs0]
      have HH := Lib.hid hh; clear hh hs0
      go_enter Try.func61, Try.ntmps61
      go_wp2_with fail
      refine (HRC.out n d _ hn hd).mono ?_
      rintro _ w' ⟨rfl, rfl⟩
      rw [HRV.out]
      go_wp2_with fail
      go_ret
      exact ⟨ret_bool (by rw [HH.out]; rfl), by first | exact (Below.refl _ _).alloc (Nat.le_refl _) _ | exact below_box _ _ _⟩
  obtain rfl : s = ⟨#[]⟩ := bytes_empty hs0
  clear hs0 hs HS
  go_enter Try.func61, Try.ntmps61
  go_wp2_with fail
  refine (HRC.out n d _ hn hd).mono ?_
  rintro _ w' ⟨rfl, rfl⟩
  rw [HRV.out]
  go_wp2_with fail
  go_loopw [5] (fun x wr => x = .int .i64 0 ∧ wr.cell? ⟨w.heap.size, 0, none⟩ = some (.int .i64 0) ∧ wr.cell? ⟨w.heap.size, 3, none⟩ = some (.string ⟨#[]⟩) ∧ wr.cell? ⟨w.heap.size, 4, none⟩ = some (.slice p l.length cap) ∧ w.heap.size < wr.heap.size ∧ Below w.heap.size w wr) (fun x _ => 0)
  case atStart => exact ⟨rfl, by simp, by simp, by simp, by simp, by first | exact (Below.refl _ _).alloc (Nat.le_refl _) _ | exact below_box _ _ _⟩
  case round =>
    obtain ⟨rfl, hc0, hc3, hc4, hsz, hb⟩ := hrel
    have HB := Lib.hid hb; clear hb
    by_cases hl0 : l.length = 0
    · obtain rfl : l = [] := List.length_eq_zero_iff.1 hl0
      clear hl0
      go_wp2_with fail
      go_loopw [6] (fun x wr2 => x = .int .i64 0 ∧ wr2.cell? ⟨w.heap.size, 4, none⟩ = some (.slice p 0 cap) ∧ Below w.heap.size w wr2) (fun x _ => 0)
      case atStart => exact ⟨rfl, by simpa using hc4, HB.out⟩
      case round =>
        obtain ⟨rfl, hc, hb⟩ := hrel
        have HB2 := Lib.hid hb; clear hb
        go_wp2
        go_ret
        exact ⟨ret_bool (by unfold headRight Dt.rightAll; simp [HRV.out]; rfl), HB2.out⟩
    · have hl1 : 1 ≤ l.length := by omega
      have HL0 := Lib.hid hl0; clear hl0
      go_wp2_with fail
      go_ret
      exact ⟨ret_bool (by unfold headRight; simp [HL0.out]), HB.out⟩

set_option maxHeartbeats 2000000 in
set_option maxRecDepth 100000 in
theorem right_k1 (R : Int → Int → Bool) (Nm : ByteArray → Bool) (hR : RCall R) (hNm : NCall Nm) (n d : Int) (s : ByteArray) (l : List Dt) (ih : ∀ t, t ∈ l → RightAt R Nm t) (p : Option Addr) (cap : Nat) (D : Int) (deep : Nat) (w : World)
    (hn : I64 n) (hd : I64 d) (hs : s.size ≤ maxLen) (hlm : l.length ≤ maxLen) (hl : l = [] ∨ ∃ b o, p = some ⟨b, o, none⟩ ∧ Dt.AllAt w l b o) (hD : D = (deep : Int)) (h1 : deep ≤ 200) :
    Calls Try.prog 61 #[.agg #[.int .i64 1, .int .i64 n, .int .i64 d, .string s, .slice p l.length cap], .int .i64 D] w fun e w' => e = .returned (.bool ((Dt.node 1 n d s l).right R Nm deep)) ∧ Below w.heap.size w w' := by
  have D0 : 0 ≤ D := by omega
  have D1 : D ≤ 200 := by omega
  have HS := Lib.hid hs
  unfold maxLen at hs hlm
  have HD := Lib.hid (show D = (deep : Int) ∧ deep ≤ 200 from ⟨hD, h1⟩); clear hD
  have hun : (Dt.node 1 n d s l).right R Nm deep = (headRight R Nm 1 n d s l.length && Dt.rightAll R Nm l (deep + 1)) := by
    conv => lhs; unfold Dt.right
    rw [decide_eq_true h1]; rfl
  rw [hun]; clear hun h1
  have HRC := Lib.hid hR; clear hR
  have HNC := Lib.hid hNm; clear hNm
  have IH := Lib.hid ih; clear ih
  have HL := Lib.hid hl; clear hl
  by_cases hd0 : d = 0
  case neg =>
      have q : (d != 0) = true := by rw [bne_iff_ne]; exact hd0
      have hh : headRight R Nm 1 n d s l.length = false := by unfold headRight; simp [hd0]
      have HH := Lib.hid hh; clear hh hd0
      go_enter Try.func61, Try.ntmps61
      go_wp2_with fail
      go_ret
      exact ⟨ret_bool (by rw [HH.out]; rfl), by first | exact (Below.refl _ _).alloc (Nat.le_refl _) _ | exact below_box _ _ _⟩
  subst hd0
  by_cases hn0 : n = 0 ∨ n = 1
  case neg =>
      have q0 : (n != 0) = true := by rw [bne_iff_ne]; omega
      have q1 : (n != 1) = true := by rw [bne_iff_ne]; omega
      have hh : headRight R Nm 1 n 0 s l.length = false := by
        unfold headRight
        have a0 : ¬ n = 0 := by omega
        have a1 : ¬ n = 1 := by omega
        simp [a0, a1]
      have HH := Lib.hid hh; clear hh hn0
      go_enter Try.func61, Try.ntmps61
      go_wp2_with fail
      go_ret
      exact ⟨ret_bool (by rw [HH.out]; rfl), by first | exact (Below.refl _ _).alloc (Nat.le_refl _) _ | exact below_box _ _ _⟩
  by_cases hs0 : s.size = 0
  case neg =>
      have q : ¬ s.toList = (⟨#[]⟩ : ByteArray).toList := fun e => hs0 (by rw [bytes_inj e]; rfl)
      have q2 : s.toList ≠ [] := fun e => hs0 (by rw [Lib.size_eq, ← Lib.toList_data, e]; rfl)
      have q3 : s.toList.isEmpty = false := by cases hq : s.toList with
        | nil => exact absurd hq q2
        | cons _ _ => rfl
      have hh : headRight R Nm 1 n 0 s l.length = false := by unfold headRight; simp [hs0]
      have HH := Lib.hid hh; clear hh hs0
      rcases hn0 with rfl | rfl
      all_goals
        go_enter Try.func61, Try.ntmps61
        go_wp2_with fail
        go_ret
        exact ⟨ret_bool (by rw [HH.out]; rfl), by first | exact (Below.refl _ _).alloc (Nat.le_refl _) _ | exact below_box _ _ _⟩
  obtain rfl : s = ⟨#[]⟩ := bytes_empty hs0
  clear hs0 hs HS
  rcases hn0 with rfl | rfl
  all_goals
    go_enter Try.func61, Try.ntmps61
    go_wp2_with fail
    go_loopw [5] (fun x wr => x = .int .i64 0 ∧ wr.cell? ⟨w.heap.size, 0, none⟩ = some (.int .i64 1) ∧ wr.cell? ⟨w.heap.size, 3, none⟩ = some (.string ⟨#[]⟩) ∧ wr.cell? ⟨w.heap.size, 4, none⟩ = some (.slice p l.length cap) ∧ w.heap.size < wr.heap.size ∧ Below w.heap.size w wr) (fun x _ => 0)
    case atStart => exact ⟨rfl, by simp, by simp, by simp, by simp, by first | exact (Below.refl _ _).alloc (Nat.le_refl _) _ | exact below_box _ _ _⟩
    case round =>
      obtain ⟨rfl, hc0, hc3, hc4, hsz, hb⟩ := hrel
      have HB := Lib.hid hb; clear hb
      by_cases hl0 : l.length = 0
      · obtain rfl : l = [] := List.length_eq_zero_iff.1 hl0
        clear hl0
        go_wp2_with fail
        go_loopw [6] (fun x wr2 => x = .int .i64 0 ∧ wr2.cell? ⟨w.heap.size, 4, none⟩ = some (.slice p 0 cap) ∧ Below w.heap.size w wr2) (fun x _ => 0)
        case atStart => exact ⟨rfl, by simpa using hc4, HB.out⟩
        case round =>
          obtain ⟨rfl, hc, hb⟩ := hrel
          have HB2 := Lib.hid hb; clear hb
          go_wp2
          go_ret
          exact ⟨ret_bool (by unfold headRight Dt.rightAll; simp; rfl), HB2.out⟩
      · have hl1 : 1 ≤ l.length := by omega
        have HL0 := Lib.hid hl0; clear hl0
        go_wp2_with fail
        go_ret
        exact ⟨ret_bool (by unfold headRight; simp [HL0.out]), HB.out⟩

set_option maxHeartbeats 2000000 in
set_option maxRecDepth 100000 in
theorem right_k2 (R : Int → Int → Bool) (Nm : ByteArray → Bool) (hR : RCall R) (hNm : NCall Nm) (n d : Int) (s : ByteArray) (l : List Dt) (ih : ∀ t, t ∈ l → RightAt R Nm t) (p : Option Addr) (cap : Nat) (D : Int) (deep : Nat) (w : World)
    (hn : I64 n) (hd : I64 d) (hs : s.size ≤ maxLen) (hlm : l.length ≤ maxLen) (hl : l = [] ∨ ∃ b o, p = some ⟨b, o, none⟩ ∧ Dt.AllAt w l b o) (hD : D = (deep : Int)) (h1 : deep ≤ 200) :
    Calls Try.prog 61 #[.agg #[.int .i64 2, .int .i64 n, .int .i64 d, .string s, .slice p l.length cap], .int .i64 D] w fun e w' => e = .returned (.bool ((Dt.node 2 n d s l).right R Nm deep)) ∧ Below w.heap.size w w' := by
  have D0 : 0 ≤ D := by omega
  have D1 : D ≤ 200 := by omega
  have HS := Lib.hid hs
  unfold maxLen at hs hlm
  have HD := Lib.hid (show D = (deep : Int) ∧ deep ≤ 200 from ⟨hD, h1⟩); clear hD
  have hun : (Dt.node 2 n d s l).right R Nm deep = (headRight R Nm 2 n d s l.length && Dt.rightAll R Nm l (deep + 1)) := by
    conv => lhs; unfold Dt.right
    rw [decide_eq_true h1]; rfl
  rw [hun]; clear hun h1
  have HRC := Lib.hid hR; clear hR
  have HNC := Lib.hid hNm; clear hNm
  have IH := Lib.hid ih; clear ih
  have HL := Lib.hid hl; clear hl
  by_cases hd0 : d = 0
  case neg =>
      have q : (d != 0) = true := by rw [bne_iff_ne]; exact hd0
      have hh : headRight R Nm 2 n d s l.length = false := by unfold headRight; simp [hd0]
      have HH := Lib.hid hh; clear hh hd0
      go_enter Try.func61, Try.ntmps61
      go_wp2_with fail
      go_ret
      exact ⟨ret_bool (by rw [HH.out]; rfl), by first | exact (Below.refl _ _).alloc (Nat.le_refl _) _ | exact below_box _ _ _⟩
  subst hd0
  by_cases hn0 : n = 0
  case neg =>
      have q : (n != 0) = true := by rw [bne_iff_ne]; exact hn0
      have hh : headRight R Nm 2 n 0 s l.length = false := by unfold headRight; simp [hn0]
      have HH := Lib.hid hh; clear hh hn0
      go_enter Try.func61, Try.ntmps61
      go_wp2_with fail
      go_ret
      exact ⟨ret_bool (by rw [HH.out]; rfl), by first | exact (Below.refl _ _).alloc (Nat.le_refl _) _ | exact below_box _ _ _⟩
  subst hn0
  cases hnv : Nm s
  case false =>
      have hh : headRight R Nm 2 0 0 s l.length = false := by unfold headRight; simp [hnv]
      have HNV := Lib.hid hnv; clear hnv
      have HH := Lib.hid hh; clear hh
      go_enter Try.func61, Try.ntmps61
      go_wp2_with fail
      refine (HNC.out s _ HS.out).mono ?_
      rintro _ w' ⟨rfl, j0, rfl⟩
      rw [HNV.out]
      go_wp2_with fail
      go_ret
      exact ⟨ret_bool (by rw [HH.out]; rfl), by first | exact (Below.refl _ _).alloc (Nat.le_refl _) _ | exact below_box _ _ _⟩
  have HNV := Lib.hid hnv; clear hnv
  go_enter Try.func61, Try.ntmps61
  go_wp2_with fail
  refine (HNC.out s _ HS.out).mono ?_
  rintro _ w' ⟨rfl, j0, rfl⟩
  rw [HNV.out]
  go_wp2_with fail
  go_loopw [5] (fun x wr => ∃ i : Nat, i ≤ s.size ∧ x = .int .i64 i ∧ (s.data.toList.take i).all strChar = true ∧ wr.cell? ⟨w.heap.size, 0, none⟩ = some (.int .i64 2) ∧ wr.cell? ⟨w.heap.size, 3, none⟩ = some (.string s) ∧ wr.cell? ⟨w.heap.size, 4, none⟩ = some (.slice p l.length cap) ∧ Below w.heap.size w wr) (fun x _ => s.size - (intOf x).toNat)
  case atStart => exact ⟨0, by omega, rfl, rfl, by simp, by simp, by simp, by first | exact (Below.refl _ _).alloc (Nat.le_refl _) _ | exact below_box _ _ _⟩
  case round =>
    obtain ⟨i, hi, rfl, hall, hc0, hc3, hc4, hb⟩ := hrel
    have HA := Lib.hid hall; clear hall
    have HB := Lib.hid hb; clear hb
    by_cases hlt : i < s.size
    · have HT := Lib.hid (take_snoc s i hlt)
      have ways : (((s[i].toNat : Int) < 32) ∧ strChar s[i] = false) ∨ (126 < (s[i].toNat : Int) ∧ strChar s[i] = false) ∨ ((32 ≤ (s[i].toNat : Int) ∧ (s[i].toNat : Int) ≤ 126 ∧ ((s[i].toNat : Int) == 34) = true) ∧ strChar s[i] = false) ∨ ((32 ≤ (s[i].toNat : Int) ∧ (s[i].toNat : Int) ≤ 126 ∧ ((s[i].toNat : Int) == 34) = false ∧ ((s[i].toNat : Int) == 92) = true) ∧ strChar s[i] = false) ∨ ((32 ≤ (s[i].toNat : Int) ∧ (s[i].toNat : Int) ≤ 126 ∧ ((s[i].toNat : Int) == 34) = false ∧ ((s[i].toNat : Int) == 92) = false) ∧ strChar s[i] = true) := by
        simp only [beq_iff_eq, beq_eq_false_iff_ne]
        unfold strChar
        by_cases a1 : 32 ≤ s[i].toNat <;> by_cases a2 : s[i].toNat ≤ 126 <;> by_cases a3 : s[i].toNat = 34 <;> by_cases a4 : s[i].toNat = 92 <;> simp [a1, a2, a3, a4] <;> omega
      rcases ways with ⟨q1, hp⟩ | ⟨q1, hp⟩ | ⟨⟨q1, q2, q3⟩, hp⟩ | ⟨⟨q1, q2, q3, q4⟩, hp⟩ | ⟨⟨q1, q2, q3, q4⟩, hp⟩
      case inr.inr.inr.inr =>
        have HP := Lib.hid hp; clear hp
        go_wp2_with fail
        go_roundw
        case rel => exact ⟨i + 1, by omega, by go_num, by rw [HT.out, List.all_append, HA.out]; simp [HP.out], hc0, hc3, hc4, HB.out⟩
        case measure => simp [intOf]; omega
      all_goals
        have hh : headRight R Nm 2 0 0 s l.length = false := by unfold headRight; rw [str_no hlt hp]; simp
        have HH := Lib.hid hh; clear hh hp
        go_wp2_with fail
        go_ret
        exact ⟨ret_bool (by rw [HH.out]; rfl), HB.out⟩
    · have hsall : s.data.toList.all strChar = true := by
        have h := HA.out
        rw [List.take_of_length_le (by rw [← Lib.size_eq]; omega)] at h; exact h
      by_cases hl0 : l.length = 0
      · have hh : headRight R Nm 2 0 0 s l.length = true := by unfold headRight; rw [hsall, hl0]; simp [HNV.out]
        obtain rfl : l = [] := List.length_eq_zero_iff.1 hl0
        have HH := Lib.hid hh; clear hh hl0 hsall
        go_wp2_with fail
        go_loopw [6] (fun x wr2 => x = .int .i64 0 ∧ wr2.cell? ⟨w.heap.size, 4, none⟩ = some (.slice p 0 cap) ∧ Below w.heap.size w wr2) (fun x _ => 0)
        case atStart => exact ⟨rfl, by simpa using hc4, HB.out⟩
        case round =>
          obtain ⟨rfl, hc, hb⟩ := hrel
          have HB2 := Lib.hid hb; clear hb
          go_wp2
          go_ret
          exact ⟨ret_bool (by rw [HH.out]; rfl), HB2.out⟩
      · have hh : headRight R Nm 2 0 0 s l.length = false := by unfold headRight; simp [hl0]
        have hl1 : 1 ≤ l.length := by omega
        have HH := Lib.hid hh; clear hh hl0 hsall
        go_wp2_with fail
        go_ret
        exact ⟨ret_bool (by rw [HH.out]; rfl), HB.out⟩

set_option maxHeartbeats 2000000 in
set_option maxRecDepth 100000 in
theorem right_k3 (R : Int → Int → Bool) (Nm : ByteArray → Bool) (hR : RCall R) (hNm : NCall Nm) (n d : Int) (s : ByteArray) (l : List Dt) (ih : ∀ t, t ∈ l → RightAt R Nm t) (p : Option Addr) (cap : Nat) (D : Int) (deep : Nat) (w : World)
    (hn : I64 n) (hd : I64 d) (hs : s.size ≤ maxLen) (hlm : l.length ≤ maxLen) (hl : l = [] ∨ ∃ b o, p = some ⟨b, o, none⟩ ∧ Dt.AllAt w l b o) (hD : D = (deep : Int)) (h1 : deep ≤ 200) :
    Calls Try.prog 61 #[.agg #[.int .i64 3, .int .i64 n, .int .i64 d, .string s, .slice p l.length cap], .int .i64 D] w fun e w' => e = .returned (.bool ((Dt.node 3 n d s l).right R Nm deep)) ∧ Below w.heap.size w w' := by
  have D0 : 0 ≤ D := by omega
  have D1 : D ≤ 200 := by omega
  have HS := Lib.hid hs
  unfold maxLen at hs hlm
  have HD := Lib.hid (show D = (deep : Int) ∧ deep ≤ 200 from ⟨hD, h1⟩); clear hD
  have hun : (Dt.node 3 n d s l).right R Nm deep = (headRight R Nm 3 n d s l.length && Dt.rightAll R Nm l (deep + 1)) := by
    conv => lhs; unfold Dt.right
    rw [decide_eq_true h1]; rfl
  rw [hun]; clear hun h1
  have HRC := Lib.hid hR; clear hR
  have HNC := Lib.hid hNm; clear hNm
  have IH := Lib.hid ih; clear ih
  have HL := Lib.hid hl; clear hl
  by_cases hd0 : d = 0
  case neg =>
      have q : (d != 0) = true := by rw [bne_iff_ne]; exact hd0
      have hh : headRight R Nm 3 n d s l.length = false := by unfold headRight; simp [hd0]
      have HH := Lib.hid hh; clear hh hd0
      go_enter Try.func61, Try.ntmps61
      go_wp2_with fail
      go_ret
      exact ⟨ret_bool (by rw [HH.out]; rfl), by first | exact (Below.refl _ _).alloc (Nat.le_refl _) _ | exact below_box _ _ _⟩
  subst hd0
  by_cases hn0 : n = 0
  case neg =>
      have q : (n != 0) = true := by rw [bne_iff_ne]; exact hn0
      have hh : headRight R Nm 3 n 0 s l.length = false := by unfold headRight; simp [hn0]
      have HH := Lib.hid hh; clear hh hn0
      go_enter Try.func61, Try.ntmps61
      go_wp2_with fail
      go_ret
      exact ⟨ret_bool (by rw [HH.out]; rfl), by first | exact (Below.refl _ _).alloc (Nat.le_refl _) _ | exact below_box _ _ _⟩
  subst hn0
  go_enter Try.func61, Try.ntmps61
  go_wp2_with fail
  go_loopw [5] (fun x wr => ∃ i : Nat, i ≤ s.size ∧ x = .int .i64 i ∧ (s.data.toList.take i).all strChar = true ∧ wr.cell? ⟨w.heap.size, 0, none⟩ = some (.int .i64 3) ∧ wr.cell? ⟨w.heap.size, 3, none⟩ = some (.string s) ∧ wr.cell? ⟨w.heap.size, 4, none⟩ = some (.slice p l.length cap) ∧ Below w.heap.size w wr) (fun x _ => s.size - (intOf x).toNat)
  case atStart => exact ⟨0, by omega, rfl, rfl, by simp, by simp, by simp, by first | exact (Below.refl _ _).alloc (Nat.le_refl _) _ | exact below_box _ _ _⟩
  case round =>
    obtain ⟨i, hi, rfl, hall, hc0, hc3, hc4, hb⟩ := hrel
    have HA := Lib.hid hall; clear hall
    have HB := Lib.hid hb; clear hb
    by_cases hlt : i < s.size
    · have HT := Lib.hid (take_snoc s i hlt)
      have ways : (((s[i].toNat : Int) < 32) ∧ strChar s[i] = false) ∨ (126 < (s[i].toNat : Int) ∧ strChar s[i] = false) ∨ ((32 ≤ (s[i].toNat : Int) ∧ (s[i].toNat : Int) ≤ 126 ∧ ((s[i].toNat : Int) == 34) = true) ∧ strChar s[i] = false) ∨ ((32 ≤ (s[i].toNat : Int) ∧ (s[i].toNat : Int) ≤ 126 ∧ ((s[i].toNat : Int) == 34) = false ∧ ((s[i].toNat : Int) == 92) = true) ∧ strChar s[i] = false) ∨ ((32 ≤ (s[i].toNat : Int) ∧ (s[i].toNat : Int) ≤ 126 ∧ ((s[i].toNat : Int) == 34) = false ∧ ((s[i].toNat : Int) == 92) = false) ∧ strChar s[i] = true) := by
        simp only [beq_iff_eq, beq_eq_false_iff_ne]
        unfold strChar
        by_cases a1 : 32 ≤ s[i].toNat <;> by_cases a2 : s[i].toNat ≤ 126 <;> by_cases a3 : s[i].toNat = 34 <;> by_cases a4 : s[i].toNat = 92 <;> simp [a1, a2, a3, a4] <;> omega
      rcases ways with ⟨q1, hp⟩ | ⟨q1, hp⟩ | ⟨⟨q1, q2, q3⟩, hp⟩ | ⟨⟨q1, q2, q3, q4⟩, hp⟩ | ⟨⟨q1, q2, q3, q4⟩, hp⟩
      case inr.inr.inr.inr =>
        have HP := Lib.hid hp; clear hp
        go_wp2_with fail
        go_roundw
        case rel => exact ⟨i + 1, by omega, by go_num, by rw [HT.out, List.all_append, HA.out]; simp [HP.out], hc0, hc3, hc4, HB.out⟩
        case measure => simp [intOf]; omega
      all_goals
        have hh : headRight R Nm 3 0 0 s l.length = false := by unfold headRight; rw [str_no hlt hp]; simp
        have HH := Lib.hid hh; clear hh hp
        go_wp2_with fail
        go_ret
        exact ⟨ret_bool (by rw [HH.out]; rfl), HB.out⟩
    · have hsall : s.data.toList.all strChar = true := by
        have h := HA.out
        rw [List.take_of_length_le (by rw [← Lib.size_eq]; omega)] at h; exact h
      by_cases hl0 : l.length = 0
      · have hh : headRight R Nm 3 0 0 s l.length = true := by unfold headRight; rw [hsall, hl0]; simp
        obtain rfl : l = [] := List.length_eq_zero_iff.1 hl0
        have HH := Lib.hid hh; clear hh hl0 hsall
        go_wp2_with fail
        go_loopw [6] (fun x wr2 => x = .int .i64 0 ∧ wr2.cell? ⟨w.heap.size, 4, none⟩ = some (.slice p 0 cap) ∧ Below w.heap.size w wr2) (fun x _ => 0)
        case atStart => exact ⟨rfl, by simpa using hc4, HB.out⟩
        case round =>
          obtain ⟨rfl, hc, hb⟩ := hrel
          have HB2 := Lib.hid hb; clear hb
          go_wp2
          go_ret
          exact ⟨ret_bool (by rw [HH.out]; rfl), HB2.out⟩
      · have hh : headRight R Nm 3 0 0 s l.length = false := by unfold headRight; simp [hl0]
        have hl1 : 1 ≤ l.length := by omega
        have HH := Lib.hid hh; clear hh hl0 hsall
        go_wp2_with fail
        go_ret
        exact ⟨ret_bool (by rw [HH.out]; rfl), HB.out⟩

set_option maxHeartbeats 2000000 in
set_option maxRecDepth 100000 in
theorem right_k4 (R : Int → Int → Bool) (Nm : ByteArray → Bool) (hR : RCall R) (hNm : NCall Nm) (n d : Int) (s : ByteArray) (l : List Dt) (ih : ∀ t, t ∈ l → RightAt R Nm t) (p : Option Addr) (cap : Nat) (D : Int) (deep : Nat) (w : World)
    (hn : I64 n) (hd : I64 d) (hs : s.size ≤ maxLen) (hlm : l.length ≤ maxLen) (hl : l = [] ∨ ∃ b o, p = some ⟨b, o, none⟩ ∧ Dt.AllAt w l b o) (hD : D = (deep : Int)) (h1 : deep ≤ 200) :
    Calls Try.prog 61 #[.agg #[.int .i64 4, .int .i64 n, .int .i64 d, .string s, .slice p l.length cap], .int .i64 D] w fun e w' => e = .returned (.bool ((Dt.node 4 n d s l).right R Nm deep)) ∧ Below w.heap.size w w' := by
  have D0 : 0 ≤ D := by omega
  have D1 : D ≤ 200 := by omega
  have HS := Lib.hid hs
  unfold maxLen at hs hlm
  have HD := Lib.hid (show D = (deep : Int) ∧ deep ≤ 200 from ⟨hD, h1⟩); clear hD
  have hun : (Dt.node 4 n d s l).right R Nm deep = (headRight R Nm 4 n d s l.length && Dt.rightAll R Nm l (deep + 1)) := by
    conv => lhs; unfold Dt.right
    rw [decide_eq_true h1]; rfl
  rw [hun]; clear hun h1
  have HRC := Lib.hid hR; clear hR
  have HNC := Lib.hid hNm; clear hNm
  have IH := Lib.hid ih; clear ih
  have HL := Lib.hid hl; clear hl
  by_cases hd0 : d = 0
  case neg =>
      have q : (d != 0) = true := by rw [bne_iff_ne]; exact hd0
      have hh : headRight R Nm 4 n d s l.length = false := by unfold headRight; simp [hd0]
      have HH := Lib.hid hh; clear hh hd0
      go_enter Try.func61, Try.ntmps61
      go_wp2_with fail
      go_ret
      exact ⟨ret_bool (by rw [HH.out]; rfl), by first | exact (Below.refl _ _).alloc (Nat.le_refl _) _ | exact below_box _ _ _⟩
  subst hd0
  by_cases hn0 : n = 0
  case neg =>
      have q : (n != 0) = true := by rw [bne_iff_ne]; exact hn0
      have hh : headRight R Nm 4 n 0 s l.length = false := by unfold headRight; simp [hn0]
      have HH := Lib.hid hh; clear hh hn0
      go_enter Try.func61, Try.ntmps61
      go_wp2_with fail
      go_ret
      exact ⟨ret_bool (by rw [HH.out]; rfl), by first | exact (Below.refl _ _).alloc (Nat.le_refl _) _ | exact below_box _ _ _⟩
  subst hn0
  by_cases hs0 : s.size = 0
  case neg =>
      have q : ¬ s.toList = (⟨#[]⟩ : ByteArray).toList := fun e => hs0 (by rw [bytes_inj e]; rfl)
      have q2 : s.toList ≠ [] := fun e => hs0 (by rw [Lib.size_eq, ← Lib.toList_data, e]; rfl)
      have q3 : s.toList.isEmpty = false := by cases hq : s.toList with
        | nil => exact absurd hq q2
        | cons _ _ => rfl
      have hh : headRight R Nm 4 0 0 s l.length = false := by unfold headRight; simp [hs0]
      have HH := Lib.hid hh; clear hh hs0
      go_enter Try.func61, Try.ntmps61
      go_wp2_with fail
      go_ret
      exact ⟨ret_bool (by rw [HH.out]; rfl), by first | exact (Below.refl _ _).alloc (Nat.le_refl _) _ | exact below_box _ _ _⟩
  obtain rfl : s = ⟨#[]⟩ := bytes_empty hs0
  clear hs0 hs HS
  go_enter Try.func61, Try.ntmps61
  go_wp2_with fail
  go_loopw [5] (fun x wr => x = .int .i64 0 ∧ wr.cell? ⟨w.heap.size, 0, none⟩ = some (.int .i64 4) ∧ wr.cell? ⟨w.heap.size, 3, none⟩ = some (.string ⟨#[]⟩) ∧ wr.cell? ⟨w.heap.size, 4, none⟩ = some (.slice p l.length cap) ∧ w.heap.size < wr.heap.size ∧ Below w.heap.size w wr) (fun x _ => 0)
  case atStart => exact ⟨rfl, by simp, by simp, by simp, by simp, by first | exact (Below.refl _ _).alloc (Nat.le_refl _) _ | exact below_box _ _ _⟩
  case round =>
    obtain ⟨rfl, hc0, hc3, hc4, hsz, hb⟩ := hrel
    have HB := Lib.hid hb; clear hb
    by_cases hl0 : l.length = 0
    · obtain rfl : l = [] := List.length_eq_zero_iff.1 hl0
      clear hl0
      go_wp2_with fail
      go_loopw [6] (fun x wr2 => x = .int .i64 0 ∧ wr2.cell? ⟨w.heap.size, 4, none⟩ = some (.slice p 0 cap) ∧ Below w.heap.size w wr2) (fun x _ => 0)
      case atStart => exact ⟨rfl, by simpa using hc4, HB.out⟩
      case round =>
        obtain ⟨rfl, hc, hb⟩ := hrel
        have HB2 := Lib.hid hb; clear hb
        go_wp2
        go_ret
        exact ⟨ret_bool (by unfold headRight Dt.rightAll; simp; rfl), HB2.out⟩
    · have hl1 : 1 ≤ l.length := by omega
      have HL0 := Lib.hid hl0; clear hl0
      go_wp2_with fail
      go_ret
      exact ⟨ret_bool (by unfold headRight; simp [HL0.out]), HB.out⟩

set_option maxHeartbeats 2000000 in
set_option maxRecDepth 100000 in
theorem right_k5 (R : Int → Int → Bool) (Nm : ByteArray → Bool) (hR : RCall R) (hNm : NCall Nm) (n d : Int) (s : ByteArray) (l : List Dt) (ih : ∀ t, t ∈ l → RightAt R Nm t) (p : Option Addr) (cap : Nat) (D : Int) (deep : Nat) (w : World)
    (hn : I64 n) (hd : I64 d) (hs : s.size ≤ maxLen) (hlm : l.length ≤ maxLen) (hl : l = [] ∨ ∃ b o, p = some ⟨b, o, none⟩ ∧ Dt.AllAt w l b o) (hD : D = (deep : Int)) (h1 : deep ≤ 200) :
    Calls Try.prog 61 #[.agg #[.int .i64 5, .int .i64 n, .int .i64 d, .string s, .slice p l.length cap], .int .i64 D] w fun e w' => e = .returned (.bool ((Dt.node 5 n d s l).right R Nm deep)) ∧ Below w.heap.size w w' := by
  have D0 : 0 ≤ D := by omega
  have D1 : D ≤ 200 := by omega
  have HS := Lib.hid hs
  unfold maxLen at hs hlm
  have HD := Lib.hid (show D = (deep : Int) ∧ deep ≤ 200 from ⟨hD, h1⟩); clear hD
  have hun : (Dt.node 5 n d s l).right R Nm deep = (headRight R Nm 5 n d s l.length && Dt.rightAll R Nm l (deep + 1)) := by
    conv => lhs; unfold Dt.right
    rw [decide_eq_true h1]; rfl
  rw [hun]; clear hun h1
  have HRC := Lib.hid hR; clear hR
  have HNC := Lib.hid hNm; clear hNm
  have IH := Lib.hid ih; clear ih
  have HL := Lib.hid hl; clear hl
  by_cases hd0 : d = 0
  case neg =>
      have q : (d != 0) = true := by rw [bne_iff_ne]; exact hd0
      have hh : headRight R Nm 5 n d s l.length = false := by unfold headRight; simp [hd0]
      have HH := Lib.hid hh; clear hh hd0
      go_enter Try.func61, Try.ntmps61
      go_wp2_with fail
      go_ret
      exact ⟨ret_bool (by rw [HH.out]; rfl), by first | exact (Below.refl _ _).alloc (Nat.le_refl _) _ | exact below_box _ _ _⟩
  subst hd0
  by_cases hn0 : n = 0
  case neg =>
      have q : (n != 0) = true := by rw [bne_iff_ne]; exact hn0
      have hh : headRight R Nm 5 n 0 s l.length = false := by unfold headRight; simp [hn0]
      have HH := Lib.hid hh; clear hh hn0
      go_enter Try.func61, Try.ntmps61
      go_wp2_with fail
      go_ret
      exact ⟨ret_bool (by rw [HH.out]; rfl), by first | exact (Below.refl _ _).alloc (Nat.le_refl _) _ | exact below_box _ _ _⟩
  subst hn0
  by_cases hs0 : s.size = 0
  case neg =>
      have q : ¬ s.toList = (⟨#[]⟩ : ByteArray).toList := fun e => hs0 (by rw [bytes_inj e]; rfl)
      have q2 : s.toList ≠ [] := fun e => hs0 (by rw [Lib.size_eq, ← Lib.toList_data, e]; rfl)
      have q3 : s.toList.isEmpty = false := by cases hq : s.toList with
        | nil => exact absurd hq q2
        | cons _ _ => rfl
      have hh : headRight R Nm 5 0 0 s l.length = false := by unfold headRight; simp [hs0]
      have HH := Lib.hid hh; clear hh hs0
      go_enter Try.func61, Try.ntmps61
      go_wp2_with fail
      go_ret
      exact ⟨ret_bool (by rw [HH.out]; rfl), by first | exact (Below.refl _ _).alloc (Nat.le_refl _) _ | exact below_box _ _ _⟩
  obtain rfl : s = ⟨#[]⟩ := bytes_empty hs0
  clear hs0 hs HS
  go_enter Try.func61, Try.ntmps61
  go_wp2_with fail
  go_loopw [5] (fun x wr => x = .int .i64 0 ∧ wr.cell? ⟨w.heap.size, 0, none⟩ = some (.int .i64 5) ∧ wr.cell? ⟨w.heap.size, 3, none⟩ = some (.string ⟨#[]⟩) ∧ wr.cell? ⟨w.heap.size, 4, none⟩ = some (.slice p l.length cap) ∧ w.heap.size < wr.heap.size ∧ Below w.heap.size w wr) (fun x _ => 0)
  case atStart => exact ⟨rfl, by simp, by simp, by simp, by simp, by first | exact (Below.refl _ _).alloc (Nat.le_refl _) _ | exact below_box _ _ _⟩
  case round =>
    obtain ⟨rfl, hc0, hc3, hc4, hsz, hb⟩ := hrel
    have HB := Lib.hid hb; clear hb
    by_cases hl0 : l.length = 0
    · obtain rfl : l = [] := List.length_eq_zero_iff.1 hl0
      clear hl0
      go_wp2_with fail
      go_loopw [6] (fun x wr2 => x = .int .i64 0 ∧ wr2.cell? ⟨w.heap.size, 4, none⟩ = some (.slice p 0 cap) ∧ Below w.heap.size w wr2) (fun x _ => 0)
      case atStart => exact ⟨rfl, by simpa using hc4, HB.out⟩
      case round =>
        obtain ⟨rfl, hc, hb⟩ := hrel
        have HB2 := Lib.hid hb; clear hb
        go_wp2
        go_ret
        exact ⟨ret_bool (by unfold headRight Dt.rightAll; simp; rfl), HB2.out⟩
    · have hl1 : 1 ≤ l.length := by omega
      have HL0 := Lib.hid hl0; clear hl0
      go_wp2_with fail
      go_ret
      exact ⟨ret_bool (by unfold headRight; simp [HL0.out]), HB.out⟩

set_option maxHeartbeats 2000000 in
set_option maxRecDepth 100000 in
theorem right_k6 (R : Int → Int → Bool) (Nm : ByteArray → Bool) (hR : RCall R) (hNm : NCall Nm) (n d : Int) (s : ByteArray) (l : List Dt) (ih : ∀ t, t ∈ l → RightAt R Nm t) (p : Option Addr) (cap : Nat) (D : Int) (deep : Nat) (w : World)
    (hn : I64 n) (hd : I64 d) (hs : s.size ≤ maxLen) (hlm : l.length ≤ maxLen) (hl : l = [] ∨ ∃ b o, p = some ⟨b, o, none⟩ ∧ Dt.AllAt w l b o) (hD : D = (deep : Int)) (h1 : deep ≤ 200) :
    Calls Try.prog 61 #[.agg #[.int .i64 6, .int .i64 n, .int .i64 d, .string s, .slice p l.length cap], .int .i64 D] w fun e w' => e = .returned (.bool ((Dt.node 6 n d s l).right R Nm deep)) ∧ Below w.heap.size w w' := by
  have D0 : 0 ≤ D := by omega
  have D1 : D ≤ 200 := by omega
  have HS := Lib.hid hs
  unfold maxLen at hs hlm
  have HD := Lib.hid (show D = (deep : Int) ∧ deep ≤ 200 from ⟨hD, h1⟩); clear hD
  have hun : (Dt.node 6 n d s l).right R Nm deep = (headRight R Nm 6 n d s l.length && Dt.rightAll R Nm l (deep + 1)) := by
    conv => lhs; unfold Dt.right
    rw [decide_eq_true h1]; rfl
  rw [hun]; clear hun h1
  have HRC := Lib.hid hR; clear hR
  have HNC := Lib.hid hNm; clear hNm
  have IH := Lib.hid ih; clear ih
  have HL := Lib.hid hl; clear hl
  by_cases hd0 : d = 0
  case neg =>
      have q : (d != 0) = true := by rw [bne_iff_ne]; exact hd0
      have hh : headRight R Nm 6 n d s l.length = false := by unfold headRight; simp [hd0]
      have HH := Lib.hid hh; clear hh hd0
      go_enter Try.func61, Try.ntmps61
      go_wp2_with fail
      go_ret
      exact ⟨ret_bool (by rw [HH.out]; rfl), by first | exact (Below.refl _ _).alloc (Nat.le_refl _) _ | exact below_box _ _ _⟩
  subst hd0
  by_cases hn0 : n = 0
  case neg =>
      have q : (n != 0) = true := by rw [bne_iff_ne]; exact hn0
      have hh : headRight R Nm 6 n 0 s l.length = false := by unfold headRight; simp [hn0]
      have HH := Lib.hid hh; clear hh hn0
      go_enter Try.func61, Try.ntmps61
      go_wp2_with fail
      go_ret
      exact ⟨ret_bool (by rw [HH.out]; rfl), by first | exact (Below.refl _ _).alloc (Nat.le_refl _) _ | exact below_box _ _ _⟩
  subst hn0
  by_cases hs0 : s.size = 0
  case neg =>
      have q : ¬ s.toList = (⟨#[]⟩ : ByteArray).toList := fun e => hs0 (by rw [bytes_inj e]; rfl)
      have q2 : s.toList ≠ [] := fun e => hs0 (by rw [Lib.size_eq, ← Lib.toList_data, e]; rfl)
      have q3 : s.toList.isEmpty = false := by cases hq : s.toList with
        | nil => exact absurd hq q2
        | cons _ _ => rfl
      have hh : headRight R Nm 6 0 0 s l.length = false := by unfold headRight; simp [hs0]
      have HH := Lib.hid hh; clear hh hs0
      go_enter Try.func61, Try.ntmps61
      go_wp2_with fail
      go_ret
      exact ⟨ret_bool (by rw [HH.out]; rfl), by first | exact (Below.refl _ _).alloc (Nat.le_refl _) _ | exact below_box _ _ _⟩
  obtain rfl : s = ⟨#[]⟩ := bytes_empty hs0
  clear hs0 hs HS
  go_enter Try.func61, Try.ntmps61
  go_wp2_with fail
  go_loopw [5] (fun x wr => x = .int .i64 0 ∧ wr.cell? ⟨w.heap.size, 0, none⟩ = some (.int .i64 6) ∧ wr.cell? ⟨w.heap.size, 3, none⟩ = some (.string ⟨#[]⟩) ∧ wr.cell? ⟨w.heap.size, 4, none⟩ = some (.slice p l.length cap) ∧ w.heap.size < wr.heap.size ∧ Below w.heap.size w wr) (fun x _ => 0)
  case atStart => exact ⟨rfl, by simp, by simp, by simp, by simp, by first | exact (Below.refl _ _).alloc (Nat.le_refl _) _ | exact below_box _ _ _⟩
  case round =>
    obtain ⟨rfl, hc0, hc3, hc4, hsz, hb⟩ := hrel
    have HB := Lib.hid hb; clear hb
    by_cases hl2 : l.length = 2
    case neg =>
      have q : ((l.length : Int) != 2) = true := by rw [bne_iff_ne]; omega
      have hh : headRight R Nm 6 0 0 ⟨#[]⟩ l.length = false := by unfold headRight; simp [hl2]
      have HH := Lib.hid hh; clear hh hl2
      go_wp2_with fail
      go_ret
      exact ⟨ret_bool (by rw [HH.out]; rfl), HB.out⟩
    have q : ((l.length : Int) != 2) = false := by rw [bne_eq_false_iff_eq]; omega
    have hh : headRight R Nm 6 0 0 ⟨#[]⟩ l.length = true := by unfold headRight; simp [hl2]; rfl
    have HH := Lib.hid hh; clear hh hl2
    go_wp2_with fail
    go_loopw [6] (fun x wr2 => ∃ i : Nat, i ≤ l.length ∧ x = .int .i64 i ∧ Dt.rightAll R Nm l (deep + 1) = Dt.rightAll R Nm (l.drop i) (deep + 1) ∧ w.heap.size < wr2.heap.size ∧ wr2.cell? ⟨w.heap.size, 4, none⟩ = some (.slice p l.length cap) ∧ Below w.heap.size w wr2) (fun x _ => l.length - (intOf x).toNat)
    case atStart => exact ⟨0, by omega, rfl, rfl, hsz, hc4, HB.out⟩
    case round =>
      obtain ⟨i, hi, rfl, hf, hsz2, hc, hb⟩ := hrel
      have HF := Lib.hid hf; clear hf
      have HB2 := Lib.hid hb; clear hb
      by_cases hlt : i < l.length
      · obtain ⟨t, ht⟩ : ∃ t, l[i]? = some t := ⟨l[i], by simp [hlt]⟩
        rcases HL.out with he | ⟨b, o, rfl, hall⟩
        · rw [he] at hlt; simp at hlt
        obtain ⟨v0, v1, v2, v3, v4, d0, d1, d2, d3, d4, hta⟩ := (hall.on (cell_on HB2.out)).kid ht
        have C := IH.out t (List.mem_of_getElem? ht) _ (D + 1) (deep + 1) wr hta (by have := HD.out; omega) (by have := HD.out; omega)
        cases hm : t.right R Nm (deep + 1)
        · rw [hm] at C
          have HC := Lib.hid C
          have HM := Lib.hid hm
          have HT := Lib.hid ht
          clear C hta hall hm ht
          go_wp2_with fail
          refine (HC.out).mono ?_
          rintro _ w1 ⟨rfl, hb1⟩
          have HB1 := Lib.hid hb1; clear hb1
          go_wp2_with fail
          go_ret
          exact ⟨ret_bool (by rw [HF.out, Dt.rightAll_step HT.out, HM.out]; simp), (HB2.out).trans ((HB1.out).mono (by omega))⟩
        · rw [hm] at C
          have HC := Lib.hid C
          have HM := Lib.hid hm
          have HT := Lib.hid ht
          clear C hta hall hm ht
          go_wp2_with fail
          refine (HC.out).mono ?_
          rintro _ w1 ⟨rfl, hb1⟩
          have hs1 := hb1.size
          have hc' := cell_on hb1 _ _ _ hc
          have HB1 := Lib.hid hb1; clear hb1
          go_wp2_with fail
          go_roundw
          case rel => exact ⟨i + 1, by omega, by go_num, by rw [HF.out, Dt.rightAll_step HT.out, HM.out]; rfl, by omega, hc', (HB2.out).trans ((HB1.out).mono (by omega))⟩
          case measure => simp [intOf]; omega
      · go_wp2
        go_ret
        exact ⟨ret_bool (by rw [HF.out, Dt.rightAll_stop (by omega), HH.out]; rfl), HB2.out⟩

set_option maxHeartbeats 2000000 in
set_option maxRecDepth 100000 in
theorem right_k7 (R : Int → Int → Bool) (Nm : ByteArray → Bool) (hR : RCall R) (hNm : NCall Nm) (n d : Int) (s : ByteArray) (l : List Dt) (ih : ∀ t, t ∈ l → RightAt R Nm t) (p : Option Addr) (cap : Nat) (D : Int) (deep : Nat) (w : World)
    (hn : I64 n) (hd : I64 d) (hs : s.size ≤ maxLen) (hlm : l.length ≤ maxLen) (hl : l = [] ∨ ∃ b o, p = some ⟨b, o, none⟩ ∧ Dt.AllAt w l b o) (hD : D = (deep : Int)) (h1 : deep ≤ 200) :
    Calls Try.prog 61 #[.agg #[.int .i64 7, .int .i64 n, .int .i64 d, .string s, .slice p l.length cap], .int .i64 D] w fun e w' => e = .returned (.bool ((Dt.node 7 n d s l).right R Nm deep)) ∧ Below w.heap.size w w' := by
  have D0 : 0 ≤ D := by omega
  have D1 : D ≤ 200 := by omega
  have HS := Lib.hid hs
  unfold maxLen at hs hlm
  have HD := Lib.hid (show D = (deep : Int) ∧ deep ≤ 200 from ⟨hD, h1⟩); clear hD
  have hun : (Dt.node 7 n d s l).right R Nm deep = (headRight R Nm 7 n d s l.length && Dt.rightAll R Nm l (deep + 1)) := by
    conv => lhs; unfold Dt.right
    rw [decide_eq_true h1]; rfl
  rw [hun]; clear hun h1
  have HRC := Lib.hid hR; clear hR
  have HNC := Lib.hid hNm; clear hNm
  have IH := Lib.hid ih; clear ih
  have HL := Lib.hid hl; clear hl
  by_cases hd0 : d = 0
  case neg =>
      have q : (d != 0) = true := by rw [bne_iff_ne]; exact hd0
      have hh : headRight R Nm 7 n d s l.length = false := by unfold headRight; simp [hd0]
      have HH := Lib.hid hh; clear hh hd0
      go_enter Try.func61, Try.ntmps61
      go_wp2_with fail
      go_ret
      exact ⟨ret_bool (by rw [HH.out]; rfl), by first | exact (Below.refl _ _).alloc (Nat.le_refl _) _ | exact below_box _ _ _⟩
  subst hd0
  by_cases hn0 : n = 0
  case neg =>
      have q : (n != 0) = true := by rw [bne_iff_ne]; exact hn0
      have hh : headRight R Nm 7 n 0 s l.length = false := by unfold headRight; simp [hn0]
      have HH := Lib.hid hh; clear hh hn0
      go_enter Try.func61, Try.ntmps61
      go_wp2_with fail
      go_ret
      exact ⟨ret_bool (by rw [HH.out]; rfl), by first | exact (Below.refl _ _).alloc (Nat.le_refl _) _ | exact below_box _ _ _⟩
  subst hn0
  by_cases hs0 : s.size = 0
  case neg =>
      have q : ¬ s.toList = (⟨#[]⟩ : ByteArray).toList := fun e => hs0 (by rw [bytes_inj e]; rfl)
      have q2 : s.toList ≠ [] := fun e => hs0 (by rw [Lib.size_eq, ← Lib.toList_data, e]; rfl)
      have q3 : s.toList.isEmpty = false := by cases hq : s.toList with
        | nil => exact absurd hq q2
        | cons _ _ => rfl
      have hh : headRight R Nm 7 0 0 s l.length = false := by unfold headRight; simp [hs0]
      have HH := Lib.hid hh; clear hh hs0
      go_enter Try.func61, Try.ntmps61
      go_wp2_with fail
      go_ret
      exact ⟨ret_bool (by rw [HH.out]; rfl), by first | exact (Below.refl _ _).alloc (Nat.le_refl _) _ | exact below_box _ _ _⟩
  obtain rfl : s = ⟨#[]⟩ := bytes_empty hs0
  clear hs0 hs HS
  go_enter Try.func61, Try.ntmps61
  go_wp2_with fail
  go_loopw [5] (fun x wr => x = .int .i64 0 ∧ wr.cell? ⟨w.heap.size, 0, none⟩ = some (.int .i64 7) ∧ wr.cell? ⟨w.heap.size, 3, none⟩ = some (.string ⟨#[]⟩) ∧ wr.cell? ⟨w.heap.size, 4, none⟩ = some (.slice p l.length cap) ∧ w.heap.size < wr.heap.size ∧ Below w.heap.size w wr) (fun x _ => 0)
  case atStart => exact ⟨rfl, by simp, by simp, by simp, by simp, by first | exact (Below.refl _ _).alloc (Nat.le_refl _) _ | exact below_box _ _ _⟩
  case round =>
    obtain ⟨rfl, hc0, hc3, hc4, hsz, hb⟩ := hrel
    have HB := Lib.hid hb; clear hb
    have hh : headRight R Nm 7 0 0 ⟨#[]⟩ l.length = true := by unfold headRight; simp; rfl
    have HH := Lib.hid hh; clear hh
    go_wp2_with fail
    go_loopw [6] (fun x wr2 => ∃ i : Nat, i ≤ l.length ∧ x = .int .i64 i ∧ Dt.rightAll R Nm l (deep + 1) = Dt.rightAll R Nm (l.drop i) (deep + 1) ∧ w.heap.size < wr2.heap.size ∧ wr2.cell? ⟨w.heap.size, 4, none⟩ = some (.slice p l.length cap) ∧ Below w.heap.size w wr2) (fun x _ => l.length - (intOf x).toNat)
    case atStart => exact ⟨0, by omega, rfl, rfl, hsz, hc4, HB.out⟩
    case round =>
      obtain ⟨i, hi, rfl, hf, hsz2, hc, hb⟩ := hrel
      have HF := Lib.hid hf; clear hf
      have HB2 := Lib.hid hb; clear hb
      by_cases hlt : i < l.length
      · obtain ⟨t, ht⟩ : ∃ t, l[i]? = some t := ⟨l[i], by simp [hlt]⟩
        rcases HL.out with he | ⟨b, o, rfl, hall⟩
        · rw [he] at hlt; simp at hlt
        obtain ⟨v0, v1, v2, v3, v4, d0, d1, d2, d3, d4, hta⟩ := (hall.on (cell_on HB2.out)).kid ht
        have C := IH.out t (List.mem_of_getElem? ht) _ (D + 1) (deep + 1) wr hta (by have := HD.out; omega) (by have := HD.out; omega)
        cases hm : t.right R Nm (deep + 1)
        · rw [hm] at C
          have HC := Lib.hid C
          have HM := Lib.hid hm
          have HT := Lib.hid ht
          clear C hta hall hm ht
          go_wp2_with fail
          refine (HC.out).mono ?_
          rintro _ w1 ⟨rfl, hb1⟩
          have HB1 := Lib.hid hb1; clear hb1
          go_wp2_with fail
          go_ret
          exact ⟨ret_bool (by rw [HF.out, Dt.rightAll_step HT.out, HM.out]; simp), (HB2.out).trans ((HB1.out).mono (by omega))⟩
        · rw [hm] at C
          have HC := Lib.hid C
          have HM := Lib.hid hm
          have HT := Lib.hid ht
          clear C hta hall hm ht
          go_wp2_with fail
          refine (HC.out).mono ?_
          rintro _ w1 ⟨rfl, hb1⟩
          have hs1 := hb1.size
          have hc' := cell_on hb1 _ _ _ hc
          have HB1 := Lib.hid hb1; clear hb1
          go_wp2_with fail
          go_roundw
          case rel => exact ⟨i + 1, by omega, by go_num, by rw [HF.out, Dt.rightAll_step HT.out, HM.out]; rfl, by omega, hc', (HB2.out).trans ((HB1.out).mono (by omega))⟩
          case measure => simp [intOf]; omega
      · go_wp2
        go_ret
        exact ⟨ret_bool (by rw [HF.out, Dt.rightAll_stop (by omega), HH.out]; rfl), HB2.out⟩

end Go.Proofs.Ytdeelpagoffdjaa.Dat
