/- The program's own apart: what is asked of a datum itself. -/
import Derived.Test.YtogjhoipofkogaaDoorDatVa
import Derived.Test.YtogjhoipofkogaaDoorDatVb
namespace Go.Proofs.YtogjhoipofkogaaDoor.Dat
open Go.RowKit
set_option linter.unusedVariables false

/-- What the calls below answer: Right of numbers, Name. -/
def NumRight (R : Int → Int → Bool) : Prop := ∀ (n d : Int) (w : World), I64 n → I64 d → Calls Tryd.prog 48 #[.int .i64 n, .int .i64 d] w fun e w' => e = .returned (.bool (R n d)) ∧ w = w'
def NameIs (Nm : ByteArray → Bool) : Prop := ∀ (s : ByteArray) (w : World), s.size ≤ maxLen → Calls Tryd.prog 16 #[.string s] w fun e w' => e = .returned (.bool (Nm s)) ∧ Below w.heap.size w w'
/-- A name's bytes may stand in a string. -/
def NameSub (Nm : ByteArray → Bool) : Prop := ∀ s, Nm s = true → s.data.toList.all strChar = true
/-- What is asked of the datum itself. -/
def headOf (R : Int → Int → Bool) (Nm : ByteArray → Bool) : Dt → Bool
  | .node k n d s l => headRight R Nm k n d s l.length

set_option maxHeartbeats 4000000 in
set_option maxRecDepth 100000 in
theorem apart_k0 (R : Int → Int → Bool) (Nm : ByteArray → Bool) (hR : NumRight R) (hN : NameIs Nm) (hsub : NameSub Nm) (n d : Int) (s : ByteArray) (l : List Dt) (p : Option Addr) (cap : Nat) (w : World) (hn : I64 n) (hd : I64 d) (hs : s.size ≤ maxLen) (hlm : l.length ≤ maxLen) :
    Calls Tryd.prog 29 #[.agg #[.int .i64 0, .int .i64 n, .int .i64 d, .string s, .slice p l.length cap]] w fun e w' => e = .returned (.bool (headRight R Nm 0 n d s l.length)) ∧ Below w.heap.size w w' := by
  have HRC := Lib.hid hR; clear hR
  have HNC := Lib.hid hN; clear hN
  have HS := Lib.hid hs; clear hs
  unfold maxLen at hlm
  cases hv : R n d
  · have HV := Lib.hid hv
    have e := hv; clear hv
    rw [show headRight R Nm 0 _ _ _ _ = false from by unfold headRight; first | (simp [e]; done) | (simp [e]; rfl)]
    try clear hsub
    try clear hno
    try clear hstr
    go_enter Tryd.func29, Tryd.ntmps29
    go_wp2_with fail
    refine (HRC.out n d _ hn hd).mono ?_
    rintro _ w' ⟨rfl, rfl⟩
    rw [HV.out]
    go_wp2_with fail
    go_ret
    exact ⟨rfl, by first | exact box_below _ _ | exact below_box _ _ _⟩
  · have HV := Lib.hid hv
    have e := hv; clear hv
    by_cases hs0 : s.size = 0
    case neg =>
      have q : ¬ s.toList = (⟨#[]⟩ : ByteArray).toList := fun e => hs0 (by rw [bytes_inj e]; rfl)
      have q2 : s.toList ≠ [] := fun e => hs0 (by rw [Lib.size_eq, ← Lib.toList_data, e]; rfl)
      have q3 : s.toList.isEmpty = false := by cases hq : s.toList with
        | nil => exact absurd hq q2
        | cons _ _ => rfl
      rw [show headRight R Nm 0 _ _ _ _ = false from by unfold headRight; first | (simp [e, hs0]; done) | (simp [e, hs0]; rfl)]
      try clear hsub
      try clear hno
      try clear hstr
      go_enter Tryd.func29, Tryd.ntmps29
      go_wp2_with fail
      refine (HRC.out n d _ hn hd).mono ?_
      rintro _ w' ⟨rfl, rfl⟩
      rw [HV.out]
      go_wp2_with fail
      go_ret
      exact ⟨rfl, by first | exact box_below _ _ | exact below_box _ _ _⟩
    obtain rfl : s = ⟨#[]⟩ := bytes_empty hs0
    clear hs0
    by_cases hl0 : l.length = 0
    case neg =>
      have hl1 : 1 ≤ l.length := by omega
      have ql : ((l.length : Int) == 0) = false := by rw [beq_eq_false_iff_ne]; omega
      rw [show headRight R Nm 0 _ _ _ _ = false from by unfold headRight; first | (simp [e, hl0]; done) | (simp [e, hl0]; rfl)]
      try clear hsub
      try clear hno
      try clear hstr
      go_enter Tryd.func29, Tryd.ntmps29
      go_wp2_with fail
      refine (HRC.out n d _ hn hd).mono ?_
      rintro _ w' ⟨rfl, rfl⟩
      rw [HV.out]
      go_wp2_with fail
      go_ret
      exact ⟨rfl, by first | exact box_below _ _ | exact below_box _ _ _⟩
    obtain rfl : l = [] := List.length_eq_zero_iff.1 hl0
    clear hl0
    rw [show headRight R Nm 0 _ _ _ _ = true from by unfold headRight; first | (simp [e]; done) | (simp [e]; rfl)]
    try clear hsub
    try clear hno
    try clear hstr
    go_enter Tryd.func29, Tryd.ntmps29
    go_wp2_with fail
    refine (HRC.out n d _ hn hd).mono ?_
    rintro _ w' ⟨rfl, rfl⟩
    rw [HV.out]
    go_wp2_with fail
    go_ret
    exact ⟨rfl, by first | exact box_below _ _ | exact below_box _ _ _⟩

set_option maxHeartbeats 4000000 in
set_option maxRecDepth 100000 in
theorem apart_k1 (R : Int → Int → Bool) (Nm : ByteArray → Bool) (hR : NumRight R) (hN : NameIs Nm) (hsub : NameSub Nm) (n d : Int) (s : ByteArray) (l : List Dt) (p : Option Addr) (cap : Nat) (w : World) (hn : I64 n) (hd : I64 d) (hs : s.size ≤ maxLen) (hlm : l.length ≤ maxLen) :
    Calls Tryd.prog 29 #[.agg #[.int .i64 1, .int .i64 n, .int .i64 d, .string s, .slice p l.length cap]] w fun e w' => e = .returned (.bool (headRight R Nm 1 n d s l.length)) ∧ Below w.heap.size w w' := by
  have HRC := Lib.hid hR; clear hR
  have HNC := Lib.hid hN; clear hN
  have HS := Lib.hid hs; clear hs
  unfold maxLen at hlm
  by_cases en : n = 0 ∨ n = 1
  case neg =>
    obtain ⟨e0, e1⟩ := not_or.1 en
    have q0 : (n == 0) = false := by rw [beq_eq_false_iff_ne]; exact e0
    have q1 : (n == 1) = false := by rw [beq_eq_false_iff_ne]; exact e1
    clear en
    rw [show headRight R Nm 1 _ _ _ _ = false from by unfold headRight; first | (simp [e0, e1]; done) | (simp [e0, e1]; rfl)]
    try clear hsub
    try clear hno
    try clear hstr
    go_enter Tryd.func29, Tryd.ntmps29
    go_wp2_with fail
    go_ret
    exact ⟨rfl, by first | exact box_below _ _ | exact below_box _ _ _⟩
  rcases en with rfl | rfl
  ·
    by_cases ed : d = 0
    case neg =>
      have qd : (d == 0) = false := by rw [beq_eq_false_iff_ne]; exact ed
      rw [show headRight R Nm 1 _ _ _ _ = false from by unfold headRight; first | (simp [ed]; done) | (simp [ed]; rfl)]
      try clear hsub
      try clear hno
      try clear hstr
      go_enter Tryd.func29, Tryd.ntmps29
      go_wp2_with fail
      go_ret
      exact ⟨rfl, by first | exact box_below _ _ | exact below_box _ _ _⟩
    subst ed
    by_cases hs0 : s.size = 0
    case neg =>
      have q : ¬ s.toList = (⟨#[]⟩ : ByteArray).toList := fun e => hs0 (by rw [bytes_inj e]; rfl)
      have q2 : s.toList ≠ [] := fun e => hs0 (by rw [Lib.size_eq, ← Lib.toList_data, e]; rfl)
      have q3 : s.toList.isEmpty = false := by cases hq : s.toList with
        | nil => exact absurd hq q2
        | cons _ _ => rfl
      rw [show headRight R Nm 1 _ _ _ _ = false from by unfold headRight; first | (simp [hs0]; done) | (simp [hs0]; rfl)]
      try clear hsub
      try clear hno
      try clear hstr
      go_enter Tryd.func29, Tryd.ntmps29
      go_wp2_with fail
      go_ret
      exact ⟨rfl, by first | exact box_below _ _ | exact below_box _ _ _⟩
    obtain rfl : s = ⟨#[]⟩ := bytes_empty hs0
    clear hs0
    by_cases hl0 : l.length = 0
    case neg =>
      have hl1 : 1 ≤ l.length := by omega
      have ql : ((l.length : Int) == 0) = false := by rw [beq_eq_false_iff_ne]; omega
      rw [show headRight R Nm 1 _ _ _ _ = false from by unfold headRight; first | (simp [hl0]; done) | (simp [hl0]; rfl)]
      try clear hsub
      try clear hno
      try clear hstr
      go_enter Tryd.func29, Tryd.ntmps29
      go_wp2_with fail
      go_ret
      exact ⟨rfl, by first | exact box_below _ _ | exact below_box _ _ _⟩
    obtain rfl : l = [] := List.length_eq_zero_iff.1 hl0
    clear hl0
    rw [show headRight R Nm 1 _ _ _ _ = true from by unfold headRight; first | (simp; done) | (simp; rfl)]
    try clear hsub
    try clear hno
    try clear hstr
    go_enter Tryd.func29, Tryd.ntmps29
    go_wp2_with fail
    go_ret
    exact ⟨rfl, by first | exact box_below _ _ | exact below_box _ _ _⟩
  ·
    by_cases ed : d = 0
    case neg =>
      have qd : (d == 0) = false := by rw [beq_eq_false_iff_ne]; exact ed
      rw [show headRight R Nm 1 _ _ _ _ = false from by unfold headRight; first | (simp [ed]; done) | (simp [ed]; rfl)]
      try clear hsub
      try clear hno
      try clear hstr
      go_enter Tryd.func29, Tryd.ntmps29
      go_wp2_with fail
      go_ret
      exact ⟨rfl, by first | exact box_below _ _ | exact below_box _ _ _⟩
    subst ed
    by_cases hs0 : s.size = 0
    case neg =>
      have q : ¬ s.toList = (⟨#[]⟩ : ByteArray).toList := fun e => hs0 (by rw [bytes_inj e]; rfl)
      have q2 : s.toList ≠ [] := fun e => hs0 (by rw [Lib.size_eq, ← Lib.toList_data, e]; rfl)
      have q3 : s.toList.isEmpty = false := by cases hq : s.toList with
        | nil => exact absurd hq q2
        | cons _ _ => rfl
      rw [show headRight R Nm 1 _ _ _ _ = false from by unfold headRight; first | (simp [hs0]; done) | (simp [hs0]; rfl)]
      try clear hsub
      try clear hno
      try clear hstr
      go_enter Tryd.func29, Tryd.ntmps29
      go_wp2_with fail
      go_ret
      exact ⟨rfl, by first | exact box_below _ _ | exact below_box _ _ _⟩
    obtain rfl : s = ⟨#[]⟩ := bytes_empty hs0
    clear hs0
    by_cases hl0 : l.length = 0
    case neg =>
      have hl1 : 1 ≤ l.length := by omega
      have ql : ((l.length : Int) == 0) = false := by rw [beq_eq_false_iff_ne]; omega
      rw [show headRight R Nm 1 _ _ _ _ = false from by unfold headRight; first | (simp [hl0]; done) | (simp [hl0]; rfl)]
      try clear hsub
      try clear hno
      try clear hstr
      go_enter Tryd.func29, Tryd.ntmps29
      go_wp2_with fail
      go_ret
      exact ⟨rfl, by first | exact box_below _ _ | exact below_box _ _ _⟩
    obtain rfl : l = [] := List.length_eq_zero_iff.1 hl0
    clear hl0
    rw [show headRight R Nm 1 _ _ _ _ = true from by unfold headRight; first | (simp; done) | (simp; rfl)]
    try clear hsub
    try clear hno
    try clear hstr
    go_enter Tryd.func29, Tryd.ntmps29
    go_wp2_with fail
    go_ret
    exact ⟨rfl, by first | exact box_below _ _ | exact below_box _ _ _⟩

set_option maxHeartbeats 4000000 in
set_option maxRecDepth 100000 in
theorem apart_k2 (R : Int → Int → Bool) (Nm : ByteArray → Bool) (hR : NumRight R) (hN : NameIs Nm) (hsub : NameSub Nm) (n d : Int) (s : ByteArray) (l : List Dt) (p : Option Addr) (cap : Nat) (w : World) (hn : I64 n) (hd : I64 d) (hs : s.size ≤ maxLen) (hlm : l.length ≤ maxLen) :
    Calls Tryd.prog 29 #[.agg #[.int .i64 2, .int .i64 n, .int .i64 d, .string s, .slice p l.length cap]] w fun e w' => e = .returned (.bool (headRight R Nm 2 n d s l.length)) ∧ Below w.heap.size w w' := by
  have HRC := Lib.hid hR; clear hR
  have HNC := Lib.hid hN; clear hN
  have HS := Lib.hid hs; clear hs
  unfold maxLen at hlm
  cases hv : Nm s
  · have HV := Lib.hid hv
    have e := hv; clear hv
    rw [show headRight R Nm 2 _ _ _ _ = false from by unfold headRight; first | (simp [e]; done) | (simp [e]; rfl)]
    try clear hsub
    try clear hno
    try clear hstr
    go_enter Tryd.func29, Tryd.ntmps29
    go_wp2_with fail
    refine (HNC.out s _ HS.out).mono ?_
    rintro _ w1 ⟨rfl, hb1⟩
    rw [HV.out]
    obtain ⟨c0, c1, c2, c3, c4⟩ := box_cells (one_box hb1)
    have z3 := box_frozen (one_box hb1) 3
    have HB1 := Lib.hid (below_after hb1); clear hb1
    go_wp2_with fail
    go_ret
    exact ⟨rfl, (HB1.out).setCell (Nat.le_refl _) _⟩
  · have HV := Lib.hid hv
    have hstr := hsub s hv
    have e := hv; clear hv
    by_cases en : n = 0
    case neg =>
      have qn : (n == 0) = false := by rw [beq_eq_false_iff_ne]; exact en
      rw [show headRight R Nm 2 _ _ _ _ = false from by unfold headRight; first | (simp [e, hstr, en]; done) | (simp [e, hstr, en]; rfl)]
      try clear hsub
      try clear hno
      try clear hstr
      go_enter Tryd.func29, Tryd.ntmps29
      go_wp2_with fail
      refine (HNC.out s _ HS.out).mono ?_
      rintro _ w1 ⟨rfl, hb1⟩
      rw [HV.out]
      obtain ⟨c0, c1, c2, c3, c4⟩ := box_cells (one_box hb1)
      have z3 := box_frozen (one_box hb1) 3
      have HB1 := Lib.hid (below_after hb1); clear hb1
      go_wp2_with fail
      go_ret
      exact ⟨rfl, (HB1.out).setCell (Nat.le_refl _) _⟩
    subst en
    by_cases ed : d = 0
    case neg =>
      have qd : (d == 0) = false := by rw [beq_eq_false_iff_ne]; exact ed
      rw [show headRight R Nm 2 _ _ _ _ = false from by unfold headRight; first | (simp [e, hstr, ed]; done) | (simp [e, hstr, ed]; rfl)]
      try clear hsub
      try clear hno
      try clear hstr
      go_enter Tryd.func29, Tryd.ntmps29
      go_wp2_with fail
      refine (HNC.out s _ HS.out).mono ?_
      rintro _ w1 ⟨rfl, hb1⟩
      rw [HV.out]
      obtain ⟨c0, c1, c2, c3, c4⟩ := box_cells (one_box hb1)
      have z3 := box_frozen (one_box hb1) 3
      have HB1 := Lib.hid (below_after hb1); clear hb1
      go_wp2_with fail
      go_ret
      exact ⟨rfl, (HB1.out).setCell (Nat.le_refl _) _⟩
    subst ed
    by_cases hl0 : l.length = 0
    case neg =>
      have hl1 : 1 ≤ l.length := by omega
      have ql : ((l.length : Int) == 0) = false := by rw [beq_eq_false_iff_ne]; omega
      rw [show headRight R Nm 2 _ _ _ _ = false from by unfold headRight; first | (simp [e, hstr, hl0]; done) | (simp [e, hstr, hl0]; rfl)]
      try clear hsub
      try clear hno
      try clear hstr
      go_enter Tryd.func29, Tryd.ntmps29
      go_wp2_with fail
      refine (HNC.out s _ HS.out).mono ?_
      rintro _ w1 ⟨rfl, hb1⟩
      rw [HV.out]
      obtain ⟨c0, c1, c2, c3, c4⟩ := box_cells (one_box hb1)
      have z3 := box_frozen (one_box hb1) 3
      have HB1 := Lib.hid (below_after hb1); clear hb1
      go_wp2_with fail
      go_ret
      exact ⟨rfl, (HB1.out).setCell (Nat.le_refl _) _⟩
    obtain rfl : l = [] := List.length_eq_zero_iff.1 hl0
    clear hl0
    rw [show headRight R Nm 2 _ _ _ _ = true from by unfold headRight; first | (simp [e, hstr]; done) | (simp [e, hstr]; rfl)]
    try clear hsub
    try clear hno
    try clear hstr
    go_enter Tryd.func29, Tryd.ntmps29
    go_wp2_with fail
    refine (HNC.out s _ HS.out).mono ?_
    rintro _ w1 ⟨rfl, hb1⟩
    rw [HV.out]
    obtain ⟨c0, c1, c2, c3, c4⟩ := box_cells (one_box hb1)
    have z3 := box_frozen (one_box hb1) 3
    have HB1 := Lib.hid (below_after hb1); clear hb1
    go_wp2_with fail
    go_ret
    exact ⟨rfl, (HB1.out).setCell (Nat.le_refl _) _⟩

set_option maxHeartbeats 4000000 in
set_option maxRecDepth 100000 in
theorem apart_k3 (R : Int → Int → Bool) (Nm : ByteArray → Bool) (hR : NumRight R) (hN : NameIs Nm) (hsub : NameSub Nm) (n d : Int) (s : ByteArray) (l : List Dt) (p : Option Addr) (cap : Nat) (w : World) (hn : I64 n) (hd : I64 d) (hs : s.size ≤ maxLen) (hlm : l.length ≤ maxLen) :
    Calls Tryd.prog 29 #[.agg #[.int .i64 3, .int .i64 n, .int .i64 d, .string s, .slice p l.length cap]] w fun e w' => e = .returned (.bool (headRight R Nm 3 n d s l.length)) ∧ Below w.heap.size w w' := by
  have HRC := Lib.hid hR; clear hR
  have HNC := Lib.hid hN; clear hN
  have HS := Lib.hid hs; clear hs
  unfold maxLen at hlm
  cases hv : s.data.toList.all strChar
  · have HV := Lib.hid hv
    have e := hv; clear hv
    rw [show headRight R Nm 3 _ _ _ _ = false from by unfold headRight; first | (simp [e]; done) | (simp [e]; rfl)]
    try clear hsub
    try clear hno
    try clear hstr
    go_enter Tryd.func29, Tryd.ntmps29
    go_wp2_with fail
    refine (ofString_any s _ HV.out HS.out _).mono ?_
    rintro _ w' ⟨rfl, rfl⟩
    go_wp2_with fail
    go_ret
    exact ⟨rfl, by first | exact box_below _ _ | exact below_box _ _ _⟩
  · have HV := Lib.hid hv
    have e := hv; clear hv
    by_cases en : n = 0
    case neg =>
      have qn : (n == 0) = false := by rw [beq_eq_false_iff_ne]; exact en
      rw [show headRight R Nm 3 _ _ _ _ = false from by unfold headRight; first | (simp [e, en]; done) | (simp [e, en]; rfl)]
      try clear hsub
      try clear hno
      try clear hstr
      go_enter Tryd.func29, Tryd.ntmps29
      go_wp2_with fail
      refine (ofString_any s _ HV.out HS.out _).mono ?_
      rintro _ w' ⟨rfl, rfl⟩
      go_wp2_with fail
      go_ret
      exact ⟨rfl, by first | exact box_below _ _ | exact below_box _ _ _⟩
    subst en
    by_cases ed : d = 0
    case neg =>
      have qd : (d == 0) = false := by rw [beq_eq_false_iff_ne]; exact ed
      rw [show headRight R Nm 3 _ _ _ _ = false from by unfold headRight; first | (simp [e, ed]; done) | (simp [e, ed]; rfl)]
      try clear hsub
      try clear hno
      try clear hstr
      go_enter Tryd.func29, Tryd.ntmps29
      go_wp2_with fail
      refine (ofString_any s _ HV.out HS.out _).mono ?_
      rintro _ w' ⟨rfl, rfl⟩
      go_wp2_with fail
      go_ret
      exact ⟨rfl, by first | exact box_below _ _ | exact below_box _ _ _⟩
    subst ed
    by_cases hl0 : l.length = 0
    case neg =>
      have hl1 : 1 ≤ l.length := by omega
      have ql : ((l.length : Int) == 0) = false := by rw [beq_eq_false_iff_ne]; omega
      rw [show headRight R Nm 3 _ _ _ _ = false from by unfold headRight; first | (simp [e, hl0]; done) | (simp [e, hl0]; rfl)]
      try clear hsub
      try clear hno
      try clear hstr
      go_enter Tryd.func29, Tryd.ntmps29
      go_wp2_with fail
      refine (ofString_any s _ HV.out HS.out _).mono ?_
      rintro _ w' ⟨rfl, rfl⟩
      go_wp2_with fail
      go_ret
      exact ⟨rfl, by first | exact box_below _ _ | exact below_box _ _ _⟩
    obtain rfl : l = [] := List.length_eq_zero_iff.1 hl0
    clear hl0
    rw [show headRight R Nm 3 _ _ _ _ = true from by unfold headRight; first | (simp [e]; done) | (simp [e]; rfl)]
    try clear hsub
    try clear hno
    try clear hstr
    go_enter Tryd.func29, Tryd.ntmps29
    go_wp2_with fail
    refine (ofString_any s _ HV.out HS.out _).mono ?_
    rintro _ w' ⟨rfl, rfl⟩
    go_wp2_with fail
    go_ret
    exact ⟨rfl, by first | exact box_below _ _ | exact below_box _ _ _⟩

set_option maxHeartbeats 4000000 in
set_option maxRecDepth 100000 in
theorem apart_k4 (R : Int → Int → Bool) (Nm : ByteArray → Bool) (hR : NumRight R) (hN : NameIs Nm) (hsub : NameSub Nm) (n d : Int) (s : ByteArray) (l : List Dt) (p : Option Addr) (cap : Nat) (w : World) (hn : I64 n) (hd : I64 d) (hs : s.size ≤ maxLen) (hlm : l.length ≤ maxLen) :
    Calls Tryd.prog 29 #[.agg #[.int .i64 4, .int .i64 n, .int .i64 d, .string s, .slice p l.length cap]] w fun e w' => e = .returned (.bool (headRight R Nm 4 n d s l.length)) ∧ Below w.heap.size w w' := by
  have HRC := Lib.hid hR; clear hR
  have HNC := Lib.hid hN; clear hN
  have HS := Lib.hid hs; clear hs
  unfold maxLen at hlm
  by_cases en : n = 0
  case neg =>
    have qn : (n == 0) = false := by rw [beq_eq_false_iff_ne]; exact en
    rw [show headRight R Nm 4 _ _ _ _ = false from by unfold headRight; first | (simp [en]; done) | (simp [en]; rfl)]
    try clear hsub
    try clear hno
    try clear hstr
    go_enter Tryd.func29, Tryd.ntmps29
    go_wp2_with fail
    go_ret
    exact ⟨rfl, by first | exact box_below _ _ | exact below_box _ _ _⟩
  subst en
  by_cases ed : d = 0
  case neg =>
    have qd : (d == 0) = false := by rw [beq_eq_false_iff_ne]; exact ed
    rw [show headRight R Nm 4 _ _ _ _ = false from by unfold headRight; first | (simp [ed]; done) | (simp [ed]; rfl)]
    try clear hsub
    try clear hno
    try clear hstr
    go_enter Tryd.func29, Tryd.ntmps29
    go_wp2_with fail
    go_ret
    exact ⟨rfl, by first | exact box_below _ _ | exact below_box _ _ _⟩
  subst ed
  by_cases hs0 : s.size = 0
  case neg =>
    have q : ¬ s.toList = (⟨#[]⟩ : ByteArray).toList := fun e => hs0 (by rw [bytes_inj e]; rfl)
    have q2 : s.toList ≠ [] := fun e => hs0 (by rw [Lib.size_eq, ← Lib.toList_data, e]; rfl)
    have q3 : s.toList.isEmpty = false := by cases hq : s.toList with
      | nil => exact absurd hq q2
      | cons _ _ => rfl
    rw [show headRight R Nm 4 _ _ _ _ = false from by unfold headRight; first | (simp [hs0]; done) | (simp [hs0]; rfl)]
    try clear hsub
    try clear hno
    try clear hstr
    go_enter Tryd.func29, Tryd.ntmps29
    go_wp2_with fail
    go_ret
    exact ⟨rfl, by first | exact box_below _ _ | exact below_box _ _ _⟩
  obtain rfl : s = ⟨#[]⟩ := bytes_empty hs0
  clear hs0
  by_cases hl0 : l.length = 0
  case neg =>
    have hl1 : 1 ≤ l.length := by omega
    have ql : ((l.length : Int) == 0) = false := by rw [beq_eq_false_iff_ne]; omega
    rw [show headRight R Nm 4 _ _ _ _ = false from by unfold headRight; first | (simp [hl0]; done) | (simp [hl0]; rfl)]
    try clear hsub
    try clear hno
    try clear hstr
    go_enter Tryd.func29, Tryd.ntmps29
    go_wp2_with fail
    go_ret
    exact ⟨rfl, by first | exact box_below _ _ | exact below_box _ _ _⟩
  obtain rfl : l = [] := List.length_eq_zero_iff.1 hl0
  clear hl0
  rw [show headRight R Nm 4 _ _ _ _ = true from by unfold headRight; first | (simp; done) | (simp; rfl)]
  try clear hsub
  try clear hno
  try clear hstr
  go_enter Tryd.func29, Tryd.ntmps29
  go_wp2_with fail
  go_ret
  exact ⟨rfl, by first | exact box_below _ _ | exact below_box _ _ _⟩

set_option maxHeartbeats 4000000 in
set_option maxRecDepth 100000 in
theorem apart_k5 (R : Int → Int → Bool) (Nm : ByteArray → Bool) (hR : NumRight R) (hN : NameIs Nm) (hsub : NameSub Nm) (n d : Int) (s : ByteArray) (l : List Dt) (p : Option Addr) (cap : Nat) (w : World) (hn : I64 n) (hd : I64 d) (hs : s.size ≤ maxLen) (hlm : l.length ≤ maxLen) :
    Calls Tryd.prog 29 #[.agg #[.int .i64 5, .int .i64 n, .int .i64 d, .string s, .slice p l.length cap]] w fun e w' => e = .returned (.bool (headRight R Nm 5 n d s l.length)) ∧ Below w.heap.size w w' := by
  have HRC := Lib.hid hR; clear hR
  have HNC := Lib.hid hN; clear hN
  have HS := Lib.hid hs; clear hs
  unfold maxLen at hlm
  by_cases en : n = 0
  case neg =>
    have qn : (n == 0) = false := by rw [beq_eq_false_iff_ne]; exact en
    rw [show headRight R Nm 5 _ _ _ _ = false from by unfold headRight; first | (simp [en]; done) | (simp [en]; rfl)]
    try clear hsub
    try clear hno
    try clear hstr
    go_enter Tryd.func29, Tryd.ntmps29
    go_wp2_with fail
    go_ret
    exact ⟨rfl, by first | exact box_below _ _ | exact below_box _ _ _⟩
  subst en
  by_cases ed : d = 0
  case neg =>
    have qd : (d == 0) = false := by rw [beq_eq_false_iff_ne]; exact ed
    rw [show headRight R Nm 5 _ _ _ _ = false from by unfold headRight; first | (simp [ed]; done) | (simp [ed]; rfl)]
    try clear hsub
    try clear hno
    try clear hstr
    go_enter Tryd.func29, Tryd.ntmps29
    go_wp2_with fail
    go_ret
    exact ⟨rfl, by first | exact box_below _ _ | exact below_box _ _ _⟩
  subst ed
  by_cases hs0 : s.size = 0
  case neg =>
    have q : ¬ s.toList = (⟨#[]⟩ : ByteArray).toList := fun e => hs0 (by rw [bytes_inj e]; rfl)
    have q2 : s.toList ≠ [] := fun e => hs0 (by rw [Lib.size_eq, ← Lib.toList_data, e]; rfl)
    have q3 : s.toList.isEmpty = false := by cases hq : s.toList with
      | nil => exact absurd hq q2
      | cons _ _ => rfl
    rw [show headRight R Nm 5 _ _ _ _ = false from by unfold headRight; first | (simp [hs0]; done) | (simp [hs0]; rfl)]
    try clear hsub
    try clear hno
    try clear hstr
    go_enter Tryd.func29, Tryd.ntmps29
    go_wp2_with fail
    go_ret
    exact ⟨rfl, by first | exact box_below _ _ | exact below_box _ _ _⟩
  obtain rfl : s = ⟨#[]⟩ := bytes_empty hs0
  clear hs0
  by_cases hl0 : l.length = 0
  case neg =>
    have hl1 : 1 ≤ l.length := by omega
    have ql : ((l.length : Int) == 0) = false := by rw [beq_eq_false_iff_ne]; omega
    rw [show headRight R Nm 5 _ _ _ _ = false from by unfold headRight; first | (simp [hl0]; done) | (simp [hl0]; rfl)]
    try clear hsub
    try clear hno
    try clear hstr
    go_enter Tryd.func29, Tryd.ntmps29
    go_wp2_with fail
    go_ret
    exact ⟨rfl, by first | exact box_below _ _ | exact below_box _ _ _⟩
  obtain rfl : l = [] := List.length_eq_zero_iff.1 hl0
  clear hl0
  rw [show headRight R Nm 5 _ _ _ _ = true from by unfold headRight; first | (simp; done) | (simp; rfl)]
  try clear hsub
  try clear hno
  try clear hstr
  go_enter Tryd.func29, Tryd.ntmps29
  go_wp2_with fail
  go_ret
  exact ⟨rfl, by first | exact box_below _ _ | exact below_box _ _ _⟩

set_option maxHeartbeats 4000000 in
set_option maxRecDepth 100000 in
theorem apart_k6 (R : Int → Int → Bool) (Nm : ByteArray → Bool) (hR : NumRight R) (hN : NameIs Nm) (hsub : NameSub Nm) (n d : Int) (s : ByteArray) (l : List Dt) (p : Option Addr) (cap : Nat) (w : World) (hn : I64 n) (hd : I64 d) (hs : s.size ≤ maxLen) (hlm : l.length ≤ maxLen) :
    Calls Tryd.prog 29 #[.agg #[.int .i64 6, .int .i64 n, .int .i64 d, .string s, .slice p l.length cap]] w fun e w' => e = .returned (.bool (headRight R Nm 6 n d s l.length)) ∧ Below w.heap.size w w' := by
  have HRC := Lib.hid hR; clear hR
  have HNC := Lib.hid hN; clear hN
  have HS := Lib.hid hs; clear hs
  unfold maxLen at hlm
  by_cases hl0 : l.length = 2
  case neg =>
    have ql : ((l.length : Int) == 2) = false := by rw [beq_eq_false_iff_ne]; omega
    rw [show headRight R Nm 6 _ _ _ _ = false from by unfold headRight; first | (simp [hl0]; done) | (simp [hl0]; rfl)]
    try clear hsub
    try clear hno
    try clear hstr
    go_enter Tryd.func29, Tryd.ntmps29
    go_wp2_with fail
    go_ret
    exact ⟨rfl, by first | exact box_below _ _ | exact below_box _ _ _⟩
  have ql : ((l.length : Int) == 2) = true := by rw [beq_iff_eq]; omega
  by_cases en : n = 0
  case neg =>
    have qn : (n == 0) = false := by rw [beq_eq_false_iff_ne]; exact en
    rw [show headRight R Nm 6 _ _ _ _ = false from by unfold headRight; first | (simp [hl0, en]; done) | (simp [hl0, en]; rfl)]
    try clear hsub
    try clear hno
    try clear hstr
    go_enter Tryd.func29, Tryd.ntmps29
    go_wp2_with fail
    go_ret
    exact ⟨rfl, by first | exact box_below _ _ | exact below_box _ _ _⟩
  subst en
  by_cases ed : d = 0
  case neg =>
    have qd : (d == 0) = false := by rw [beq_eq_false_iff_ne]; exact ed
    rw [show headRight R Nm 6 _ _ _ _ = false from by unfold headRight; first | (simp [hl0, ed]; done) | (simp [hl0, ed]; rfl)]
    try clear hsub
    try clear hno
    try clear hstr
    go_enter Tryd.func29, Tryd.ntmps29
    go_wp2_with fail
    go_ret
    exact ⟨rfl, by first | exact box_below _ _ | exact below_box _ _ _⟩
  subst ed
  by_cases hs0 : s.size = 0
  case neg =>
    have q : ¬ s.toList = (⟨#[]⟩ : ByteArray).toList := fun e => hs0 (by rw [bytes_inj e]; rfl)
    have q2 : s.toList ≠ [] := fun e => hs0 (by rw [Lib.size_eq, ← Lib.toList_data, e]; rfl)
    have q3 : s.toList.isEmpty = false := by cases hq : s.toList with
      | nil => exact absurd hq q2
      | cons _ _ => rfl
    rw [show headRight R Nm 6 _ _ _ _ = false from by unfold headRight; first | (simp [hl0, hs0]; done) | (simp [hl0, hs0]; rfl)]
    try clear hsub
    try clear hno
    try clear hstr
    go_enter Tryd.func29, Tryd.ntmps29
    go_wp2_with fail
    go_ret
    exact ⟨rfl, by first | exact box_below _ _ | exact below_box _ _ _⟩
  obtain rfl : s = ⟨#[]⟩ := bytes_empty hs0
  clear hs0
  rw [show headRight R Nm 6 _ _ _ _ = true from by unfold headRight; first | (simp [hl0]; done) | (simp [hl0]; rfl)]
  try clear hsub
  try clear hno
  try clear hstr
  go_enter Tryd.func29, Tryd.ntmps29
  go_wp2_with fail
  go_ret
  exact ⟨rfl, by first | exact box_below _ _ | exact below_box _ _ _⟩

set_option maxHeartbeats 4000000 in
set_option maxRecDepth 100000 in
theorem apart_k7 (R : Int → Int → Bool) (Nm : ByteArray → Bool) (hR : NumRight R) (hN : NameIs Nm) (hsub : NameSub Nm) (n d : Int) (s : ByteArray) (l : List Dt) (p : Option Addr) (cap : Nat) (w : World) (hn : I64 n) (hd : I64 d) (hs : s.size ≤ maxLen) (hlm : l.length ≤ maxLen) :
    Calls Tryd.prog 29 #[.agg #[.int .i64 7, .int .i64 n, .int .i64 d, .string s, .slice p l.length cap]] w fun e w' => e = .returned (.bool (headRight R Nm 7 n d s l.length)) ∧ Below w.heap.size w w' := by
  have HRC := Lib.hid hR; clear hR
  have HNC := Lib.hid hN; clear hN
  have HS := Lib.hid hs; clear hs
  unfold maxLen at hlm
  by_cases en : n = 0
  case neg =>
    have qn : (n == 0) = false := by rw [beq_eq_false_iff_ne]; exact en
    rw [show headRight R Nm 7 _ _ _ _ = false from by unfold headRight; first | (simp [en]; done) | (simp [en]; rfl)]
    try clear hsub
    try clear hno
    try clear hstr
    go_enter Tryd.func29, Tryd.ntmps29
    go_wp2_with fail
    go_ret
    exact ⟨rfl, by first | exact box_below _ _ | exact below_box _ _ _⟩
  subst en
  by_cases ed : d = 0
  case neg =>
    have qd : (d == 0) = false := by rw [beq_eq_false_iff_ne]; exact ed
    rw [show headRight R Nm 7 _ _ _ _ = false from by unfold headRight; first | (simp [ed]; done) | (simp [ed]; rfl)]
    try clear hsub
    try clear hno
    try clear hstr
    go_enter Tryd.func29, Tryd.ntmps29
    go_wp2_with fail
    go_ret
    exact ⟨rfl, by first | exact box_below _ _ | exact below_box _ _ _⟩
  subst ed
  by_cases hs0 : s.size = 0
  case neg =>
    have q : ¬ s.toList = (⟨#[]⟩ : ByteArray).toList := fun e => hs0 (by rw [bytes_inj e]; rfl)
    have q2 : s.toList ≠ [] := fun e => hs0 (by rw [Lib.size_eq, ← Lib.toList_data, e]; rfl)
    have q3 : s.toList.isEmpty = false := by cases hq : s.toList with
      | nil => exact absurd hq q2
      | cons _ _ => rfl
    rw [show headRight R Nm 7 _ _ _ _ = false from by unfold headRight; first | (simp [hs0]; done) | (simp [hs0]; rfl)]
    try clear hsub
    try clear hno
    try clear hstr
    go_enter Tryd.func29, Tryd.ntmps29
    go_wp2_with fail
    go_ret
    exact ⟨rfl, by first | exact box_below _ _ | exact below_box _ _ _⟩
  obtain rfl : s = ⟨#[]⟩ := bytes_empty hs0
  clear hs0
  rw [show headRight R Nm 7 _ _ _ _ = true from by unfold headRight; first | (simp; done) | (simp; rfl)]
  try clear hsub
  try clear hno
  try clear hstr
  go_enter Tryd.func29, Tryd.ntmps29
  go_wp2_with fail
  go_ret
  exact ⟨rfl, by first | exact box_below _ _ | exact below_box _ _ _⟩

theorem apart_out (k : Int) (R : Int → Int → Bool) (Nm : ByteArray → Bool) (n d : Int) (s : ByteArray) (l : List Dt) (p : Option Addr) (cap : Nat) (w : World) (hk : I64 k) (h : k < 0 ∨ 7 < k) :
    Calls Tryd.prog 29 #[.agg #[.int .i64 k, .int .i64 n, .int .i64 d, .string s, .slice p l.length cap]] w fun e w' => e = .returned (.bool (headRight R Nm k n d s l.length)) ∧ Below w.heap.size w w' := by
  have hh : headRight R Nm k n d s l.length = false := by
    unfold headRight
    by_cases h0 : 0 ≤ k
    · rw [decide_eq_false (by omega : ¬ k ≤ 7)]; simp
    · rw [decide_eq_false h0]; simp
  rw [hh]; clear hh
  obtain ⟨k0, k1⟩ := hk
  have f0 : (k == 0) = false := by rw [beq_eq_false_iff_ne]; omega
  have f1 : (k == 1) = false := by rw [beq_eq_false_iff_ne]; omega
  have f2 : (k == 2) = false := by rw [beq_eq_false_iff_ne]; omega
  have f3 : (k == 3) = false := by rw [beq_eq_false_iff_ne]; omega
  have f4 : (k == 4) = false := by rw [beq_eq_false_iff_ne]; omega
  have f5 : (k == 5) = false := by rw [beq_eq_false_iff_ne]; omega
  have f6 : (k == 6) = false := by rw [beq_eq_false_iff_ne]; omega
  have f7 : (k == 7) = false := by rw [beq_eq_false_iff_ne]; omega
  clear h
  go_enter Tryd.func29, Tryd.ntmps29
  go_wp2_with fail
  go_ret
  exact ⟨rfl, box_below _ _⟩

/-- apart answers whether a datum itself is as it must be. -/
theorem apart_any (R : Int → Int → Bool) (Nm : ByteArray → Bool) (hR : NumRight R) (hN : NameIs Nm) (hsub : NameSub Nm) : HoldsCall 29 (headOf R Nm) := by
  intro t v w hat
  obtain ⟨k, n, d, s, l⟩ := t
  unfold Dt.At at hat
  obtain ⟨hk, hn, hd, hs, hlm, p, cap, rfl, _⟩ := hat
  by_cases hout : k < 0 ∨ 7 < k
  · exact apart_out k R Nm n d s l p cap w hk hout
  have h8 : k = 0 ∨ k = 1 ∨ k = 2 ∨ k = 3 ∨ k = 4 ∨ k = 5 ∨ k = 6 ∨ k = 7 := by omega
  rcases h8 with rfl | rfl | rfl | rfl | rfl | rfl | rfl | rfl
  · exact apart_k0 R Nm hR hN hsub n d s l p cap w hn hd hs hlm
  · exact apart_k1 R Nm hR hN hsub n d s l p cap w hn hd hs hlm
  · exact apart_k2 R Nm hR hN hsub n d s l p cap w hn hd hs hlm
  · exact apart_k3 R Nm hR hN hsub n d s l p cap w hn hd hs hlm
  · exact apart_k4 R Nm hR hN hsub n d s l p cap w hn hd hs hlm
  · exact apart_k5 R Nm hR hN hsub n d s l p cap w hn hd hs hlm
  · exact apart_k6 R Nm hR hN hsub n d s l p cap w hn hd hs hlm
  · exact apart_k7 R Nm hR hN hsub n d s l p cap w hn hd hs hlm
end Go.Proofs.YtogjhoipofkogaaDoor.Dat
