/- The reference's Parse: one theorem a way. -/
import Derived.Test.YtabofebepefbgaaDoorParseAll
namespace Go.Proofs.YtabofebepefbgaaDoor
open Go.RowKit NumPlain
set_option linter.unusedVariables false

set_option maxHeartbeats 400000 in
theorem pref_ez (s : ByteArray) (n k : Nat) (hs : s.size ≤ maxLen) (h0 : s.size = 0)
    (E : ∀ w, Calls Tryd.prog 100 #[.string s] w fun e w' => e = .returned (.tuple #[.int .i64 (n : Int), .int .i64 (k : Int)]) ∧ w = w') (hk : k = 0) (w : World) :
    Calls Tryd.prog 89 #[.string s] w fun e' w' => e' = .returned (res (0, 0, false)) ∧ w = w' := by
  unfold maxLen at hs
  have HE := Lib.hid E; clear E
  subst hk
  have h1 : s.size ≤ 0 := by omega
  clear h0
  go_enter Tryd.func89, Tryd.ntmps89
  go_wp2_with fail
  refine (HE.out _).mono ?_
  rintro _ w' ⟨rfl, rfl⟩
  go_wp2_with fail
  go_ret3
  exact ⟨rfl, rfl⟩

set_option maxHeartbeats 400000 in
theorem pref_pz (s : ByteArray) (n k : Nat) (hs : s.size ≤ maxLen) (h0 : 0 < s.size) (h45 : s[0].toNat ≠ 45)
    (E : ∀ w, Calls Tryd.prog 100 #[.string s] w fun e w' => e = .returned (.tuple #[.int .i64 (n : Int), .int .i64 (k : Int)]) ∧ w = w') (hk : k = 0) (w : World) :
    Calls Tryd.prog 89 #[.string s] w fun e' w' => e' = .returned (res (0, 0, false)) ∧ w = w' := by
  unfold maxLen at hs
  have HE := Lib.hid E; clear E
  have q45 : ((s[0].toNat : Int) == 45) = false := by rw [beq_eq_false_iff_ne]; omega
  clear h45
  subst hk
  go_enter Tryd.func89, Tryd.ntmps89
  go_wp2_with fail
  refine (HE.out _).mono ?_
  rintro _ w' ⟨rfl, rfl⟩
  go_wp2_with fail
  go_ret3
  exact ⟨rfl, rfl⟩

set_option maxHeartbeats 400000 in
theorem pref_pw (s : ByteArray) (n k : Nat) (a b e : Int) (hs : s.size ≤ maxLen) (h0 : 0 < s.size) (h45 : s[0].toNat ≠ 45)
    (E : ∀ w, Calls Tryd.prog 100 #[.string s] w fun e w' => e = .returned (.tuple #[.int .i64 (n : Int), .int .i64 (k : Int)]) ∧ w = w') (hk : 1 ≤ k) (hk10 : k ≤ 10) (hl : k = s.size)
    (hn : n < 10000000000) (hk2 : mk (n : Int) 1 = (a, b, e)) (w : World) :
    Calls Tryd.prog 89 #[.string s] w fun e' w' => e' = .returned (res (a, b, e == 0)) ∧ w = w' := by
  unfold maxLen at hs
  have HE := Lib.hid E; clear E
  have q45 : ((s[0].toNat : Int) == 45) = false := by rw [beq_eq_false_iff_ne]; omega
  clear h45
  have qk : ((k : Int) == 0) = false := by rw [beq_eq_false_iff_ne]; omega
  have hl2 : s.size ≤ k := by omega
  clear hl
  have HM := Lib.hid hk2; clear hk2
  go_enter Tryd.func89, Tryd.ntmps89
  go_wp2_with fail
  refine (HE.out _).mono ?_
  rintro _ w' ⟨rfl, rfl⟩
  go_wp2_with fail
  refine (makeRef_any (n : Int) 1 (a, b, e) HM.out _ (by omega) (by omega) (by omega) (by omega)).mono ?_
  rintro _ w' ⟨rfl, rfl⟩
  unfold three
  go_wp2_with fail
  go_ret3
  exact ⟨rfl, rfl⟩

set_option maxHeartbeats 400000 in
theorem pref_px (s : ByteArray) (n k : Nat) (hs : s.size ≤ maxLen) (h0 : 0 < s.size) (h45 : s[0].toNat ≠ 45)
    (E : ∀ w, Calls Tryd.prog 100 #[.string s] w fun e w' => e = .returned (.tuple #[.int .i64 (n : Int), .int .i64 (k : Int)]) ∧ w = w') (hk : 1 ≤ k) (hk10 : k ≤ 10) (hl : k < s.size) (h47 : s[k].toNat ≠ 47) (w : World) :
    Calls Tryd.prog 89 #[.string s] w fun e' w' => e' = .returned (res (0, 0, false)) ∧ w = w' := by
  unfold maxLen at hs
  have HE := Lib.hid E; clear E
  have q45 : ((s[0].toNat : Int) == 45) = false := by rw [beq_eq_false_iff_ne]; omega
  clear h45
  have qk : ((k : Int) == 0) = false := by rw [beq_eq_false_iff_ne]; omega
  have q47 : ((s[k].toNat : Int) == 47) = false := by rw [beq_eq_false_iff_ne]; omega
  clear h47
  go_enter Tryd.func89, Tryd.ntmps89
  go_wp2_with fail
  refine (HE.out _).mono ?_
  rintro _ w' ⟨rfl, rfl⟩
  go_wp2_with fail
  go_ret3
  exact ⟨rfl, rfl⟩

set_option maxHeartbeats 400000 in
theorem pref_pa (s v : ByteArray) (n k m j : Nat) (hs : s.size ≤ maxLen) (h0 : 0 < s.size) (h45 : s[0].toNat ≠ 45)
    (E : ∀ w, Calls Tryd.prog 100 #[.string s] w fun e w' => e = .returned (.tuple #[.int .i64 (n : Int), .int .i64 (k : Int)]) ∧ w = w') (hk : 1 ≤ k) (hk10 : k ≤ 10) (hl : k < s.size) (h47 : s[k].toNat = 47) (hv : s.extract (k + 1) s.size = v)
    (F : ∀ w, Calls Tryd.prog 100 #[.string v] w fun e w' => e = .returned (.tuple #[.int .i64 (m : Int), .int .i64 (j : Int)]) ∧ w = w') (hj : j = 0) (w : World) :
    Calls Tryd.prog 89 #[.string s] w fun e' w' => e' = .returned (res (0, 0, false)) ∧ w = w' := by
  unfold maxLen at hs
  have HE := Lib.hid E; clear E
  have HF := Lib.hid F; clear F
  have HV := Lib.hid hv; clear hv
  have q45 : ((s[0].toNat : Int) == 45) = false := by rw [beq_eq_false_iff_ne]; omega
  clear h45
  have qk : ((k : Int) == 0) = false := by rw [beq_eq_false_iff_ne]; omega
  have q47 : ((s[k].toNat : Int) == 47) = true := by rw [beq_iff_eq]; omega
  clear h47
  subst hj
  go_enter Tryd.func89, Tryd.ntmps89
  go_wp2_with fail
  refine (HE.out _).mono ?_
  rintro _ w' ⟨rfl, rfl⟩
  go_wp2_with fail
  rw [HV.out]
  refine (HF.out _).mono ?_
  rintro _ w' ⟨rfl, rfl⟩
  go_wp2_with fail
  go_ret3
  exact ⟨rfl, rfl⟩

set_option maxHeartbeats 400000 in
theorem pref_pb (s v : ByteArray) (n k m j : Nat) (hs : s.size ≤ maxLen) (h0 : 0 < s.size) (h45 : s[0].toNat ≠ 45)
    (E : ∀ w, Calls Tryd.prog 100 #[.string s] w fun e w' => e = .returned (.tuple #[.int .i64 (n : Int), .int .i64 (k : Int)]) ∧ w = w') (hk : 1 ≤ k) (hk10 : k ≤ 10) (hl : k < s.size) (h47 : s[k].toNat = 47) (hv : s.extract (k + 1) s.size = v)
    (F : ∀ w, Calls Tryd.prog 100 #[.string v] w fun e w' => e = .returned (.tuple #[.int .i64 (m : Int), .int .i64 (j : Int)]) ∧ w = w') (hj : 1 ≤ j) (hjl : j ≤ 10) (hm2 : k + 1 + j ≠ s.size) (w : World) :
    Calls Tryd.prog 89 #[.string s] w fun e' w' => e' = .returned (res (0, 0, false)) ∧ w = w' := by
  unfold maxLen at hs
  have HE := Lib.hid E; clear E
  have HF := Lib.hid F; clear F
  have HV := Lib.hid hv; clear hv
  have q45 : ((s[0].toNat : Int) == 45) = false := by rw [beq_eq_false_iff_ne]; omega
  clear h45
  have qk : ((k : Int) == 0) = false := by rw [beq_eq_false_iff_ne]; omega
  have q47 : ((s[k].toNat : Int) == 47) = true := by rw [beq_iff_eq]; omega
  clear h47
  have qj : ((j : Int) == 0) = false := by rw [beq_eq_false_iff_ne]; omega
  have qm : ((k : Int) + 1 + j != (s.size : Int)) = true := by rw [bne_iff_ne]; omega
  clear hm2
  go_enter Tryd.func89, Tryd.ntmps89
  go_wp2_with fail
  refine (HE.out _).mono ?_
  rintro _ w' ⟨rfl, rfl⟩
  go_wp2_with fail
  rw [HV.out]
  refine (HF.out _).mono ?_
  rintro _ w' ⟨rfl, rfl⟩
  go_wp2_with fail
  go_ret3
  exact ⟨rfl, rfl⟩

set_option maxHeartbeats 400000 in
theorem pref_py (s v : ByteArray) (n k m j : Nat) (a b e : Int) (hs : s.size ≤ maxLen) (h0 : 0 < s.size) (h45 : s[0].toNat ≠ 45)
    (E : ∀ w, Calls Tryd.prog 100 #[.string s] w fun e w' => e = .returned (.tuple #[.int .i64 (n : Int), .int .i64 (k : Int)]) ∧ w = w') (hk : 1 ≤ k) (hk10 : k ≤ 10) (hl : k < s.size) (h47 : s[k].toNat = 47) (hv : s.extract (k + 1) s.size = v)
    (F : ∀ w, Calls Tryd.prog 100 #[.string v] w fun e w' => e = .returned (.tuple #[.int .i64 (m : Int), .int .i64 (j : Int)]) ∧ w = w') (hj : 1 ≤ j) (hjl : j ≤ 10) (hm2 : k + 1 + j = s.size)
    (hn : n < 10000000000) (hm : m < 10000000000) (hk2 : mk (n : Int) (m : Int) = (a, b, e)) (w : World) :
    Calls Tryd.prog 89 #[.string s] w fun e' w' => e' = .returned (res (a, b, e == 0)) ∧ w = w' := by
  unfold maxLen at hs
  have HE := Lib.hid E; clear E
  have HF := Lib.hid F; clear F
  have HV := Lib.hid hv; clear hv
  have q45 : ((s[0].toNat : Int) == 45) = false := by rw [beq_eq_false_iff_ne]; omega
  clear h45
  have qk : ((k : Int) == 0) = false := by rw [beq_eq_false_iff_ne]; omega
  have q47 : ((s[k].toNat : Int) == 47) = true := by rw [beq_iff_eq]; omega
  clear h47
  have qj : ((j : Int) == 0) = false := by rw [beq_eq_false_iff_ne]; omega
  have qm : ((k : Int) + 1 + j != (s.size : Int)) = false := by rw [bne_eq_false_iff_eq]; omega
  clear hm2
  have HM := Lib.hid hk2; clear hk2
  go_enter Tryd.func89, Tryd.ntmps89
  go_wp2_with fail
  refine (HE.out _).mono ?_
  rintro _ w' ⟨rfl, rfl⟩
  go_wp2_with fail
  rw [HV.out]
  refine (HF.out _).mono ?_
  rintro _ w' ⟨rfl, rfl⟩
  go_wp2_with fail
  refine (makeRef_any (n : Int) (m : Int) (a, b, e) HM.out _ (by omega) (by omega) (by omega) (by omega)).mono ?_
  rintro _ w' ⟨rfl, rfl⟩
  unfold three
  go_wp2_with fail
  go_ret3
  exact ⟨rfl, rfl⟩

set_option maxHeartbeats 400000 in
theorem pref_nz (s r : ByteArray) (n k : Nat) (hs : s.size ≤ maxLen) (h0 : 0 < s.size) (h45 : s[0].toNat = 45) (hr : s.extract 1 s.size = r) (hrs : r.size ≤ maxLen)
    (E : ∀ w, Calls Tryd.prog 100 #[.string r] w fun e w' => e = .returned (.tuple #[.int .i64 (n : Int), .int .i64 (k : Int)]) ∧ w = w') (hk : k = 0) (w : World) :
    Calls Tryd.prog 89 #[.string s] w fun e' w' => e' = .returned (res (0, 0, false)) ∧ w = w' := by
  unfold maxLen at hs
  unfold maxLen at hrs
  have HE := Lib.hid E; clear E
  have HR := Lib.hid hr; clear hr
  have q45 : ((s[0].toNat : Int) == 45) = true := by rw [beq_iff_eq]; omega
  clear h45
  subst hk
  go_enter Tryd.func89, Tryd.ntmps89
  go_wp2_with fail
  rw [HR.out]
  refine (HE.out _).mono ?_
  rintro _ w' ⟨rfl, rfl⟩
  go_wp2_with fail
  go_ret3
  exact ⟨rfl, rfl⟩

set_option maxHeartbeats 400000 in
theorem pref_nw (s r : ByteArray) (n k : Nat) (a b e : Int) (hs : s.size ≤ maxLen) (h0 : 0 < s.size) (h45 : s[0].toNat = 45) (hr : s.extract 1 s.size = r) (hrs : r.size ≤ maxLen)
    (E : ∀ w, Calls Tryd.prog 100 #[.string r] w fun e w' => e = .returned (.tuple #[.int .i64 (n : Int), .int .i64 (k : Int)]) ∧ w = w') (hk : 1 ≤ k) (hk10 : k ≤ 10) (hl : k = r.size)
    (hn : n < 10000000000) (hk2 : mk (-(n : Int)) 1 = (a, b, e)) (w : World) :
    Calls Tryd.prog 89 #[.string s] w fun e' w' => e' = .returned (res (a, b, e == 0)) ∧ w = w' := by
  unfold maxLen at hs
  unfold maxLen at hrs
  have HE := Lib.hid E; clear E
  have HR := Lib.hid hr; clear hr
  have q45 : ((s[0].toNat : Int) == 45) = true := by rw [beq_iff_eq]; omega
  clear h45
  have qk : ((k : Int) == 0) = false := by rw [beq_eq_false_iff_ne]; omega
  have hl2 : r.size ≤ k := by omega
  clear hl
  have HM := Lib.hid hk2; clear hk2
  go_enter Tryd.func89, Tryd.ntmps89
  go_wp2_with fail
  rw [HR.out]
  refine (HE.out _).mono ?_
  rintro _ w' ⟨rfl, rfl⟩
  go_wp2_with fail
  refine (makeRef_any (-(n : Int)) 1 (a, b, e) HM.out _ (by omega) (by omega) (by omega) (by omega)).mono ?_
  rintro _ w' ⟨rfl, rfl⟩
  unfold three
  go_wp2_with fail
  go_ret3
  exact ⟨rfl, rfl⟩

set_option maxHeartbeats 400000 in
theorem pref_nx (s r : ByteArray) (n k : Nat) (hs : s.size ≤ maxLen) (h0 : 0 < s.size) (h45 : s[0].toNat = 45) (hr : s.extract 1 s.size = r) (hrs : r.size ≤ maxLen)
    (E : ∀ w, Calls Tryd.prog 100 #[.string r] w fun e w' => e = .returned (.tuple #[.int .i64 (n : Int), .int .i64 (k : Int)]) ∧ w = w') (hk : 1 ≤ k) (hk10 : k ≤ 10) (hl : k < r.size) (h47 : r[k].toNat ≠ 47) (w : World) :
    Calls Tryd.prog 89 #[.string s] w fun e' w' => e' = .returned (res (0, 0, false)) ∧ w = w' := by
  unfold maxLen at hs
  unfold maxLen at hrs
  have HE := Lib.hid E; clear E
  have HR := Lib.hid hr; clear hr
  have q45 : ((s[0].toNat : Int) == 45) = true := by rw [beq_iff_eq]; omega
  clear h45
  have qk : ((k : Int) == 0) = false := by rw [beq_eq_false_iff_ne]; omega
  have q47 : ((r[k].toNat : Int) == 47) = false := by rw [beq_eq_false_iff_ne]; omega
  clear h47
  go_enter Tryd.func89, Tryd.ntmps89
  go_wp2_with fail
  rw [HR.out]
  refine (HE.out _).mono ?_
  rintro _ w' ⟨rfl, rfl⟩
  go_wp2_with fail
  go_ret3
  exact ⟨rfl, rfl⟩

set_option maxHeartbeats 400000 in
theorem pref_na (s r v : ByteArray) (n k m j : Nat) (hs : s.size ≤ maxLen) (h0 : 0 < s.size) (h45 : s[0].toNat = 45) (hr : s.extract 1 s.size = r) (hrs : r.size ≤ maxLen)
    (E : ∀ w, Calls Tryd.prog 100 #[.string r] w fun e w' => e = .returned (.tuple #[.int .i64 (n : Int), .int .i64 (k : Int)]) ∧ w = w') (hk : 1 ≤ k) (hk10 : k ≤ 10) (hl : k < r.size) (h47 : r[k].toNat = 47) (hv : r.extract (k + 1) r.size = v)
    (F : ∀ w, Calls Tryd.prog 100 #[.string v] w fun e w' => e = .returned (.tuple #[.int .i64 (m : Int), .int .i64 (j : Int)]) ∧ w = w') (hj : j = 0) (w : World) :
    Calls Tryd.prog 89 #[.string s] w fun e' w' => e' = .returned (res (0, 0, false)) ∧ w = w' := by
  unfold maxLen at hs
  unfold maxLen at hrs
  have HE := Lib.hid E; clear E
  have HF := Lib.hid F; clear F
  have HV := Lib.hid hv; clear hv
  have HR := Lib.hid hr; clear hr
  have q45 : ((s[0].toNat : Int) == 45) = true := by rw [beq_iff_eq]; omega
  clear h45
  have qk : ((k : Int) == 0) = false := by rw [beq_eq_false_iff_ne]; omega
  have q47 : ((r[k].toNat : Int) == 47) = true := by rw [beq_iff_eq]; omega
  clear h47
  subst hj
  go_enter Tryd.func89, Tryd.ntmps89
  go_wp2_with fail
  rw [HR.out]
  refine (HE.out _).mono ?_
  rintro _ w' ⟨rfl, rfl⟩
  go_wp2_with fail
  rw [HV.out]
  refine (HF.out _).mono ?_
  rintro _ w' ⟨rfl, rfl⟩
  go_wp2_with fail
  go_ret3
  exact ⟨rfl, rfl⟩

set_option maxHeartbeats 400000 in
theorem pref_nb (s r v : ByteArray) (n k m j : Nat) (hs : s.size ≤ maxLen) (h0 : 0 < s.size) (h45 : s[0].toNat = 45) (hr : s.extract 1 s.size = r) (hrs : r.size ≤ maxLen)
    (E : ∀ w, Calls Tryd.prog 100 #[.string r] w fun e w' => e = .returned (.tuple #[.int .i64 (n : Int), .int .i64 (k : Int)]) ∧ w = w') (hk : 1 ≤ k) (hk10 : k ≤ 10) (hl : k < r.size) (h47 : r[k].toNat = 47) (hv : r.extract (k + 1) r.size = v)
    (F : ∀ w, Calls Tryd.prog 100 #[.string v] w fun e w' => e = .returned (.tuple #[.int .i64 (m : Int), .int .i64 (j : Int)]) ∧ w = w') (hj : 1 ≤ j) (hjl : j ≤ 10) (hm2 : k + 1 + j ≠ r.size) (w : World) :
    Calls Tryd.prog 89 #[.string s] w fun e' w' => e' = .returned (res (0, 0, false)) ∧ w = w' := by
  unfold maxLen at hs
  unfold maxLen at hrs
  have HE := Lib.hid E; clear E
  have HF := Lib.hid F; clear F
  have HV := Lib.hid hv; clear hv
  have HR := Lib.hid hr; clear hr
  have q45 : ((s[0].toNat : Int) == 45) = true := by rw [beq_iff_eq]; omega
  clear h45
  have qk : ((k : Int) == 0) = false := by rw [beq_eq_false_iff_ne]; omega
  have q47 : ((r[k].toNat : Int) == 47) = true := by rw [beq_iff_eq]; omega
  clear h47
  have qj : ((j : Int) == 0) = false := by rw [beq_eq_false_iff_ne]; omega
  have qm : ((k : Int) + 1 + j != (r.size : Int)) = true := by rw [bne_iff_ne]; omega
  clear hm2
  go_enter Tryd.func89, Tryd.ntmps89
  go_wp2_with fail
  rw [HR.out]
  refine (HE.out _).mono ?_
  rintro _ w' ⟨rfl, rfl⟩
  go_wp2_with fail
  rw [HV.out]
  refine (HF.out _).mono ?_
  rintro _ w' ⟨rfl, rfl⟩
  go_wp2_with fail
  go_ret3
  exact ⟨rfl, rfl⟩

set_option maxHeartbeats 400000 in
theorem pref_ny (s r v : ByteArray) (n k m j : Nat) (a b e : Int) (hs : s.size ≤ maxLen) (h0 : 0 < s.size) (h45 : s[0].toNat = 45) (hr : s.extract 1 s.size = r) (hrs : r.size ≤ maxLen)
    (E : ∀ w, Calls Tryd.prog 100 #[.string r] w fun e w' => e = .returned (.tuple #[.int .i64 (n : Int), .int .i64 (k : Int)]) ∧ w = w') (hk : 1 ≤ k) (hk10 : k ≤ 10) (hl : k < r.size) (h47 : r[k].toNat = 47) (hv : r.extract (k + 1) r.size = v)
    (F : ∀ w, Calls Tryd.prog 100 #[.string v] w fun e w' => e = .returned (.tuple #[.int .i64 (m : Int), .int .i64 (j : Int)]) ∧ w = w') (hj : 1 ≤ j) (hjl : j ≤ 10) (hm2 : k + 1 + j = r.size)
    (hn : n < 10000000000) (hm : m < 10000000000) (hk2 : mk (-(n : Int)) (m : Int) = (a, b, e)) (w : World) :
    Calls Tryd.prog 89 #[.string s] w fun e' w' => e' = .returned (res (a, b, e == 0)) ∧ w = w' := by
  unfold maxLen at hs
  unfold maxLen at hrs
  have HE := Lib.hid E; clear E
  have HF := Lib.hid F; clear F
  have HV := Lib.hid hv; clear hv
  have HR := Lib.hid hr; clear hr
  have q45 : ((s[0].toNat : Int) == 45) = true := by rw [beq_iff_eq]; omega
  clear h45
  have qk : ((k : Int) == 0) = false := by rw [beq_eq_false_iff_ne]; omega
  have q47 : ((r[k].toNat : Int) == 47) = true := by rw [beq_iff_eq]; omega
  clear h47
  have qj : ((j : Int) == 0) = false := by rw [beq_eq_false_iff_ne]; omega
  have qm : ((k : Int) + 1 + j != (r.size : Int)) = false := by rw [bne_eq_false_iff_eq]; omega
  clear hm2
  have HM := Lib.hid hk2; clear hk2
  go_enter Tryd.func89, Tryd.ntmps89
  go_wp2_with fail
  rw [HR.out]
  refine (HE.out _).mono ?_
  rintro _ w' ⟨rfl, rfl⟩
  go_wp2_with fail
  rw [HV.out]
  refine (HF.out _).mono ?_
  rintro _ w' ⟨rfl, rfl⟩
  go_wp2_with fail
  refine (makeRef_any (-(n : Int)) (m : Int) (a, b, e) HM.out _ (by omega) (by omega) (by omega) (by omega)).mono ?_
  rintro _ w' ⟨rfl, rfl⟩
  unfold three
  go_wp2_with fail
  go_ret3
  exact ⟨rfl, rfl⟩

end Go.Proofs.YtabofebepefbgaaDoor
