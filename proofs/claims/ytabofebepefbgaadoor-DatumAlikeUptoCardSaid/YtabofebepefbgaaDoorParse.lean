/- num.Parse at every string. -/
import Derived.Test.YtabofebepefbgaaDoorCut
import Derived.Test.YtabofebepefbgaaDoorBody
import Derived.Lib.IndexBytes
namespace Go.Proofs.YtabofebepefbgaaDoor
open Go.RowKit NumPlain

/-- What Parse answers, as a value. -/
def res (t : Int × Int × Bool) : Value := .tuple #[.int .i64 t.1, .int .i64 t.2.1, .bool t.2.2]
/-- What Parse answers of what stands behind the sign. -/
def outL (neg : Bool) (l : List UInt8) : Int × Int × Bool :=
  match bodyL l with
  | none => (0, 0, false)
  | some (n, d) => ((mk (if neg then -(n : Int) else n) d).1, (mk (if neg then -(n : Int) else n) d).2.1, (mk (if neg then -(n : Int) else n) d).2.2 == 0)

/-- digits, by what it answers. -/
theorem digits_is (s : ByteArray) (hs : s.size ≤ maxLen) (n : Nat) (ok : Bool) (h : digitsL s.data.toList = (n, ok)) :
    ∀ w, Calls Tryd.prog 74 #[.string s] w fun e w' => e = .returned (.tuple #[.int .i64 (n : Int), .bool ok]) ∧ w = w' := by
  intro w
  have := digits_any s w hs
  rw [h] at this; exact this
theorem sign_bound {n : Nat} (h : n < 10000000000) (neg : Bool) : -10000000000 < (if neg then -(n : Int) else n) ∧ (if neg then -(n : Int) else (n : Int)) < 10000000000 := by
  cases neg <;> simp <;> omega

set_option maxHeartbeats 400000 in
theorem parse_pwn (s r u v : ByteArray) (n : Nat)
    (C : ∀ w, Calls Tryd.prog 72 #[.string s, .string ⟨#[45]⟩] w fun e w' => e = .returned (.tuple #[.string r, .bool false]) ∧ w' = w)
    (D : ∀ w, Calls Tryd.prog 73 #[.string r, .string ⟨#[47]⟩] w fun e w' => e = .returned (.tuple #[.string u, .string v, .bool false]) ∧ ∃ k, w' = w.drewN k)
    (E : ∀ w, Calls Tryd.prog 74 #[.string u] w fun e w' => e = .returned (.tuple #[.int .i64 (n : Int), .bool false]) ∧ w = w') (w : World) :
    Calls Tryd.prog 52 #[.string s] w fun e' w' => e' = .returned (res (0, 0, false)) ∧ ∃ k, w' = w.drewN k := by
  have HS := Lib.hid C; clear C
  have HC := Lib.hid D; clear D
  have HT := Lib.hid E; clear E
  go_enter Tryd.func52, Tryd.ntmps52
  go_wp2_with fail
  refine (HS.out _).mono ?_
  rintro _ w' ⟨rfl, rfl⟩
  go_wp2_with fail
  refine (HC.out _).mono ?_
  rintro _ w' ⟨rfl, k1, rfl⟩
  go_wp2_with fail
  refine (HT.out _).mono ?_
  rintro _ w' ⟨rfl, rfl⟩
  go_wp2_with fail
  go_ret3
  exact ⟨rfl, _, rfl⟩

set_option maxHeartbeats 400000 in
theorem parse_pwy (s r u v : ByteArray) (n : Nat) (a b e : Int)
    (C : ∀ w, Calls Tryd.prog 72 #[.string s, .string ⟨#[45]⟩] w fun e w' => e = .returned (.tuple #[.string r, .bool false]) ∧ w' = w)
    (D : ∀ w, Calls Tryd.prog 73 #[.string r, .string ⟨#[47]⟩] w fun e w' => e = .returned (.tuple #[.string u, .string v, .bool false]) ∧ ∃ k, w' = w.drewN k)
    (E : ∀ w, Calls Tryd.prog 74 #[.string u] w fun e w' => e = .returned (.tuple #[.int .i64 (n : Int), .bool true]) ∧ w = w')
    (hn : n < 10000000000) (hk : mk (n : Int) 1 = (a, b, e)) (w : World) :
    Calls Tryd.prog 52 #[.string s] w fun e' w' => e' = .returned (res (a, b, e == 0)) ∧ ∃ k, w' = w.drewN k := by
  have HS := Lib.hid C; clear C
  have HC := Lib.hid D; clear D
  have HT := Lib.hid E; clear E
  have HM := Lib.hid hk; clear hk
  go_enter Tryd.func52, Tryd.ntmps52
  go_wp2_with fail
  refine (HS.out _).mono ?_
  rintro _ w' ⟨rfl, rfl⟩
  go_wp2_with fail
  refine (HC.out _).mono ?_
  rintro _ w' ⟨rfl, k1, rfl⟩
  go_wp2_with fail
  refine (HT.out _).mono ?_
  rintro _ w' ⟨rfl, rfl⟩
  go_wp2_with fail
  refine (make_any (n : Int) 1 (a, b, e) HM.out _ (by omega) (by omega) (by omega) (by omega)).mono ?_
  rintro _ w' ⟨rfl, k2, rfl⟩
  unfold three
  go_wp2_with fail
  go_ret3
  exact ⟨rfl, _, rfl⟩

set_option maxHeartbeats 400000 in
theorem parse_pcn (s r u v : ByteArray) (n : Nat)
    (C : ∀ w, Calls Tryd.prog 72 #[.string s, .string ⟨#[45]⟩] w fun e w' => e = .returned (.tuple #[.string r, .bool false]) ∧ w' = w)
    (D : ∀ w, Calls Tryd.prog 73 #[.string r, .string ⟨#[47]⟩] w fun e w' => e = .returned (.tuple #[.string u, .string v, .bool true]) ∧ ∃ k, w' = w.drewN k)
    (E : ∀ w, Calls Tryd.prog 74 #[.string u] w fun e w' => e = .returned (.tuple #[.int .i64 (n : Int), .bool false]) ∧ w = w') (w : World) :
    Calls Tryd.prog 52 #[.string s] w fun e' w' => e' = .returned (res (0, 0, false)) ∧ ∃ k, w' = w.drewN k := by
  have HS := Lib.hid C; clear C
  have HC := Lib.hid D; clear D
  have HT := Lib.hid E; clear E
  go_enter Tryd.func52, Tryd.ntmps52
  go_wp2_with fail
  refine (HS.out _).mono ?_
  rintro _ w' ⟨rfl, rfl⟩
  go_wp2_with fail
  refine (HC.out _).mono ?_
  rintro _ w' ⟨rfl, k1, rfl⟩
  go_wp2_with fail
  refine (HT.out _).mono ?_
  rintro _ w' ⟨rfl, rfl⟩
  go_wp2_with fail
  go_ret3
  exact ⟨rfl, _, rfl⟩

set_option maxHeartbeats 400000 in
theorem parse_pcyn (s r u v : ByteArray) (n m : Nat)
    (C : ∀ w, Calls Tryd.prog 72 #[.string s, .string ⟨#[45]⟩] w fun e w' => e = .returned (.tuple #[.string r, .bool false]) ∧ w' = w)
    (D : ∀ w, Calls Tryd.prog 73 #[.string r, .string ⟨#[47]⟩] w fun e w' => e = .returned (.tuple #[.string u, .string v, .bool true]) ∧ ∃ k, w' = w.drewN k)
    (E : ∀ w, Calls Tryd.prog 74 #[.string u] w fun e w' => e = .returned (.tuple #[.int .i64 (n : Int), .bool true]) ∧ w = w')
    (F : ∀ w, Calls Tryd.prog 74 #[.string v] w fun e w' => e = .returned (.tuple #[.int .i64 (m : Int), .bool false]) ∧ w = w') (w : World) :
    Calls Tryd.prog 52 #[.string s] w fun e' w' => e' = .returned (res (0, 0, false)) ∧ ∃ k, w' = w.drewN k := by
  have HS := Lib.hid C; clear C
  have HC := Lib.hid D; clear D
  have HT := Lib.hid E; clear E
  have HB := Lib.hid F; clear F
  go_enter Tryd.func52, Tryd.ntmps52
  go_wp2_with fail
  refine (HS.out _).mono ?_
  rintro _ w' ⟨rfl, rfl⟩
  go_wp2_with fail
  refine (HC.out _).mono ?_
  rintro _ w' ⟨rfl, k1, rfl⟩
  go_wp2_with fail
  refine (HT.out _).mono ?_
  rintro _ w' ⟨rfl, rfl⟩
  go_wp2_with fail
  refine (HB.out _).mono ?_
  rintro _ w' ⟨rfl, rfl⟩
  go_wp2_with fail
  go_ret3
  exact ⟨rfl, _, rfl⟩

set_option maxHeartbeats 400000 in
theorem parse_pcyy (s r u v : ByteArray) (n m : Nat) (a b e : Int)
    (C : ∀ w, Calls Tryd.prog 72 #[.string s, .string ⟨#[45]⟩] w fun e w' => e = .returned (.tuple #[.string r, .bool false]) ∧ w' = w)
    (D : ∀ w, Calls Tryd.prog 73 #[.string r, .string ⟨#[47]⟩] w fun e w' => e = .returned (.tuple #[.string u, .string v, .bool true]) ∧ ∃ k, w' = w.drewN k)
    (E : ∀ w, Calls Tryd.prog 74 #[.string u] w fun e w' => e = .returned (.tuple #[.int .i64 (n : Int), .bool true]) ∧ w = w')
    (F : ∀ w, Calls Tryd.prog 74 #[.string v] w fun e w' => e = .returned (.tuple #[.int .i64 (m : Int), .bool true]) ∧ w = w')
    (hn : n < 10000000000) (hm : m < 10000000000) (hk : mk (n : Int) (m : Int) = (a, b, e)) (w : World) :
    Calls Tryd.prog 52 #[.string s] w fun e' w' => e' = .returned (res (a, b, e == 0)) ∧ ∃ k, w' = w.drewN k := by
  have HS := Lib.hid C; clear C
  have HC := Lib.hid D; clear D
  have HT := Lib.hid E; clear E
  have HB := Lib.hid F; clear F
  have HM := Lib.hid hk; clear hk
  go_enter Tryd.func52, Tryd.ntmps52
  go_wp2_with fail
  refine (HS.out _).mono ?_
  rintro _ w' ⟨rfl, rfl⟩
  go_wp2_with fail
  refine (HC.out _).mono ?_
  rintro _ w' ⟨rfl, k1, rfl⟩
  go_wp2_with fail
  refine (HT.out _).mono ?_
  rintro _ w' ⟨rfl, rfl⟩
  go_wp2_with fail
  refine (HB.out _).mono ?_
  rintro _ w' ⟨rfl, rfl⟩
  go_wp2_with fail
  refine (make_any (n : Int) (m : Int) (a, b, e) HM.out _ (by omega) (by omega) (by omega) (by omega)).mono ?_
  rintro _ w' ⟨rfl, k2, rfl⟩
  unfold three
  go_wp2_with fail
  go_ret3
  exact ⟨rfl, _, rfl⟩

set_option maxHeartbeats 400000 in
theorem parse_nwn (s r u v : ByteArray) (n : Nat)
    (C : ∀ w, Calls Tryd.prog 72 #[.string s, .string ⟨#[45]⟩] w fun e w' => e = .returned (.tuple #[.string r, .bool true]) ∧ w' = w)
    (D : ∀ w, Calls Tryd.prog 73 #[.string r, .string ⟨#[47]⟩] w fun e w' => e = .returned (.tuple #[.string u, .string v, .bool false]) ∧ ∃ k, w' = w.drewN k)
    (E : ∀ w, Calls Tryd.prog 74 #[.string u] w fun e w' => e = .returned (.tuple #[.int .i64 (n : Int), .bool false]) ∧ w = w') (w : World) :
    Calls Tryd.prog 52 #[.string s] w fun e' w' => e' = .returned (res (0, 0, false)) ∧ ∃ k, w' = w.drewN k := by
  have HS := Lib.hid C; clear C
  have HC := Lib.hid D; clear D
  have HT := Lib.hid E; clear E
  go_enter Tryd.func52, Tryd.ntmps52
  go_wp2_with fail
  refine (HS.out _).mono ?_
  rintro _ w' ⟨rfl, rfl⟩
  go_wp2_with fail
  refine (HC.out _).mono ?_
  rintro _ w' ⟨rfl, k1, rfl⟩
  go_wp2_with fail
  refine (HT.out _).mono ?_
  rintro _ w' ⟨rfl, rfl⟩
  go_wp2_with fail
  go_ret3
  exact ⟨rfl, _, rfl⟩

set_option maxHeartbeats 400000 in
theorem parse_nwy (s r u v : ByteArray) (n : Nat) (a b e : Int)
    (C : ∀ w, Calls Tryd.prog 72 #[.string s, .string ⟨#[45]⟩] w fun e w' => e = .returned (.tuple #[.string r, .bool true]) ∧ w' = w)
    (D : ∀ w, Calls Tryd.prog 73 #[.string r, .string ⟨#[47]⟩] w fun e w' => e = .returned (.tuple #[.string u, .string v, .bool false]) ∧ ∃ k, w' = w.drewN k)
    (E : ∀ w, Calls Tryd.prog 74 #[.string u] w fun e w' => e = .returned (.tuple #[.int .i64 (n : Int), .bool true]) ∧ w = w')
    (hn : n < 10000000000) (hk : mk (-(n : Int)) 1 = (a, b, e)) (w : World) :
    Calls Tryd.prog 52 #[.string s] w fun e' w' => e' = .returned (res (a, b, e == 0)) ∧ ∃ k, w' = w.drewN k := by
  have HS := Lib.hid C; clear C
  have HC := Lib.hid D; clear D
  have HT := Lib.hid E; clear E
  have HM := Lib.hid hk; clear hk
  go_enter Tryd.func52, Tryd.ntmps52
  go_wp2_with fail
  refine (HS.out _).mono ?_
  rintro _ w' ⟨rfl, rfl⟩
  go_wp2_with fail
  refine (HC.out _).mono ?_
  rintro _ w' ⟨rfl, k1, rfl⟩
  go_wp2_with fail
  refine (HT.out _).mono ?_
  rintro _ w' ⟨rfl, rfl⟩
  go_wp2_with fail
  refine (make_any (-(n : Int)) 1 (a, b, e) HM.out _ (by omega) (by omega) (by omega) (by omega)).mono ?_
  rintro _ w' ⟨rfl, k2, rfl⟩
  unfold three
  go_wp2_with fail
  go_ret3
  exact ⟨rfl, _, rfl⟩

set_option maxHeartbeats 400000 in
theorem parse_ncn (s r u v : ByteArray) (n : Nat)
    (C : ∀ w, Calls Tryd.prog 72 #[.string s, .string ⟨#[45]⟩] w fun e w' => e = .returned (.tuple #[.string r, .bool true]) ∧ w' = w)
    (D : ∀ w, Calls Tryd.prog 73 #[.string r, .string ⟨#[47]⟩] w fun e w' => e = .returned (.tuple #[.string u, .string v, .bool true]) ∧ ∃ k, w' = w.drewN k)
    (E : ∀ w, Calls Tryd.prog 74 #[.string u] w fun e w' => e = .returned (.tuple #[.int .i64 (n : Int), .bool false]) ∧ w = w') (w : World) :
    Calls Tryd.prog 52 #[.string s] w fun e' w' => e' = .returned (res (0, 0, false)) ∧ ∃ k, w' = w.drewN k := by
  have HS := Lib.hid C; clear C
  have HC := Lib.hid D; clear D
  have HT := Lib.hid E; clear E
  go_enter Tryd.func52, Tryd.ntmps52
  go_wp2_with fail
  refine (HS.out _).mono ?_
  rintro _ w' ⟨rfl, rfl⟩
  go_wp2_with fail
  refine (HC.out _).mono ?_
  rintro _ w' ⟨rfl, k1, rfl⟩
  go_wp2_with fail
  refine (HT.out _).mono ?_
  rintro _ w' ⟨rfl, rfl⟩
  go_wp2_with fail
  go_ret3
  exact ⟨rfl, _, rfl⟩

set_option maxHeartbeats 400000 in
theorem parse_ncyn (s r u v : ByteArray) (n m : Nat)
    (C : ∀ w, Calls Tryd.prog 72 #[.string s, .string ⟨#[45]⟩] w fun e w' => e = .returned (.tuple #[.string r, .bool true]) ∧ w' = w)
    (D : ∀ w, Calls Tryd.prog 73 #[.string r, .string ⟨#[47]⟩] w fun e w' => e = .returned (.tuple #[.string u, .string v, .bool true]) ∧ ∃ k, w' = w.drewN k)
    (E : ∀ w, Calls Tryd.prog 74 #[.string u] w fun e w' => e = .returned (.tuple #[.int .i64 (n : Int), .bool true]) ∧ w = w')
    (F : ∀ w, Calls Tryd.prog 74 #[.string v] w fun e w' => e = .returned (.tuple #[.int .i64 (m : Int), .bool false]) ∧ w = w') (w : World) :
    Calls Tryd.prog 52 #[.string s] w fun e' w' => e' = .returned (res (0, 0, false)) ∧ ∃ k, w' = w.drewN k := by
  have HS := Lib.hid C; clear C
  have HC := Lib.hid D; clear D
  have HT := Lib.hid E; clear E
  have HB := Lib.hid F; clear F
  go_enter Tryd.func52, Tryd.ntmps52
  go_wp2_with fail
  refine (HS.out _).mono ?_
  rintro _ w' ⟨rfl, rfl⟩
  go_wp2_with fail
  refine (HC.out _).mono ?_
  rintro _ w' ⟨rfl, k1, rfl⟩
  go_wp2_with fail
  refine (HT.out _).mono ?_
  rintro _ w' ⟨rfl, rfl⟩
  go_wp2_with fail
  refine (HB.out _).mono ?_
  rintro _ w' ⟨rfl, rfl⟩
  go_wp2_with fail
  go_ret3
  exact ⟨rfl, _, rfl⟩

set_option maxHeartbeats 400000 in
theorem parse_ncyy (s r u v : ByteArray) (n m : Nat) (a b e : Int)
    (C : ∀ w, Calls Tryd.prog 72 #[.string s, .string ⟨#[45]⟩] w fun e w' => e = .returned (.tuple #[.string r, .bool true]) ∧ w' = w)
    (D : ∀ w, Calls Tryd.prog 73 #[.string r, .string ⟨#[47]⟩] w fun e w' => e = .returned (.tuple #[.string u, .string v, .bool true]) ∧ ∃ k, w' = w.drewN k)
    (E : ∀ w, Calls Tryd.prog 74 #[.string u] w fun e w' => e = .returned (.tuple #[.int .i64 (n : Int), .bool true]) ∧ w = w')
    (F : ∀ w, Calls Tryd.prog 74 #[.string v] w fun e w' => e = .returned (.tuple #[.int .i64 (m : Int), .bool true]) ∧ w = w')
    (hn : n < 10000000000) (hm : m < 10000000000) (hk : mk (-(n : Int)) (m : Int) = (a, b, e)) (w : World) :
    Calls Tryd.prog 52 #[.string s] w fun e' w' => e' = .returned (res (a, b, e == 0)) ∧ ∃ k, w' = w.drewN k := by
  have HS := Lib.hid C; clear C
  have HC := Lib.hid D; clear D
  have HT := Lib.hid E; clear E
  have HB := Lib.hid F; clear F
  have HM := Lib.hid hk; clear hk
  go_enter Tryd.func52, Tryd.ntmps52
  go_wp2_with fail
  refine (HS.out _).mono ?_
  rintro _ w' ⟨rfl, rfl⟩
  go_wp2_with fail
  refine (HC.out _).mono ?_
  rintro _ w' ⟨rfl, k1, rfl⟩
  go_wp2_with fail
  refine (HT.out _).mono ?_
  rintro _ w' ⟨rfl, rfl⟩
  go_wp2_with fail
  refine (HB.out _).mono ?_
  rintro _ w' ⟨rfl, rfl⟩
  go_wp2_with fail
  refine (make_any (-(n : Int)) (m : Int) (a, b, e) HM.out _ (by omega) (by omega) (by omega) (by omega)).mono ?_
  rintro _ w' ⟨rfl, k2, rfl⟩
  unfold three
  go_wp2_with fail
  go_ret3
  exact ⟨rfl, _, rfl⟩

end Go.Proofs.YtabofebepefbgaaDoor
