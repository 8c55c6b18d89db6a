/- What is asked of a datum itself. -/
import Derived.Test.YtdeelpagoffdjaaDatH
import Derived.Lib.Strings
namespace Go.Proofs.Ytdeelpagoffdjaa.Dat
open Go.RowKit

/-- The marks that a name may hold. -/
def markB : ByteArray := ⟨#[45, 43, 42, 47, 60, 62, 61, 33, 63, 95, 37]⟩
def plainChar (c : UInt8) : Bool := (decide (97 ≤ c.toNat) && decide (c.toNat ≤ 122)) || (decide (48 ≤ c.toNat) && decide (c.toNat ≤ 57))
def nameChar (c : UInt8) : Bool := plainChar c || markB.data.toList.any (fun m => c == m)
theorem mark_size : markB.size = 11 := rfl
theorem at_some (s : ByteArray) (k : Nat) (h : k < s.size) : s.data.toList[k]? = some s[k] := by
  have : s[k] = s.data[k]'h := rfl
  rw [this]; simp
theorem take_snoc (s : ByteArray) (k : Nat) (h : k < s.size) : s.data.toList.take (k + 1) = s.data.toList.take k ++ [s[k]] := by
  rw [List.take_succ_eq_append_getElem (by simpa using h)]; rfl
def strChar (c : UInt8) : Bool := decide (32 ≤ c.toNat) && decide (c.toNat ≤ 126) && decide (c.toNat ≠ 34) && decide (c.toNat ≠ 92)
/-- What is asked of a datum itself, its parts aside. -/
def headRight (R : Int → Int → Bool) (Nm : ByteArray → Bool) (k n d : Int) (s : ByteArray) (len : Nat) : Bool :=
  decide (0 ≤ k) && decide (k ≤ 7) && (if k = 0 then R n d else decide (d = 0)) && (if k = 0 then true else if k = 1 then decide (n = 0) || decide (n = 1) else decide (n = 0)) &&
    (if k = 2 then Nm s else if k = 3 then true else decide (s.size = 0)) && s.data.toList.all strChar && (if k = 6 then decide (len = 2) else if k = 7 then true else decide (len = 0))
mutual
def Dt.right (R : Int → Int → Bool) (Nm : ByteArray → Bool) : Dt → Nat → Bool
  | .node k n d s l, deep => decide (deep ≤ 200) && headRight R Nm k n d s l.length && Dt.rightAll R Nm l (deep + 1)
def Dt.rightAll (R : Int → Int → Bool) (Nm : ByteArray → Bool) : List Dt → Nat → Bool
  | [], _ => true
  | t :: r, deep => t.right R Nm deep && Dt.rightAll R Nm r deep
end
theorem Dt.rightAll_step {R : Int → Int → Bool} {Nm : ByteArray → Bool} {l : List Dt} {i : Nat} {t : Dt} {deep : Nat} (h : l[i]? = some t) : Dt.rightAll R Nm (l.drop i) deep = (t.right R Nm deep && Dt.rightAll R Nm (l.drop (i + 1)) deep) := by
  rw [Dt.drop_at h]; conv => lhs; unfold Dt.rightAll
theorem Dt.rightAll_stop {R : Int → Int → Bool} {Nm : ByteArray → Bool} {l : List Dt} {i : Nat} {deep : Nat} (h : l.length ≤ i) : Dt.rightAll R Nm (l.drop i) deep = true := by
  rw [List.drop_of_length_le h]; rfl
theorem str_no {s : ByteArray} {i : Nat} (h : i < s.size) (hc : strChar s[i] = false) : s.data.toList.all strChar = false := by
  rw [Bool.eq_false_iff]
  intro ha
  have := List.all_eq_true.1 ha s[i] (List.mem_of_getElem? (at_some s i h))
  rw [hc] at this; cases this
end Go.Proofs.Ytdeelpagoffdjaa.Dat
