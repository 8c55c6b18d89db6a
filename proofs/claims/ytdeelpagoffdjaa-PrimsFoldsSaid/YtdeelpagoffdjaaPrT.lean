/- What is known of primitives: the table, plain. -/
import Derived.Test.YtdeelpagoffdjaaDatT
namespace Go.Proofs.Ytdeelpagoffdjaa.Dat
open Go.RowKit
set_option linter.unusedVariables false

/-- What is known of a primitive. -/
structure Fc where
  name : ByteArray
  least : Int
  most : Int
  pure : Bool
  folds : Bool
deriving DecidableEq
def Fc.val (f : Fc) : Value := .agg #[.string f.name, .int .i64 f.least, .int .i64 f.most, .bool f.pure, .bool f.folds]
def noF : Fc := ⟨⟨#[]⟩, 0, 0, false, false⟩
def table : List Fc := [
  ⟨⟨#[43]⟩, 0, -1, true, true⟩, ⟨⟨#[45]⟩, 1, -1, true, true⟩, ⟨⟨#[42]⟩, 0, -1, true, true⟩, ⟨⟨#[47]⟩, 1, -1, true, true⟩,
  ⟨⟨#[61]⟩, 2, 2, true, true⟩, ⟨⟨#[60]⟩, 2, 2, true, true⟩, ⟨⟨#[101, 113, 63]⟩, 2, 2, true, true⟩, ⟨⟨#[101, 113, 117, 97, 108, 63]⟩, 2, 2, true, true⟩,
  ⟨⟨#[110, 111, 116]⟩, 1, 1, true, true⟩, ⟨⟨#[110, 117, 108, 108, 63]⟩, 1, 1, true, true⟩, ⟨⟨#[112, 97, 105, 114, 63]⟩, 1, 1, true, true⟩, ⟨⟨#[110, 117, 109, 98, 101, 114, 63]⟩, 1, 1, true, true⟩,
  ⟨⟨#[115, 121, 109, 98, 111, 108, 63]⟩, 1, 1, true, true⟩, ⟨⟨#[98, 111, 111, 108, 101, 97, 110, 63]⟩, 1, 1, true, true⟩, ⟨⟨#[115, 116, 114, 105, 110, 103, 63]⟩, 1, 1, true, true⟩, ⟨⟨#[118, 101, 99, 116, 111, 114, 63]⟩, 1, 1, true, true⟩,
  ⟨⟨#[112, 114, 111, 99, 101, 100, 117, 114, 101, 63]⟩, 1, 1, true, true⟩, ⟨⟨#[99, 111, 110, 115]⟩, 2, 2, true, false⟩, ⟨⟨#[99, 97, 114]⟩, 1, 1, true, true⟩, ⟨⟨#[99, 100, 114]⟩, 1, 1, true, true⟩,
  ⟨⟨#[108, 105, 115, 116]⟩, 0, -1, true, false⟩, ⟨⟨#[118, 101, 99, 116, 111, 114]⟩, 0, -1, true, false⟩, ⟨⟨#[118, 101, 99, 116, 111, 114, 45, 114, 101, 102]⟩, 2, 2, true, true⟩, ⟨⟨#[118, 101, 99, 116, 111, 114, 45, 108, 101, 110, 103, 116, 104]⟩, 1, 1, true, true⟩,
  ⟨⟨#[108, 101, 110, 103, 116, 104]⟩, 1, 1, true, true⟩, ⟨⟨#[118, 111, 105, 100]⟩, 0, 0, true, true⟩, ⟨⟨#[100, 105, 115, 112, 108, 97, 121]⟩, 1, 1, false, false⟩, ⟨⟨#[110, 101, 119, 108, 105, 110, 101]⟩, 0, 0, false, false⟩,
  ⟨⟨#[114, 97, 105, 115, 101]⟩, 1, 1, false, false⟩, ⟨⟨#[99, 97, 108, 108, 47, 99, 99]⟩, 1, 1, false, false⟩, ⟨⟨#[97, 112, 112, 108, 121]⟩, 2, 2, false, false⟩]
theorem table_len : table.length = 31 := rfl
def factOf (n : Int) : Option Fc := if 0 ≤ n ∧ n ≤ 30 then table[n.toNat]? else none
def takesB (n k : Int) : Bool := match factOf n with | none => false | some f => decide (f.least ≤ k) && (decide (k ≤ f.most) || decide (f.most = -1))
def findIn (s : ByteArray) : List Fc → Int → Int × Bool
  | [], _ => (0, false)
  | f :: r, i => if f.name = s then (i, true) else findIn s r (i + 1)
/-- The primitive of a name. -/
def findB (s : ByteArray) : Int × Bool := if s = ⟨#[37, 101, 113, 63]⟩ then (6, true) else findIn s table 0

end Go.Proofs.Ytdeelpagoffdjaa.Dat
