/- What is known of primitives, and what they make of data: plain, nothing of the program stands here. -/
import Derived.Test.YtdeelpagoffdjaaDatPz
import Derived.Test.YtdeelpagoffdjaaPrT
import Derived.Test.YtdeelpagoffdjaaFour

namespace Go.Proofs.Ytdeelpagoffdjaa.Dat
open Go.RowKit
open Go.Proofs.Ytdeelpagoffdjaa (addF subF mulF divF lessF)
open NumPlain
set_option linter.unusedVariables false

def Dt.kd : Dt → Int | .node k _ _ _ _ => k
def Dt.nm : Dt → Int | .node _ n _ _ _ => n
def Dt.dn : Dt → Int | .node _ _ d _ _ => d
def Dt.tx : Dt → ByteArray | .node _ _ _ s _ => s
def Dt.ls : Dt → List Dt | .node _ _ _ _ l => l
def zeroD : Dt := .node 0 0 0 ⟨#[]⟩ []
def boolD (b : Bool) : Dt := .node 1 (if b then 1 else 0) 0 ⟨#[]⟩ []
def numD (n d : Int) : Dt := .node 0 n d ⟨#[]⟩ []
def voidD : Dt := .node 5 0 0 ⟨#[]⟩ []

/-- A step of + - * /. -/
def stepF (n : Int) : Int → Int → Int → Int → Int × Int × Int := if n = 0 then addF else if n = 1 then subF else if n = 2 then mulF else divF
/-- From the left to the right. -/
def thr (f : Int → Int → Int → Int → Int × Int × Int) : Int → Int → List Dt → Int × Int × Int
  | a, b, [] => (a, b, 0)
  | a, b, t :: r => if (f a b t.nm t.dn).2.2 = 0 then thr f (f a b t.nm t.dn).1 (f a b t.nm t.dn).2.1 r else (0, 0, (f a b t.nm t.dn).2.2)
def unit (n : Int) : Int := if 2 ≤ n then 1 else 0
def sumB (n : Int) (l : List Dt) : Int × Int × Int :=
  if n = 1 ∨ n = 3 then (match l with | [] => thr (stepF n) (unit n) 1 [] | [t] => thr (stepF n) (unit n) 1 [t] | t :: u :: r => thr (stepF n) t.nm t.dn (u :: r)) else thr (stepF n) (unit n) 1 l
/-- What num tells of a number, as a datum and an end. -/
def numR (x : Int × Int × Int) : Dt × Int := if x.2.2 = 0 then (numD x.1 x.2.1, 0) else (zeroD, x.2.2)
def headB (t u : Dt) : Bool := decide (t.kd = u.kd) && decide (t.nm = u.nm) && decide (t.dn = u.dn) && decide (t.tx = u.tx)
def eqB (t u : Dt) : Bool := decide (t.kd ≠ 3 ∧ t.kd ≠ 6 ∧ t.kd ≠ 7) && headB t u
mutual
/-- Held against one another, part by part; how many may still be held. -/
def eqD : Dt → Dt → Int → Bool × Int
  | .node k n d s l, u, c => if c - 1 < 0 ∨ headB (.node k n d s l) u = false ∨ l.length ≠ u.ls.length then (false, c - 1) else eqL l u.ls (c - 1)
def eqL : List Dt → List Dt → Int → Bool × Int
  | [], _, c => (true, c)
  | t :: r, us, c => match us with
    | [] => (true, c)
    | u :: q => if (eqD t u c).1 = true then eqL r q (eqD t u c).2 else (false, (eqD t u c).2)
end
def equalR (t u : Dt) : Dt × Int := if (eqD t u 1000).2 < 0 then (zeroD, 3) else (boolD (eqD t u 1000).1, 0)
def kindOf (n : Int) : Int := if n = 9 then 4 else if n = 10 then 6 else if n = 11 then 0 else if n = 12 then 2 else if n = 13 then 1 else if n = 14 then 3 else if n = 15 then 7 else -1
def atB (l : List Dt) (p : Dt) : Dt × Int := if p.dn ≠ 1 ∨ p.nm < 0 ∨ (l.length : Int) ≤ p.nm then (zeroD, 3) else ((l[p.nm.toNat]?).getD zeroD, 0)
def fst (l : List Dt) : Dt := (l[0]?).getD zeroD
def snd (l : List Dt) : Dt := (l[1]?).getD zeroD
def isNum (t : Dt) : Bool := decide (t.kd = 0)
/-- Are all of the kinds that are wanted? -/
def fitB (n : Int) (l : List Dt) : Bool :=
  if n ≤ 5 then l.all isNum else if n = 18 ∨ n = 19 then decide ((fst l).kd = 6) else if n = 22 then decide ((fst l).kd = 7) && decide ((snd l).kd = 0) else if n = 23 then decide ((fst l).kd = 7)
  else if n = 24 then (fst l).items.isSome else true
/-- What is made of so many data as are taken, of the kinds that are wanted. -/
def madeB (n : Int) (l : List Dt) : Dt × Int :=
  if n ≤ 3 then numR (sumB n l) else if n = 4 then (boolD (eqB (fst l) (snd l)), 0) else if n = 5 then (boolD (lessF (fst l).nm (fst l).dn (snd l).nm (snd l).dn), 0)
  else if n = 6 then (boolD (eqB (fst l) (snd l)), 0) else if n = 7 then equalR (fst l) (snd l) else if n = 8 then (boolD (decide ((fst l).kd = 1) && decide ((fst l).nm = 0)), 0)
  else if n ≤ 16 then (boolD (decide ((fst l).kd = kindOf n)), 0) else if n = 18 then (fst (fst l).ls, 0) else if n = 19 then (snd (fst l).ls, 0)
  else if n = 22 then atB (fst l).ls (snd l) else if n = 23 then (numD (fst l).ls.length 1, 0) else if n = 24 then (numD (((fst l).items.getD []).length : Nat) 1, 0) else (voidD, 0)
/-- What a primitive that folds makes of data that are right. -/
def doesB (n : Int) (l : List Dt) : Dt × Int := if takesB n l.length = false then (zeroD, 2) else if fitB n l = false then (zeroD, 1) else madeB n l
def foldsB (n : Int) : Bool := match factOf n with | none => false | some f => f.folds
def foldB (Nm : ByteArray → Bool) (n : Int) (l : List Dt) : Dt × Int × Bool :=
  if foldsB n = true ∧ Dt.rightAll rightB Nm l 0 = true then ((doesB n l).1, (doesB n l).2, true) else (zeroD, 0, false)
end Go.Proofs.Ytdeelpagoffdjaa.Dat
