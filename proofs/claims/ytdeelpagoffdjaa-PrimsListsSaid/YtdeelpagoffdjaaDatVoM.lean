/- The library's Backward, over data: the data of a slice, the last one first. -/
import Derived.RangeFuncNested
import Derived.RangeFuncLeaves
import Derived.Shelf.Abstract
import Derived.WalkKit
import Derived.OwnWalkIn
import Derived.TacticsInMore
import Derived.LoopNIn
import Derived.LoopIn
import Derived.Test.YtdeelpagoffdjaaDatVy

namespace Go.Proofs.Ytdeelpagoffdjaa.Dat
open Go.RowKit Go.Shelf
set_option linter.unusedVariables false
attribute [local go_sem] Oper.semAt_some

/-- A datum of the slice, as it is handed to a round. -/
structure Elt (V : World) where
  i : Nat
  t : Dt
  k : Int
  n : Int
  d : Int
  s : ByteArray
  p : Option Addr
  len : Nat
  cap : Nat
  lies : t.At V (.agg #[.int .i64 k, .int .i64 n, .int .i64 d, .string s, .slice p len cap])
  slim : t.slim
def Elt.enc {V : World} (x : Elt V) : Array Value := #[.int .i64 (x.i : Int), .agg #[.int .i64 x.k, .int .i64 x.n, .int .i64 x.d, .string x.s, .slice x.p x.len x.cap]]

/-- Below a number all blocks but one stand as they stood. -/
def Ex (n₀ Bl : Nat) (W W' : World) : Prop := ∀ k, k < n₀ → k ≠ Bl → W'.heap[k]? = W.heap[k]?
theorem Ex.refl (n₀ Bl : Nat) (W : World) : Ex n₀ Bl W W := fun _ _ _ => rfl
theorem Ex.trans {n₀ Bl : Nat} {A B C : World} (h : Ex n₀ Bl A B) (k : Ex n₀ Bl B C) : Ex n₀ Bl A C := fun i h1 h2 => (k i h1 h2).trans (h i h1 h2)
theorem Ex.cell {n₀ Bl : Nat} {W W' : World} (h : Ex n₀ Bl W W') {b o : Nat} (h1 : b < n₀ ∧ b ≠ Bl) : W'.cell? ⟨b, o, none⟩ = W.cell? ⟨b, o, none⟩ := World.cell?_of_block (h b h1.1 h1.2)

set_option maxRecDepth 100000 in
set_option maxHeartbeats 4000000 in
theorem back_in (F : Fence) (n : Nat) (h64 : F.fn 73) (hro : F.round = none) (hn : 1 ≤ n) (lr Bs n₀ Bl : Nat) (V : World) (l : List Dt) (p : Option Addr) (cap : Nat) (hlm : l.length ≤ maxLen) (hsl : Dt.slimAll l)
    (hl : l = [] ∨ ∃ b o, p = some ⟨b, o, none⟩ ∧ Dt.AllAt V l b o) (J Jx : List (Elt V) → World → Prop)
    (hY : ∀ pre x W, J pre W → pre.length < l.length → YieldAt F (n - 1) Try.prog lr x.enc W fun e W' =>
      (e = .returned (.bool true) ∧ J (pre ++ [x]) W' ∧ Ex n₀ Bl W W') ∨ (e = .returned (.bool false) ∧ Jx (pre ++ [x]) W'))
    (W : World) (hV : ∀ b o v, V.cell? ⟨b, o, none⟩ = some v → (b < n₀ ∧ b ≠ Bl) ∧ W.cell? ⟨b, o, none⟩ = some v) (hBs : W.cell? ⟨Bs, 0, none⟩ = some (.slice p l.length cap)) (hBn : Bs < n₀ ∧ Bs ≠ Bl) (h0 : J [] W) :
    CallsIn F n Try.prog 73 #[.func (.yield lr) #[] #[], .pointer (some ⟨Bs, 0, none⟩)] W fun e W' => (∃ v, e = .returned v) ∧
      ((∃ xs : List (Elt V), xs.map Elt.t = l.reverse ∧ J xs W') ∨ (∃ pre, True ∧ Jx pre W')) := by
  unfold maxLen at hlm
  have HL := Lib.hid hl
  have HV := Lib.hid hV
  have HSL := Lib.hid hsl
  clear hl hV hsl
  refine callsIn_of_wp Try.func73 rfl h64 ?_ hro
  simp only [Try.ntmps73, List.size_toArray, List.length_cons, List.length_nil, Nat.reduceAdd, Nat.reduceSub, Array.replicate_succ, Array.replicate_zero, List.push_toArray, List.append_toArray, List.nil_append, List.cons_append]
  gi_wp2
  gi_loopw [3] (fun x wr => ∃ (j : Nat) (pre : List (Elt V)), j ≤ l.length ∧ x = .int .i64 ((j : Int) - 1) ∧ Hid (pre.map Elt.t = (l.drop j).reverse) ∧ J pre wr ∧ Ex n₀ Bl W wr) (fun x _ => (intOf x + 1).toNat)
  case atStart => exact ⟨l.length, [], Nat.le_refl _, rfl, Lib.hid (by simp), h0, Ex.refl _ _ _⟩
  case round =>
    obtain ⟨j, pre, hj, rfl, hpre, hJ, hb⟩ := hrel
    have hbs : wr.cell? ⟨Bs, 0, none⟩ = some (.slice p l.length cap) := (hb.cell hBn).trans hBs
    cases j with
    | zero =>
      gi_wp2
      go_end0
      exact ⟨⟨_, rfl⟩, .inl ⟨pre, by have := hpre.out; simpa using this, hJ⟩⟩
    | succ i =>
      have hi : i < l.length := hj
      have hi0 : (0 : Int) ≤ (i : Int) := Int.natCast_nonneg _
      have hi1 : (i : Int) < (l.length : Int) := by omega
      obtain ⟨t, ht⟩ : ∃ t, l[i]? = some t := ⟨l[i], by simp [hi]⟩
      rcases HL.out with he | ⟨b, o, rfl, hall⟩
      · rw [he] at hi; simp at hi
      obtain ⟨v0, v1, v2, v3, v4, d0, d1, d2, d3, d4, hta⟩ := hall.kid ht
      obtain ⟨kt, nt, dt, st, lt, pt, capt, hte, rfl, rfl, rfl, rfl, rfl, _, _⟩ := hta.open5
      obtain ⟨g0, d0⟩ := HV.out _ _ _ d0
      obtain ⟨g1, d1⟩ := HV.out _ _ _ d1
      obtain ⟨g2, d2⟩ := HV.out _ _ _ d2
      obtain ⟨g3, d3⟩ := HV.out _ _ _ d3
      obtain ⟨g4, d4⟩ := HV.out _ _ _ d4
      replace d0 := (hb.cell g0).trans d0
      replace d1 := (hb.cell g0).trans d1
      replace d2 := (hb.cell g0).trans d2
      replace d3 := (hb.cell g0).trans d3
      replace d4 := (hb.cell g0).trans d4
      have hplen : pre.length < l.length := by
        have h := congrArg List.length hpre.out
        simp at h; omega
      have hslim := Dt.slimAll_iff.1 HSL.out t (List.mem_of_getElem? ht)
      obtain ⟨x, hxt, hxe⟩ : ∃ x : Elt V, x.t = t ∧ x.enc = #[.int .i64 (i : Int), .agg #[.int .i64 kt, .int .i64 nt, .int .i64 dt, .string st, .slice pt lt.length capt]] := ⟨⟨i, t, kt, nt, dt, st, pt, lt.length, capt, hta, hslim⟩, rfl, rfl⟩
      obtain ⟨fn, tmps, assign, body, hy, hR⟩ := hY pre x wr hJ hplen
      rw [hxe] at hy
      have hnext : (pre ++ [x]).map Elt.t = (l.drop i).reverse := by
        rw [List.map_append, hpre.out, Dt.drop_at ht, List.reverse_cons, List.map_cons, hxt]; rfl
      have HNX := Lib.hid hnext
      have HB := Lib.hid hb
      have HG := Lib.hid (show (((i + 1 : Nat) : Int) - 1) = (i : Int) by omega)
      rw [HG.out]
      clear hnext hte hall hpre g0 g1 g2 g3 g4 hb ht hslim hta hxt hxe
      gi_wp2
      refine hR.mono ?_
      rintro e W3 (⟨rfl, hJ3, hk3⟩ | ⟨rfl, hJx3⟩)
      · gi_wp2
        go_roundw
        case rel => exact ⟨i, _, by omega, rfl, HNX, hJ3, (HB.out).trans hk3⟩
        case measure => simp [intOf]
      · gi_wp2
        refine bodyPost_ret (results_none rfl _ _ _) rfl ?_
        exact ⟨⟨_, rfl⟩, .inr ⟨_, trivial, hJx3⟩⟩
end Go.Proofs.Ytdeelpagoffdjaa.Dat
