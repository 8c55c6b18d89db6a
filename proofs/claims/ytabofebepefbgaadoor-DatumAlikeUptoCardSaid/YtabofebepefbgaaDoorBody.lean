/- What a text of a number comes to, in two ways that agree: cut at the stroke first, or its digits first. -/
import Derived.Test.YtabofebepefbgaaDoorPlain
import Derived.Test.YtabofebepefbgaaDoorMath
import Derived.Lib.Bytealg
namespace NumPlain
open Go

theorem ib_none {l : List UInt8} (h : ∀ x ∈ l, x ≠ 47) : Lib.indexByte l 47 = -1 := by
  induction l with
  | nil => rfl
  | cons b l ih =>
    unfold Lib.indexByte
    have hb : (b == 47) = false := by rw [beq_eq_false_iff_ne]; exact h b (by simp)
    rw [hb, ih (fun x hx => h x (by simp [hx]))]; rfl
theorem ib_at {a : List UInt8} (b : List UInt8) (h : ∀ x ∈ a, x ≠ 47) : Lib.indexByte (a ++ 47 :: b) 47 = (a.length : Int) := by
  induction a with
  | nil => rfl
  | cons c l ih =>
    rw [List.cons_append]
    unfold Lib.indexByte
    have hb : (c == 47) = false := by rw [beq_eq_false_iff_ne]; exact h c (by simp)
    rw [hb, ih (fun x hx => h x (by simp [hx]))]
    have h1 : ((l.length : Int) == -1) = false := by rw [beq_eq_false_iff_ne]; omega
    rw [h1]
    simp
theorem split47 (l : List UInt8) : (∀ x ∈ l, x ≠ 47) ∨ ∃ a b, l = a ++ 47 :: b ∧ ∀ x ∈ a, x ≠ 47 := by
  induction l with
  | nil => left; simp
  | cons c l ih =>
    by_cases hc : c = 47
    · right; exact ⟨[], l, by rw [hc]; rfl, by simp⟩
    · rcases ih with h | ⟨a, b, rfl, h⟩
      · left
        intro x hx
        rcases List.mem_cons.1 hx with rfl | hx
        · exact hc
        · exact h x hx
      · right
        refine ⟨c :: a, b, rfl, ?_⟩
        intro x hx
        rcases List.mem_cons.1 hx with rfl | hx
        · exact hc
        · exact h x hx
theorem takeWhile_stop (a b : List UInt8) : (a ++ 47 :: b).takeWhile isDig = a.takeWhile isDig := by
  induction a with
  | nil => rfl
  | cons c l ih => rw [List.cons_append, List.takeWhile_cons, List.takeWhile_cons, ih]
theorem partL_stop (a b : List UInt8) : partL (a ++ 47 :: b) = partL a := by
  unfold partL; rw [takeWhile_stop]

theorem takeWhile_all {l : List UInt8} (h : (l.takeWhile isDig).length = l.length) : l.takeWhile isDig = l := by
  have := List.takeWhile_prefix (l := l) isDig
  exact this.eq_of_length h
theorem digits_part (l : List UInt8) : digitsL l = if (partL l).2 ≠ 0 ∧ (partL l).2 = l.length then ((partL l).1, true) else (0, false) := by
  by_cases h : 1 ≤ l.length ∧ l.length ≤ 10 ∧ l.all isDig = true
  · have ht : l.takeWhile isDig = l := by
      have := takeWhile_is (l := l) (k := l.length) (by omega) (by rw [List.take_length]; exact List.all_eq_true.1 h.2.2) (Or.inl rfl)
      rw [List.take_length] at this; exact this
    have hp : partL l = (val l, l.length) := by unfold partL; rw [ht, if_pos h.2.1]
    rw [hp, if_pos ⟨by show l.length ≠ 0; omega, rfl⟩]
    exact digitsL_yes h.1 h.2.1 (List.all_eq_true.1 h.2.2)
  · have hd : digitsL l = (0, false) := by unfold digitsL; rw [if_neg h]
    rw [hd, if_neg]
    rintro ⟨h1, h2⟩
    unfold partL at h1 h2
    split at h1
    · rename_i hle
      rw [if_pos hle] at h2
      have h2' : (l.takeWhile isDig).length = l.length := h2
      have ha := takeWhile_all h2'
      rw [ha] at hle
      refine h ⟨?_, hle, ?_⟩
      · have : (l.takeWhile isDig).length ≠ 0 := h1
        omega
      · rw [← ha]; exact List.all_takeWhile
    · exact h1 rfl

/-- Cut at the stroke first. -/
def bodyL (l : List UInt8) : Option (Nat × Nat) :=
  if 0 ≤ Lib.indexByte l 47 then
    if (digitsL (l.take (Lib.indexByte l 47).toNat)).2 && (digitsL (l.drop ((Lib.indexByte l 47).toNat + 1))).2 then some ((digitsL (l.take (Lib.indexByte l 47).toNat)).1, (digitsL (l.drop ((Lib.indexByte l 47).toNat + 1))).1) else none
  else if (digitsL l).2 then some ((digitsL l).1, 1) else none
/-- Its digits first. -/
def bodyR (l : List UInt8) : Option (Nat × Nat) :=
  if (partL l).2 = 0 then none
  else if (partL l).2 < l.length then
    if l[(partL l).2]? = some 47 then
      if (partL (l.drop ((partL l).2 + 1))).2 = 0 ∨ (partL l).2 + 1 + (partL (l.drop ((partL l).2 + 1))).2 ≠ l.length then none
      else some ((partL l).1, (partL (l.drop ((partL l).2 + 1))).1)
    else none
  else some ((partL l).1, 1)

theorem body_eq (l : List UInt8) : bodyR l = bodyL l := by
  rcases split47 l with h | ⟨a, b, rfl, h⟩
  · unfold bodyL bodyR
    have hd := digits_part l
    rw [ib_none h, if_neg (show ¬ (0 : Int) ≤ -1 by omega)]
    have hb := (partL_bound l).2.2
    generalize partL l = p at *
    generalize digitsL l = t at *
    by_cases h0 : p.2 = 0
    · rw [if_neg (by omega)] at hd
      rw [if_pos h0, hd]; rfl
    · rw [if_neg h0]
      by_cases hl : p.2 < l.length
      · have hne : ¬ l[p.2]? = some 47 := by
          intro he
          exact h 47 (List.mem_of_getElem? he) rfl
        rw [if_neg (by omega)] at hd
        rw [if_pos hl, if_neg hne, hd]; rfl
      · rw [if_pos ⟨h0, by omega⟩] at hd
        rw [if_neg hl, hd]; rfl
  · unfold bodyL bodyR
    have e1 : (a ++ 47 :: b).take a.length = a := by simp
    have e2 : (a ++ 47 :: b).drop (a.length + 1) = b := by
      rw [show a ++ 47 :: b = (a ++ [47]) ++ b from by simp, show a.length + 1 = (a ++ [47]).length from by simp, List.drop_left]
    have da := digits_part a
    have db := digits_part b
    rw [ib_at b h, if_pos (show (0 : Int) ≤ (a.length : Int) by omega), Int.toNat_natCast, e1, e2, partL_stop]
    have ha := (partL_bound a).2.2
    have hlen : (a ++ 47 :: b).length = a.length + (b.length + 1) := by simp
    generalize partL a = p at *
    generalize digitsL a = t at *
    generalize digitsL b = u at *
    by_cases h0 : p.2 = 0
    · rw [if_neg (by omega)] at da
      rw [if_pos h0, da]; rfl
    · rw [if_neg h0, if_pos (show p.2 < (a ++ 47 :: b).length by omega)]
      by_cases hl : p.2 = a.length
      · have hat : (a ++ 47 :: b)[p.2]? = some 47 := by rw [hl]; simp
        rw [if_pos ⟨h0, hl⟩] at da
        rw [if_pos hat, hl, e2, da]
        generalize partL b = q at *
        by_cases hq : q.2 ≠ 0 ∧ q.2 = b.length
        · rw [if_pos hq] at db
          rw [if_neg (by omega), db]; rfl
        · rw [if_neg hq] at db
          rw [if_pos (by omega), db]; rfl
      · have hat : ¬ (a ++ 47 :: b)[p.2]? = some 47 := by
          intro he
          rw [List.getElem?_append_left (by omega)] at he
          exact h 47 (List.mem_of_getElem? he) rfl
        rw [if_neg (by omega)] at da
        rw [if_neg hat, da]; rfl

/-- What Parse answers. -/
def parseL (l : List UInt8) : Int × Int × Bool :=
  match bodyL (if l.head? = some 45 then l.tail else l) with
  | none => (0, 0, false)
  | some (n, d) => ((mk (if l.head? = some 45 then -(n : Int) else n) d).1, (mk (if l.head? = some 45 then -(n : Int) else n) d).2.1, (mk (if l.head? = some 45 then -(n : Int) else n) d).2.2 == 0)
end NumPlain
