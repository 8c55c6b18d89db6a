/- Plain facts on texts of digits: nothing of the program stands here. -/
import Derived.Test.YtdeelpagoffdjaaRat
import Derived.Lib.Strings
import Derived.Test.YtdeelpagoffdjaaShelf
import Derived.Test.YtdeelpagoffdjaaMath
import Derived.Lib.Bytealg
import Derived.Lib.IndexBytes
import Derived.Lib.ItoaNum
import Derived.Lib.AppendIntMem
import Derived.Lib.SmallJoins


namespace NumPlain

def isDig (c : UInt8) : Bool := decide (48 ≤ c.toNat) && decide (c.toNat ≤ 57)
/-- What digits come to. -/
def val (l : List UInt8) : Nat := l.foldl (fun n c => 10 * n + (c.toNat - 48)) 0
theorem val_snoc (l : List UInt8) (c : UInt8) : val (l ++ [c]) = 10 * val l + (c.toNat - 48) := by
  unfold val; rw [List.foldl_append]; rfl
theorem isDig_iff (c : UInt8) : isDig c = true ↔ 48 ≤ c.toNat ∧ c.toNat ≤ 57 := by
  unfold isDig; simp
theorem val_lt (l : List UInt8) (h : ∀ c ∈ l, isDig c = true) : val l < 10 ^ l.length := by
  induction hn : l.length generalizing l with
  | zero =>
    have : l = [] := List.length_eq_zero_iff.1 hn
    subst this; decide
  | succ n ih =>
    obtain ⟨r, c, rfl⟩ : ∃ r c, l = r ++ [c] := ⟨l.dropLast, l.getLast (by intro e; rw [e] at hn; simp at hn), (List.dropLast_concat_getLast _).symm⟩
    have h1 := ih r (fun c hc => h c (by simp [hc])) (by simpa using hn)
    have h2 := (isDig_iff c).1 (h c (by simp))
    rw [val_snoc, Nat.pow_succ]; omega
theorem val_small (l : List UInt8) (h : ∀ c ∈ l, isDig c = true) (hl : l.length ≤ 10) : val l < 10000000000 :=
  Nat.lt_of_lt_of_le (val_lt l h) (Nat.le_trans (Nat.pow_le_pow_right (by omega) hl) (by decide))

/-- One to ten digits and nothing else: what they come to. -/
def digitsL (l : List UInt8) : Nat × Bool := if 1 ≤ l.length ∧ l.length ≤ 10 ∧ l.all isDig then (val l, true) else (0, false)
/-- The digits that a text begins with, and how many: none, if they are more than ten. -/
def partL (l : List UInt8) : Nat × Nat := if (l.takeWhile isDig).length ≤ 10 then (val (l.takeWhile isDig), (l.takeWhile isDig).length) else (0, 0)

theorem digitsL_no {l : List UInt8} (h : l.length < 1 ∨ 10 < l.length ∨ ∃ c ∈ l, isDig c = false) : digitsL l = (0, false) := by
  unfold digitsL
  rw [if_neg]
  rintro ⟨h1, h2, h3⟩
  rcases h with h | h | ⟨c, hc, hd⟩
  · omega
  · omega
  · have := List.all_eq_true.1 h3 c hc
    rw [hd] at this; exact absurd this (by decide)
theorem digitsL_yes {l : List UInt8} (h1 : 1 ≤ l.length) (h2 : l.length ≤ 10) (h3 : ∀ c ∈ l, isDig c = true) : digitsL l = (val l, true) := by
  unfold digitsL
  rw [if_pos ⟨h1, h2, List.all_eq_true.2 h3⟩]
theorem digitsL_bound (l : List UInt8) : (digitsL l).1 < 10000000000 := by
  unfold digitsL
  split
  · rename_i h; exact val_small l (List.all_eq_true.1 h.2.2) h.2.1
  · decide
theorem partL_bound (l : List UInt8) : (partL l).1 < 10000000000 ∧ (partL l).2 ≤ 10 ∧ (partL l).2 ≤ l.length := by
  unfold partL
  split
  · rename_i h
    refine ⟨val_small _ ?_ h, h, (List.takeWhile_sublist _).length_le⟩
    intro c hc
    exact List.all_eq_true.1 (List.all_takeWhile (p := isDig) (l := l)) c hc
  · exact ⟨by decide, by omega, by omega⟩

theorem takeWhile_is {l : List UInt8} {k : Nat} (hk : k ≤ l.length) (h : ∀ c ∈ l.take k, isDig c = true) (hend : k = l.length ∨ ∃ c, l[k]? = some c ∧ isDig c = false) : l.takeWhile isDig = l.take k := by
  induction k generalizing l with
  | zero =>
    cases l with
    | nil => rfl
    | cons c r =>
      rcases hend with he | ⟨x, hx, hd⟩
      · simp at he
      · simp at hx; subst hx; simp [hd]
  | succ k ih =>
    cases l with
    | nil => simp at hk
    | cons c r =>
      have hc : isDig c = true := h c (by simp)
      rw [List.takeWhile_cons, if_pos hc, List.take_succ_cons, ih (by simpa using hk) (fun x hx => h x (by simp [hx]))]
      rcases hend with he | ⟨x, hx, hd⟩
      · left; simpa using he
      · right; exact ⟨x, by simpa using hx, hd⟩
theorem partL_great {l : List UInt8} {k : Nat} (hk : k ≤ l.length) (h : ∀ c ∈ l.take k, isDig c = true) (hend : k = l.length ∨ ∃ c, l[k]? = some c ∧ isDig c = false) (hg : 10 < k) : partL l = (0, 0) := by
  have ht := takeWhile_is hk h hend
  unfold partL
  rw [ht, if_neg (by rw [List.length_take]; omega)]
theorem partL_small {l : List UInt8} {k : Nat} (hk : k ≤ l.length) (h : ∀ c ∈ l.take k, isDig c = true) (hend : k = l.length ∨ ∃ c, l[k]? = some c ∧ isDig c = false) (hg : k ≤ 10) : partL l = (val (l.take k), k) := by
  have ht := takeWhile_is hk h hend
  have hl : (l.take k).length = k := by rw [List.length_take]; omega
  unfold partL
  rw [ht, hl, if_pos hg]
end NumPlain

/- The digits of a text: num.digits and the reference's part. -/
namespace Go.Proofs.Ytdeelpagoffdjaa
open Go.RowKit NumPlain

theorem ret_two {a b : Value} {c d : Value} (h : a = c) (g : b = d) : Ending.returned (.tuple #[a, b]) = .returned (.tuple #[c, d]) := by rw [h, g]
theorem take_snoc (s : ByteArray) (k : Nat) (h : k < s.size) : s.data.toList.take (k + 1) = s.data.toList.take k ++ [s[k]] := by
  rw [List.take_succ_eq_append_getElem (by simpa using h)]; rfl

theorem mem_at (s : ByteArray) (k : Nat) (h : k < s.size) : s[k] ∈ s.data.toList := by
  have : s[k] = s.data[k]'h := rfl
  rw [this]; simp
theorem take_len (s : ByteArray) (k : Nat) (h : k ≤ s.size) : (s.data.toList.take k).length = k := by
  rw [List.length_take, ← Lib.size_eq]; omega
theorem all_snoc {l : List UInt8} {c : UInt8} (h : ∀ x ∈ l, isDig x = true) (hc : isDig c = true) : ∀ x ∈ l ++ [c], isDig x = true := by
  intro x hx
  rw [List.mem_append, List.mem_singleton] at hx
  rcases hx with hx | rfl
  · exact h x hx
  · exact hc

set_option maxHeartbeats 1000000 in
theorem digits_any (s : ByteArray) (w : World) (hs : s.size ≤ maxLen) :
    Calls Try.prog 95 #[.string s] w fun e w' => e = .returned (.tuple #[.int .i64 ((digitsL s.data.toList).1 : Nat), .bool (digitsL s.data.toList).2]) ∧ w = w' := by
  unfold maxLen at hs
  have hlen : s.data.toList.length = s.size := (Lib.size_eq s).symm
  by_cases h0 : s.size < 1
  · have hd := digitsL_no (l := s.data.toList) (by omega)
    rw [hd]; clear hd hlen
    go_enter Try.func95, Try.ntmps95
    go_wp2
    go_ret2
    exact ⟨rfl, rfl⟩
  by_cases h10 : 10 < s.size
  · have hd := digitsL_no (l := s.data.toList) (by omega)
    rw [hd]; clear hd hlen
    go_enter Try.func95, Try.ntmps95
    go_wp2
    go_ret2
    exact ⟨rfl, rfl⟩
  have HL := Lib.hid hlen; clear hlen
  go_enter Try.func95, Try.ntmps95
  go_wp2
  go_loop [4, 5] (fun n i => ∃ k v : Nat, k ≤ s.size ∧ i = .int .i64 k ∧ n = .int .i64 v ∧ v = val (s.data.toList.take k) ∧ (∀ c ∈ s.data.toList.take k, isDig c = true)) (fun _ i => s.size - (intOf i).toNat)
  case atStart => exact ⟨0, 0, Nat.zero_le _, rfl, rfl, rfl, by simp⟩
  case round =>
    obtain ⟨k, v, hk, rfl, rfl, hv, hdig⟩ := hrel
    have hvb : v < 10000000000 := by rw [hv]; exact val_small _ hdig (by rw [take_len s k hk]; omega)
    have HV := Lib.hid hv; clear hv
    have HD := Lib.hid hdig; clear hdig
    by_cases hlt : k < s.size
    · have hts := take_snoc s k hlt
      have HT := Lib.hid hts; clear hts
      by_cases c1 : (s[k].toNat : Int) < 48
      · have hd := digitsL_no (l := s.data.toList) (Or.inr (Or.inr ⟨s[k], mem_at s k hlt, by rw [Bool.eq_false_iff, ne_eq, isDig_iff]; omega⟩))
        have HN := Lib.hid hd; clear hd
        go_wp2
        go_ret2
        exact ⟨by rw [HN.out]; rfl, rfl⟩
      by_cases c2 : 57 < (s[k].toNat : Int)
      · have hd := digitsL_no (l := s.data.toList) (Or.inr (Or.inr ⟨s[k], mem_at s k hlt, by rw [Bool.eq_false_iff, ne_eq, isDig_iff]; omega⟩))
        have HN := Lib.hid hd; clear hd
        go_wp2
        go_ret2
        exact ⟨by rw [HN.out]; rfl, rfl⟩
      · have hc : isDig s[k] = true := (isDig_iff _).2 ⟨by omega, by omega⟩
        have HC := Lib.hid hc; clear hc
        go_wp2
        go_round
        case rel => exact ⟨k + 1, 10 * v + (s[k].toNat - 48), by omega, by go_num, by rw [show ((10 * v + (s[k].toNat - 48) : Nat) : Int) = 10 * (v : Int) + ((s[k].toNat : Int) - 48) from by omega], by rw [HT.out, val_snoc, ← HV.out], by rw [HT.out]; exact all_snoc HD.out HC.out⟩
        case measure => simp [intOf]; omega
    · obtain rfl : k = s.size := by omega
      have ht : s.data.toList.take s.size = s.data.toList := List.take_of_length_le (by rw [← Lib.size_eq]; omega)
      have hd := digitsL_yes (l := s.data.toList) (by rw [HL.out]; omega) (by rw [HL.out]; omega) (by have := HD.out; rw [ht] at this; exact this)
      have hvv : v = val s.data.toList := by have := HV.out; rw [ht] at this; exact this
      have HN := Lib.hid hd; clear hd ht
      have HW := Lib.hid hvv; clear hvv
      go_wp2
      go_ret2
      exact ⟨by rw [HN.out, ← HW.out]; rfl, rfl⟩

theorem at_some (s : ByteArray) (k : Nat) (h : k < s.size) : s.data.toList[k]? = some s[k] := by
  have : s[k] = s.data[k]'h := rfl
  rw [this]; simp

set_option maxHeartbeats 1000000 in
theorem part_any (s : ByteArray) (w : World) (hs : s.size ≤ maxLen) :
    Calls Try.prog 96 #[.string s] w fun e w' => e = .returned (.tuple #[.int .i64 ((partL s.data.toList).1 : Nat), .int .i64 ((partL s.data.toList).2 : Nat)]) ∧ w = w' := by
  unfold maxLen at hs
  have hlen : s.data.toList.length = s.size := (Lib.size_eq s).symm
  have HL := Lib.hid hlen; clear hlen
  go_enter Try.func96, Try.ntmps96
  go_wp2
  go_loop [4, 5] (fun n i => ∃ k v : Nat, k ≤ s.size ∧ i = .int .i64 k ∧ n = .int .i64 v ∧ v = val (s.data.toList.take (min k 10)) ∧ (∀ c ∈ s.data.toList.take k, isDig c = true)) (fun _ i => s.size - (intOf i).toNat)
  case atStart => exact ⟨0, 0, Nat.zero_le _, rfl, rfl, rfl, by simp⟩
  case round =>
    obtain ⟨k, v, hk, rfl, rfl, hv, hdig⟩ := hrel
    have hvb : v < 10000000000 := by
      rw [hv]
      refine val_small _ (fun c hc => hdig c ?_) (by rw [List.length_take]; omega)
      exact (List.take_sublist_take_left (by omega)).subset hc
    have HV := Lib.hid hv; clear hv
    have HD := Lib.hid hdig; clear hdig
    have fin : ∀ (hend : k = s.data.toList.length ∨ ∃ c, s.data.toList[k]? = some c ∧ isDig c = false), (10 < k ∧ partL s.data.toList = (0, 0)) ∨ (k ≤ 10 ∧ partL s.data.toList = (v, k)) := by
      intro hend
      by_cases hg : 10 < k
      · exact Or.inl ⟨hg, partL_great (by rw [HL.out]; exact hk) HD.out hend hg⟩
      · refine Or.inr ⟨by omega, ?_⟩
        rw [partL_small (by rw [HL.out]; exact hk) HD.out hend (by omega), HV.out, Nat.min_eq_left (by omega)]
    by_cases hlt : k < s.size
    · have hts := take_snoc s k hlt
      have has := at_some s k hlt
      have HT := Lib.hid hts; clear hts
      have HA := Lib.hid has; clear has
      by_cases c1 : (s[k].toNat : Int) < 48
      · rcases fin (Or.inr ⟨s[k], HA.out, by rw [Bool.eq_false_iff, ne_eq, isDig_iff]; omega⟩) with ⟨hg, hp⟩ | ⟨hg, hp⟩
        all_goals
          have HP := Lib.hid hp; clear hp fin
          go_wp2
          go_ret2
          exact ⟨by rw [HP.out]; rfl, rfl⟩
      by_cases c2 : 57 < (s[k].toNat : Int)
      · rcases fin (Or.inr ⟨s[k], HA.out, by rw [Bool.eq_false_iff, ne_eq, isDig_iff]; omega⟩) with ⟨hg, hp⟩ | ⟨hg, hp⟩
        all_goals
          have HP := Lib.hid hp; clear hp fin
          go_wp2
          go_ret2
          exact ⟨by rw [HP.out]; rfl, rfl⟩
      · have hc : isDig s[k] = true := (isDig_iff _).2 ⟨by omega, by omega⟩
        have HC := Lib.hid hc; clear hc fin
        by_cases h10 : k < 10
        · go_wp2
          go_round
          case rel => exact ⟨k + 1, 10 * v + (s[k].toNat - 48), by omega, by go_num, by rw [show ((10 * v + (s[k].toNat - 48) : Nat) : Int) = 10 * (v : Int) + ((s[k].toNat : Int) - 48) from by omega], by rw [Nat.min_eq_left (by omega), HT.out, val_snoc, HV.out, Nat.min_eq_left (by omega)], by rw [HT.out]; exact all_snoc HD.out HC.out⟩
          case measure => simp [intOf]; omega
        · go_wp2
          go_round
          case rel => exact ⟨k + 1, v, by omega, by go_num, rfl, by rw [HV.out, Nat.min_eq_right (by omega), Nat.min_eq_right (by omega)], by rw [HT.out]; exact all_snoc HD.out HC.out⟩
          case measure => simp [intOf]; omega
    · rcases fin (Or.inl (by rw [HL.out]; omega)) with ⟨hg, hp⟩ | ⟨hg, hp⟩
      all_goals
        have HP := Lib.hid hp; clear hp fin
        go_wp2
        go_ret2
        exact ⟨by rw [HP.out]; rfl, rfl⟩
end Go.Proofs.Ytdeelpagoffdjaa

/- strings.Cut at one byte, at every string. -/
namespace Go.Proofs.Ytdeelpagoffdjaa
open Go.RowKit NumPlain

set_option maxHeartbeats 400000 in
theorem cut_in (s : ByteArray) (hs : s.size ≤ maxLen) (i : Nat) (hi : Lib.indexByte s.data.toList 47 = (i : Int)) (hlt : i < s.size) (w : World) :
    Calls Try.prog 94 #[.string s, .string ⟨#[47]⟩] w fun e w' => e = .returned (.tuple #[.string (s.extract 0 i), .string (s.extract (i + 1) s.size), .bool true]) ∧ ∃ k, w' = w.drewN k := by
  unfold maxLen at hs
  have C := fun w => Try.stringslite_Index_one s 47 w
  rw [hi] at C
  have HC := Lib.hid C; clear C hi
  have C2 : Calls Try.prog 99 #[.string s, .string ⟨#[47]⟩] w fun e w' => e = .returned (.tuple #[.string (s.extract 0 i), .string (s.extract (i + 1) s.size), .bool true]) ∧ ∃ k, w' = w.drewN k := by
    go_enter Try.func99, Try.ntmps99
    go_wp2_with fail
    refine (HC.out _).mono ?_
    rintro _ w' ⟨rfl, rfl⟩
    go_wp2_with fail
    go_quiet (fail)
    go_wp2_with fail
    go_ret3
    exact ⟨rfl, _, rfl⟩
  have HC2 := Lib.hid C2; clear C2
  go_enter Try.func94, Try.ntmps94
  go_wp2_with fail
  refine (HC2.out).mono ?_
  rintro _ w' ⟨rfl, k, rfl⟩
  go_wp2_with fail
  go_ret3
  exact ⟨rfl, k, rfl⟩

set_option maxHeartbeats 400000 in
theorem cut_out (s : ByteArray) (hi : Lib.indexByte s.data.toList 47 = -1) (w : World) :
    Calls Try.prog 94 #[.string s, .string ⟨#[47]⟩] w fun e w' => e = .returned (.tuple #[.string s, .string ⟨#[]⟩, .bool false]) ∧ ∃ k, w' = w.drewN k := by
  have C := fun w => Try.stringslite_Index_one s 47 w
  rw [hi] at C
  have HC := Lib.hid C; clear C hi
  have C2 : Calls Try.prog 99 #[.string s, .string ⟨#[47]⟩] w fun e w' => e = .returned (.tuple #[.string s, .string ⟨#[]⟩, .bool false]) ∧ ∃ k, w' = w.drewN k := by
    go_enter Try.func99, Try.ntmps99
    go_wp2_with fail
    refine (HC.out _).mono ?_
    rintro _ w' ⟨rfl, rfl⟩
    go_wp2_with fail
    go_ret3
    exact ⟨rfl, 0, rfl⟩
  have HC2 := Lib.hid C2; clear C2
  go_enter Try.func94, Try.ntmps94
  go_wp2_with fail
  refine (HC2.out).mono ?_
  rintro _ w' ⟨rfl, k, rfl⟩
  go_wp2_with fail
  go_ret3
  exact ⟨rfl, k, rfl⟩
end Go.Proofs.Ytdeelpagoffdjaa

/- What a text of a number comes to, in two ways that agree: cut at the stroke first, or its digits first. -/
namespace NumPlain
open Go

theorem ib_none {l : List UInt8} (h : ∀ x ∈ l, x ≠ 47) : Lib.indexByte l 47 = -1 := by
  induction l with
  | nil => rfl
  | cons b l ih =>
    unfold Lib.indexByte
    have hb : (b == 47) = false := by rw [beq_eq_false_iff_ne]; exact h b (by simp)
    rw [hb, ih (fun x hx => h x (by simp [hx]))]; rfl
theorem ib_at {a : List UInt8} (b : List UInt8) (h : ∀ x ∈ a, x ≠ 47) : Lib.indexByte (a ++ 47 :: b) 47 = (a.length : Int) := by
  induction a with
  | nil => rfl
  | cons c l ih =>
    rw [List.cons_append]
    unfold Lib.indexByte
    have hb : (c == 47) = false := by rw [beq_eq_false_iff_ne]; exact h c (by simp)
    rw [hb, ih (fun x hx => h x (by simp [hx]))]
    have h1 : ((l.length : Int) == -1) = false := by rw [beq_eq_false_iff_ne]; omega
    rw [h1]
    simp
theorem split47 (l : List UInt8) : (∀ x ∈ l, x ≠ 47) ∨ ∃ a b, l = a ++ 47 :: b ∧ ∀ x ∈ a, x ≠ 47 := by
  induction l with
  | nil => left; simp
  | cons c l ih =>
    by_cases hc : c = 47
    · right; exact ⟨[], l, by rw [hc]; rfl, by simp⟩
    · rcases ih with h | ⟨a, b, rfl, h⟩
      · left
        intro x hx
        rcases List.mem_cons.1 hx with rfl | hx
        · exact hc
        · exact h x hx
      · right
        refine ⟨c :: a, b, rfl, ?_⟩
        intro x hx
        rcases List.mem_cons.1 hx with rfl | hx
        · exact hc
        · exact h x hx
theorem takeWhile_stop (a b : List UInt8) : (a ++ 47 :: b).takeWhile isDig = a.takeWhile isDig := by
  induction a with
  | nil => rfl
  | cons c l ih => rw [List.cons_append, List.takeWhile_cons, List.takeWhile_cons, ih]
theorem partL_stop (a b : List UInt8) : partL (a ++ 47 :: b) = partL a := by
  unfold partL; rw [takeWhile_stop]

theorem takeWhile_all {l : List UInt8} (h : (l.takeWhile isDig).length = l.length) : l.takeWhile isDig = l := by
  have := List.takeWhile_prefix (l := l) isDig
  exact this.eq_of_length h
theorem digits_part (l : List UInt8) : digitsL l = if (partL l).2 ≠ 0 ∧ (partL l).2 = l.length then ((partL l).1, true) else (0, false) := by
  by_cases h : 1 ≤ l.length ∧ l.length ≤ 10 ∧ l.all isDig = true
  · have ht : l.takeWhile isDig = l := by
      have := takeWhile_is (l := l) (k := l.length) (by omega) (by rw [List.take_length]; exact List.all_eq_true.1 h.2.2) (Or.inl rfl)
      rw [List.take_length] at this; exact this
    have hp : partL l = (val l, l.length) := by unfold partL; rw [ht, if_pos h.2.1]
    rw [hp, if_pos ⟨by show l.length ≠ 0; omega, rfl⟩]
    exact digitsL_yes h.1 h.2.1 (List.all_eq_true.1 h.2.2)
  · have hd : digitsL l = (0, false) := by unfold digitsL; rw [if_neg h]
    rw [hd, if_neg]
    rintro ⟨h1, h2⟩
    unfold partL at h1 h2
    split at h1
    · rename_i hle
      rw [if_pos hle] at h2
      have h2' : (l.takeWhile isDig).length = l.length := h2
      have ha := takeWhile_all h2'
      rw [ha] at hle
      refine h ⟨?_, hle, ?_⟩
      · have : (l.takeWhile isDig).length ≠ 0 := h1
        omega
      · rw [← ha]; exact List.all_takeWhile
    · exact h1 rfl

/-- Cut at the stroke first. -/
def bodyL (l : List UInt8) : Option (Nat × Nat) :=
  if 0 ≤ Lib.indexByte l 47 then
    if (digitsL (l.take (Lib.indexByte l 47).toNat)).2 && (digitsL (l.drop ((Lib.indexByte l 47).toNat + 1))).2 then some ((digitsL (l.take (Lib.indexByte l 47).toNat)).1, (digitsL (l.drop ((Lib.indexByte l 47).toNat + 1))).1) else none
  else if (digitsL l).2 then some ((digitsL l).1, 1) else none
/-- Its digits first. -/
def bodyR (l : List UInt8) : Option (Nat × Nat) :=
  if (partL l).2 = 0 then none
  else if (partL l).2 < l.length then
    if l[(partL l).2]? = some 47 then
      if (partL (l.drop ((partL l).2 + 1))).2 = 0 ∨ (partL l).2 + 1 + (partL (l.drop ((partL l).2 + 1))).2 ≠ l.length then none
      else some ((partL l).1, (partL (l.drop ((partL l).2 + 1))).1)
    else none
  else some ((partL l).1, 1)

theorem body_eq (l : List UInt8) : bodyR l = bodyL l := by
  rcases split47 l with h | ⟨a, b, rfl, h⟩
  · unfold bodyL bodyR
    have hd := digits_part l
    rw [ib_none h, if_neg (show ¬ (0 : Int) ≤ -1 by omega)]
    have hb := (partL_bound l).2.2
    generalize partL l = p at *
    generalize digitsL l = t at *
    by_cases h0 : p.2 = 0
    · rw [if_neg (by omega)] at hd
      rw [if_pos h0, hd]; rfl
    · rw [if_neg h0]
      by_cases hl : p.2 < l.length
      · have hne : ¬ l[p.2]? = some 47 := by
          intro he
          exact h 47 (List.mem_of_getElem? he) rfl
        rw [if_neg (by omega)] at hd
        rw [if_pos hl, if_neg hne, hd]; rfl
      · rw [if_pos ⟨h0, by omega⟩] at hd
        rw [if_neg hl, hd]; rfl
  · unfold bodyL bodyR
    have e1 : (a ++ 47 :: b).take a.length = a := by simp
    have e2 : (a ++ 47 :: b).drop (a.length + 1) = b := by
      rw [show a ++ 47 :: b = (a ++ [47]) ++ b from by simp, show a.length + 1 = (a ++ [47]).length from by simp, List.drop_left]
    have da := digits_part a
    have db := digits_part b
    rw [ib_at b h, if_pos (show (0 : Int) ≤ (a.length : Int) by omega), Int.toNat_natCast, e1, e2, partL_stop]
    have ha := (partL_bound a).2.2
    have hlen : (a ++ 47 :: b).length = a.length + (b.length + 1) := by simp
    generalize partL a = p at *
    generalize digitsL a = t at *
    generalize digitsL b = u at *
    by_cases h0 : p.2 = 0
    · rw [if_neg (by omega)] at da
      rw [if_pos h0, da]; rfl
    · rw [if_neg h0, if_pos (show p.2 < (a ++ 47 :: b).length by omega)]
      by_cases hl : p.2 = a.length
      · have hat : (a ++ 47 :: b)[p.2]? = some 47 := by rw [hl]; simp
        rw [if_pos ⟨h0, hl⟩] at da
        rw [if_pos hat, hl, e2, da]
        generalize partL b = q at *
        by_cases hq : q.2 ≠ 0 ∧ q.2 = b.length
        · rw [if_pos hq] at db
          rw [if_neg (by omega), db]; rfl
        · rw [if_neg hq] at db
          rw [if_pos (by omega), db]; rfl
      · have hat : ¬ (a ++ 47 :: b)[p.2]? = some 47 := by
          intro he
          rw [List.getElem?_append_left (by omega)] at he
          exact h 47 (List.mem_of_getElem? he) rfl
        rw [if_neg (by omega)] at da
        rw [if_neg hat, da]; rfl

/-- What Parse answers. -/
def parseL (l : List UInt8) : Int × Int × Bool :=
  match bodyL (if l.head? = some 45 then l.tail else l) with
  | none => (0, 0, false)
  | some (n, d) => ((mk (if l.head? = some 45 then -(n : Int) else n) d).1, (mk (if l.head? = some 45 then -(n : Int) else n) d).2.1, (mk (if l.head? = some 45 then -(n : Int) else n) d).2.2 == 0)
end NumPlain

/- num.Parse at every string. -/
namespace Go.Proofs.Ytdeelpagoffdjaa
open Go.RowKit NumPlain

/-- What Parse answers, as a value. -/
def res (t : Int × Int × Bool) : Value := .tuple #[.int .i64 t.1, .int .i64 t.2.1, .bool t.2.2]
/-- What Parse answers of what stands behind the sign. -/
def outL (neg : Bool) (l : List UInt8) : Int × Int × Bool :=
  match bodyL l with
  | none => (0, 0, false)
  | some (n, d) => ((mk (if neg then -(n : Int) else n) d).1, (mk (if neg then -(n : Int) else n) d).2.1, (mk (if neg then -(n : Int) else n) d).2.2 == 0)

/-- digits, by what it answers. -/
theorem digits_is (s : ByteArray) (hs : s.size ≤ maxLen) (n : Nat) (ok : Bool) (h : digitsL s.data.toList = (n, ok)) :
    ∀ w, Calls Try.prog 95 #[.string s] w fun e w' => e = .returned (.tuple #[.int .i64 (n : Int), .bool ok]) ∧ w = w' := by
  intro w
  have := digits_any s w hs
  rw [h] at this; exact this
theorem sign_bound {n : Nat} (h : n < 10000000000) (neg : Bool) : -10000000000 < (if neg then -(n : Int) else n) ∧ (if neg then -(n : Int) else (n : Int)) < 10000000000 := by
  cases neg <;> simp <;> omega

set_option maxHeartbeats 400000 in
theorem parse_pwn (s r u v : ByteArray) (n : Nat)
    (C : ∀ w, Calls Try.prog 93 #[.string s, .string ⟨#[45]⟩] w fun e w' => e = .returned (.tuple #[.string r, .bool false]) ∧ w' = w)
    (D : ∀ w, Calls Try.prog 94 #[.string r, .string ⟨#[47]⟩] w fun e w' => e = .returned (.tuple #[.string u, .string v, .bool false]) ∧ ∃ k, w' = w.drewN k)
    (E : ∀ w, Calls Try.prog 95 #[.string u] w fun e w' => e = .returned (.tuple #[.int .i64 (n : Int), .bool false]) ∧ w = w') (w : World) :
    Calls Try.prog 87 #[.string s] w fun e' w' => e' = .returned (res (0, 0, false)) ∧ ∃ k, w' = w.drewN k := by
  have HS := Lib.hid C; clear C
  have HC := Lib.hid D; clear D
  have HT := Lib.hid E; clear E
  go_enter Try.func87, Try.ntmps87
  go_wp2_with fail
  refine (HS.out _).mono ?_
  rintro _ w' ⟨rfl, rfl⟩
  go_wp2_with fail
  refine (HC.out _).mono ?_
  rintro _ w' ⟨rfl, k1, rfl⟩
  go_wp2_with fail
  refine (HT.out _).mono ?_
  rintro _ w' ⟨rfl, rfl⟩
  go_wp2_with fail
  go_ret3
  exact ⟨rfl, _, rfl⟩

set_option maxHeartbeats 400000 in
theorem parse_pwy (s r u v : ByteArray) (n : Nat) (a b e : Int)
    (C : ∀ w, Calls Try.prog 93 #[.string s, .string ⟨#[45]⟩] w fun e w' => e = .returned (.tuple #[.string r, .bool false]) ∧ w' = w)
    (D : ∀ w, Calls Try.prog 94 #[.string r, .string ⟨#[47]⟩] w fun e w' => e = .returned (.tuple #[.string u, .string v, .bool false]) ∧ ∃ k, w' = w.drewN k)
    (E : ∀ w, Calls Try.prog 95 #[.string u] w fun e w' => e = .returned (.tuple #[.int .i64 (n : Int), .bool true]) ∧ w = w')
    (hn : n < 10000000000) (hk : mk (n : Int) 1 = (a, b, e)) (w : World) :
    Calls Try.prog 87 #[.string s] w fun e' w' => e' = .returned (res (a, b, e == 0)) ∧ ∃ k, w' = w.drewN k := by
  have HS := Lib.hid C; clear C
  have HC := Lib.hid D; clear D
  have HT := Lib.hid E; clear E
  have HM := Lib.hid hk; clear hk
  go_enter Try.func87, Try.ntmps87
  go_wp2_with fail
  refine (HS.out _).mono ?_
  rintro _ w' ⟨rfl, rfl⟩
  go_wp2_with fail
  refine (HC.out _).mono ?_
  rintro _ w' ⟨rfl, k1, rfl⟩
  go_wp2_with fail
  refine (HT.out _).mono ?_
  rintro _ w' ⟨rfl, rfl⟩
  go_wp2_with fail
  refine (make_any (n : Int) 1 (a, b, e) HM.out _ (by omega) (by omega) (by omega) (by omega)).mono ?_
  rintro _ w' ⟨rfl, k2, rfl⟩
  unfold three
  go_wp2_with fail
  go_ret3
  exact ⟨rfl, _, rfl⟩

set_option maxHeartbeats 400000 in
theorem parse_pcn (s r u v : ByteArray) (n : Nat)
    (C : ∀ w, Calls Try.prog 93 #[.string s, .string ⟨#[45]⟩] w fun e w' => e = .returned (.tuple #[.string r, .bool false]) ∧ w' = w)
    (D : ∀ w, Calls Try.prog 94 #[.string r, .string ⟨#[47]⟩] w fun e w' => e = .returned (.tuple #[.string u, .string v, .bool true]) ∧ ∃ k, w' = w.drewN k)
    (E : ∀ w, Calls Try.prog 95 #[.string u] w fun e w' => e = .returned (.tuple #[.int .i64 (n : Int), .bool false]) ∧ w = w') (w : World) :
    Calls Try.prog 87 #[.string s] w fun e' w' => e' = .returned (res (0, 0, false)) ∧ ∃ k, w' = w.drewN k := by
  have HS := Lib.hid C; clear C
  have HC := Lib.hid D; clear D
  have HT := Lib.hid E; clear E
  go_enter Try.func87, Try.ntmps87
  go_wp2_with fail
  refine (HS.out _).mono ?_
  rintro _ w' ⟨rfl, rfl⟩
  go_wp2_with fail
  refine (HC.out _).mono ?_
  rintro _ w' ⟨rfl, k1, rfl⟩
  go_wp2_with fail
  refine (HT.out _).mono ?_
  rintro _ w' ⟨rfl, rfl⟩
  go_wp2_with fail
  go_ret3
  exact ⟨rfl, _, rfl⟩

set_option maxHeartbeats 400000 in
theorem parse_pcyn (s r u v : ByteArray) (n m : Nat)
    (C : ∀ w, Calls Try.prog 93 #[.string s, .string ⟨#[45]⟩] w fun e w' => e = .returned (.tuple #[.string r, .bool false]) ∧ w' = w)
    (D : ∀ w, Calls Try.prog 94 #[.string r, .string ⟨#[47]⟩] w fun e w' => e = .returned (.tuple #[.string u, .string v, .bool true]) ∧ ∃ k, w' = w.drewN k)
    (E : ∀ w, Calls Try.prog 95 #[.string u] w fun e w' => e = .returned (.tuple #[.int .i64 (n : Int), .bool true]) ∧ w = w')
    (F : ∀ w, Calls Try.prog 95 #[.string v] w fun e w' => e = .returned (.tuple #[.int .i64 (m : Int), .bool false]) ∧ w = w') (w : World) :
    Calls Try.prog 87 #[.string s] w fun e' w' => e' = .returned (res (0, 0, false)) ∧ ∃ k, w' = w.drewN k := by
  have HS := Lib.hid C; clear C
  have HC := Lib.hid D; clear D
  have HT := Lib.hid E; clear E
  have HB := Lib.hid F; clear F
  go_enter Try.func87, Try.ntmps87
  go_wp2_with fail
  refine (HS.out _).mono ?_
  rintro _ w' ⟨rfl, rfl⟩
  go_wp2_with fail
  refine (HC.out _).mono ?_
  rintro _ w' ⟨rfl, k1, rfl⟩
  go_wp2_with fail
  refine (HT.out _).mono ?_
  rintro _ w' ⟨rfl, rfl⟩
  go_wp2_with fail
  refine (HB.out _).mono ?_
  rintro _ w' ⟨rfl, rfl⟩
  go_wp2_with fail
  go_ret3
  exact ⟨rfl, _, rfl⟩

set_option maxHeartbeats 400000 in
theorem parse_pcyy (s r u v : ByteArray) (n m : Nat) (a b e : Int)
    (C : ∀ w, Calls Try.prog 93 #[.string s, .string ⟨#[45]⟩] w fun e w' => e = .returned (.tuple #[.string r, .bool false]) ∧ w' = w)
    (D : ∀ w, Calls Try.prog 94 #[.string r, .string ⟨#[47]⟩] w fun e w' => e = .returned (.tuple #[.string u, .string v, .bool true]) ∧ ∃ k, w' = w.drewN k)
    (E : ∀ w, Calls Try.prog 95 #[.string u] w fun e w' => e = .returned (.tuple #[.int .i64 (n : Int), .bool true]) ∧ w = w')
    (F : ∀ w, Calls Try.prog 95 #[.string v] w fun e w' => e = .returned (.tuple #[.int .i64 (m : Int), .bool true]) ∧ w = w')
    (hn : n < 10000000000) (hm : m < 10000000000) (hk : mk (n : Int) (m : Int) = (a, b, e)) (w : World) :
    Calls Try.prog 87 #[.string s] w fun e' w' => e' = .returned (res (a, b, e == 0)) ∧ ∃ k, w' = w.drewN k := by
  have HS := Lib.hid C; clear C
  have HC := Lib.hid D; clear D
  have HT := Lib.hid E; clear E
  have HB := Lib.hid F; clear F
  have HM := Lib.hid hk; clear hk
  go_enter Try.func87, Try.ntmps87
  go_wp2_with fail
  refine (HS.out _).mono ?_
  rintro _ w' ⟨rfl, rfl⟩
  go_wp2_with fail
  refine (HC.out _).mono ?_
  rintro _ w' ⟨rfl, k1, rfl⟩
  go_wp2_with fail
  refine (HT.out _).mono ?_
  rintro _ w' ⟨rfl, rfl⟩
  go_wp2_with fail
  refine (HB.out _).mono ?_
  rintro _ w' ⟨rfl, rfl⟩
  go_wp2_with fail
  refine (make_any (n : Int) (m : Int) (a, b, e) HM.out _ (by omega) (by omega) (by omega) (by omega)).mono ?_
  rintro _ w' ⟨rfl, k2, rfl⟩
  unfold three
  go_wp2_with fail
  go_ret3
  exact ⟨rfl, _, rfl⟩

set_option maxHeartbeats 400000 in
theorem parse_nwn (s r u v : ByteArray) (n : Nat)
    (C : ∀ w, Calls Try.prog 93 #[.string s, .string ⟨#[45]⟩] w fun e w' => e = .returned (.tuple #[.string r, .bool true]) ∧ w' = w)
    (D : ∀ w, Calls Try.prog 94 #[.string r, .string ⟨#[47]⟩] w fun e w' => e = .returned (.tuple #[.string u, .string v, .bool false]) ∧ ∃ k, w' = w.drewN k)
    (E : ∀ w, Calls Try.prog 95 #[.string u] w fun e w' => e = .returned (.tuple #[.int .i64 (n : Int), .bool false]) ∧ w = w') (w : World) :
    Calls Try.prog 87 #[.string s] w fun e' w' => e' = .returned (res (0, 0, false)) ∧ ∃ k, w' = w.drewN k := by
  have HS := Lib.hid C; clear C
  have HC := Lib.hid D; clear D
  have HT := Lib.hid E; clear E
  go_enter Try.func87, Try.ntmps87
  go_wp2_with fail
  refine (HS.out _).mono ?_
  rintro _ w' ⟨rfl, rfl⟩
  go_wp2_with fail
  refine (HC.out _).mono ?_
  rintro _ w' ⟨rfl, k1, rfl⟩
  go_wp2_with fail
  refine (HT.out _).mono ?_
  rintro _ w' ⟨rfl, rfl⟩
  go_wp2_with fail
  go_ret3
  exact ⟨rfl, _, rfl⟩

set_option maxHeartbeats 400000 in
theorem parse_nwy (s r u v : ByteArray) (n : Nat) (a b e : Int)
    (C : ∀ w, Calls Try.prog 93 #[.string s, .string ⟨#[45]⟩] w fun e w' => e = .returned (.tuple #[.string r, .bool true]) ∧ w' = w)
    (D : ∀ w, Calls Try.prog 94 #[.string r, .string ⟨#[47]⟩] w fun e w' => e = .returned (.tuple #[.string u, .string v, .bool false]) ∧ ∃ k, w' = w.drewN k)
    (E : ∀ w, Calls Try.prog 95 #[.string u] w fun e w' => e = .returned (.tuple #[.int .i64 (n : Int), .bool true]) ∧ w = w')
    (hn : n < 10000000000) (hk : mk (-(n : Int)) 1 = (a, b, e)) (w : World) :
    Calls Try.prog 87 #[.string s] w fun e' w' => e' = .returned (res (a, b, e == 0)) ∧ ∃ k, w' = w.drewN k := by
  have HS := Lib.hid C; clear C
  have HC := Lib.hid D; clear D
  have HT := Lib.hid E; clear E
  have HM := Lib.hid hk; clear hk
  go_enter Try.func87, Try.ntmps87
  go_wp2_with fail
  refine (HS.out _).mono ?_
  rintro _ w' ⟨rfl, rfl⟩
  go_wp2_with fail
  refine (HC.out _).mono ?_
  rintro _ w' ⟨rfl, k1, rfl⟩
  go_wp2_with fail
  refine (HT.out _).mono ?_
  rintro _ w' ⟨rfl, rfl⟩
  go_wp2_with fail
  refine (make_any (-(n : Int)) 1 (a, b, e) HM.out _ (by omega) (by omega) (by omega) (by omega)).mono ?_
  rintro _ w' ⟨rfl, k2, rfl⟩
  unfold three
  go_wp2_with fail
  go_ret3
  exact ⟨rfl, _, rfl⟩

set_option maxHeartbeats 400000 in
theorem parse_ncn (s r u v : ByteArray) (n : Nat)
    (C : ∀ w, Calls Try.prog 93 #[.string s, .string ⟨#[45]⟩] w fun e w' => e = .returned (.tuple #[.string r, .bool true]) ∧ w' = w)
    (D : ∀ w, Calls Try.prog 94 #[.string r, .string ⟨#[47]⟩] w fun e w' => e = .returned (.tuple #[.string u, .string v, .bool true]) ∧ ∃ k, w' = w.drewN k)
    (E : ∀ w, Calls Try.prog 95 #[.string u] w fun e w' => e = .returned (.tuple #[.int .i64 (n : Int), .bool false]) ∧ w = w') (w : World) :
    Calls Try.prog 87 #[.string s] w fun e' w' => e' = .returned (res (0, 0, false)) ∧ ∃ k, w' = w.drewN k := by
  have HS := Lib.hid C; clear C
  have HC := Lib.hid D; clear D
  have HT := Lib.hid E; clear E
  go_enter Try.func87, Try.ntmps87
  go_wp2_with fail
  refine (HS.out _).mono ?_
  rintro _ w' ⟨rfl, rfl⟩
  go_wp2_with fail
  refine (HC.out _).mono ?_
  rintro _ w' ⟨rfl, k1, rfl⟩
  go_wp2_with fail
  refine (HT.out _).mono ?_
  rintro _ w' ⟨rfl, rfl⟩
  go_wp2_with fail
  go_ret3
  exact ⟨rfl, _, rfl⟩

set_option maxHeartbeats 400000 in
theorem parse_ncyn (s r u v : ByteArray) (n m : Nat)
    (C : ∀ w, Calls Try.prog 93 #[.string s, .string ⟨#[45]⟩] w fun e w' => e = .returned (.tuple #[.string r, .bool true]) ∧ w' = w)
    (D : ∀ w, Calls Try.prog 94 #[.string r, .string ⟨#[47]⟩] w fun e w' => e = .returned (.tuple #[.string u, .string v, .bool true]) ∧ ∃ k, w' = w.drewN k)
    (E : ∀ w, Calls Try.prog 95 #[.string u] w fun e w' => e = .returned (.tuple #[.int .i64 (n : Int), .bool true]) ∧ w = w')
    (F : ∀ w, Calls Try.prog 95 #[.string v] w fun e w' => e = .returned (.tuple #[.int .i64 (m : Int), .bool false]) ∧ w = w') (w : World) :
    Calls Try.prog 87 #[.string s] w fun e' w' => e' = .returned (res (0, 0, false)) ∧ ∃ k, w' = w.drewN k := by
  have HS := Lib.hid C; clear C
  have HC := Lib.hid D; clear D
  have HT := Lib.hid E; clear E
  have HB := Lib.hid F; clear F
  go_enter Try.func87, Try.ntmps87
  go_wp2_with fail
  refine (HS.out _).mono ?_
  rintro _ w' ⟨rfl, rfl⟩
  go_wp2_with fail
  refine (HC.out _).mono ?_
  rintro _ w' ⟨rfl, k1, rfl⟩
  go_wp2_with fail
  refine (HT.out _).mono ?_
  rintro _ w' ⟨rfl, rfl⟩
  go_wp2_with fail
  refine (HB.out _).mono ?_
  rintro _ w' ⟨rfl, rfl⟩
  go_wp2_with fail
  go_ret3
  exact ⟨rfl, _, rfl⟩

set_option maxHeartbeats 400000 in
theorem parse_ncyy (s r u v : ByteArray) (n m : Nat) (a b e : Int)
    (C : ∀ w, Calls Try.prog 93 #[.string s, .string ⟨#[45]⟩] w fun e w' => e = .returned (.tuple #[.string r, .bool true]) ∧ w' = w)
    (D : ∀ w, Calls Try.prog 94 #[.string r, .string ⟨#[47]⟩] w fun e w' => e = .returned (.tuple #[.string u, .string v, .bool true]) ∧ ∃ k, w' = w.drewN k)
    (E : ∀ w, Calls Try.prog 95 #[.string u] w fun e w' => e = .returned (.tuple #[.int .i64 (n : Int), .bool true]) ∧ w = w')
    (F : ∀ w, Calls Try.prog 95 #[.string v] w fun e w' => e = .returned (.tuple #[.int .i64 (m : Int), .bool true]) ∧ w = w')
    (hn : n < 10000000000) (hm : m < 10000000000) (hk : mk (-(n : Int)) (m : Int) = (a, b, e)) (w : World) :
    Calls Try.prog 87 #[.string s] w fun e' w' => e' = .returned (res (a, b, e == 0)) ∧ ∃ k, w' = w.drewN k := by
  have HS := Lib.hid C; clear C
  have HC := Lib.hid D; clear D
  have HT := Lib.hid E; clear E
  have HB := Lib.hid F; clear F
  have HM := Lib.hid hk; clear hk
  go_enter Try.func87, Try.ntmps87
  go_wp2_with fail
  refine (HS.out _).mono ?_
  rintro _ w' ⟨rfl, rfl⟩
  go_wp2_with fail
  refine (HC.out _).mono ?_
  rintro _ w' ⟨rfl, k1, rfl⟩
  go_wp2_with fail
  refine (HT.out _).mono ?_
  rintro _ w' ⟨rfl, rfl⟩
  go_wp2_with fail
  refine (HB.out _).mono ?_
  rintro _ w' ⟨rfl, rfl⟩
  go_wp2_with fail
  refine (make_any (-(n : Int)) (m : Int) (a, b, e) HM.out _ (by omega) (by omega) (by omega) (by omega)).mono ?_
  rintro _ w' ⟨rfl, k2, rfl⟩
  unfold three
  go_wp2_with fail
  go_ret3
  exact ⟨rfl, _, rfl⟩

end Go.Proofs.Ytdeelpagoffdjaa

/- num.Parse at every string: the ways joined. -/
namespace Go.Proofs.Ytdeelpagoffdjaa
open Go.RowKit NumPlain

theorem cut_cases (s : ByteArray) : Lib.indexByte s.data.toList 47 = -1 ∨ ∃ i : Nat, Lib.indexByte s.data.toList 47 = (i : Int) ∧ i < s.size := by
  rcases split47 s.data.toList with h | ⟨a, b, he, h⟩
  · exact Or.inl (ib_none h)
  · refine Or.inr ⟨a.length, by rw [he]; exact ib_at b h, ?_⟩
    rw [Lib.size_eq, he]; simp
theorem bodyL_out {l : List UInt8} {n : Nat} {ok : Bool} (hi : Lib.indexByte l 47 = -1) (h : digitsL l = (n, ok)) : bodyL l = if ok then some (n, 1) else none := by
  unfold bodyL; rw [hi, if_neg (by omega), h]
theorem bodyL_in {l : List UInt8} {i n m : Nat} {ok ok2 : Bool} (hi : Lib.indexByte l 47 = (i : Int)) (h : digitsL (l.take i) = (n, ok)) (h2 : digitsL (l.drop (i + 1)) = (m, ok2)) : bodyL l = if ok && ok2 then some (n, m) else none := by
  unfold bodyL; rw [hi, if_pos (by omega), Int.toNat_natCast, h, h2]
theorem outL_none {neg : Bool} {l : List UInt8} (h : bodyL l = none) : outL neg l = (0, 0, false) := by unfold outL; rw [h]
theorem outL_some {neg : Bool} {l : List UInt8} {n d : Nat} {a b e : Int} (h : bodyL l = some (n, d)) (hk : mk (if neg then -(n : Int) else n) d = (a, b, e)) : outL neg l = (a, b, e == 0) := by
  unfold outL; rw [h]; simp only [hk]

theorem extract_len (s : ByteArray) (i j : Nat) : (s.extract i j).size ≤ s.size := by
  rw [ByteArray.size_extract]; omega
theorem digits_pair (l : List UInt8) : ∃ n ok, digitsL l = (n, ok) ∧ n < 10000000000 := by
  have := digitsL_bound l
  exact ⟨_, _, rfl, this⟩

theorem parse_behind (s r : ByteArray) (hr : r.size ≤ maxLen) (neg : Bool)
    (C : ∀ w, Calls Try.prog 93 #[.string s, .string ⟨#[45]⟩] w fun e w' => e = .returned (.tuple #[.string r, .bool neg]) ∧ w' = w) (w : World) :
    Calls Try.prog 87 #[.string s] w fun e w' => e = .returned (res (outL neg r.data.toList)) ∧ ∃ k, w' = w.drewN k := by
  rcases cut_cases r with hi | ⟨i, hi, hlt⟩
  · obtain ⟨n, ok, hd, hn⟩ := digits_pair r.data.toList
    have E := digits_is r hr n ok hd
    have hb := bodyL_out hi hd
    cases ok
    · rw [outL_none (by rw [hb]; rfl)]
      cases neg
      · exact parse_pwn s r r ⟨#[]⟩ n C (cut_out r hi) E w
      · exact parse_nwn s r r ⟨#[]⟩ n C (cut_out r hi) E w
    · obtain ⟨⟨a, b, e⟩, hk⟩ : ∃ t, mk (if neg then -(n : Int) else n) 1 = t := ⟨_, rfl⟩
      rw [outL_some (by rw [hb]; rfl) hk]
      cases neg
      · exact parse_pwy s r r ⟨#[]⟩ n a b e C (cut_out r hi) E hn hk w
      · exact parse_nwy s r r ⟨#[]⟩ n a b e C (cut_out r hi) E hn hk w
  · have e1 : (r.extract 0 i).data.toList = r.data.toList.take i := by rw [Lib.extract_data, List.drop_zero, Nat.sub_zero]
    have e2 : (r.extract (i + 1) r.size).data.toList = r.data.toList.drop (i + 1) := Lib.extract_to_end r (i + 1)
    obtain ⟨n, ok, hd, hn⟩ := digits_pair (r.data.toList.take i)
    obtain ⟨m, ok2, hd2, hm⟩ := digits_pair (r.data.toList.drop (i + 1))
    have E := digits_is (r.extract 0 i) (Nat.le_trans (extract_len r 0 i) hr) n ok (by rw [e1]; exact hd)
    have F := digits_is (r.extract (i + 1) r.size) (Nat.le_trans (extract_len r _ _) hr) m ok2 (by rw [e2]; exact hd2)
    have hb := bodyL_in hi hd hd2
    have D := cut_in r hr i hi hlt
    cases ok
    · rw [outL_none (by rw [hb]; rfl)]
      cases neg
      · exact parse_pcn s r _ _ n C D E w
      · exact parse_ncn s r _ _ n C D E w
    cases ok2
    · rw [outL_none (by rw [hb]; rfl)]
      cases neg
      · exact parse_pcyn s r _ _ n m C D E F w
      · exact parse_ncyn s r _ _ n m C D E F w
    · obtain ⟨⟨a, b, e⟩, hk⟩ : ∃ t, mk (if neg then -(n : Int) else n) m = t := ⟨_, rfl⟩
      rw [outL_some (by rw [hb]; rfl) hk]
      cases neg
      · exact parse_pcyy s r _ _ n m a b e C D E F hn hm hk w
      · exact parse_ncyy s r _ _ n m a b e C D E F hn hm hk w

/-- What stands behind the sign, and whether there is one. -/
def restL (l : List UInt8) : List UInt8 := if l.head? = some 45 then l.tail else l
theorem trim_sign (l : List UInt8) : Lib.trimPrefix l [45] = restL l ∧ Lib.hasPrefix l [45] = decide (l.head? = some 45) := by
  unfold Lib.trimPrefix Lib.hasPrefix restL
  cases l with
  | nil => exact ⟨rfl, rfl⟩
  | cons c r =>
    by_cases h : c = 45
    · subst h; exact ⟨by simp, by simp⟩
    · have hp : List.isPrefixOf [45] (c :: r) = false := by
        show ((45 : UInt8) == c && List.isPrefixOf [] r) = false
        rw [beq_eq_false_iff_ne.2 (fun e => h e.symm)]; rfl
      exact ⟨by rw [hp]; simp [h], by rw [hp]; simp [h]⟩
theorem rest_len (l : List UInt8) : (restL l).length ≤ l.length := by
  unfold restL; split
  · rw [List.length_tail]; omega
  · exact Nat.le_refl _
def parse (l : List UInt8) : Int × Int × Bool := outL (decide (l.head? = some 45)) (restL l)

theorem parse_any (s : ByteArray) (hs : s.size ≤ maxLen) (w : World) :
    Calls Try.prog 87 #[.string s] w fun e w' => e = .returned (res (parse s.data.toList)) ∧ ∃ k, w' = w.drewN k := by
  have hr : (⟨(restL s.data.toList).toArray⟩ : ByteArray).size ≤ maxLen := by
    have h1 := rest_len s.data.toList
    rw [← Lib.size_eq] at h1
    rw [Lib.size_eq]
    exact Nat.le_trans h1 hs
  refine parse_behind s ⟨(restL s.data.toList).toArray⟩ hr (decide (s.data.toList.head? = some 45)) ?_ w
  intro w
  have h := Try.strings_CutPrefix s ⟨#[45]⟩ w
  rw [show (⟨#[45]⟩ : ByteArray).data.toList = [45] from rfl, (trim_sign _).1, (trim_sign _).2] at h
  exact h
end Go.Proofs.Ytdeelpagoffdjaa

/- The reference's Parse: one theorem a way. -/
namespace Go.Proofs.Ytdeelpagoffdjaa
open Go.RowKit NumPlain
set_option linter.unusedVariables false

set_option maxHeartbeats 400000 in
theorem pref_ez (s : ByteArray) (n k : Nat) (hs : s.size ≤ maxLen) (h0 : s.size = 0)
    (E : ∀ w, Calls Try.prog 96 #[.string s] w fun e w' => e = .returned (.tuple #[.int .i64 (n : Int), .int .i64 (k : Int)]) ∧ w = w') (hk : k = 0) (w : World) :
    Calls Try.prog 90 #[.string s] w fun e' w' => e' = .returned (res (0, 0, false)) ∧ w = w' := by
  unfold maxLen at hs
  have HE := Lib.hid E; clear E
  subst hk
  have h1 : s.size ≤ 0 := by omega
  clear h0
  go_enter Try.func90, Try.ntmps90
  go_wp2_with fail
  refine (HE.out _).mono ?_
  rintro _ w' ⟨rfl, rfl⟩
  go_wp2_with fail
  go_ret3
  exact ⟨rfl, rfl⟩

set_option maxHeartbeats 400000 in
theorem pref_pz (s : ByteArray) (n k : Nat) (hs : s.size ≤ maxLen) (h0 : 0 < s.size) (h45 : s[0].toNat ≠ 45)
    (E : ∀ w, Calls Try.prog 96 #[.string s] w fun e w' => e = .returned (.tuple #[.int .i64 (n : Int), .int .i64 (k : Int)]) ∧ w = w') (hk : k = 0) (w : World) :
    Calls Try.prog 90 #[.string s] w fun e' w' => e' = .returned (res (0, 0, false)) ∧ w = w' := by
  unfold maxLen at hs
  have HE := Lib.hid E; clear E
  have q45 : ((s[0].toNat : Int) == 45) = false := by rw [beq_eq_false_iff_ne]; omega
  clear h45
  subst hk
  go_enter Try.func90, Try.ntmps90
  go_wp2_with fail
  refine (HE.out _).mono ?_
  rintro _ w' ⟨rfl, rfl⟩
  go_wp2_with fail
  go_ret3
  exact ⟨rfl, rfl⟩

set_option maxHeartbeats 400000 in
theorem pref_pw (s : ByteArray) (n k : Nat) (a b e : Int) (hs : s.size ≤ maxLen) (h0 : 0 < s.size) (h45 : s[0].toNat ≠ 45)
    (E : ∀ w, Calls Try.prog 96 #[.string s] w fun e w' => e = .returned (.tuple #[.int .i64 (n : Int), .int .i64 (k : Int)]) ∧ w = w') (hk : 1 ≤ k) (hk10 : k ≤ 10) (hl : k = s.size)
    (hn : n < 10000000000) (hk2 : mk (n : Int) 1 = (a, b, e)) (w : World) :
    Calls Try.prog 90 #[.string s] w fun e' w' => e' = .returned (res (a, b, e == 0)) ∧ w = w' := by
  unfold maxLen at hs
  have HE := Lib.hid E; clear E
  have q45 : ((s[0].toNat : Int) == 45) = false := by rw [beq_eq_false_iff_ne]; omega
  clear h45
  have qk : ((k : Int) == 0) = false := by rw [beq_eq_false_iff_ne]; omega
  have hl2 : s.size ≤ k := by omega
  clear hl
  have HM := Lib.hid hk2; clear hk2
  go_enter Try.func90, Try.ntmps90
  go_wp2_with fail
  refine (HE.out _).mono ?_
  rintro _ w' ⟨rfl, rfl⟩
  go_wp2_with fail
  refine (makeRef_any (n : Int) 1 (a, b, e) HM.out _ (by omega) (by omega) (by omega) (by omega)).mono ?_
  rintro _ w' ⟨rfl, rfl⟩
  unfold three
  go_wp2_with fail
  go_ret3
  exact ⟨rfl, rfl⟩

set_option maxHeartbeats 400000 in
theorem pref_px (s : ByteArray) (n k : Nat) (hs : s.size ≤ maxLen) (h0 : 0 < s.size) (h45 : s[0].toNat ≠ 45)
    (E : ∀ w, Calls Try.prog 96 #[.string s] w fun e w' => e = .returned (.tuple #[.int .i64 (n : Int), .int .i64 (k : Int)]) ∧ w = w') (hk : 1 ≤ k) (hk10 : k ≤ 10) (hl : k < s.size) (h47 : s[k].toNat ≠ 47) (w : World) :
    Calls Try.prog 90 #[.string s] w fun e' w' => e' = .returned (res (0, 0, false)) ∧ w = w' := by
  unfold maxLen at hs
  have HE := Lib.hid E; clear E
  have q45 : ((s[0].toNat : Int) == 45) = false := by rw [beq_eq_false_iff_ne]; omega
  clear h45
  have qk : ((k : Int) == 0) = false := by rw [beq_eq_false_iff_ne]; omega
  have q47 : ((s[k].toNat : Int) == 47) = false := by rw [beq_eq_false_iff_ne]; omega
  clear h47
  go_enter Try.func90, Try.ntmps90
  go_wp2_with fail
  refine (HE.out _).mono ?_
  rintro _ w' ⟨rfl, rfl⟩
  go_wp2_with fail
  go_ret3
  exact ⟨rfl, rfl⟩

set_option maxHeartbeats 400000 in
theorem pref_pa (s v : ByteArray) (n k m j : Nat) (hs : s.size ≤ maxLen) (h0 : 0 < s.size) (h45 : s[0].toNat ≠ 45)
    (E : ∀ w, Calls Try.prog 96 #[.string s] w fun e w' => e = .returned (.tuple #[.int .i64 (n : Int), .int .i64 (k : Int)]) ∧ w = w') (hk : 1 ≤ k) (hk10 : k ≤ 10) (hl : k < s.size) (h47 : s[k].toNat = 47) (hv : s.extract (k + 1) s.size = v)
    (F : ∀ w, Calls Try.prog 96 #[.string v] w fun e w' => e = .returned (.tuple #[.int .i64 (m : Int), .int .i64 (j : Int)]) ∧ w = w') (hj : j = 0) (w : World) :
    Calls Try.prog 90 #[.string s] w fun e' w' => e' = .returned (res (0, 0, false)) ∧ w = w' := by
  unfold maxLen at hs
  have HE := Lib.hid E; clear E
  have HF := Lib.hid F; clear F
  have HV := Lib.hid hv; clear hv
  have q45 : ((s[0].toNat : Int) == 45) = false := by rw [beq_eq_false_iff_ne]; omega
  clear h45
  have qk : ((k : Int) == 0) = false := by rw [beq_eq_false_iff_ne]; omega
  have q47 : ((s[k].toNat : Int) == 47) = true := by rw [beq_iff_eq]; omega
  clear h47
  subst hj
  go_enter Try.func90, Try.ntmps90
  go_wp2_with fail
  refine (HE.out _).mono ?_
  rintro _ w' ⟨rfl, rfl⟩
  go_wp2_with fail
  rw [HV.out]
  refine (HF.out _).mono ?_
  rintro _ w' ⟨rfl, rfl⟩
  go_wp2_with fail
  go_ret3
  exact ⟨rfl, rfl⟩

set_option maxHeartbeats 400000 in
theorem pref_pb (s v : ByteArray) (n k m j : Nat) (hs : s.size ≤ maxLen) (h0 : 0 < s.size) (h45 : s[0].toNat ≠ 45)
    (E : ∀ w, Calls Try.prog 96 #[.string s] w fun e w' => e = .returned (.tuple #[.int .i64 (n : Int), .int .i64 (k : Int)]) ∧ w = w') (hk : 1 ≤ k) (hk10 : k ≤ 10) (hl : k < s.size) (h47 : s[k].toNat = 47) (hv : s.extract (k + 1) s.size = v)
    (F : ∀ w, Calls Try.prog 96 #[.string v] w fun e w' => e = .returned (.tuple #[.int .i64 (m : Int), .int .i64 (j : Int)]) ∧ w = w') (hj : 1 ≤ j) (hjl : j ≤ 10) (hm2 : k + 1 + j ≠ s.size) (w : World) :
    Calls Try.prog 90 #[.string s] w fun e' w' => e' = .returned (res (0, 0, false)) ∧ w = w' := by
  unfold maxLen at hs
  have HE := Lib.hid E; clear E
  have HF := Lib.hid F; clear F
  have HV := Lib.hid hv; clear hv
  have q45 : ((s[0].toNat : Int) == 45) = false := by rw [beq_eq_false_iff_ne]; omega
  clear h45
  have qk : ((k : Int) == 0) = false := by rw [beq_eq_false_iff_ne]; omega
  have q47 : ((s[k].toNat : Int) == 47) = true := by rw [beq_iff_eq]; omega
  clear h47
  have qj : ((j : Int) == 0) = false := by rw [beq_eq_false_iff_ne]; omega
  have qm : ((k : Int) + 1 + j != (s.size : Int)) = true := by rw [bne_iff_ne]; omega
  clear hm2
  go_enter Try.func90, Try.ntmps90
  go_wp2_with fail
  refine (HE.out _).mono ?_
  rintro _ w' ⟨rfl, rfl⟩
  go_wp2_with fail
  rw [HV.out]
  refine (HF.out _).mono ?_
  rintro _ w' ⟨rfl, rfl⟩
  go_wp2_with fail
  go_ret3
  exact ⟨rfl, rfl⟩

set_option maxHeartbeats 400000 in
theorem pref_py (s v : ByteArray) (n k m j : Nat) (a b e : Int) (hs : s.size ≤ maxLen) (h0 : 0 < s.size) (h45 : s[0].toNat ≠ 45)
    (E : ∀ w, Calls Try.prog 96 #[.string s] w fun e w' => e = .returned (.tuple #[.int .i64 (n : Int), .int .i64 (k : Int)]) ∧ w = w') (hk : 1 ≤ k) (hk10 : k ≤ 10) (hl : k < s.size) (h47 : s[k].toNat = 47) (hv : s.extract (k + 1) s.size = v)
    (F : ∀ w, Calls Try.prog 96 #[.string v] w fun e w' => e = .returned (.tuple #[.int .i64 (m : Int), .int .i64 (j : Int)]) ∧ w = w') (hj : 1 ≤ j) (hjl : j ≤ 10) (hm2 : k + 1 + j = s.size)
    (hn : n < 10000000000) (hm : m < 10000000000) (hk2 : mk (n : Int) (m : Int) = (a, b, e)) (w : World) :
    Calls Try.prog 90 #[.string s] w fun e' w' => e' = .returned (res (a, b, e == 0)) ∧ w = w' := by
  unfold maxLen at hs
  have HE := Lib.hid E; clear E
  have HF := Lib.hid F; clear F
  have HV := Lib.hid hv; clear hv
  have q45 : ((s[0].toNat : Int) == 45) = false := by rw [beq_eq_false_iff_ne]; omega
  clear h45
  have qk : ((k : Int) == 0) = false := by rw [beq_eq_false_iff_ne]; omega
  have q47 : ((s[k].toNat : Int) == 47) = true := by rw [beq_iff_eq]; omega
  clear h47
  have qj : ((j : Int) == 0) = false := by rw [beq_eq_false_iff_ne]; omega
  have qm : ((k : Int) + 1 + j != (s.size : Int)) = false := by rw [bne_eq_false_iff_eq]; omega
  clear hm2
  have HM := Lib.hid hk2; clear hk2
  go_enter Try.func90, Try.ntmps90
  go_wp2_with fail
  refine (HE.out _).mono ?_
  rintro _ w' ⟨rfl, rfl⟩
  go_wp2_with fail
  rw [HV.out]
  refine (HF.out _).mono ?_
  rintro _ w' ⟨rfl, rfl⟩
  go_wp2_with fail
  refine (makeRef_any (n : Int) (m : Int) (a, b, e) HM.out _ (by omega) (by omega) (by omega) (by omega)).mono ?_
  rintro _ w' ⟨rfl, rfl⟩
  unfold three
  go_wp2_with fail
  go_ret3
  exact ⟨rfl, rfl⟩

set_option maxHeartbeats 400000 in
theorem pref_nz (s r : ByteArray) (n k : Nat) (hs : s.size ≤ maxLen) (h0 : 0 < s.size) (h45 : s[0].toNat = 45) (hr : s.extract 1 s.size = r) (hrs : r.size ≤ maxLen)
    (E : ∀ w, Calls Try.prog 96 #[.string r] w fun e w' => e = .returned (.tuple #[.int .i64 (n : Int), .int .i64 (k : Int)]) ∧ w = w') (hk : k = 0) (w : World) :
    Calls Try.prog 90 #[.string s] w fun e' w' => e' = .returned (res (0, 0, false)) ∧ w = w' := by
  unfold maxLen at hs
  unfold maxLen at hrs
  have HE := Lib.hid E; clear E
  have HR := Lib.hid hr; clear hr
  have q45 : ((s[0].toNat : Int) == 45) = true := by rw [beq_iff_eq]; omega
  clear h45
  subst hk
  go_enter Try.func90, Try.ntmps90
  go_wp2_with fail
  rw [HR.out]
  refine (HE.out _).mono ?_
  rintro _ w' ⟨rfl, rfl⟩
  go_wp2_with fail
  go_ret3
  exact ⟨rfl, rfl⟩

set_option maxHeartbeats 400000 in
theorem pref_nw (s r : ByteArray) (n k : Nat) (a b e : Int) (hs : s.size ≤ maxLen) (h0 : 0 < s.size) (h45 : s[0].toNat = 45) (hr : s.extract 1 s.size = r) (hrs : r.size ≤ maxLen)
    (E : ∀ w, Calls Try.prog 96 #[.string r] w fun e w' => e = .returned (.tuple #[.int .i64 (n : Int), .int .i64 (k : Int)]) ∧ w = w') (hk : 1 ≤ k) (hk10 : k ≤ 10) (hl : k = r.size)
    (hn : n < 10000000000) (hk2 : mk (-(n : Int)) 1 = (a, b, e)) (w : World) :
    Calls Try.prog 90 #[.string s] w fun e' w' => e' = .returned (res (a, b, e == 0)) ∧ w = w' := by
  unfold maxLen at hs
  unfold maxLen at hrs
  have HE := Lib.hid E; clear E
  have HR := Lib.hid hr; clear hr
  have q45 : ((s[0].toNat : Int) == 45) = true := by rw [beq_iff_eq]; omega
  clear h45
  have qk : ((k : Int) == 0) = false := by rw [beq_eq_false_iff_ne]; omega
  have hl2 : r.size ≤ k := by omega
  clear hl
  have HM := Lib.hid hk2; clear hk2
  go_enter Try.func90, Try.ntmps90
  go_wp2_with fail
  rw [HR.out]
  refine (HE.out _).mono ?_
  rintro _ w' ⟨rfl, rfl⟩
  go_wp2_with fail
  refine (makeRef_any (-(n : Int)) 1 (a, b, e) HM.out _ (by omega) (by omega) (by omega) (by omega)).mono ?_
  rintro _ w' ⟨rfl, rfl⟩
  unfold three
  go_wp2_with fail
  go_ret3
  exact ⟨rfl, rfl⟩

set_option maxHeartbeats 400000 in
theorem pref_nx (s r : ByteArray) (n k : Nat) (hs : s.size ≤ maxLen) (h0 : 0 < s.size) (h45 : s[0].toNat = 45) (hr : s.extract 1 s.size = r) (hrs : r.size ≤ maxLen)
    (E : ∀ w, Calls Try.prog 96 #[.string r] w fun e w' => e = .returned (.tuple #[.int .i64 (n : Int), .int .i64 (k : Int)]) ∧ w = w') (hk : 1 ≤ k) (hk10 : k ≤ 10) (hl : k < r.size) (h47 : r[k].toNat ≠ 47) (w : World) :
    Calls Try.prog 90 #[.string s] w fun e' w' => e' = .returned (res (0, 0, false)) ∧ w = w' := by
  unfold maxLen at hs
  unfold maxLen at hrs
  have HE := Lib.hid E; clear E
  have HR := Lib.hid hr; clear hr
  have q45 : ((s[0].toNat : Int) == 45) = true := by rw [beq_iff_eq]; omega
  clear h45
  have qk : ((k : Int) == 0) = false := by rw [beq_eq_false_iff_ne]; omega
  have q47 : ((r[k].toNat : Int) == 47) = false := by rw [beq_eq_false_iff_ne]; omega
  clear h47
  go_enter Try.func90, Try.ntmps90
  go_wp2_with fail
  rw [HR.out]
  refine (HE.out _).mono ?_
  rintro _ w' ⟨rfl, rfl⟩
  go_wp2_with fail
  go_ret3
  exact ⟨rfl, rfl⟩

set_option maxHeartbeats 400000 in
theorem pref_na (s r v : ByteArray) (n k m j : Nat) (hs : s.size ≤ maxLen) (h0 : 0 < s.size) (h45 : s[0].toNat = 45) (hr : s.extract 1 s.size = r) (hrs : r.size ≤ maxLen)
    (E : ∀ w, Calls Try.prog 96 #[.string r] w fun e w' => e = .returned (.tuple #[.int .i64 (n : Int), .int .i64 (k : Int)]) ∧ w = w') (hk : 1 ≤ k) (hk10 : k ≤ 10) (hl : k < r.size) (h47 : r[k].toNat = 47) (hv : r.extract (k + 1) r.size = v)
    (F : ∀ w, Calls Try.prog 96 #[.string v] w fun e w' => e = .returned (.tuple #[.int .i64 (m : Int), .int .i64 (j : Int)]) ∧ w = w') (hj : j = 0) (w : World) :
    Calls Try.prog 90 #[.string s] w fun e' w' => e' = .returned (res (0, 0, false)) ∧ w = w' := by
  unfold maxLen at hs
  unfold maxLen at hrs
  have HE := Lib.hid E; clear E
  have HF := Lib.hid F; clear F
  have HV := Lib.hid hv; clear hv
  have HR := Lib.hid hr; clear hr
  have q45 : ((s[0].toNat : Int) == 45) = true := by rw [beq_iff_eq]; omega
  clear h45
  have qk : ((k : Int) == 0) = false := by rw [beq_eq_false_iff_ne]; omega
  have q47 : ((r[k].toNat : Int) == 47) = true := by rw [beq_iff_eq]; omega
  clear h47
  subst hj
  go_enter Try.func90, Try.ntmps90
  go_wp2_with fail
  rw [HR.out]
  refine (HE.out _).mono ?_
  rintro _ w' ⟨rfl, rfl⟩
  go_wp2_with fail
  rw [HV.out]
  refine (HF.out _).mono ?_
  rintro _ w' ⟨rfl, rfl⟩
  go_wp2_with fail
  go_ret3
  exact ⟨rfl, rfl⟩

set_option maxHeartbeats 400000 in
theorem pref_nb (s r v : ByteArray) (n k m j : Nat) (hs : s.size ≤ maxLen) (h0 : 0 < s.size) (h45 : s[0].toNat = 45) (hr : s.extract 1 s.size = r) (hrs : r.size ≤ maxLen)
    (E : ∀ w, Calls Try.prog 96 #[.string r] w fun e w' => e = .returned (.tuple #[.int .i64 (n : Int), .int .i64 (k : Int)]) ∧ w = w') (hk : 1 ≤ k) (hk10 : k ≤ 10) (hl : k < r.size) (h47 : r[k].toNat = 47) (hv : r.extract (k + 1) r.size = v)
    (F : ∀ w, Calls Try.prog 96 #[.string v] w fun e w' => e = .returned (.tuple #[.int .i64 (m : Int), .int .i64 (j : Int)]) ∧ w = w') (hj : 1 ≤ j) (hjl : j ≤ 10) (hm2 : k + 1 + j ≠ r.size) (w : World) :
    Calls Try.prog 90 #[.string s] w fun e' w' => e' = .returned (res (0, 0, false)) ∧ w = w' := by
  unfold maxLen at hs
  unfold maxLen at hrs
  have HE := Lib.hid E; clear E
  have HF := Lib.hid F; clear F
  have HV := Lib.hid hv; clear hv
  have HR := Lib.hid hr; clear hr
  have q45 : ((s[0].toNat : Int) == 45) = true := by rw [beq_iff_eq]; omega
  clear h45
  have qk : ((k : Int) == 0) = false := by rw [beq_eq_false_iff_ne]; omega
  have q47 : ((r[k].toNat : Int) == 47) = true := by rw [beq_iff_eq]; omega
  clear h47
  have qj : ((j : Int) == 0) = false := by rw [beq_eq_false_iff_ne]; omega
  have qm : ((k : Int) + 1 + j != (r.size : Int)) = true := by rw [bne_iff_ne]; omega
  clear hm2
  go_enter Try.func90, Try.ntmps90
  go_wp2_with fail
  rw [HR.out]
  refine (HE.out _).mono ?_
  rintro _ w' ⟨rfl, rfl⟩
  go_wp2_with fail
  rw [HV.out]
  refine (HF.out _).mono ?_
  rintro _ w' ⟨rfl, rfl⟩
  go_wp2_with fail
  go_ret3
  exact ⟨rfl, rfl⟩

set_option maxHeartbeats 400000 in
theorem pref_ny (s r v : ByteArray) (n k m j : Nat) (a b e : Int) (hs : s.size ≤ maxLen) (h0 : 0 < s.size) (h45 : s[0].toNat = 45) (hr : s.extract 1 s.size = r) (hrs : r.size ≤ maxLen)
    (E : ∀ w, Calls Try.prog 96 #[.string r] w fun e w' => e = .returned (.tuple #[.int .i64 (n : Int), .int .i64 (k : Int)]) ∧ w = w') (hk : 1 ≤ k) (hk10 : k ≤ 10) (hl : k < r.size) (h47 : r[k].toNat = 47) (hv : r.extract (k + 1) r.size = v)
    (F : ∀ w, Calls Try.prog 96 #[.string v] w fun e w' => e = .returned (.tuple #[.int .i64 (m : Int), .int .i64 (j : Int)]) ∧ w = w') (hj : 1 ≤ j) (hjl : j ≤ 10) (hm2 : k + 1 + j = r.size)
    (hn : n < 10000000000) (hm : m < 10000000000) (hk2 : mk (-(n : Int)) (m : Int) = (a, b, e)) (w : World) :
    Calls Try.prog 90 #[.string s] w fun e' w' => e' = .returned (res (a, b, e == 0)) ∧ w = w' := by
  unfold maxLen at hs
  unfold maxLen at hrs
  have HE := Lib.hid E; clear E
  have HF := Lib.hid F; clear F
  have HV := Lib.hid hv; clear hv
  have HR := Lib.hid hr; clear hr
  have q45 : ((s[0].toNat : Int) == 45) = true := by rw [beq_iff_eq]; omega
  clear h45
  have qk : ((k : Int) == 0) = false := by rw [beq_eq_false_iff_ne]; omega
  have q47 : ((r[k].toNat : Int) == 47) = true := by rw [beq_iff_eq]; omega
  clear h47
  have qj : ((j : Int) == 0) = false := by rw [beq_eq_false_iff_ne]; omega
  have qm : ((k : Int) + 1 + j != (r.size : Int)) = false := by rw [bne_eq_false_iff_eq]; omega
  clear hm2
  have HM := Lib.hid hk2; clear hk2
  go_enter Try.func90, Try.ntmps90
  go_wp2_with fail
  rw [HR.out]
  refine (HE.out _).mono ?_
  rintro _ w' ⟨rfl, rfl⟩
  go_wp2_with fail
  rw [HV.out]
  refine (HF.out _).mono ?_
  rintro _ w' ⟨rfl, rfl⟩
  go_wp2_with fail
  refine (makeRef_any (-(n : Int)) (m : Int) (a, b, e) HM.out _ (by omega) (by omega) (by omega) (by omega)).mono ?_
  rintro _ w' ⟨rfl, rfl⟩
  unfold three
  go_wp2_with fail
  go_ret3
  exact ⟨rfl, rfl⟩

end Go.Proofs.Ytdeelpagoffdjaa

/- The reference's Parse at every string: the ways joined. -/
namespace Go.Proofs.Ytdeelpagoffdjaa
open Go.RowKit NumPlain

/-- part, by what it answers. -/
theorem part_is (s : ByteArray) (hs : s.size ≤ maxLen) (n k : Nat) (h : partL s.data.toList = (n, k)) :
    ∀ w, Calls Try.prog 96 #[.string s] w fun e w' => e = .returned (.tuple #[.int .i64 (n : Int), .int .i64 (k : Int)]) ∧ w = w' := by
  intro w
  have := part_any s w hs
  rw [h] at this; exact this
theorem part_pair (l : List UInt8) : ∃ n k, partL l = (n, k) ∧ n < 10000000000 ∧ k ≤ 10 ∧ k ≤ l.length := by
  have := partL_bound l
  exact ⟨_, _, rfl, this⟩
theorem outR_none {neg : Bool} {l : List UInt8} (h : bodyR l = none) : outL neg l = (0, 0, false) := outL_none (by rw [← body_eq]; exact h)
theorem outR_some {neg : Bool} {l : List UInt8} {n d : Nat} {a b e : Int} (h : bodyR l = some (n, d)) (hk : mk (if neg then -(n : Int) else n) d = (a, b, e)) : outL neg l = (a, b, e == 0) :=
  outL_some (by rw [← body_eq]; exact h) hk
theorem bodyR_zero {l : List UInt8} {n : Nat} (h : partL l = (n, 0)) : bodyR l = none := by
  unfold bodyR; rw [h]; rfl
theorem bodyR_whole {l : List UInt8} {n k : Nat} (h : partL l = (n, k)) (hk : 1 ≤ k) (hl : k = l.length) : bodyR l = some (n, 1) := by
  unfold bodyR; rw [h, if_neg (show ¬ k = 0 by omega), if_neg (show ¬ k < l.length by omega)]
theorem bodyR_other {l : List UInt8} {n k : Nat} {c : UInt8} (h : partL l = (n, k)) (hk : 1 ≤ k) (hl : k < l.length) (hc : l[k]? = some c) (h47 : c ≠ 47) : bodyR l = none := by
  unfold bodyR; rw [h, if_neg (show ¬ k = 0 by omega), if_pos hl, hc, if_neg]
  intro he; exact h47 (Option.some.inj he)
theorem bodyR_bad {l : List UInt8} {n k m j : Nat} (h : partL l = (n, k)) (hk : 1 ≤ k) (hl : k < l.length) (hc : l[k]? = some 47) (h2 : partL (l.drop (k + 1)) = (m, j)) (hj : j = 0 ∨ k + 1 + j ≠ l.length) : bodyR l = none := by
  unfold bodyR; rw [h, if_neg (show ¬ k = 0 by omega), if_pos hl, hc, if_pos rfl, h2, if_pos hj]
theorem bodyR_good {l : List UInt8} {n k m j : Nat} (h : partL l = (n, k)) (hk : 1 ≤ k) (hl : k < l.length) (hc : l[k]? = some 47) (h2 : partL (l.drop (k + 1)) = (m, j)) (hj : 1 ≤ j) (hm : k + 1 + j = l.length) : bodyR l = some (n, m) := by
  unfold bodyR; rw [h, if_neg (show ¬ k = 0 by omega), if_pos hl, hc, if_pos rfl, h2, if_neg (show ¬ (j = 0 ∨ k + 1 + j ≠ l.length) by omega)]
theorem is_47 {c : UInt8} (h : c.toNat = 47) : c = 47 := UInt8.toNat_inj.1 h
theorem not_47 {c : UInt8} (h : ¬ c.toNat = 47) : c ≠ 47 := fun e => h (by rw [e]; rfl)

theorem pref_p (s : ByteArray) (hs : s.size ≤ maxLen) (h0 : 0 < s.size) (h45 : s[0].toNat ≠ 45) (w : World) :
    Calls Try.prog 90 #[.string s] w fun e w' => e = .returned (res (outL false s.data.toList)) ∧ w = w' := by
  obtain ⟨n, k, hp, hn, hk10, hkl⟩ := part_pair s.data.toList
  have E := part_is s hs n k hp
  rw [← Lib.size_eq] at hkl
  by_cases hk : k = 0
  · subst hk
    rw [outR_none (bodyR_zero hp)]
    exact pref_pz s n 0 hs h0 h45 E rfl w
  by_cases hl : k = s.size
  · obtain ⟨⟨a, b, e⟩, hk2⟩ : ∃ t, mk (if false then -(n : Int) else n) 1 = t := ⟨_, rfl⟩
    rw [outR_some (bodyR_whole hp (by omega) (by rw [← Lib.size_eq]; exact hl)) hk2]
    exact pref_pw s n k a b e hs h0 h45 E (by omega) hk10 hl hn hk2 w
  have hlt : k < s.size := by omega
  have hc := at_some s k hlt
  by_cases h47 : s[k].toNat = 47
  · obtain ⟨m, j, hp2, hm, hj10, _⟩ := part_pair (s.data.toList.drop (k + 1))
    have F := part_is (s.extract (k + 1) s.size) (Nat.le_trans (extract_len _ _ _) hs) m j (by rw [Lib.extract_to_end]; exact hp2)
    rw [is_47 h47] at hc
    by_cases hj : j = 0
    · rw [outR_none (bodyR_bad hp (by omega) (by rw [← Lib.size_eq]; exact hlt) hc hp2 (Or.inl hj))]
      exact pref_pa s _ n k m j hs h0 h45 E (by omega) hk10 hlt h47 rfl F hj w
    by_cases hm2 : k + 1 + j = s.size
    · obtain ⟨⟨a, b, e⟩, hk2⟩ : ∃ t, mk (if false then -(n : Int) else n) m = t := ⟨_, rfl⟩
      rw [outR_some (bodyR_good hp (by omega) (by rw [← Lib.size_eq]; exact hlt) hc hp2 (by omega) (by rw [← Lib.size_eq]; exact hm2)) hk2]
      exact pref_py s _ n k m j a b e hs h0 h45 E (by omega) hk10 hlt h47 rfl F (by omega) hj10 hm2 hn hm hk2 w
    · rw [outR_none (bodyR_bad hp (by omega) (by rw [← Lib.size_eq]; exact hlt) hc hp2 (Or.inr (by rw [← Lib.size_eq]; exact hm2)))]
      exact pref_pb s _ n k m j hs h0 h45 E (by omega) hk10 hlt h47 rfl F (by omega) hj10 hm2 w
  · rw [outR_none (bodyR_other hp (by omega) (by rw [← Lib.size_eq]; exact hlt) hc (not_47 h47))]
    exact pref_px s n k hs h0 h45 E (by omega) hk10 hlt h47 w

theorem pref_n (s r : ByteArray) (hs : s.size ≤ maxLen) (h0 : 0 < s.size) (h45 : s[0].toNat = 45) (hr : s.extract 1 s.size = r) (hrs : r.size ≤ maxLen) (w : World) :
    Calls Try.prog 90 #[.string s] w fun e w' => e = .returned (res (outL true r.data.toList)) ∧ w = w' := by
  obtain ⟨n, k, hp, hn, hk10, hkl⟩ := part_pair r.data.toList
  have E := part_is r hrs n k hp
  rw [← Lib.size_eq] at hkl
  by_cases hk : k = 0
  · subst hk
    rw [outR_none (bodyR_zero hp)]
    exact pref_nz s r n 0 hs h0 h45 hr hrs E rfl w
  by_cases hl : k = r.size
  · obtain ⟨⟨a, b, e⟩, hk2⟩ : ∃ t, mk (if true then -(n : Int) else n) 1 = t := ⟨_, rfl⟩
    rw [outR_some (bodyR_whole hp (by omega) (by rw [← Lib.size_eq]; exact hl)) hk2]
    exact pref_nw s r n k a b e hs h0 h45 hr hrs E (by omega) hk10 hl hn hk2 w
  have hlt : k < r.size := by omega
  have hc := at_some r k hlt
  by_cases h47 : r[k].toNat = 47
  · obtain ⟨m, j, hp2, hm, hj10, _⟩ := part_pair (r.data.toList.drop (k + 1))
    have F := part_is (r.extract (k + 1) r.size) (Nat.le_trans (extract_len _ _ _) hrs) m j (by rw [Lib.extract_to_end]; exact hp2)
    rw [is_47 h47] at hc
    by_cases hj : j = 0
    · rw [outR_none (bodyR_bad hp (by omega) (by rw [← Lib.size_eq]; exact hlt) hc hp2 (Or.inl hj))]
      exact pref_na s r _ n k m j hs h0 h45 hr hrs E (by omega) hk10 hlt h47 rfl F hj w
    by_cases hm2 : k + 1 + j = r.size
    · obtain ⟨⟨a, b, e⟩, hk2⟩ : ∃ t, mk (if true then -(n : Int) else n) m = t := ⟨_, rfl⟩
      rw [outR_some (bodyR_good hp (by omega) (by rw [← Lib.size_eq]; exact hlt) hc hp2 (by omega) (by rw [← Lib.size_eq]; exact hm2)) hk2]
      exact pref_ny s r _ n k m j a b e hs h0 h45 hr hrs E (by omega) hk10 hlt h47 rfl F (by omega) hj10 hm2 hn hm hk2 w
    · rw [outR_none (bodyR_bad hp (by omega) (by rw [← Lib.size_eq]; exact hlt) hc hp2 (Or.inr (by rw [← Lib.size_eq]; exact hm2)))]
      exact pref_nb s r _ n k m j hs h0 h45 hr hrs E (by omega) hk10 hlt h47 rfl F (by omega) hj10 hm2 w
  · rw [outR_none (bodyR_other hp (by omega) (by rw [← Lib.size_eq]; exact hlt) hc (not_47 h47))]
    exact pref_nx s r n k hs h0 h45 hr hrs E (by omega) hk10 hlt h47 w

theorem head_at (s : ByteArray) (h0 : 0 < s.size) : s.data.toList.head? = some s[0] := by
  have h := at_some s 0 h0
  rw [← h]
  cases s.data.toList <;> rfl

theorem parseRef_any (s : ByteArray) (hs : s.size ≤ maxLen) (w : World) :
    Calls Try.prog 90 #[.string s] w fun e w' => e = .returned (res (parse s.data.toList)) ∧ w = w' := by
  unfold parse restL
  by_cases h0 : s.size = 0
  · have hl : s.data.toList = [] := List.length_eq_zero_iff.1 (by rw [← Lib.size_eq]; exact h0)
    have E := part_is s hs 0 0 (by rw [hl]; rfl)
    rw [hl, show outL (decide (([] : List UInt8).head? = some 45)) (if ([] : List UInt8).head? = some 45 then ([] : List UInt8).tail else []) = (0, 0, false) from rfl]
    exact pref_ez s 0 0 hs h0 E rfl w
  · have hp : 0 < s.size := by omega
    have hh := head_at s hp
    by_cases h45 : s[0].toNat = 45
    · have hc : s[0] = 45 := UInt8.toNat_inj.1 h45
      rw [hh, hc, if_pos rfl, decide_eq_true rfl]
      have he : (s.extract 1 s.size).data.toList = s.data.toList.tail := by rw [Lib.extract_to_end, List.drop_one]
      rw [← he]
      exact pref_n s _ hs hp h45 rfl (Nat.le_trans (extract_len _ _ _) hs) w
    · have hc : ¬ (some s[0] = some 45) := fun e => h45 (by rw [Option.some.inj e]; rfl)
      rw [hh, if_neg hc, decide_eq_false hc]
      exact pref_p s hs hp h45 w
end Go.Proofs.Ytdeelpagoffdjaa

/- Text, of package num and of its reference. -/
namespace Go.Proofs.Ytdeelpagoffdjaa
open Go.RowKit NumPlain

theorem dec_small {n : Nat} (h : n < 10) : Lib.decDigits n = [UInt8.ofNat (48 + n)] := by
  unfold Lib.decDigits; rw [dif_pos h]
theorem dec_more {n : Nat} (h : ¬ n < 10) : Lib.decDigits n = Lib.decDigits (n / 10) ++ [UInt8.ofNat (48 + n % 10)] := by
  rw [Lib.decDigits.eq_def n, dif_neg h]

theorem dec_len (k n : Nat) (h : n < 10 ^ (k + 1)) : (Lib.decDigits n).length ≤ k + 1 := by
  induction k generalizing n with
  | zero => rw [dec_small (by simpa using h)]; simp
  | succ k ih =>
    by_cases hn : n < 10
    · rw [dec_small hn]; simp
    · rw [dec_more hn, List.length_append, List.length_singleton]
      have := ih (n / 10) (by rw [Nat.div_lt_iff_lt_mul (by omega)]; rw [Nat.pow_succ] at h; exact h)
      omega
theorem dec_ten {n : Nat} (h : n ≤ 2147483647) : (Lib.decDigits n).length ≤ 10 := dec_len 9 n (Nat.lt_of_le_of_lt h (by decide))
theorem str_is {l : List UInt8} {a : ByteArray} (h : a.data.toList = l) : Ending.returned (.string a) = .returned (.string ⟨l.toArray⟩) := by
  subst h; rfl
theorem one_front (c : UInt8) (s : ByteArray) : ((⟨#[c]⟩ : ByteArray) ++ s).data.toList = c :: s.data.toList := by simp

/-! ### Text -/
/-- What Text answers. -/
def textL (n d : Int) : List UInt8 := if rightB n d then Lib.itoa n ++ (if d = 1 then [] else 47 :: Lib.decDigits d.toNat) else []
theorem itoa_len {n : Int} (n0 : -2147483647 ≤ n) (n1 : n ≤ 2147483647) : (Lib.itoa n).length ≤ 11 := by
  unfold Lib.itoa; split
  · have := dec_ten (n := n.natAbs) (by omega); simp; omega
  · have := dec_ten (n := n.toNat) (by omega); omega
theorem itoa_pos {d : Int} (h : 1 ≤ d) : Lib.itoa d = Lib.decDigits d.toNat := by unfold Lib.itoa; rw [if_neg (by omega)]
theorem str_of {l : List UInt8} : ∃ a : ByteArray, a.data.toList = l ∧ a.size = l.length := ⟨⟨l.toArray⟩, rfl, Lib.size_eq _⟩

/-! ### The reference's Text -/
theorem wrap_size {n : Int} (n0 : -2147483647 ≤ n) (n1 : n ≤ 2147483647) : wrap64 (n.natAbs : Int) = (n.natAbs : Int) := IntWalk.wrap64_in _ ⟨by omega, by omega⟩
theorem itoa_neg {n : Int} (h : n < 0) : Lib.itoa n = 45 :: Lib.decDigits n.natAbs := by unfold Lib.itoa; rw [if_pos h]
theorem itoa_nat {n : Int} (h : ¬ n < 0) : Lib.itoa n = Lib.decDigits n.natAbs := by unfold Lib.itoa; rw [if_neg h]; congr 1; omega

end Go.Proofs.Ytdeelpagoffdjaa

/- Parsed again, a number's text is the number. -/
namespace Go.Proofs.Ytdeelpagoffdjaa
open Go.RowKit NumPlain

theorem dig_of {n : Nat} (h : n < 10) : isDig (UInt8.ofNat (48 + n)) = true ∧ (UInt8.ofNat (48 + n)).toNat - 48 = n := by
  have e : (UInt8.ofNat (48 + n)).toNat = 48 + n := by rw [UInt8.toNat_ofNat']; omega
  exact ⟨(isDig_iff _).2 (by rw [e]; omega), by rw [e]; omega⟩
theorem dec_dig (n : Nat) : ∀ c ∈ Lib.decDigits n, isDig c = true := by
  induction n using Nat.strongRecOn with
  | ind n ih =>
    by_cases h : n < 10
    · rw [dec_small h]
      intro c hc
      rw [List.mem_singleton] at hc
      rw [hc]; exact (dig_of h).1
    · rw [dec_more h]
      exact all_snoc (ih (n / 10) (by omega)) (dig_of (by omega)).1
theorem dec_val (n : Nat) : val (Lib.decDigits n) = n := by
  induction n using Nat.strongRecOn with
  | ind n ih =>
    by_cases h : n < 10
    · rw [dec_small h]
      show 10 * 0 + _ = n
      rw [(dig_of h).2]; omega
    · rw [dec_more h, val_snoc, ih (n / 10) (by omega), (dig_of (by omega)).2]; omega
theorem dec_pos (n : Nat) : 1 ≤ (Lib.decDigits n).length := by
  by_cases h : n < 10
  · rw [dec_small h]; simp
  · rw [dec_more h]; simp
theorem dec_digits {n : Nat} (h : n ≤ 2147483647) : digitsL (Lib.decDigits n) = (n, true) := by
  rw [digitsL_yes (dec_pos n) (dec_ten h) (dec_dig n), dec_val]
theorem dec_stroke (n : Nat) : ∀ x ∈ Lib.decDigits n, x ≠ 47 := by
  intro x hx e
  have := dec_dig n x hx
  rw [e] at this; exact absurd this (by decide)
/-- What stands behind the sign. -/
theorem body_text {n d : Nat} (hn : n ≤ 2147483647) (hd : d ≤ 2147483647) : bodyL (Lib.decDigits n ++ (if d = 1 then [] else 47 :: Lib.decDigits d)) = some (n, d) := by
  by_cases h1 : d = 1
  · rw [if_pos h1, List.append_nil, bodyL_out (ib_none (dec_stroke n)) (dec_digits hn), h1]; rfl
  · rw [if_neg h1]
    have e1 : (Lib.decDigits n ++ 47 :: Lib.decDigits d).take (Lib.decDigits n).length = Lib.decDigits n := by simp
    have e2 : (Lib.decDigits n ++ 47 :: Lib.decDigits d).drop ((Lib.decDigits n).length + 1) = Lib.decDigits d := by
      rw [show Lib.decDigits n ++ 47 :: Lib.decDigits d = (Lib.decDigits n ++ [47]) ++ Lib.decDigits d from by simp, show (Lib.decDigits n).length + 1 = (Lib.decDigits n ++ [47]).length from by simp, List.drop_left]
    have g1 := dec_digits hn
    have g2 := dec_digits hd
    rw [← e1] at g1
    rw [← e2] at g2
    rw [bodyL_in (ib_at _ (dec_stroke n)) g1 g2]; rfl
theorem dec_head (n : Nat) (r : List UInt8) : (Lib.decDigits n ++ r).head? ≠ some 45 := by
  cases hl : Lib.decDigits n with
  | nil => have := dec_pos n; rw [hl] at this; simp at this
  | cons c t =>
    intro e
    have hc : c = 45 := by simpa using e
    have := dec_dig n c (by rw [hl]; simp)
    rw [hc] at this; exact absurd this (by decide)
theorem back_text {q : Rat} (hq : fits q = true) : parse (textL q.num q.den) = (q.num, (q.den : Int), true) := by
  have hb := (fits_iff q).1 hq
  have hm := mk_of_fits hq
  unfold textL
  rw [right_of_fits hq, if_pos rfl]
  have hd1 : ((q.den : Int) = 1) ↔ (q.den = 1) := by omega
  have hif : (if (q.den : Int) = 1 then [] else 47 :: Lib.decDigits (q.den : Int).toNat) = (if q.den = 1 then [] else 47 :: Lib.decDigits q.den) := by
    by_cases h : q.den = 1
    · rw [if_pos (hd1.2 h), if_pos h]
    · rw [if_neg (fun e => h (hd1.1 e)), if_neg h, Int.toNat_natCast]
  rw [hif]
  unfold parse restL
  by_cases hn : q.num < 0
  · rw [itoa_neg hn, List.cons_append, List.head?_cons, if_pos rfl, decide_eq_true rfl, List.tail_cons]
    rw [outL_some (body_text hb.1 hb.2) (a := q.num) (b := q.den) (e := 0) (by
      rw [if_pos rfl, show -(q.num.natAbs : Int) = q.num from by omega]; exact hm)]
    rfl
  · rw [itoa_nat hn, if_neg (dec_head _ _), decide_eq_false (dec_head _ _)]
    rw [outL_some (body_text hb.1 hb.2) (a := q.num) (b := q.den) (e := 0) (by
      rw [if_neg (by decide), show (q.num.natAbs : Int) = q.num from by omega]; exact hm)]
    rfl
theorem text_len {q : Rat} (hq : fits q = true) : (textL q.num q.den).length ≤ 30 := by
  have hb := fits_bounds hq
  unfold textL
  rw [right_of_fits hq, if_pos rfl, List.length_append]
  have h1 := itoa_len hb.1 hb.2.1
  have h2 := dec_ten (n := (q.den : Int).toNat) (by omega)
  split
  · simp; omega
  · simp at h2 ⊢; omega
end Go.Proofs.Ytdeelpagoffdjaa
