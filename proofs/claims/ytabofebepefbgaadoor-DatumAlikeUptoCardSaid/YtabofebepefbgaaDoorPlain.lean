/- Plain facts on texts of digits: nothing of the program stands here. -/
namespace NumPlain

def isDig (c : UInt8) : Bool := decide (48 ≤ c.toNat) && decide (c.toNat ≤ 57)
/-- What digits come to. -/
def val (l : List UInt8) : Nat := l.foldl (fun n c => 10 * n + (c.toNat - 48)) 0
theorem val_snoc (l : List UInt8) (c : UInt8) : val (l ++ [c]) = 10 * val l + (c.toNat - 48) := by
  unfold val; rw [List.foldl_append]; rfl
theorem isDig_iff (c : UInt8) : isDig c = true ↔ 48 ≤ c.toNat ∧ c.toNat ≤ 57 := by
  unfold isDig; simp
theorem val_lt (l : List UInt8) (h : ∀ c ∈ l, isDig c = true) : val l < 10 ^ l.length := by
  induction hn : l.length generalizing l with
  | zero =>
    have : l = [] := List.length_eq_zero_iff.1 hn
    subst this; decide
  | succ n ih =>
    obtain ⟨r, c, rfl⟩ : ∃ r c, l = r ++ [c] := ⟨l.dropLast, l.getLast (by intro e; rw [e] at hn; simp at hn), (List.dropLast_concat_getLast _).symm⟩
    have h1 := ih r (fun c hc => h c (by simp [hc])) (by simpa using hn)
    have h2 := (isDig_iff c).1 (h c (by simp))
    rw [val_snoc, Nat.pow_succ]; omega
theorem val_small (l : List UInt8) (h : ∀ c ∈ l, isDig c = true) (hl : l.length ≤ 10) : val l < 10000000000 :=
  Nat.lt_of_lt_of_le (val_lt l h) (Nat.le_trans (Nat.pow_le_pow_right (by omega) hl) (by decide))

/-- One to ten digits and nothing else: what they come to. -/
def digitsL (l : List UInt8) : Nat × Bool := if 1 ≤ l.length ∧ l.length ≤ 10 ∧ l.all isDig then (val l, true) else (0, false)
/-- The digits that a text begins with, and how many: none, if they are more than ten. -/
def partL (l : List UInt8) : Nat × Nat := if (l.takeWhile isDig).length ≤ 10 then (val (l.takeWhile isDig), (l.takeWhile isDig).length) else (0, 0)

theorem digitsL_no {l : List UInt8} (h : l.length < 1 ∨ 10 < l.length ∨ ∃ c ∈ l, isDig c = false) : digitsL l = (0, false) := by
  unfold digitsL
  rw [if_neg]
  rintro ⟨h1, h2, h3⟩
  rcases h with h | h | ⟨c, hc, hd⟩
  · omega
  · omega
  · have := List.all_eq_true.1 h3 c hc
    rw [hd] at this; exact absurd this (by decide)
theorem digitsL_yes {l : List UInt8} (h1 : 1 ≤ l.length) (h2 : l.length ≤ 10) (h3 : ∀ c ∈ l, isDig c = true) : digitsL l = (val l, true) := by
  unfold digitsL
  rw [if_pos ⟨h1, h2, List.all_eq_true.2 h3⟩]
theorem digitsL_bound (l : List UInt8) : (digitsL l).1 < 10000000000 := by
  unfold digitsL
  split
  · rename_i h; exact val_small l (List.all_eq_true.1 h.2.2) h.2.1
  · decide
theorem partL_bound (l : List UInt8) : (partL l).1 < 10000000000 ∧ (partL l).2 ≤ 10 ∧ (partL l).2 ≤ l.length := by
  unfold partL
  split
  · rename_i h
    refine ⟨val_small _ ?_ h, h, (List.takeWhile_sublist _).length_le⟩
    intro c hc
    exact List.all_eq_true.1 (List.all_takeWhile (p := isDig) (l := l)) c hc
  · exact ⟨by decide, by omega, by omega⟩

theorem takeWhile_is {l : List UInt8} {k : Nat} (hk : k ≤ l.length) (h : ∀ c ∈ l.take k, isDig c = true) (hend : k = l.length ∨ ∃ c, l[k]? = some c ∧ isDig c = false) : l.takeWhile isDig = l.take k := by
  induction k generalizing l with
  | zero =>
    cases l with
    | nil => rfl
    | cons c r =>
      rcases hend with he | ⟨x, hx, hd⟩
      · simp at he
      · simp at hx; subst hx; simp [hd]
  | succ k ih =>
    cases l with
    | nil => simp at hk
    | cons c r =>
      have hc : isDig c = true := h c (by simp)
      rw [List.takeWhile_cons, if_pos hc, List.take_succ_cons, ih (by simpa using hk) (fun x hx => h x (by simp [hx]))]
      rcases hend with he | ⟨x, hx, hd⟩
      · left; simpa using he
      · right; exact ⟨x, by simpa using hx, hd⟩
theorem partL_great {l : List UInt8} {k : Nat} (hk : k ≤ l.length) (h : ∀ c ∈ l.take k, isDig c = true) (hend : k = l.length ∨ ∃ c, l[k]? = some c ∧ isDig c = false) (hg : 10 < k) : partL l = (0, 0) := by
  have ht := takeWhile_is hk h hend
  unfold partL
  rw [ht, if_neg (by rw [List.length_take]; omega)]
theorem partL_small {l : List UInt8} {k : Nat} (hk : k ≤ l.length) (h : ∀ c ∈ l.take k, isDig c = true) (hend : k = l.length ∨ ∃ c, l[k]? = some c ∧ isDig c = false) (hg : k ≤ 10) : partL l = (val (l.take k), k) := by
  have ht := takeWhile_is hk h hend
  have hl : (l.take k).length = k := by rw [List.length_take]; omega
  unfold partL
  rw [ht, hl, if_pos hg]
end NumPlain
