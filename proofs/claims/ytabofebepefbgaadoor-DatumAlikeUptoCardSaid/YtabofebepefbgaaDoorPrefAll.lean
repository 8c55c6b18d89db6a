/- The reference's Parse at every string: the ways joined. -/
import Derived.Test.YtabofebepefbgaaDoorPref
namespace Go.Proofs.YtabofebepefbgaaDoor
open Go.RowKit NumPlain

/-- part, by what it answers. -/
theorem part_is (s : ByteArray) (hs : s.size ≤ maxLen) (n k : Nat) (h : partL s.data.toList = (n, k)) :
    ∀ w, Calls Tryd.prog 100 #[.string s] w fun e w' => e = .returned (.tuple #[.int .i64 (n : Int), .int .i64 (k : Int)]) ∧ w = w' := by
  intro w
  have := part_any s w hs
  rw [h] at this; exact this
theorem part_pair (l : List UInt8) : ∃ n k, partL l = (n, k) ∧ n < 10000000000 ∧ k ≤ 10 ∧ k ≤ l.length := by
  have := partL_bound l
  exact ⟨_, _, rfl, this⟩
theorem outR_none {neg : Bool} {l : List UInt8} (h : bodyR l = none) : outL neg l = (0, 0, false) := outL_none (by rw [← body_eq]; exact h)
theorem outR_some {neg : Bool} {l : List UInt8} {n d : Nat} {a b e : Int} (h : bodyR l = some (n, d)) (hk : mk (if neg then -(n : Int) else n) d = (a, b, e)) : outL neg l = (a, b, e == 0) :=
  outL_some (by rw [← body_eq]; exact h) hk
theorem bodyR_zero {l : List UInt8} {n : Nat} (h : partL l = (n, 0)) : bodyR l = none := by
  unfold bodyR; rw [h]; rfl
theorem bodyR_whole {l : List UInt8} {n k : Nat} (h : partL l = (n, k)) (hk : 1 ≤ k) (hl : k = l.length) : bodyR l = some (n, 1) := by
  unfold bodyR; rw [h, if_neg (show ¬ k = 0 by omega), if_neg (show ¬ k < l.length by omega)]
theorem bodyR_other {l : List UInt8} {n k : Nat} {c : UInt8} (h : partL l = (n, k)) (hk : 1 ≤ k) (hl : k < l.length) (hc : l[k]? = some c) (h47 : c ≠ 47) : bodyR l = none := by
  unfold bodyR; rw [h, if_neg (show ¬ k = 0 by omega), if_pos hl, hc, if_neg]
  intro he; exact h47 (Option.some.inj he)
theorem bodyR_bad {l : List UInt8} {n k m j : Nat} (h : partL l = (n, k)) (hk : 1 ≤ k) (hl : k < l.length) (hc : l[k]? = some 47) (h2 : partL (l.drop (k + 1)) = (m, j)) (hj : j = 0 ∨ k + 1 + j ≠ l.length) : bodyR l = none := by
  unfold bodyR; rw [h, if_neg (show ¬ k = 0 by omega), if_pos hl, hc, if_pos rfl, h2, if_pos hj]
theorem bodyR_good {l : List UInt8} {n k m j : Nat} (h : partL l = (n, k)) (hk : 1 ≤ k) (hl : k < l.length) (hc : l[k]? = some 47) (h2 : partL (l.drop (k + 1)) = (m, j)) (hj : 1 ≤ j) (hm : k + 1 + j = l.length) : bodyR l = some (n, m) := by
  unfold bodyR; rw [h, if_neg (show ¬ k = 0 by omega), if_pos hl, hc, if_pos rfl, h2, if_neg (show ¬ (j = 0 ∨ k + 1 + j ≠ l.length) by omega)]
theorem is_47 {c : UInt8} (h : c.toNat = 47) : c = 47 := UInt8.toNat_inj.1 h
theorem not_47 {c : UInt8} (h : ¬ c.toNat = 47) : c ≠ 47 := fun e => h (by rw [e]; rfl)

theorem pref_p (s : ByteArray) (hs : s.size ≤ maxLen) (h0 : 0 < s.size) (h45 : s[0].toNat ≠ 45) (w : World) :
    Calls Tryd.prog 89 #[.string s] w fun e w' => e = .returned (res (outL false s.data.toList)) ∧ w = w' := by
  obtain ⟨n, k, hp, hn, hk10, hkl⟩ := part_pair s.data.toList
  have E := part_is s hs n k hp
  rw [← Lib.size_eq] at hkl
  by_cases hk : k = 0
  · subst hk
    rw [outR_none (bodyR_zero hp)]
    exact pref_pz s n 0 hs h0 h45 E rfl w
  by_cases hl : k = s.size
  · obtain ⟨⟨a, b, e⟩, hk2⟩ : ∃ t, mk (if false then -(n : Int) else n) 1 = t := ⟨_, rfl⟩
    rw [outR_some (bodyR_whole hp (by omega) (by rw [← Lib.size_eq]; exact hl)) hk2]
    exact pref_pw s n k a b e hs h0 h45 E (by omega) hk10 hl hn hk2 w
  have hlt : k < s.size := by omega
  have hc := at_some s k hlt
  by_cases h47 : s[k].toNat = 47
  · obtain ⟨m, j, hp2, hm, hj10, _⟩ := part_pair (s.data.toList.drop (k + 1))
    have F := part_is (s.extract (k + 1) s.size) (Nat.le_trans (extract_len _ _ _) hs) m j (by rw [Lib.extract_to_end]; exact hp2)
    rw [is_47 h47] at hc
    by_cases hj : j = 0
    · rw [outR_none (bodyR_bad hp (by omega) (by rw [← Lib.size_eq]; exact hlt) hc hp2 (Or.inl hj))]
      exact pref_pa s _ n k m j hs h0 h45 E (by omega) hk10 hlt h47 rfl F hj w
    by_cases hm2 : k + 1 + j = s.size
    · obtain ⟨⟨a, b, e⟩, hk2⟩ : ∃ t, mk (if false then -(n : Int) else n) m = t := ⟨_, rfl⟩
      rw [outR_some (bodyR_good hp (by omega) (by rw [← Lib.size_eq]; exact hlt) hc hp2 (by omega) (by rw [← Lib.size_eq]; exact hm2)) hk2]
      exact pref_py s _ n k m j a b e hs h0 h45 E (by omega) hk10 hlt h47 rfl F (by omega) hj10 hm2 hn hm hk2 w
    · rw [outR_none (bodyR_bad hp (by omega) (by rw [← Lib.size_eq]; exact hlt) hc hp2 (Or.inr (by rw [← Lib.size_eq]; exact hm2)))]
      exact pref_pb s _ n k m j hs h0 h45 E (by omega) hk10 hlt h47 rfl F (by omega) hj10 hm2 w
  · rw [outR_none (bodyR_other hp (by omega) (by rw [← Lib.size_eq]; exact hlt) hc (not_47 h47))]
    exact pref_px s n k hs h0 h45 E (by omega) hk10 hlt h47 w

theorem pref_n (s r : ByteArray) (hs : s.size ≤ maxLen) (h0 : 0 < s.size) (h45 : s[0].toNat = 45) (hr : s.extract 1 s.size = r) (hrs : r.size ≤ maxLen) (w : World) :
    Calls Tryd.prog 89 #[.string s] w fun e w' => e = .returned (res (outL true r.data.toList)) ∧ w = w' := by
  obtain ⟨n, k, hp, hn, hk10, hkl⟩ := part_pair r.data.toList
  have E := part_is r hrs n k hp
  rw [← Lib.size_eq] at hkl
  by_cases hk : k = 0
  · subst hk
    rw [outR_none (bodyR_zero hp)]
    exact pref_nz s r n 0 hs h0 h45 hr hrs E rfl w
  by_cases hl : k = r.size
  · obtain ⟨⟨a, b, e⟩, hk2⟩ : ∃ t, mk (if true then -(n : Int) else n) 1 = t := ⟨_, rfl⟩
    rw [outR_some (bodyR_whole hp (by omega) (by rw [← Lib.size_eq]; exact hl)) hk2]
    exact pref_nw s r n k a b e hs h0 h45 hr hrs E (by omega) hk10 hl hn hk2 w
  have hlt : k < r.size := by omega
  have hc := at_some r k hlt
  by_cases h47 : r[k].toNat = 47
  · obtain ⟨m, j, hp2, hm, hj10, _⟩ := part_pair (r.data.toList.drop (k + 1))
    have F := part_is (r.extract (k + 1) r.size) (Nat.le_trans (extract_len _ _ _) hrs) m j (by rw [Lib.extract_to_end]; exact hp2)
    rw [is_47 h47] at hc
    by_cases hj : j = 0
    · rw [outR_none (bodyR_bad hp (by omega) (by rw [← Lib.size_eq]; exact hlt) hc hp2 (Or.inl hj))]
      exact pref_na s r _ n k m j hs h0 h45 hr hrs E (by omega) hk10 hlt h47 rfl F hj w
    by_cases hm2 : k + 1 + j = r.size
    · obtain ⟨⟨a, b, e⟩, hk2⟩ : ∃ t, mk (if true then -(n : Int) else n) m = t := ⟨_, rfl⟩
      rw [outR_some (bodyR_good hp (by omega) (by rw [← Lib.size_eq]; exact hlt) hc hp2 (by omega) (by rw [← Lib.size_eq]; exact hm2)) hk2]
      exact pref_ny s r _ n k m j a b e hs h0 h45 hr hrs E (by omega) hk10 hlt h47 rfl F (by omega) hj10 hm2 hn hm hk2 w
    · rw [outR_none (bodyR_bad hp (by omega) (by rw [← Lib.size_eq]; exact hlt) hc hp2 (Or.inr (by rw [← Lib.size_eq]; exact hm2)))]
      exact pref_nb s r _ n k m j hs h0 h45 hr hrs E (by omega) hk10 hlt h47 rfl F (by omega) hj10 hm2 w
  · rw [outR_none (bodyR_other hp (by omega) (by rw [← Lib.size_eq]; exact hlt) hc (not_47 h47))]
    exact pref_nx s r n k hs h0 h45 hr hrs E (by omega) hk10 hlt h47 w

theorem head_at (s : ByteArray) (h0 : 0 < s.size) : s.data.toList.head? = some s[0] := by
  have h := at_some s 0 h0
  rw [← h]
  cases s.data.toList <;> rfl

theorem parseRef_any (s : ByteArray) (hs : s.size ≤ maxLen) (w : World) :
    Calls Tryd.prog 89 #[.string s] w fun e w' => e = .returned (res (parse s.data.toList)) ∧ w = w' := by
  unfold parse restL
  by_cases h0 : s.size = 0
  · have hl : s.data.toList = [] := List.length_eq_zero_iff.1 (by rw [← Lib.size_eq]; exact h0)
    have E := part_is s hs 0 0 (by rw [hl]; rfl)
    rw [hl, show outL (decide (([] : List UInt8).head? = some 45)) (if ([] : List UInt8).head? = some 45 then ([] : List UInt8).tail else []) = (0, 0, false) from rfl]
    exact pref_ez s 0 0 hs h0 E rfl w
  · have hp : 0 < s.size := by omega
    have hh := head_at s hp
    by_cases h45 : s[0].toNat = 45
    · have hc : s[0] = 45 := UInt8.toNat_inj.1 h45
      rw [hh, hc, if_pos rfl, decide_eq_true rfl]
      have he : (s.extract 1 s.size).data.toList = s.data.toList.tail := by rw [Lib.extract_to_end, List.drop_one]
      rw [← he]
      exact pref_n s _ hs hp h45 rfl (Nat.le_trans (extract_len _ _ _) hs) w
    · have hc : ¬ (some s[0] = some 45) := fun e => h45 (by rw [Option.some.inj e]; rfl)
      rw [hh, if_neg hc, decide_eq_false hc]
      exact pref_p s hs hp h45 w
end Go.Proofs.YtabofebepefbgaaDoor
