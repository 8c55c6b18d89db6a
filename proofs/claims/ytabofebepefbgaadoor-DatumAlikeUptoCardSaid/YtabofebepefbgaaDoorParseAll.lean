/- num.Parse at every string: the ways joined. -/
import Derived.Test.YtabofebepefbgaaDoorParse
namespace Go.Proofs.YtabofebepefbgaaDoor
open Go.RowKit NumPlain

theorem cut_cases (s : ByteArray) : Lib.indexByte s.data.toList 47 = -1 ∨ ∃ i : Nat, Lib.indexByte s.data.toList 47 = (i : Int) ∧ i < s.size := by
  rcases split47 s.data.toList with h | ⟨a, b, he, h⟩
  · exact Or.inl (ib_none h)
  · refine Or.inr ⟨a.length, by rw [he]; exact ib_at b h, ?_⟩
    rw [Lib.size_eq, he]; simp
theorem bodyL_out {l : List UInt8} {n : Nat} {ok : Bool} (hi : Lib.indexByte l 47 = -1) (h : digitsL l = (n, ok)) : bodyL l = if ok then some (n, 1) else none := by
  unfold bodyL; rw [hi, if_neg (by omega), h]
theorem bodyL_in {l : List UInt8} {i n m : Nat} {ok ok2 : Bool} (hi : Lib.indexByte l 47 = (i : Int)) (h : digitsL (l.take i) = (n, ok)) (h2 : digitsL (l.drop (i + 1)) = (m, ok2)) : bodyL l = if ok && ok2 then some (n, m) else none := by
  unfold bodyL; rw [hi, if_pos (by omega), Int.toNat_natCast, h, h2]
theorem outL_none {neg : Bool} {l : List UInt8} (h : bodyL l = none) : outL neg l = (0, 0, false) := by unfold outL; rw [h]
theorem outL_some {neg : Bool} {l : List UInt8} {n d : Nat} {a b e : Int} (h : bodyL l = some (n, d)) (hk : mk (if neg then -(n : Int) else n) d = (a, b, e)) : outL neg l = (a, b, e == 0) := by
  unfold outL; rw [h]; simp only [hk]

theorem extract_len (s : ByteArray) (i j : Nat) : (s.extract i j).size ≤ s.size := by
  rw [ByteArray.size_extract]; omega
theorem digits_pair (l : List UInt8) : ∃ n ok, digitsL l = (n, ok) ∧ n < 10000000000 := by
  have := digitsL_bound l
  exact ⟨_, _, rfl, this⟩

theorem parse_behind (s r : ByteArray) (hr : r.size ≤ maxLen) (neg : Bool)
    (C : ∀ w, Calls Tryd.prog 72 #[.string s, .string ⟨#[45]⟩] w fun e w' => e = .returned (.tuple #[.string r, .bool neg]) ∧ w' = w) (w : World) :
    Calls Tryd.prog 52 #[.string s] w fun e w' => e = .returned (res (outL neg r.data.toList)) ∧ ∃ k, w' = w.drewN k := by
  rcases cut_cases r with hi | ⟨i, hi, hlt⟩
  · obtain ⟨n, ok, hd, hn⟩ := digits_pair r.data.toList
    have E := digits_is r hr n ok hd
    have hb := bodyL_out hi hd
    cases ok
    · rw [outL_none (by rw [hb]; rfl)]
      cases neg
      · exact parse_pwn s r r ⟨#[]⟩ n C (cut_out r hi) E w
      · exact parse_nwn s r r ⟨#[]⟩ n C (cut_out r hi) E w
    · obtain ⟨⟨a, b, e⟩, hk⟩ : ∃ t, mk (if neg then -(n : Int) else n) 1 = t := ⟨_, rfl⟩
      rw [outL_some (by rw [hb]; rfl) hk]
      cases neg
      · exact parse_pwy s r r ⟨#[]⟩ n a b e C (cut_out r hi) E hn hk w
      · exact parse_nwy s r r ⟨#[]⟩ n a b e C (cut_out r hi) E hn hk w
  · have e1 : (r.extract 0 i).data.toList = r.data.toList.take i := by rw [Lib.extract_data, List.drop_zero, Nat.sub_zero]
    have e2 : (r.extract (i + 1) r.size).data.toList = r.data.toList.drop (i + 1) := Lib.extract_to_end r (i + 1)
    obtain ⟨n, ok, hd, hn⟩ := digits_pair (r.data.toList.take i)
    obtain ⟨m, ok2, hd2, hm⟩ := digits_pair (r.data.toList.drop (i + 1))
    have E := digits_is (r.extract 0 i) (Nat.le_trans (extract_len r 0 i) hr) n ok (by rw [e1]; exact hd)
    have F := digits_is (r.extract (i + 1) r.size) (Nat.le_trans (extract_len r _ _) hr) m ok2 (by rw [e2]; exact hd2)
    have hb := bodyL_in hi hd hd2
    have D := cut_in r hr i hi hlt
    cases ok
    · rw [outL_none (by rw [hb]; rfl)]
      cases neg
      · exact parse_pcn s r _ _ n C D E w
      · exact parse_ncn s r _ _ n C D E w
    cases ok2
    · rw [outL_none (by rw [hb]; rfl)]
      cases neg
      · exact parse_pcyn s r _ _ n m C D E F w
      · exact parse_ncyn s r _ _ n m C D E F w
    · obtain ⟨⟨a, b, e⟩, hk⟩ : ∃ t, mk (if neg then -(n : Int) else n) m = t := ⟨_, rfl⟩
      rw [outL_some (by rw [hb]; rfl) hk]
      cases neg
      · exact parse_pcyy s r _ _ n m a b e C D E F hn hm hk w
      · exact parse_ncyy s r _ _ n m a b e C D E F hn hm hk w

/-- What stands behind the sign, and whether there is one. -/
def restL (l : List UInt8) : List UInt8 := if l.head? = some 45 then l.tail else l
theorem trim_sign (l : List UInt8) : Lib.trimPrefix l [45] = restL l ∧ Lib.hasPrefix l [45] = decide (l.head? = some 45) := by
  unfold Lib.trimPrefix Lib.hasPrefix restL
  cases l with
  | nil => exact ⟨rfl, rfl⟩
  | cons c r =>
    by_cases h : c = 45
    · subst h; exact ⟨by simp, by simp⟩
    · have hp : List.isPrefixOf [45] (c :: r) = false := by
        show ((45 : UInt8) == c && List.isPrefixOf [] r) = false
        rw [beq_eq_false_iff_ne.2 (fun e => h e.symm)]; rfl
      exact ⟨by rw [hp]; simp [h], by rw [hp]; simp [h]⟩
theorem rest_len (l : List UInt8) : (restL l).length ≤ l.length := by
  unfold restL; split
  · rw [List.length_tail]; omega
  · exact Nat.le_refl _
def parse (l : List UInt8) : Int × Int × Bool := outL (decide (l.head? = some 45)) (restL l)

theorem parse_any (s : ByteArray) (hs : s.size ≤ maxLen) (w : World) :
    Calls Tryd.prog 52 #[.string s] w fun e w' => e = .returned (res (parse s.data.toList)) ∧ ∃ k, w' = w.drewN k := by
  have hr : (⟨(restL s.data.toList).toArray⟩ : ByteArray).size ≤ maxLen := by
    have h1 := rest_len s.data.toList
    rw [← Lib.size_eq] at h1
    rw [Lib.size_eq]
    exact Nat.le_trans h1 hs
  refine parse_behind s ⟨(restL s.data.toList).toArray⟩ hr (decide (s.data.toList.head? = some 45)) ?_ w
  intro w
  have h := Tryd.strings_CutPrefix s ⟨#[45]⟩ w
  rw [show (⟨#[45]⟩ : ByteArray).data.toList = [45] from rfl, (trim_sign _).1, (trim_sign _).2] at h
  exact h
end Go.Proofs.YtabofebepefbgaaDoor
