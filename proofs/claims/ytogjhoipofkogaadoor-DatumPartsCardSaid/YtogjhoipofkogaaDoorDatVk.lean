/- The program's own texts: word, and what is told into a builder. -/
import Derived.Test.YtogjhoipofkogaaDoorDatVj
import Derived.Test.YtogjhoipofkogaaDoorDatVf
import Derived.Test.YtogjhoipofkogaaDoorDatX
import Derived.Deep.LoopGhost
namespace Go.Proofs.YtogjhoipofkogaaDoor.Dat
open Go.RowKit
set_option linter.unusedVariables false
variable {R : Int → Int → Bool} {Nm : ByteArray → Bool} {NT : Int → Int → List UInt8}

/-- What Text of numbers answers, where this holds of the world. -/
def NumText (T : World → Prop) (NT : Int → Int → List UInt8) : Prop := ∀ (n d : Int) (a : ByteArray) (w : World), T w → I64 n → I64 d → a.data.toList = NT n d → Calls Tryd.prog 62 #[.int .i64 n, .int .i64 d] w fun e w' => e = .returned (.string a) ∧ Below w.heap.size w w'
/-- It holds on while memory is made. -/
def Lasts (T : World → Prop) : Prop := ∀ w w' : World, T w → Below w.heap.size w w' → T w'

theorem builder_below {B b : Nat} {bs : List Value} {w w' : World} (h : Lib.IsBuilderF 48 5 B b bs w) (hb : Below w.heap.size w w') : Lib.IsBuilderF 48 5 B b bs w' := by
  have one : ∀ p, Lib.BuilderAtF 48 5 B b p bs w → Lib.BuilderAtF 48 5 B b p bs w' := by
    intro p ⟨hB, v, hbk, hown, hne⟩
    refine ⟨hB, v, block_on hb hbk, ⟨hown.1, ?_⟩, hne⟩
    rcases hown.2 with hn | ⟨g, cap, cur, fz, rfl, hg, hgg, rest⟩
    · exact .inl hn
    · exact .inr ⟨g, cap, cur, fz, rfl, hg, block_on hb hgg, rest⟩
  exact h.elim (fun x => .inl (one _ x)) (fun x => .inr (one _ x))
theorem builder_lt {B b : Nat} {bs : List Value} {w : World} (h : Lib.IsBuilderF 48 5 B b bs w) : b < w.heap.size ∧ B ≤ b := by
  rcases h with ⟨hB, v, hbk, _⟩ | ⟨hB, v, hbk, _⟩
  · exact ⟨lt_of_block hbk, hB⟩
  · exact ⟨lt_of_block hbk, hB⟩
theorem others_of {w w' : World} {b : Nat} (h : Below w.heap.size w w') : Lib.OthersKept 5 (some b) w w' := fun k o hk _ _ => block_on h hk
theorem kept_box {w w' : World} {b k : Nat} {cs : Array Value} {fr : Nat × Nat} (h : Lib.OthersKept 5 (some b) w w') (hk : w.heap[k]? = some (.cells cs 24 fr)) (hne : k ≠ b) : w'.heap[k]? = some (.cells cs 24 fr) :=
  h k _ hk (by simpa using hne) (by intro c fz e; simp at e)
abbrev tellF (Bb Bt : Nat) : Value := .func (.func 37) #[] #[.pointer (some ⟨Bb, 0, none⟩), .pointer (some ⟨Bt, 0, none⟩)]
/-- So much has been told into the builder. -/
structure Telling (w0 : World) (B Bb Bt : Nat) (acc : List UInt8) (w : World) : Prop where
  base : Below w0.heap.size w0 w
  hB : w0.heap.size ≤ B
  hBw : B ≤ w.heap.size
  bld : Lib.IsBuilderF 48 5 B Bb (Lib.byteCells acc) w
  fn : w.heap[Bt]? = some (.cells #[tellF Bb Bt] 49 (0, 0))
  ne : Bt ≠ Bb
theorem Telling.below {w0 w w' : World} {B Bb Bt : Nat} {acc : List UInt8} (h : Telling w0 B Bb Bt acc w) (hb : Below w.heap.size w w') : Telling w0 B Bb Bt acc w' :=
  ⟨below_seq h.base hb, h.hB, Nat.le_trans h.hBw hb.size, builder_below h.bld hb, block_on hb h.fn, h.ne⟩
theorem Telling.wrote {w0 w w' : World} {B Bb Bt : Nat} {acc x : List UInt8} {bs : List Value} (h : Telling w0 B Bb Bt acc w) (hw : Wrote B Bb bs w w') (e : bs = Lib.byteCells (acc ++ x)) : Telling w0 B Bb Bt (acc ++ x) w' ∧ Lib.OthersKept 5 (some Bb) w w' :=
  ⟨⟨h.base.trans (hw.2.1.mono h.hB), h.hB, Nat.le_trans h.hBw hw.2.1.size, by rw [← e]; exact Or.inr hw.1, hw.2.2 Bt _ h.fn (by simpa using h.ne) (by intro c fz e; simp at e), h.ne⟩, hw.2.2⟩
theorem tellByte_any {w0 : World} {B Bb Bt : Nat} {acc : List UInt8} (c : UInt8) (x : Int) (hx : x = (c.toNat : Int)) (w : World) (h : Telling w0 B Bb Bt acc w) (hlen : acc.length + 1 ≤ 140737488355328) :
    Calls Tryd.prog 39 #[.pointer (some ⟨Bb, 0, none⟩), .int .u8 x] w fun e w' => e = .returned .nilIface ∧ Telling w0 B Bb Bt (acc ++ [c]) w' ∧ Lib.OthersKept 5 (some Bb) w w' :=
  (writeByte_any B Bb _ x w h.bld (by rw [Lib.byteCells_length]; exact hlen) h.hBw).mono fun e w' ⟨he, hw⟩ => ⟨he, h.wrote hw (by rw [Lib.byteCells_append, hx]; rfl)⟩
theorem tellStr_any {w0 : World} {B Bb Bt : Nat} {acc : List UInt8} (s : ByteArray) (w : World) (h : Telling w0 B Bb Bt acc w) (hlen : acc.length + s.data.toList.length ≤ 140737488355328) :
    Calls Tryd.prog 38 #[.pointer (some ⟨Bb, 0, none⟩), .string s] w fun e w' => e = .returned (.tuple #[.int .i64 s.size, .nilIface]) ∧ Telling w0 B Bb Bt (acc ++ s.data.toList) w' ∧ Lib.OthersKept 5 (some Bb) w w' :=
  (writeString_any B Bb _ s w h.bld (by rw [Lib.byteCells_length, Lib.size_eq]; exact hlen) h.hBw).mono fun e w' ⟨he, hw⟩ => ⟨he, h.wrote hw (by rw [Lib.byteCells_append]; rfl)⟩

set_option maxHeartbeats 1000000 in
set_option maxRecDepth 100000 in
/-- word, of kinds without parts. -/
theorem word_any (T : World → Prop) (hT : NumText T NT) (hL : Lasts T) (k n d : Int) (s : ByteArray) (l : List Dt) (p : Option Addr) (len cap : Nat) (deep : Nat) (a : ByteArray) (w : World) (hn : I64 n) (hd : I64 d) (ht : T w) (hs : s.size ≤ 1152921504606846976)
    (h : (Dt.node k n d s l).right R Nm deep = true) (h6 : k ≠ 6) (h7 : k ≠ 7) (ha : a.data.toList = (Dt.node k n d s l).text NT) :
    Calls Tryd.prog 40 #[.agg #[.int .i64 k, .int .i64 n, .int .i64 d, .string s, .slice p len cap]] w fun e w' => e = .returned (.string a) ∧ Below w.heap.size w w' := by
  generalize et : Dt.node k n d s l = t at h ha
  rcases view_of h with ⟨n', d', hr⟩ | ⟨n', hn'⟩ | ⟨s', hs'⟩ | ⟨s', hs'⟩ | _ | _ | ⟨x, q, hx, hq⟩ | ⟨l', hl⟩
  all_goals (simp at et)
  all_goals obtain ⟨rfl, rfl, rfl, rfl, rfl⟩ := et
  · rw [text_num] at ha
    have C := fun w' (hb : Below w.heap.size w w') => hT n d a w' (hL _ _ ht hb) hn hd ha
    have HC := Lib.hid C; clear C ha hT hr h ht hL
    go_enter Tryd.func40, Tryd.ntmps40
    go_wp2_with fail
    refine (HC.out _ (box_below _ _)).mono ?_
    rintro _ w1 ⟨rfl, hb1⟩
    have HB1 := Lib.hid hb1; clear hb1
    go_wp2_with fail
    go_ret
    exact ⟨rfl, below_after HB1.out⟩
  · rw [text_bool] at ha
    clear h ht hL hT
    rcases hn' with rfl | rfl
    all_goals
      have HA := Lib.hid ha; clear ha
      go_enter Tryd.func40, Tryd.ntmps40
      go_wp2
      go_ret
      exact ⟨ret_str (by rw [HA.out]; rfl), box_below _ _⟩
  · rw [text_sym] at ha
    have HA := Lib.hid ha; clear ha h ht hL hT hs'
    go_enter Tryd.func40, Tryd.ntmps40
    go_wp2
    go_ret
    exact ⟨ret_str (by rw [HA.out]), box_below _ _⟩
  · rw [text_str] at ha
    have HA := Lib.hid ha; clear ha h ht hL hT hs'
    go_enter Tryd.func40, Tryd.ntmps40
    go_wp2
    go_ret
    exact ⟨ret_str (by rw [HA.out]; simp), box_below _ _⟩
  · rw [text_null] at ha
    have HA := Lib.hid ha; clear ha h ht hL hT
    go_enter Tryd.func40, Tryd.ntmps40
    go_wp2
    go_ret
    exact ⟨ret_str (by rw [HA.out]), box_below _ _⟩
  · rw [text_void] at ha
    have HA := Lib.hid ha; clear ha h ht hL hT
    go_enter Tryd.func40, Tryd.ntmps40
    go_wp2
    go_ret
    exact ⟨ret_str (by rw [HA.out]), box_below _ _⟩
  · exact absurd rfl h6
  · exact absurd rfl h7
end Go.Proofs.YtogjhoipofkogaaDoor.Dat
