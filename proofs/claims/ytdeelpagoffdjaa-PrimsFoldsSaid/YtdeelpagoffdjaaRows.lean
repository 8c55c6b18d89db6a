/-
  NARROWER THAN 'FOR EVERY INPUT', by the rows' own cells (each row's printed sentence says how): PrimsFolds: loops · PrimsRight: loops · PrimsLists: loops · PrimsKinds: loops.
  DERIVED. THE GIVEN ROWS OF THIS SEAT. 7 by the template 'for every input the law returns true; each argument reads behind the call as it read before'; 0 by the template 'total and deterministic' (their statements: YtdeelpagoffdjaaTotals.lean).
  GIVEN WITH THE SEED: the statements are not yours to turn. If you find one false, say at which input.
  Laid BY PROGRAM, IN A SANDBOX (cutbox-rows.mjs): the forced cells as the released guide's own fill.sh prints them over the translation e63e898d5b9e517e… (all of the seat's roots in one cut). By AI agents, Wed Nov 11 2026. No macro, syntax, notation, axiom, sorry.
-/
import Derived.Test.YtdeelpagoffdjaaChecked
import GoSem.Claim
import GoSem.ClaimJoined
import GoSem.ClaimMapViews
import Derived.JoinedTies
import Derived.KernelRfl
namespace Go.Proofs.Ytdeelpagoffdjaa
/- THE CELL 'sum', in the pinned program and in every row, IS THE sha256 OF THE DUMP (.gsa) THAT YtdeelpagoffdjaaProg.lean LOADS. Nothing in Lean hashes anything: it is a label: what it is worth is what the hold of that sum in a sandbox is worth. -/
noncomputable def Try.pinned : Pinned := { name := "ytdeelpagoffdjaa", sum := "e63e898d5b9e517ece140a5bf05030c93902f8b1e60b37eeeefef53e64281c47", checked := Try.checked }
namespace Rows
def none {H : Type} : Left H := { results := [], args := [] }

/-- 'corbellaw05.PrimsFacts': WHATEVER THE INPUT: true; the input reads as it did. -/
def primsFactsSpec : ChangeSpec := { name := "primsFacts", fn := fun _ => fun
  | [d1, d2, d3] => { results := [.lit (.bool true)], args := [d1, d2, d3] }
  | _ => none }
def primsFactsRow : OpenClaim := { program := "ytdeelpagoffdjaa", sum := "e63e898d5b9e517ece140a5bf05030c93902f8b1e60b37eeeefef53e64281c47", func := "corbel/corbellaw05.PrimsFacts", spec := "primsFacts", inPlace := ["internal/bytealg.IndexByteString", "internal/bytealg.IndexString"], unfollowed := true, recurses := true, named := ["internal/bytealg.MaxLen"], apart := false }
def PrimsFactsSaid : Prop := primsFactsRow.holds Try.pinned (OpenSpec.ofChange primsFactsSpec)

/-- ITS FALSE NEIGHBOUR: 'it returns false'. Refute it at one input. -/
def primsFactsWrong : ChangeSpec := { name := "primsFacts", fn := fun _ => fun
  | [d1, d2, d3] => { results := [.lit (.bool false)], args := [d1, d2, d3] }
  | _ => none }
def PrimsFactsWrongFalsely : Prop := primsFactsRow.holds Try.pinned (OpenSpec.ofChange primsFactsWrong)

/-- 'corbellaw05.PrimsFolds': WHATEVER THE INPUT: true; the input reads as it did. -/
def primsFoldsSpec : ChangeSpec := { name := "primsFolds", fn := fun _ => fun
  | [d1, d2] => { results := [.lit (.bool true)], args := [d1, d2] }
  | _ => none }
def primsFoldsRow : OpenClaim := { program := "ytdeelpagoffdjaa", sum := "e63e898d5b9e517ece140a5bf05030c93902f8b1e60b37eeeefef53e64281c47", func := "corbel/corbellaw05.PrimsFolds", spec := "primsFolds", inPlace := ["internal/bytealg.IndexByteString", "internal/bytealg.IndexString"], unfollowed := true, recurses := true, named := ["internal/bytealg.MaxLen"], loops := true, apart := false }
def PrimsFoldsSaid : Prop := primsFoldsRow.holds Try.pinned (OpenSpec.ofChange primsFoldsSpec)

/-- ITS FALSE NEIGHBOUR: 'it returns false'. Refute it at one input. -/
def primsFoldsWrong : ChangeSpec := { name := "primsFolds", fn := fun _ => fun
  | [d1, d2] => { results := [.lit (.bool false)], args := [d1, d2] }
  | _ => none }
def PrimsFoldsWrongFalsely : Prop := primsFoldsRow.holds Try.pinned (OpenSpec.ofChange primsFoldsWrong)

/-- 'corbellaw05.PrimsNames': WHATEVER THE INPUT: true; the input reads as it did. -/
def primsNamesSpec : ChangeSpec := { name := "primsNames", fn := fun _ => fun
  | [d1, d2] => { results := [.lit (.bool true)], args := [d1, d2] }
  | _ => none }
def primsNamesRow : OpenClaim := { program := "ytdeelpagoffdjaa", sum := "e63e898d5b9e517ece140a5bf05030c93902f8b1e60b37eeeefef53e64281c47", func := "corbel/corbellaw05.PrimsNames", spec := "primsNames", inPlace := ["internal/bytealg.IndexByteString", "internal/bytealg.IndexString"], unfollowed := true, recurses := true, named := ["internal/bytealg.MaxLen"], apart := false }
def PrimsNamesSaid : Prop := primsNamesRow.holds Try.pinned (OpenSpec.ofChange primsNamesSpec)

/-- ITS FALSE NEIGHBOUR: 'it returns false'. Refute it at one input. -/
def primsNamesWrong : ChangeSpec := { name := "primsNames", fn := fun _ => fun
  | [d1, d2] => { results := [.lit (.bool false)], args := [d1, d2] }
  | _ => none }
def PrimsNamesWrongFalsely : Prop := primsNamesRow.holds Try.pinned (OpenSpec.ofChange primsNamesWrong)

/-- 'corbellaw05.PrimsRight': WHATEVER THE INPUT: true; the input reads as it did. -/
def primsRightSpec : ChangeSpec := { name := "primsRight", fn := fun _ => fun
  | [d1, d2] => { results := [.lit (.bool true)], args := [d1, d2] }
  | _ => none }
def primsRightRow : OpenClaim := { program := "ytdeelpagoffdjaa", sum := "e63e898d5b9e517ece140a5bf05030c93902f8b1e60b37eeeefef53e64281c47", func := "corbel/corbellaw05.PrimsRight", spec := "primsRight", inPlace := ["internal/bytealg.IndexByteString", "internal/bytealg.IndexString"], unfollowed := true, recurses := true, named := ["internal/bytealg.MaxLen"], loops := true, apart := false }
def PrimsRightSaid : Prop := primsRightRow.holds Try.pinned (OpenSpec.ofChange primsRightSpec)

/-- ITS FALSE NEIGHBOUR: 'it returns false'. Refute it at one input. -/
def primsRightWrong : ChangeSpec := { name := "primsRight", fn := fun _ => fun
  | [d1, d2] => { results := [.lit (.bool false)], args := [d1, d2] }
  | _ => none }
def PrimsRightWrongFalsely : Prop := primsRightRow.holds Try.pinned (OpenSpec.ofChange primsRightWrong)

/-- 'corbellaw05.PrimsLists': WHATEVER THE INPUT: true; the input reads as it did. -/
def primsListsSpec : ChangeSpec := { name := "primsLists", fn := fun _ => fun
  | [d] => { results := [.lit (.bool true)], args := [d] }
  | _ => none }
def primsListsRow : OpenClaim := { program := "ytdeelpagoffdjaa", sum := "e63e898d5b9e517ece140a5bf05030c93902f8b1e60b37eeeefef53e64281c47", func := "corbel/corbellaw05.PrimsLists", spec := "primsLists", inPlace := ["internal/bytealg.IndexByteString", "internal/bytealg.IndexString"], unfollowed := true, recurses := true, named := ["internal/bytealg.MaxLen"], loops := true, apart := false }
def PrimsListsSaid : Prop := primsListsRow.holds Try.pinned (OpenSpec.ofChange primsListsSpec)

/-- ITS FALSE NEIGHBOUR: 'it returns false'. Refute it at one input. -/
def primsListsWrong : ChangeSpec := { name := "primsLists", fn := fun _ => fun
  | [d] => { results := [.lit (.bool false)], args := [d] }
  | _ => none }
def PrimsListsWrongFalsely : Prop := primsListsRow.holds Try.pinned (OpenSpec.ofChange primsListsWrong)

/-- 'corbellaw05.PrimsSums': WHATEVER THE INPUT: true; the input reads as it did. -/
def primsSumsSpec : ChangeSpec := { name := "primsSums", fn := fun _ => fun
  | [d] => { results := [.lit (.bool true)], args := [d] }
  | _ => none }
def primsSumsRow : OpenClaim := { program := "ytdeelpagoffdjaa", sum := "e63e898d5b9e517ece140a5bf05030c93902f8b1e60b37eeeefef53e64281c47", func := "corbel/corbellaw05.PrimsSums", spec := "primsSums", inPlace := ["internal/bytealg.IndexByteString", "internal/bytealg.IndexString"], unfollowed := true, recurses := true, named := ["internal/bytealg.MaxLen"], apart := false }
def PrimsSumsSaid : Prop := primsSumsRow.holds Try.pinned (OpenSpec.ofChange primsSumsSpec)

/-- ITS FALSE NEIGHBOUR: 'it returns false'. Refute it at one input. -/
def primsSumsWrong : ChangeSpec := { name := "primsSums", fn := fun _ => fun
  | [d] => { results := [.lit (.bool false)], args := [d] }
  | _ => none }
def PrimsSumsWrongFalsely : Prop := primsSumsRow.holds Try.pinned (OpenSpec.ofChange primsSumsWrong)

/-- 'corbellaw05.PrimsKinds': WHATEVER THE INPUT: true; the input reads as it did. -/
def primsKindsSpec : ChangeSpec := { name := "primsKinds", fn := fun _ => fun
  | [d] => { results := [.lit (.bool true)], args := [d] }
  | _ => none }
def primsKindsRow : OpenClaim := { program := "ytdeelpagoffdjaa", sum := "e63e898d5b9e517ece140a5bf05030c93902f8b1e60b37eeeefef53e64281c47", func := "corbel/corbellaw05.PrimsKinds", spec := "primsKinds", inPlace := ["internal/bytealg.IndexByteString", "internal/bytealg.IndexString"], unfollowed := true, recurses := true, named := ["internal/bytealg.MaxLen"], loops := true, apart := false }
def PrimsKindsSaid : Prop := primsKindsRow.holds Try.pinned (OpenSpec.ofChange primsKindsSpec)

/-- ITS FALSE NEIGHBOUR: 'it returns false'. Refute it at one input. -/
def primsKindsWrong : ChangeSpec := { name := "primsKinds", fn := fun _ => fun
  | [d] => { results := [.lit (.bool false)], args := [d] }
  | _ => none }
def PrimsKindsWrongFalsely : Prop := primsKindsRow.holds Try.pinned (OpenSpec.ofChange primsKindsWrong)

/- THE SECOND FORM. 'bulk': how many values and letters a reading holds, each counted each time it is reached (what is shared counts as often as it is met; a slice's spare places count too). A statement '..UptoSaid' is the law's where the arguments, and the package variables that the reading takes, are together of bulk at most 1048576: NARROWER than '..Said'. Prove '..Said' where nothing that the law and all that it calls make is longer than what came in: it says more and counts as full. Else prove '..UptoSaid'. A law counts once. -/
mutual
def uptoBulk {H : Type} : DataW H → Nat
  | .lit (.string bytes) => bytes.length + 1
  | .lit _ => 1
  | .nil => 1
  | .ptr d => uptoBulk d + 1
  | .slice elems spare => uptoBulkAll elems + uptoBulkAll spare + 1
  | .agg parts => uptoBulkAll parts + 1
  | .iface _ d => uptoBulk d + 1
  | .map entries => uptoBulkEntries entries + 1
  | .held _ => 1
def uptoBulkAll {H : Type} : List (DataW H) → Nat
  | [] => 0
  | d :: r => uptoBulk d + uptoBulkAll r
def uptoBulkEntries {H : Type} : List (Lit × DataW H) → Nat
  | [] => 0
  | x :: r => uptoBulkEntry x + uptoBulkEntries r
def uptoBulkEntry {H : Type} : Lit × DataW H → Nat
  | (.string bytes, d) => bytes.length + uptoBulk d + 1
  | (_, d) => uptoBulk d + 1
 end
def uptoSmall : (H : Type) → List (DataW H) → Bool := fun _ ds => decide (uptoBulkAll ds ≤ 1048576)
def OpenSpec.upto (s : _root_.Go.ChangeSpec) : _root_.Go.OpenSpec := { _root_.Go.OpenSpec.ofChange s with cond := some uptoSmall }

/-- 'corbellaw05.PrimsFacts', WHERE WHAT IT READS IS OF BULK AT MOST 1048576: true; the input reads as it did. -/
def primsFactsUptoRow : OpenClaim := { program := "ytdeelpagoffdjaa", sum := "e63e898d5b9e517ece140a5bf05030c93902f8b1e60b37eeeefef53e64281c47", func := "corbel/corbellaw05.PrimsFacts", spec := "primsFacts", inPlace := ["internal/bytealg.IndexByteString", "internal/bytealg.IndexString"], unfollowed := true, recurses := true, named := ["internal/bytealg.MaxLen"], apart := false, narrowed := true }
def PrimsFactsUptoSaid : Prop := primsFactsUptoRow.holds Try.pinned (OpenSpec.upto primsFactsSpec)

/-- 'corbellaw05.PrimsFolds', WHERE WHAT IT READS IS OF BULK AT MOST 1048576: true; the input reads as it did. -/
def primsFoldsUptoRow : OpenClaim := { program := "ytdeelpagoffdjaa", sum := "e63e898d5b9e517ece140a5bf05030c93902f8b1e60b37eeeefef53e64281c47", func := "corbel/corbellaw05.PrimsFolds", spec := "primsFolds", inPlace := ["internal/bytealg.IndexByteString", "internal/bytealg.IndexString"], unfollowed := true, recurses := true, named := ["internal/bytealg.MaxLen"], loops := true, apart := false, narrowed := true }
def PrimsFoldsUptoSaid : Prop := primsFoldsUptoRow.holds Try.pinned (OpenSpec.upto primsFoldsSpec)

/-- 'corbellaw05.PrimsNames', WHERE WHAT IT READS IS OF BULK AT MOST 1048576: true; the input reads as it did. -/
def primsNamesUptoRow : OpenClaim := { program := "ytdeelpagoffdjaa", sum := "e63e898d5b9e517ece140a5bf05030c93902f8b1e60b37eeeefef53e64281c47", func := "corbel/corbellaw05.PrimsNames", spec := "primsNames", inPlace := ["internal/bytealg.IndexByteString", "internal/bytealg.IndexString"], unfollowed := true, recurses := true, named := ["internal/bytealg.MaxLen"], apart := false, narrowed := true }
def PrimsNamesUptoSaid : Prop := primsNamesUptoRow.holds Try.pinned (OpenSpec.upto primsNamesSpec)

/-- 'corbellaw05.PrimsRight', WHERE WHAT IT READS IS OF BULK AT MOST 1048576: true; the input reads as it did. -/
def primsRightUptoRow : OpenClaim := { program := "ytdeelpagoffdjaa", sum := "e63e898d5b9e517ece140a5bf05030c93902f8b1e60b37eeeefef53e64281c47", func := "corbel/corbellaw05.PrimsRight", spec := "primsRight", inPlace := ["internal/bytealg.IndexByteString", "internal/bytealg.IndexString"], unfollowed := true, recurses := true, named := ["internal/bytealg.MaxLen"], loops := true, apart := false, narrowed := true }
def PrimsRightUptoSaid : Prop := primsRightUptoRow.holds Try.pinned (OpenSpec.upto primsRightSpec)

/-- 'corbellaw05.PrimsLists', WHERE WHAT IT READS IS OF BULK AT MOST 1048576: true; the input reads as it did. -/
def primsListsUptoRow : OpenClaim := { program := "ytdeelpagoffdjaa", sum := "e63e898d5b9e517ece140a5bf05030c93902f8b1e60b37eeeefef53e64281c47", func := "corbel/corbellaw05.PrimsLists", spec := "primsLists", inPlace := ["internal/bytealg.IndexByteString", "internal/bytealg.IndexString"], unfollowed := true, recurses := true, named := ["internal/bytealg.MaxLen"], loops := true, apart := false, narrowed := true }
def PrimsListsUptoSaid : Prop := primsListsUptoRow.holds Try.pinned (OpenSpec.upto primsListsSpec)

/-- 'corbellaw05.PrimsSums', WHERE WHAT IT READS IS OF BULK AT MOST 1048576: true; the input reads as it did. -/
def primsSumsUptoRow : OpenClaim := { program := "ytdeelpagoffdjaa", sum := "e63e898d5b9e517ece140a5bf05030c93902f8b1e60b37eeeefef53e64281c47", func := "corbel/corbellaw05.PrimsSums", spec := "primsSums", inPlace := ["internal/bytealg.IndexByteString", "internal/bytealg.IndexString"], unfollowed := true, recurses := true, named := ["internal/bytealg.MaxLen"], apart := false, narrowed := true }
def PrimsSumsUptoSaid : Prop := primsSumsUptoRow.holds Try.pinned (OpenSpec.upto primsSumsSpec)

/-- 'corbellaw05.PrimsKinds', WHERE WHAT IT READS IS OF BULK AT MOST 1048576: true; the input reads as it did. -/
def primsKindsUptoRow : OpenClaim := { program := "ytdeelpagoffdjaa", sum := "e63e898d5b9e517ece140a5bf05030c93902f8b1e60b37eeeefef53e64281c47", func := "corbel/corbellaw05.PrimsKinds", spec := "primsKinds", inPlace := ["internal/bytealg.IndexByteString", "internal/bytealg.IndexString"], unfollowed := true, recurses := true, named := ["internal/bytealg.MaxLen"], loops := true, apart := false, narrowed := true }
def PrimsKindsUptoSaid : Prop := primsKindsUptoRow.holds Try.pinned (OpenSpec.upto primsKindsSpec)

end Rows
end Go.Proofs.Ytdeelpagoffdjaa
