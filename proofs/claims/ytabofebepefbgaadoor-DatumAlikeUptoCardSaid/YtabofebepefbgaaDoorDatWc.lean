/- The laws' example of data answers true. -/
import Derived.Test.YtabofebepefbgaaDoorDatWb
import Derived.Test.YtabofebepefbgaaDoorDatW1M
namespace Go.Proofs.YtabofebepefbgaaDoor.Dat
open Go.RowKit
open Go.Proofs.YtabofebepefbgaaDoor (textL parse res)
open NumPlain (rightB)
set_option linter.unusedVariables false

theorem awake_any (w : World) (ht : Tab w) : Calls Tryd.prog 10 #[] w fun e w' => e = .returned (.bool true) ∧ Below w.heap.size w w' :=
  awake_list w Tab tab_lasts ht rightB nameB textL pText (by decide +kernel) (by decide +kernel) (by decide +kernel) (by decide +kernel)
end Go.Proofs.YtabofebepefbgaaDoor.Dat
