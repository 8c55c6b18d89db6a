/- The reference's size. -/
import Derived.Test.YtabofebepefbgaaDoorDatB
namespace Go.Proofs.YtabofebepefbgaaDoor.Dat
open Go.RowKit

end Go.Proofs.YtabofebepefbgaaDoor.Dat
