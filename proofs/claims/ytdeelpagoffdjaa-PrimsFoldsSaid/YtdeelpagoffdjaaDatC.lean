/- The reference's size. -/
import Derived.Test.YtdeelpagoffdjaaDatB
namespace Go.Proofs.Ytdeelpagoffdjaa.Dat
open Go.RowKit

end Go.Proofs.Ytdeelpagoffdjaa.Dat
