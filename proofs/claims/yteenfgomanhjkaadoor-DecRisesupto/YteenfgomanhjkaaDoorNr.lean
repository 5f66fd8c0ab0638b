/- The contract of the reference's Norm. -/
import Derived.Test.YteenfgomanhjkaaDoorEq
namespace Go.Proofs.YteenfgomanhjkaaDoor.rd
open Go.RowKit

end Go.Proofs.YteenfgomanhjkaaDoor.rd
