/- The contract of the reference's Norm. -/
import Derived.Test.YtgmjllkkgapjcabDoorEq
namespace Go.Proofs.YtgmjllkkgapjcabDoor.rd
open Go.RowKit

end Go.Proofs.YtgmjllkkgapjcabDoor.rd
