/- Texts in one: It -/
import Derived.Test.YthakglomacijgaaGreatDoorRuPQ
import Derived.Test.YthakglomacijgaaGreatDoorIdPQ
namespace Go.Proofs.YthakglomacijgaaGreatDoor.rd
open Go.RowKit
end Go.Proofs.YthakglomacijgaaGreatDoor.rd
