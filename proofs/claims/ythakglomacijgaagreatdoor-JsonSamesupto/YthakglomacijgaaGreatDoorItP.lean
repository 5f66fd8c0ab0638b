/- Texts in one: It -/
import Derived.Test.YthakglomacijgaaGreatDoorRuP
import Derived.Test.YthakglomacijgaaGreatDoorIdP
namespace Go.Proofs.YthakglomacijgaaGreatDoor.rd
open Go.RowKit
end Go.Proofs.YthakglomacijgaaGreatDoor.rd
