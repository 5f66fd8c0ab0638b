/- Texts in one: It -/
import Derived.Test.YthakglomacijgaaGreatDoorRuPR
import Derived.Test.YthakglomacijgaaGreatDoorIdPR
namespace Go.Proofs.YthakglomacijgaaGreatDoor.rd
open Go.RowKit
end Go.Proofs.YthakglomacijgaaGreatDoor.rd
