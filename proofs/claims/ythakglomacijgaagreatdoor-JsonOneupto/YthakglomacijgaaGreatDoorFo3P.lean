/- Texts in one: Fo3 -/
import Derived.Test.YthakglomacijgaaGreatDoorFo2P
import Derived.Test.YthakglomacijgaaGreatDoorSqP
namespace Go.Proofs.YthakglomacijgaaGreatDoor.rd
open Go.RowKit
end Go.Proofs.YthakglomacijgaaGreatDoor.rd
