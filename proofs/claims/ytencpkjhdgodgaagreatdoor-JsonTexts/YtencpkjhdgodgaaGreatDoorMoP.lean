/- Texts in one: Mo -/
import Derived.Test.YtencpkjhdgodgaaGreatDoorMrP
import Derived.Test.YtencpkjhdgodgaaGreatDoorRows
import Derived.Deep.Slices
import Derived.Deep.Strs
import Derived.OpenShut
namespace Go.Proofs.YtencpkjhdgodgaaGreatDoor.mm
open Go.RowKit
section
variable {H:Type}{enc:TypeId × Value→H}{P:Program}{W:World}{fuel:Nat}{cs:List Value}{x:DataW H × List MemPlace}
end
end Go.Proofs.YtencpkjhdgodgaaGreatDoor.mm
