/- The contracts of the reference's answer, and what its sums come to. -/
import Derived.Test.YteenfgomanhjkaaDoorRt
import Derived.Test.YteenfgomanhjkaaDoorRm
namespace Go.Proofs.YteenfgomanhjkaaDoor.rd
open Go.RowKit

/-- What answer answers. -/
def ansV (r : Dn × Bool) : Dn × Int := if r.2 then (r.1, 0) else (zed, 4)

end Go.Proofs.YteenfgomanhjkaaDoor.rd
