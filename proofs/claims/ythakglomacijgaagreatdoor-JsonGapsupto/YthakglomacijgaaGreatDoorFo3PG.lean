/- Texts in one: Fo3 Gtp -/
import Derived.Test.YthakglomacijgaaGreatDoorFo2PG
import Derived.Test.YthakglomacijgaaGreatDoorSqPG
import Derived.Test.YthakglomacijgaaGreatDoorIdPG
namespace Go.Proofs.YthakglomacijgaaGreatDoor.rd
open Go.RowKit
end Go.Proofs.YthakglomacijgaaGreatDoor.rd
namespace Go.Proofs.YthakglomacijgaaGreatDoor.rd
open Go.RowKit
open ss (Fst puts_fst fst_uniq)
def jz:JT:=.mk 0 false zed ⟨#[]⟩ [] []
def getF (fl:List (ByteArray × JT)) (n:ByteArray):Option JT:=(fl.find? fun p=>decide (p.1=n)).map (·.2)
def kindOf:JT→Int
 | .mk k _ _ _ _ _=>k
def listOf:JT→List JT
 | .mk _ _ _ _ l _=>l
def fieldsJ:JT→List (ByteArray × JT)
 | .mk _ _ _ _ _ f=>f
def getJ (v:JT) (name:ByteArray):Option JT:=if kindOf v=5 then getF ((fieldsJ v).map fun p=>(pt.clean p.1,nrm p.2)) (pt.clean name) else none
def atJ (v:JT) (i:Int):Option JT:=if kindOf v=4∧0≤i∧i < ((listOf v).length:Int) then ((listOf v)[i.toNat]?).map nrm else none
end Go.Proofs.YthakglomacijgaaGreatDoor.rd
