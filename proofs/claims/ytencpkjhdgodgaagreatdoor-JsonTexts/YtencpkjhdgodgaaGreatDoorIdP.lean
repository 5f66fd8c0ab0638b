/- Texts in one: Id -/
import Derived.Test.YtencpkjhdgodgaaGreatDoorNuP
import Derived.Test.YtencpkjhdgodgaaGreatDoorIeP
import Derived.Test.YtencpkjhdgodgaaGreatDoorIbP
import Derived.Test.YtencpkjhdgodgaaGreatDoorUbP
namespace Go.Proofs.YtencpkjhdgodgaaGreatDoor.rd
open Go
def null:JT:=.mk 0 false zed ⟨#[]⟩ [] []
def nrm:JT→JT
 | .mk k t d x l f =>
   if k=1 then .mk 1 t zed ⟨#[]⟩ [] []
   else if k=2 then .mk 2 false (norm d) ⟨#[]⟩ [] []
   else if k=3 then .mk 3 false zed (pt.clean x) [] []
   else if k=4 then .mk 4 false zed ⟨#[]⟩ (l.attach.map fun v=>nrm v.1) []
   else if k=5 then .mk 5 false zed ⟨#[]⟩ [] (jn.puts (f.attach.map fun p=>(pt.clean p.1.1,nrm p.1.2)))
   else null
 termination_by v=>SizeOf.sizeOf v
 decreasing_by
  · exact sz_l v.2
  · exact sz_f p.2
theorem nrm_mk (k:Int) (t:Bool) (d:Dn) (x:ByteArray) (l:List JT) (f:List (ByteArray × JT)):nrm (.mk k t d x l f) =
 if k=1 then .mk 1 t zed ⟨#[]⟩ [] []
 else if k=2 then .mk 2 false (norm d) ⟨#[]⟩ [] []
 else if k=3 then .mk 3 false zed (pt.clean x) [] []
 else if k=4 then .mk 4 false zed ⟨#[]⟩ (l.map nrm) []
 else if k=5 then .mk 5 false zed ⟨#[]⟩ [] (jn.puts (f.map fun p=>(pt.clean p.1,nrm p.2)))
 else null:=by
 rw [nrm]
 simp only [List.map_attach_eq_pmap,List.pmap_eq_map]
end Go.Proofs.YtencpkjhdgodgaaGreatDoor.rd
