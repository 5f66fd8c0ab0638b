/- Texts in one: Mo -/
import Derived.Test.YthakglomacijgaaGreatDoorMrP
import Derived.Test.YthakglomacijgaaGreatDoorRows
import Derived.Deep.Slices
import Derived.Deep.Strs
import Derived.OpenShut
namespace Go.Proofs.YthakglomacijgaaGreatDoor.mm
open Go.RowKit
theorem bulk_pos {H:Type}:∀ d:DataW H,1≤Rows.uptoBulk d
 | .lit l=>by cases l <;> simp [Rows.uptoBulk]
 | .nil=>by simp [Rows.uptoBulk]
 | .ptr _=>by simp [Rows.uptoBulk]
 | .slice _ _=>by simp [Rows.uptoBulk]
 | .agg _=>by simp [Rows.uptoBulk]
 | .iface _ _=>by simp [Rows.uptoBulk]
 | .map _=>by simp [Rows.uptoBulk]
 | .held _=>by simp [Rows.uptoBulk]
theorem bulk_mem {H:Type}{d:DataW H}:∀ {l:List (DataW H)},d∈l→Rows.uptoBulk d≤Rows.uptoBulkAll l
 | [],h=>by cases h
 | x::r,h=>by
   rw [Rows.uptoBulkAll]
   rcases List.mem_cons.mp h with e|e
   · subst e;omega
   · have:=bulk_mem e;omega
theorem bulk_len {H:Type}:∀ l:List (DataW H),l.length≤Rows.uptoBulkAll l
 | []=>by simp
 | x::r=>by
   rw [Rows.uptoBulkAll,List.length_cons]
   have:=bulk_pos x
   have:=bulk_len r
   omega
theorem bulk_str {H:Type} (s:ByteArray):s.size≤Rows.uptoBulk (.lit (.string s.data.toList):DataW H):=by
 rw [Rows.uptoBulk]
 have:s.data.toList.length=s.size:=by rw [Array.length_toList];rfl
 omega
section
variable {H:Type}{enc:TypeId × Value→H}{P:Program}{W:World}{fuel:Nat}{cs:List Value}{x:DataW H × List MemPlace}
end
end Go.Proofs.YthakglomacijgaaGreatDoor.mm
