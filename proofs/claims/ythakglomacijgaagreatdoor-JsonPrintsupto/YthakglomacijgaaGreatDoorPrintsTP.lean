/- JsonPrints answers true for every value whose reading is of bulk at most 2^20, at any world that a call may begin in. -/
import Derived.Test.YthakglomacijgaaGreatDoorWo2P
import Derived.Test.YthakglomacijgaaGreatDoorDe3P
import Derived.Test.YthakglomacijgaaGreatDoorMkbP
namespace Go.Proofs.YthakglomacijgaaGreatDoor
theorem jsonPrints_all:Rows.JsonPrintsUptoCardSaid:=frJsonPrints.card (fun c0 j0 W hL _ h0 b0=>by
 obtain ⟨E,A,hEA,hAE⟩:=rd.wo.ae_of hL
 exact rd.prints_law (fun v cs w hb hv=>rd.rcopied_any _ v cs w (Nat.lt_succ_self _) hb hv) E A (hEA _ (by simp [rd.lw.isE])) j0 b0 c0 W hAE h0)
end Go.Proofs.YthakglomacijgaaGreatDoor
