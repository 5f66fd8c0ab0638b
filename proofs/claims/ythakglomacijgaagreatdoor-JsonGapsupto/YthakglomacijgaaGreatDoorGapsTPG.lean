/- 'JsonGaps' answers true for every value whose reading is of bulk at most 2^20, any list of at most 2^20 raw numbers and every number, at any world that a call may begin in. -/
import Derived.Test.YthakglomacijgaaGreatDoorWo2PG
import Derived.Test.YthakglomacijgaaGreatDoorJg3PG
namespace Go.Proofs.YthakglomacijgaaGreatDoor
theorem jsonGaps_all:Rows.JsonGapsUptoCardSaid:=frJsonGaps.card (fun c0 j0 v1 l1 x2 W hL _ h0 b0 hi hl hx=>by
 obtain ⟨E,A,hEA,hAE⟩:=rd.wo.ae_of hL
 exact rd.gaps_law E A (hEA _ (by simp [rd.lw.isE])) j0 b0 c0 v1 l1 x2 W hAE h0 hi hl.1 hl.2 hx.1 hx.2)
end Go.Proofs.YthakglomacijgaaGreatDoor
