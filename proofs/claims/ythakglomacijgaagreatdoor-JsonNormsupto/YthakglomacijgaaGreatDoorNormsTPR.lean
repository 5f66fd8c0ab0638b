/- JsonNorms answers true for every value whose reading is of bulk at most 2^20, every text of at most 2^20 bytes and every number, at any world that a call may begin in. -/
import Derived.Test.YthakglomacijgaaGreatDoorWo2PR
import Derived.Test.YthakglomacijgaaGreatDoorPg3PR
import Derived.Test.YthakglomacijgaaGreatDoorLlVPR
namespace Go.Proofs.YthakglomacijgaaGreatDoor
theorem jsonNorms_all:Rows.JsonNormsUptoCardSaid:=frJsonNorms.card (fun c0 j0 g1 x2 W hL _ h0 b0 hg _=>by
 obtain ⟨E,A,hEA,hAE⟩:=rd.wo.ae_of hL
 exact rd.norms_law (fun v cs w hb hv=>rd.rcopied_any _ v cs w (Nat.lt_succ_self _) hb hv) E A (hEA _ (by simp [rd.lw.isE])) j0 b0 c0 g1 hg x2 W hAE h0)
end Go.Proofs.YthakglomacijgaaGreatDoor
