/- JsonSames answers true for all values whose readings are of bulk at most 2^20, at any world that a call may begin in. -/
import Derived.Test.YthakglomacijgaaGreatDoorWo2PQ
import Derived.Test.YthakglomacijgaaGreatDoorLgPQ
import Derived.Test.YthakglomacijgaaGreatDoorMkbPQ
namespace Go.Proofs.YthakglomacijgaaGreatDoor
theorem jsonSames_all:Rows.JsonSamesUptoCardSaid:=frJsonSames.card (fun c0 j0 c1 j1 W hL _ h0 b0 h1 b1=>by
 obtain ⟨E,A,hEA,hAE⟩:=rd.wo.ae_of hL
 exact rd.sames_law (fun v cs w hb hv=>rd.rcopied_any _ v cs w (Nat.lt_succ_self _) hb hv) (fun va vb h1 h2 h3 h4 ca cb w h5 h6=>rd.jsame_any va vb h1 h2 h3 h4 ca cb w h5 h6) E A (hEA _ (by simp [rd.lw.isE])) j0 j1 b0 b1 c0 c1 W hAE h0 h1)
end Go.Proofs.YthakglomacijgaaGreatDoor
