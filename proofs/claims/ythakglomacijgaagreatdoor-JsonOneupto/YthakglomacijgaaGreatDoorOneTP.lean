/- JsonOne answers true for every two values whose reading is of bulk at most 1048576, and both read afterwards as they read before; conditions: the listed package variables hold what they are laid with. -/
import Derived.Test.YthakglomacijgaaGreatDoorOneFP
import Derived.Test.YthakglomacijgaaGreatDoorLg2P
import Derived.Test.YthakglomacijgaaGreatDoorLgP
namespace Go.Proofs.YthakglomacijgaaGreatDoor
theorem jsonOne_all:Rows.JsonOneUptoCardSaid:=frJsonOne.card (fun c0 j0 c1 j1 W hL _ h0 b0 h1 b1=>by
 obtain ⟨E,A,hEA,hAE⟩:=rd.wo.ae_of hL
 exact rd.one_law (fun va vb h1 h2 h3 h4 ca cb w h5 h6=>rd.jsame_any va vb h1 h2 h3 h4 ca cb w h5 h6) E A (hEA _ (by simp [rd.lw.isE])) j0 j1 b0 b1 c0 c1 W hAE h0 h1)
end Go.Proofs.YthakglomacijgaaGreatDoor
