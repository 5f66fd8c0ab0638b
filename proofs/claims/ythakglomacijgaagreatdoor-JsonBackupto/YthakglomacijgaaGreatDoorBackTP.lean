/- JsonBack answers true for every value whose reading is of bulk at most 1048576, and it reads afterwards as it read before; conditions: the listed package variables hold what they are laid with. -/
import Derived.Test.YthakglomacijgaaGreatDoorWo2P
import Derived.Test.YthakglomacijgaaGreatDoorLg2P
import Derived.Test.YthakglomacijgaaGreatDoorDe3P
namespace Go.Proofs.YthakglomacijgaaGreatDoor
theorem jsonBack_all:Rows.JsonBackUptoCardSaid:=frJsonBack.card (fun c0 j0 W hL _ h0 b0=>by
 obtain ⟨E,A,hEA,hAE⟩:=rd.wo.ae_of hL
 exact rd.back_law (fun va vb h1 h2 h3 h4 ca cb w h5 h6=>rd.jsame_any va vb h1 h2 h3 h4 ca cb w h5 h6) E A (hEA _ (by simp [rd.lw.isE])) j0 b0 c0 W hAE h0)
end Go.Proofs.YthakglomacijgaaGreatDoor
