/- RecordBack answers true for all arguments whose reading is of bulk at most 2^20, at any world that a call may begin in. -/
import Derived.Test.YthnhobplgmojeaaGreatDoorWo3PB
import Derived.Test.YthnhobplgmojeaaGreatDoorRecMPB
import Derived.Test.YthnhobplgmojeaaGreatDoorIiP
import Derived.Test.YthnhobplgmojeaaGreatDoorFo5P
namespace Go.Proofs.YthnhobplgmojeaaGreatDoor
theorem recordBack_all:Rows.RecordBackUptoCardSaid:=frRecordBack.card (fun E0 P0 C0 x1 x2 W hL _ hv hn hA hc hm=>by
 obtain ⟨E,a,hE⟩:=ev.wo.le_of hL
 exact ev.back_law (fun va vb h1 h2 h3 h4 ca cb w h5 h6=>rd.jsame_any va vb h1 h2 h3 h4 ca cb w h5 h6) E0 P0 C0 x1 x2 W hE hv hn hA hc hm)
end Go.Proofs.YthnhobplgmojeaaGreatDoor
