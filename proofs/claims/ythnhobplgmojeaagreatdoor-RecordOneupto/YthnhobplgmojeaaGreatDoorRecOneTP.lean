/- RecordOne answers true for all bytes and events whose reading is of bulk at most 2^20, at any world that a call may begin in. -/
import Derived.Test.YthnhobplgmojeaaGreatDoorWo3P
import Derived.Test.YthnhobplgmojeaaGreatDoorRecMP
import Derived.Test.YthnhobplgmojeaaGreatDoorFo5P
namespace Go.Proofs.YthnhobplgmojeaaGreatDoor
theorem recordOne_all:Rows.RecordOneUptoCardSaid:=frRecordOne.card (fun _ l0 E1 P1 C1 W hL _ h0 _ hv hn hA=>by
 obtain ⟨E,a,hE⟩:=ev.wo.le_of hL
 exact ev.one_law (fun va vb h1 h2 h3 h4 ca cb w h5 h6=>rd.jsame_any va vb h1 h2 h3 h4 ca cb w h5 h6) l0 _ E1 P1 C1 W h0 hE hv hn hA)
end Go.Proofs.YthnhobplgmojeaaGreatDoor
