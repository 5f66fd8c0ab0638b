/- 'JsonTexts' answers true for all texts, of any length, at any world that a call may begin in. -/
import Derived.Test.YtencpkjhdgodgaaGreatDoorWsP
import Derived.Test.YtencpkjhdgodgaaGreatDoorDe3P
namespace Go.Proofs.YtencpkjhdgodgaaGreatDoor
theorem jsonTexts_all:Rows.JsonTextsCardSaid:=frJsonTexts.card (fun s W hL _ _=>by
 obtain ⟨E,A,hEA,hAE⟩:=rd.wo.ae_of hL
 exact rd.texts_law E A hEA s W hAE)
end Go.Proofs.YtencpkjhdgodgaaGreatDoor
