/-
  DERIVED. GIVEN WITH THE SEED: THE CARDS: each row of YtmnikcnjdeldeaaDoorRows.lean that lists a variable, with what it lists TIED to the program's text (the seventh form; the later family's looks); each row that meets fmt, with fmt's text TOLD by the authors' own Lean function (tested against real Go, not proved from fmt's source: count such statements apart). THE CARD IS WHAT COUNTS. Prove the row's statement (the work); the ties are given (YtmnikcnjdeldeaaDoorTie.lean); close each card by the builder's one call (the guide's Derived/Test/ToyasCard.lean, 'card_holds'). Laid BY PROGRAM, IN A SANDBOX (cutbox-door.mjs). By AI agents, Wed Nov 11 2026. No macro, syntax, notation, axiom, sorry.
-/
import Derived.Test.YtmnikcnjdeldeaaDoorRows
import GoSem.ClaimSeven
namespace Go.Proofs.YtmnikcnjdeldeaaDoor
namespace Rows

/-- THE TIED CARD OF 'voyagelaw10.RetryMatches'. -/
def retryMatchesCard : Claim7 := { stood := { row := retryMatchesRow, standIns := [], harness := (true, "c19f2cb1cf008ec395ddd933694f86a84a22cf46d9d928e80a8fc9af2619a9f7"), looks := false }, kinds := [], alts := [], laidByText := true, laidKinds := [.data, .data, .data, .data, .sentinel, .pinned], laidTests := true, laidLooks := .later }
def RetryMatchesCardSaid : Prop := Claim7.holds Tryd.pinned (.plain (OpenSpec.ofChange retryMatchesSpec)) retryMatchesCard

/-- THE TIED CARD OF 'voyagelaw10.RetryCharges'. -/
def retryChargesCard : Claim7 := { stood := { row := retryChargesRow, standIns := [], harness := (true, "c19f2cb1cf008ec395ddd933694f86a84a22cf46d9d928e80a8fc9af2619a9f7"), looks := false }, kinds := [], alts := [], laidByText := true, laidKinds := [.data, .data, .data, .data, .sentinel, .pinned], laidTests := true, laidLooks := .later }
def RetryChargesCardSaid : Prop := Claim7.holds Tryd.pinned (.plain (OpenSpec.ofChange retryChargesSpec)) retryChargesCard

/-- THE TIED CARD OF 'voyagelaw10.RetryCatches'. -/
def retryCatchesCard : Claim7 := { stood := { row := retryCatchesRow, standIns := [], harness := (true, "c19f2cb1cf008ec395ddd933694f86a84a22cf46d9d928e80a8fc9af2619a9f7"), looks := false }, kinds := [], alts := [], laidByText := true, laidKinds := [.data, .data, .data, .data, .sentinel, .pinned], laidTests := true, laidLooks := .later }
def RetryCatchesCardSaid : Prop := Claim7.holds Tryd.pinned (.plain (OpenSpec.ofChange retryCatchesSpec)) retryCatchesCard

/-- THE TIED CARD OF 'voyagelaw10.RetryEnds'. -/
def retryEndsCard : Claim7 := { stood := { row := retryEndsRow, standIns := [], harness := (true, "c19f2cb1cf008ec395ddd933694f86a84a22cf46d9d928e80a8fc9af2619a9f7"), looks := false }, kinds := [], alts := [], laidByText := true, laidKinds := [.data, .data, .data, .data, .sentinel, .pinned], laidTests := true, laidLooks := .later }
def RetryEndsCardSaid : Prop := Claim7.holds Tryd.pinned (.plain (OpenSpec.ofChange retryEndsSpec)) retryEndsCard

/-- THE TIED CARD OF 'voyagelaw10.RetryMore'. -/
def retryMoreCard : Claim7 := { stood := { row := retryMoreRow, standIns := [], harness := (true, "c19f2cb1cf008ec395ddd933694f86a84a22cf46d9d928e80a8fc9af2619a9f7"), looks := false }, kinds := [], alts := [], laidByText := true, laidKinds := [.data, .data, .data, .data, .sentinel, .pinned], laidTests := true, laidLooks := .later }
def RetryMoreCardSaid : Prop := Claim7.holds Tryd.pinned (.plain (OpenSpec.ofChange retryMoreSpec)) retryMoreCard

/-- THE SECOND FORM's CARD OF 'voyagelaw10.RetryMatches'. -/
def retryMatchesUptoCard : Claim7 := { stood := { row := retryMatchesUptoRow, standIns := [], harness := (true, "c19f2cb1cf008ec395ddd933694f86a84a22cf46d9d928e80a8fc9af2619a9f7"), looks := false }, kinds := [], alts := [], laidByText := true, laidKinds := [.data, .data, .data, .data, .sentinel, .pinned], laidTests := true, laidLooks := .later }
def RetryMatchesUptoCardSaid : Prop := Claim7.holds Tryd.pinned (.plain (OpenSpec.upto retryMatchesSpec)) retryMatchesUptoCard

/-- THE SECOND FORM's CARD OF 'voyagelaw10.RetryCharges'. -/
def retryChargesUptoCard : Claim7 := { stood := { row := retryChargesUptoRow, standIns := [], harness := (true, "c19f2cb1cf008ec395ddd933694f86a84a22cf46d9d928e80a8fc9af2619a9f7"), looks := false }, kinds := [], alts := [], laidByText := true, laidKinds := [.data, .data, .data, .data, .sentinel, .pinned], laidTests := true, laidLooks := .later }
def RetryChargesUptoCardSaid : Prop := Claim7.holds Tryd.pinned (.plain (OpenSpec.upto retryChargesSpec)) retryChargesUptoCard

/-- THE SECOND FORM's CARD OF 'voyagelaw10.RetryCatches'. -/
def retryCatchesUptoCard : Claim7 := { stood := { row := retryCatchesUptoRow, standIns := [], harness := (true, "c19f2cb1cf008ec395ddd933694f86a84a22cf46d9d928e80a8fc9af2619a9f7"), looks := false }, kinds := [], alts := [], laidByText := true, laidKinds := [.data, .data, .data, .data, .sentinel, .pinned], laidTests := true, laidLooks := .later }
def RetryCatchesUptoCardSaid : Prop := Claim7.holds Tryd.pinned (.plain (OpenSpec.upto retryCatchesSpec)) retryCatchesUptoCard

/-- THE SECOND FORM's CARD OF 'voyagelaw10.RetryEnds'. -/
def retryEndsUptoCard : Claim7 := { stood := { row := retryEndsUptoRow, standIns := [], harness := (true, "c19f2cb1cf008ec395ddd933694f86a84a22cf46d9d928e80a8fc9af2619a9f7"), looks := false }, kinds := [], alts := [], laidByText := true, laidKinds := [.data, .data, .data, .data, .sentinel, .pinned], laidTests := true, laidLooks := .later }
def RetryEndsUptoCardSaid : Prop := Claim7.holds Tryd.pinned (.plain (OpenSpec.upto retryEndsSpec)) retryEndsUptoCard

/-- THE SECOND FORM's CARD OF 'voyagelaw10.RetryMore'. -/
def retryMoreUptoCard : Claim7 := { stood := { row := retryMoreUptoRow, standIns := [], harness := (true, "c19f2cb1cf008ec395ddd933694f86a84a22cf46d9d928e80a8fc9af2619a9f7"), looks := false }, kinds := [], alts := [], laidByText := true, laidKinds := [.data, .data, .data, .data, .sentinel, .pinned], laidTests := true, laidLooks := .later }
def RetryMoreUptoCardSaid : Prop := Claim7.holds Tryd.pinned (.plain (OpenSpec.upto retryMoreSpec)) retryMoreUptoCard
end Rows
end Go.Proofs.YtmnikcnjdeldeaaDoor
