/-
  DERIVED. GIVEN WITH THE SEED: THE CARDS: each row of YtemcilikchlaiabDoorRows.lean that lists a variable, with what it lists TIED to the program's text (the seventh form; the later family's looks); each row that meets fmt, with fmt's text TOLD by the authors' own Lean function (tested against real Go, not proved from fmt's source: count such statements apart). THE CARD IS WHAT COUNTS. Prove the row's statement (the work); the ties are given (YtemcilikchlaiabDoorTie.lean); close each card by the builder's one call (the guide's Derived/Test/ToyasCard.lean, 'card_holds'). Laid BY PROGRAM, IN A SANDBOX (cutbox-door.mjs). By AI agents, Wed Nov 11 2026. No macro, syntax, notation, axiom, sorry.
-/
import Derived.Test.YtemcilikchlaiabDoorRows
import GoSem.ClaimSeven
namespace Go.Proofs.YtemcilikchlaiabDoor
namespace Rows

/-- THE TIED CARD OF 'voyagelaw06.StampOrders'. -/
def stampOrdersCard : Claim7 := { stood := { row := stampOrdersRow, standIns := [], harness := (true, "1a81799c6ba1f67cdabcfcdaa58d4303245ce823c7815a197a238f8f5af91c16"), looks := true }, kinds := [], alts := [], laidByText := true, laidKinds := [.data, .data, .data, .data, .sentinel, .pinned], laidTests := true, laidLooks := .later }
def StampOrdersCardSaid : Prop := Claim7.holds Tryd.pinned (.plain (OpenSpec.ofChange stampOrdersSpec)) stampOrdersCard

/-- THE TIED CARD OF 'voyagelaw06.StampOffsets'. -/
def stampOffsetsCard : Claim7 := { stood := { row := stampOffsetsRow, standIns := [], harness := (true, "1a81799c6ba1f67cdabcfcdaa58d4303245ce823c7815a197a238f8f5af91c16"), looks := true }, kinds := [], alts := [], laidByText := true, laidKinds := [.data, .data, .data, .data, .sentinel, .pinned], laidTests := true, laidLooks := .later }
def StampOffsetsCardSaid : Prop := Claim7.holds Tryd.pinned (.plain (OpenSpec.ofChange stampOffsetsSpec)) stampOffsetsCard

/-- THE SECOND FORM's CARD OF 'voyagelaw06.StampOrders'. -/
def stampOrdersUptoCard : Claim7 := { stood := { row := stampOrdersUptoRow, standIns := [], harness := (true, "1a81799c6ba1f67cdabcfcdaa58d4303245ce823c7815a197a238f8f5af91c16"), looks := true }, kinds := [], alts := [], laidByText := true, laidKinds := [.data, .data, .data, .data, .sentinel, .pinned], laidTests := true, laidLooks := .later }
def StampOrdersUptoCardSaid : Prop := Claim7.holds Tryd.pinned (.plain (OpenSpec.upto stampOrdersSpec)) stampOrdersUptoCard

/-- THE SECOND FORM's CARD OF 'voyagelaw06.StampOffsets'. -/
def stampOffsetsUptoCard : Claim7 := { stood := { row := stampOffsetsUptoRow, standIns := [], harness := (true, "1a81799c6ba1f67cdabcfcdaa58d4303245ce823c7815a197a238f8f5af91c16"), looks := true }, kinds := [], alts := [], laidByText := true, laidKinds := [.data, .data, .data, .data, .sentinel, .pinned], laidTests := true, laidLooks := .later }
def StampOffsetsUptoCardSaid : Prop := Claim7.holds Tryd.pinned (.plain (OpenSpec.upto stampOffsetsSpec)) stampOffsetsUptoCard
end Rows
end Go.Proofs.YtemcilikchlaiabDoor
