/-
  DERIVED. GIVEN WITH THE SEED: THE CARDS: each row of YthpnclhfooileaaGreatDoorRows.lean that lists a variable, with what it lists TIED to the program's text (the seventh form; the later family's looks); each row that meets fmt, with fmt's text TOLD by the authors' own Lean function (tested against real Go, not proved from fmt's source: count such statements apart). THE CARD IS WHAT COUNTS. Prove the row's statement (the work); the ties are given (YthpnclhfooileaaGreatDoorTie.lean); close each card by the builder's one call (the guide's Derived/Test/ToyasCard.lean, 'card_holds'). Laid BY PROGRAM, IN A SANDBOX (cutbox-door.mjs). By AI agents, Wed Nov 11 2026. No macro, syntax, notation, axiom, sorry.
-/
import Derived.Test.YthpnclhfooileaaGreatDoorRows
import GoSem.ClaimSeven
namespace Go.Proofs.YthpnclhfooileaaGreatDoor
namespace Rows

/-- THE TIED CARD OF 'voyagelaw07.RuleNames'. -/
def ruleNamesCard : Claim7 := { stood := { row := ruleNamesRow, standIns := [], harness := (true, "8dd9a96467b0c9ba425ce36902f99d15bf6bbe5b13ef529be6bb905d38c61dec"), looks := true }, kinds := [], alts := [], laidByText := true, laidKinds := [.data, .sentinel, .sentinel, .sentinel, .pinned], laidTests := true, laidLooks := .later }
def RuleNamesCardSaid : Prop := Claim7.holds Tryz.pinned (.plain (OpenSpec.ofChange ruleNamesSpec)) ruleNamesCard

/-- THE TIED CARD OF 'voyagelaw07.RuleMatches'. -/
def ruleMatchesCard : Claim7 := { stood := { row := ruleMatchesRow, standIns := [], harness := (true, "8dd9a96467b0c9ba425ce36902f99d15bf6bbe5b13ef529be6bb905d38c61dec"), looks := true }, kinds := [], alts := [], laidByText := true, laidKinds := [.data, .sentinel, .sentinel, .sentinel, .pinned], laidTests := true, laidLooks := .later }
def RuleMatchesCardSaid : Prop := Claim7.holds Tryz.pinned (.plain (OpenSpec.ofChange ruleMatchesSpec)) ruleMatchesCard

/-- THE TIED CARD OF 'voyagelaw07.RuleStars'. -/
def ruleStarsCard : Claim7 := { stood := { row := ruleStarsRow, standIns := [], harness := (true, "8dd9a96467b0c9ba425ce36902f99d15bf6bbe5b13ef529be6bb905d38c61dec"), looks := true }, kinds := [], alts := [], laidByText := true, laidKinds := [.data, .sentinel, .sentinel, .sentinel, .pinned], laidTests := true, laidLooks := .later }
def RuleStarsCardSaid : Prop := Claim7.holds Tryz.pinned (.plain (OpenSpec.ofChange ruleStarsSpec)) ruleStarsCard

/-- THE SECOND FORM's CARD OF 'voyagelaw07.RuleNames'. -/
def ruleNamesUptoCard : Claim7 := { stood := { row := ruleNamesUptoRow, standIns := [], harness := (true, "8dd9a96467b0c9ba425ce36902f99d15bf6bbe5b13ef529be6bb905d38c61dec"), looks := true }, kinds := [], alts := [], laidByText := true, laidKinds := [.data, .sentinel, .sentinel, .sentinel, .pinned], laidTests := true, laidLooks := .later }
def RuleNamesUptoCardSaid : Prop := Claim7.holds Tryz.pinned (.plain (OpenSpec.upto ruleNamesSpec)) ruleNamesUptoCard

/-- THE SECOND FORM's CARD OF 'voyagelaw07.RuleMatches'. -/
def ruleMatchesUptoCard : Claim7 := { stood := { row := ruleMatchesUptoRow, standIns := [], harness := (true, "8dd9a96467b0c9ba425ce36902f99d15bf6bbe5b13ef529be6bb905d38c61dec"), looks := true }, kinds := [], alts := [], laidByText := true, laidKinds := [.data, .sentinel, .sentinel, .sentinel, .pinned], laidTests := true, laidLooks := .later }
def RuleMatchesUptoCardSaid : Prop := Claim7.holds Tryz.pinned (.plain (OpenSpec.upto ruleMatchesSpec)) ruleMatchesUptoCard

/-- THE SECOND FORM's CARD OF 'voyagelaw07.RuleStars'. -/
def ruleStarsUptoCard : Claim7 := { stood := { row := ruleStarsUptoRow, standIns := [], harness := (true, "8dd9a96467b0c9ba425ce36902f99d15bf6bbe5b13ef529be6bb905d38c61dec"), looks := true }, kinds := [], alts := [], laidByText := true, laidKinds := [.data, .sentinel, .sentinel, .sentinel, .pinned], laidTests := true, laidLooks := .later }
def RuleStarsUptoCardSaid : Prop := Claim7.holds Tryz.pinned (.plain (OpenSpec.upto ruleStarsSpec)) ruleStarsUptoCard
end Rows
end Go.Proofs.YthpnclhfooileaaGreatDoor
