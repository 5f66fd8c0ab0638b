/-
  NARROWER THAN 'FOR EVERY INPUT', by the rows' own cells (each row's printed sentence says how): RuleNames: laid · RuleMatches: laid · RuleStars: laid.
  DERIVED. THE GIVEN ROWS OF THIS SEAT. 3 by the template 'for every input the law returns true; each argument reads behind the call as it read before'; 0 by the template 'total and deterministic' (their statements: YthpnclhfooileaaGreatDoorTotals.lean).
  GIVEN WITH THE SEED: the statements are not yours to turn. If you find one false, say at which input.
  Laid BY PROGRAM, IN A SANDBOX (cutbox-rows.mjs): the forced cells as the released guide's own fill.sh prints them over the translation f07f47f89c56c782… (all of the seat's roots in one cut). By AI agents, Wed Nov 11 2026. No macro, syntax, notation, axiom, sorry.
-/
import Derived.Test.YthpnclhfooileaaGreatDoorChecked
import GoSem.PinnedTables
import GoSem.Claim
import GoSem.ClaimJoined
import GoSem.ClaimMapViews
import Derived.JoinedTies
import Derived.KernelRfl
namespace Go.Proofs.YthpnclhfooileaaGreatDoor
/- THE CELL 'sum', in the pinned program and in every row, IS THE sha256 OF THE DUMP (.gsa) THAT YthpnclhfooileaaGreatDoorProg.lean LOADS. Nothing in Lean hashes anything: it is a label: what it is worth is what the hold of that sum in a sandbox is worth. -/
noncomputable def Tryz.pinned : Pinned := { name := "ythpnclhfooileaagreatdoor", sum := "f07f47f89c56c7820d6c32d5af74306d19d80a7b75c4752bab7f91b1e84e6cc8", checked := Tryz.checked }
namespace Rows
def none {H : Type} : Left H := { results := [], args := [] }

/- WHAT THE LISTED PACKAGE-LEVEL VARIABLES READ AS WHEN THE CALL BEGINS. Each datum BY PROGRAM (the guide's laid-datum.mjs) off the statement by which the dump's own 'gosem.cut.vars' lays the variable. In a bare row this is a premise. The card (YthpnclhfooileaaGreatDoorCards.lean) ties it to the program's text. -/
def laid_unicode_utf8_acceptRanges {H : Type} : DataW H := .agg [.agg [.lit (.int .u8 128), .lit (.int .u8 191)], .agg [.lit (.int .u8 160), .lit (.int .u8 191)], .agg [.lit (.int .u8 128), .lit (.int .u8 159)], .agg [.lit (.int .u8 144), .lit (.int .u8 191)], .agg [.lit (.int .u8 128), .lit (.int .u8 143)], .agg [.lit (.int .u8 0), .lit (.int .u8 0)], .agg [.lit (.int .u8 0), .lit (.int .u8 0)], .agg [.lit (.int .u8 0), .lit (.int .u8 0)], .agg [.lit (.int .u8 0), .lit (.int .u8 0)], .agg [.lit (.int .u8 0), .lit (.int .u8 0)], .agg [.lit (.int .u8 0), .lit (.int .u8 0)], .agg [.lit (.int .u8 0), .lit (.int .u8 0)], .agg [.lit (.int .u8 0), .lit (.int .u8 0)], .agg [.lit (.int .u8 0), .lit (.int .u8 0)], .agg [.lit (.int .u8 0), .lit (.int .u8 0)], .agg [.lit (.int .u8 0), .lit (.int .u8 0)]]
def laid_voyage_api_ErrPath {H : Type} : DataW H := .iface "*errors.errorString" (.ptr (.agg [.lit (.string [118, 111, 121, 97, 103, 101, 58, 32, 110, 111, 32, 112, 97, 116, 104])]))
def laid_voyage_api_ErrKind {H : Type} : DataW H := .iface "*errors.errorString" (.ptr (.agg [.lit (.string [118, 111, 121, 97, 103, 101, 58, 32, 97, 32, 118, 97, 108, 117, 101, 32, 111, 102, 32, 97, 110, 111, 116, 104, 101, 114, 32, 107, 105, 110, 100])]))
def laid_voyage_api_ErrTime {H : Type} : DataW H := .iface "*errors.errorString" (.ptr (.agg [.lit (.string [118, 111, 121, 97, 103, 101, 58, 32, 110, 111, 32, 109, 111, 109, 101, 110, 116])]))
/-- One of Go's own tables, pinned by name: the form's constant. -/
def laid_unicode_utf8_first : DataW Unit := Go.Pinned.utf8First

/-- 'voyagelaw07.RuleNames': WHATEVER THE INPUT: true; the input reads as it did. -/
def ruleNamesSpec : ChangeSpec := { name := "ruleNames", fn := fun _ => fun
  | [d] => { results := [.lit (.bool true)], args := [d] }
  | _ => none }
def ruleNamesRow : OpenClaim := { program := "ythpnclhfooileaagreatdoor", sum := "f07f47f89c56c7820d6c32d5af74306d19d80a7b75c4752bab7f91b1e84e6cc8", func := "voyage/voyagelaw07.RuleNames", spec := "ruleNames", inPlace := ["internal/bytealg.IndexByteString", "internal/bytealg.IndexString", "internal/bytealg.abigen_runtime_cmpstring", "internal/abi.NoEscape"], unfollowed := true, recurses := true, named := ["voyage/api.ErrPath", "unicode/utf8.first", "unicode/utf8.acceptRanges", "voyage/api.ErrTime", "internal/bytealg.MaxLen", "voyage/api.ErrKind"], apart := false, laid := [("unicode/utf8.acceptRanges", laid_unicode_utf8_acceptRanges), ("voyage/api.ErrPath", laid_voyage_api_ErrPath), ("voyage/api.ErrKind", laid_voyage_api_ErrKind), ("voyage/api.ErrTime", laid_voyage_api_ErrTime), ("unicode/utf8.first", laid_unicode_utf8_first)] }
def RuleNamesSaid : Prop := ruleNamesRow.holds Tryz.pinned (OpenSpec.ofChange ruleNamesSpec)

/-- ITS FALSE NEIGHBOUR: 'it returns false'. Refute it at one input. -/
def ruleNamesWrong : ChangeSpec := { name := "ruleNames", fn := fun _ => fun
  | [d] => { results := [.lit (.bool false)], args := [d] }
  | _ => none }
def RuleNamesWrongFalsely : Prop := ruleNamesRow.holds Tryz.pinned (OpenSpec.ofChange ruleNamesWrong)

/-- 'voyagelaw07.RuleMatches': WHATEVER THE INPUT: true; the input reads as it did. -/
def ruleMatchesSpec : ChangeSpec := { name := "ruleMatches", fn := fun _ => fun
  | [d1, d2] => { results := [.lit (.bool true)], args := [d1, d2] }
  | _ => none }
def ruleMatchesRow : OpenClaim := { program := "ythpnclhfooileaagreatdoor", sum := "f07f47f89c56c7820d6c32d5af74306d19d80a7b75c4752bab7f91b1e84e6cc8", func := "voyage/voyagelaw07.RuleMatches", spec := "ruleMatches", inPlace := ["internal/bytealg.IndexByteString", "internal/bytealg.IndexString", "internal/bytealg.abigen_runtime_cmpstring", "internal/abi.NoEscape"], unfollowed := true, recurses := true, named := ["voyage/api.ErrPath", "unicode/utf8.first", "unicode/utf8.acceptRanges", "voyage/api.ErrTime", "internal/bytealg.MaxLen", "voyage/api.ErrKind"], apart := false, laid := [("unicode/utf8.acceptRanges", laid_unicode_utf8_acceptRanges), ("voyage/api.ErrPath", laid_voyage_api_ErrPath), ("voyage/api.ErrKind", laid_voyage_api_ErrKind), ("voyage/api.ErrTime", laid_voyage_api_ErrTime), ("unicode/utf8.first", laid_unicode_utf8_first)] }
def RuleMatchesSaid : Prop := ruleMatchesRow.holds Tryz.pinned (OpenSpec.ofChange ruleMatchesSpec)

/-- ITS FALSE NEIGHBOUR: 'it returns false'. Refute it at one input. -/
def ruleMatchesWrong : ChangeSpec := { name := "ruleMatches", fn := fun _ => fun
  | [d1, d2] => { results := [.lit (.bool false)], args := [d1, d2] }
  | _ => none }
def RuleMatchesWrongFalsely : Prop := ruleMatchesRow.holds Tryz.pinned (OpenSpec.ofChange ruleMatchesWrong)

/-- 'voyagelaw07.RuleStars': WHATEVER THE INPUT: true; the input reads as it did. -/
def ruleStarsSpec : ChangeSpec := { name := "ruleStars", fn := fun _ => fun
  | [d1, d2, d3, d4] => { results := [.lit (.bool true)], args := [d1, d2, d3, d4] }
  | _ => none }
def ruleStarsRow : OpenClaim := { program := "ythpnclhfooileaagreatdoor", sum := "f07f47f89c56c7820d6c32d5af74306d19d80a7b75c4752bab7f91b1e84e6cc8", func := "voyage/voyagelaw07.RuleStars", spec := "ruleStars", inPlace := ["internal/bytealg.IndexByteString", "internal/bytealg.IndexString", "internal/bytealg.abigen_runtime_cmpstring", "internal/abi.NoEscape"], unfollowed := true, recurses := true, named := ["voyage/api.ErrPath", "unicode/utf8.first", "unicode/utf8.acceptRanges", "voyage/api.ErrTime", "internal/bytealg.MaxLen", "voyage/api.ErrKind"], apart := false, laid := [("unicode/utf8.acceptRanges", laid_unicode_utf8_acceptRanges), ("voyage/api.ErrPath", laid_voyage_api_ErrPath), ("voyage/api.ErrKind", laid_voyage_api_ErrKind), ("voyage/api.ErrTime", laid_voyage_api_ErrTime), ("unicode/utf8.first", laid_unicode_utf8_first)] }
def RuleStarsSaid : Prop := ruleStarsRow.holds Tryz.pinned (OpenSpec.ofChange ruleStarsSpec)

/-- ITS FALSE NEIGHBOUR: 'it returns false'. Refute it at one input. -/
def ruleStarsWrong : ChangeSpec := { name := "ruleStars", fn := fun _ => fun
  | [d1, d2, d3, d4] => { results := [.lit (.bool false)], args := [d1, d2, d3, d4] }
  | _ => none }
def RuleStarsWrongFalsely : Prop := ruleStarsRow.holds Tryz.pinned (OpenSpec.ofChange ruleStarsWrong)

/- THE SECOND FORM. 'bulk': how many values and letters a reading holds, each counted each time it is reached (what is shared counts as often as it is met; a slice's spare places count too). A statement '..UptoSaid' is the law's where the arguments, and the package variables that the reading takes, are together of bulk at most 1048576: NARROWER than '..Said'. Prove '..Said' where nothing that the law and all that it calls make is longer than what came in: it says more and counts as full. Else prove '..UptoSaid'. A law counts once. -/
mutual
def uptoBulk {H : Type} : DataW H → Nat
  | .lit (.string bytes) => bytes.length + 1
  | .lit _ => 1
  | .nil => 1
  | .ptr d => uptoBulk d + 1
  | .slice elems spare => uptoBulkAll elems + uptoBulkAll spare + 1
  | .agg parts => uptoBulkAll parts + 1
  | .iface _ d => uptoBulk d + 1
  | .map entries => uptoBulkEntries entries + 1
  | .held _ => 1
def uptoBulkAll {H : Type} : List (DataW H) → Nat
  | [] => 0
  | d :: r => uptoBulk d + uptoBulkAll r
def uptoBulkEntries {H : Type} : List (Lit × DataW H) → Nat
  | [] => 0
  | x :: r => uptoBulkEntry x + uptoBulkEntries r
def uptoBulkEntry {H : Type} : Lit × DataW H → Nat
  | (.string bytes, d) => bytes.length + uptoBulk d + 1
  | (_, d) => uptoBulk d + 1
 end
def uptoSmall : (H : Type) → List (DataW H) → Bool := fun _ ds => decide (uptoBulkAll ds ≤ 1048576)
def OpenSpec.upto (s : _root_.Go.ChangeSpec) : _root_.Go.OpenSpec := { _root_.Go.OpenSpec.ofChange s with cond := some uptoSmall }

/-- 'voyagelaw07.RuleNames', WHERE WHAT IT READS IS OF BULK AT MOST 1048576: true; the input reads as it did. -/
def ruleNamesUptoRow : OpenClaim := { program := "ythpnclhfooileaagreatdoor", sum := "f07f47f89c56c7820d6c32d5af74306d19d80a7b75c4752bab7f91b1e84e6cc8", func := "voyage/voyagelaw07.RuleNames", spec := "ruleNames", inPlace := ["internal/bytealg.IndexByteString", "internal/bytealg.IndexString", "internal/bytealg.abigen_runtime_cmpstring", "internal/abi.NoEscape"], unfollowed := true, recurses := true, named := ["voyage/api.ErrPath", "unicode/utf8.first", "unicode/utf8.acceptRanges", "voyage/api.ErrTime", "internal/bytealg.MaxLen", "voyage/api.ErrKind"], apart := false, laid := [("unicode/utf8.acceptRanges", laid_unicode_utf8_acceptRanges), ("voyage/api.ErrPath", laid_voyage_api_ErrPath), ("voyage/api.ErrKind", laid_voyage_api_ErrKind), ("voyage/api.ErrTime", laid_voyage_api_ErrTime), ("unicode/utf8.first", laid_unicode_utf8_first)], narrowed := true }
def RuleNamesUptoSaid : Prop := ruleNamesUptoRow.holds Tryz.pinned (OpenSpec.upto ruleNamesSpec)

/-- 'voyagelaw07.RuleMatches', WHERE WHAT IT READS IS OF BULK AT MOST 1048576: true; the input reads as it did. -/
def ruleMatchesUptoRow : OpenClaim := { program := "ythpnclhfooileaagreatdoor", sum := "f07f47f89c56c7820d6c32d5af74306d19d80a7b75c4752bab7f91b1e84e6cc8", func := "voyage/voyagelaw07.RuleMatches", spec := "ruleMatches", inPlace := ["internal/bytealg.IndexByteString", "internal/bytealg.IndexString", "internal/bytealg.abigen_runtime_cmpstring", "internal/abi.NoEscape"], unfollowed := true, recurses := true, named := ["voyage/api.ErrPath", "unicode/utf8.first", "unicode/utf8.acceptRanges", "voyage/api.ErrTime", "internal/bytealg.MaxLen", "voyage/api.ErrKind"], apart := false, laid := [("unicode/utf8.acceptRanges", laid_unicode_utf8_acceptRanges), ("voyage/api.ErrPath", laid_voyage_api_ErrPath), ("voyage/api.ErrKind", laid_voyage_api_ErrKind), ("voyage/api.ErrTime", laid_voyage_api_ErrTime), ("unicode/utf8.first", laid_unicode_utf8_first)], narrowed := true }
def RuleMatchesUptoSaid : Prop := ruleMatchesUptoRow.holds Tryz.pinned (OpenSpec.upto ruleMatchesSpec)

/-- 'voyagelaw07.RuleStars', WHERE WHAT IT READS IS OF BULK AT MOST 1048576: true; the input reads as it did. -/
def ruleStarsUptoRow : OpenClaim := { program := "ythpnclhfooileaagreatdoor", sum := "f07f47f89c56c7820d6c32d5af74306d19d80a7b75c4752bab7f91b1e84e6cc8", func := "voyage/voyagelaw07.RuleStars", spec := "ruleStars", inPlace := ["internal/bytealg.IndexByteString", "internal/bytealg.IndexString", "internal/bytealg.abigen_runtime_cmpstring", "internal/abi.NoEscape"], unfollowed := true, recurses := true, named := ["voyage/api.ErrPath", "unicode/utf8.first", "unicode/utf8.acceptRanges", "voyage/api.ErrTime", "internal/bytealg.MaxLen", "voyage/api.ErrKind"], apart := false, laid := [("unicode/utf8.acceptRanges", laid_unicode_utf8_acceptRanges), ("voyage/api.ErrPath", laid_voyage_api_ErrPath), ("voyage/api.ErrKind", laid_voyage_api_ErrKind), ("voyage/api.ErrTime", laid_voyage_api_ErrTime), ("unicode/utf8.first", laid_unicode_utf8_first)], narrowed := true }
def RuleStarsUptoSaid : Prop := ruleStarsUptoRow.holds Tryz.pinned (OpenSpec.upto ruleStarsSpec)

end Rows
end Go.Proofs.YthpnclhfooileaaGreatDoor
