/-
  NARROWER THAN 'FOR EVERY INPUT', by the rows' own cells (each row's printed sentence says how): DiskPlays: laid · DiskSafe: laid · DiskArms: laid · DiskTears: laid.
  DERIVED. THE GIVEN ROWS OF THIS SEAT. 4 by the template 'for every input the law returns true; each argument reads behind the call as it read before'; 0 by the template 'total and deterministic' (their statements: YtbcclolhfogpnaaDoorTotals.lean).
  GIVEN WITH THE SEED: the statements are not yours to turn. If you find one false, say at which input.
  Laid BY PROGRAM, IN A SANDBOX (cutbox-rows.mjs): the forced cells as the released guide's own fill.sh prints them over the translation 0f4eb387e25f1039… (all of the seat's roots in one cut). By AI agents, Wed Nov 11 2026. No macro, syntax, notation, axiom, sorry.
-/
import Derived.Test.YtbcclolhfogpnaaDoorChecked
import GoSem.Claim
import GoSem.ClaimJoined
import GoSem.ClaimMapViews
import Derived.JoinedTies
import Derived.KernelRfl
namespace Go.Proofs.YtbcclolhfogpnaaDoor
/- THE CELL 'sum', in the pinned program and in every row, IS THE sha256 OF THE DUMP (.gsa) THAT YtbcclolhfogpnaaDoorProg.lean LOADS. Nothing in Lean hashes anything: it is a label: what it is worth is what the hold of that sum in a sandbox is worth. -/
noncomputable def Tryd.pinned : Pinned := { name := "ytbcclolhfogpnaadoor", sum := "0f4eb387e25f1039c95541bd8487bc91144b854eee37d6c4c899f5317757fb44", checked := Tryd.checked }
namespace Rows
def none {H : Type} : Left H := { results := [], args := [] }

/- WHAT THE LISTED PACKAGE-LEVEL VARIABLES READ AS WHEN THE CALL BEGINS. Each datum BY PROGRAM (the guide's laid-datum.mjs) off the statement by which the dump's own 'gosem.cut.vars' lays the variable. In a bare row this is a premise. The card (YtbcclolhfogpnaaDoorCards.lean) ties it to the program's text. -/
def laid_voyage_api_ErrArg {H : Type} : DataW H := .iface "*errors.errorString" (.ptr (.agg [.lit (.string [118, 111, 121, 97, 103, 101, 58, 32, 97, 110, 32, 97, 114, 103, 117, 109, 101, 110, 116, 32, 116, 104, 97, 116, 32, 109, 97, 121, 32, 110, 111, 116, 32, 98, 101])]))
def laid_voyage_api_ErrDown {H : Type} : DataW H := .iface "*errors.errorString" (.ptr (.agg [.lit (.string [118, 111, 121, 97, 103, 101, 58, 32, 116, 104, 101, 32, 112, 111, 119, 101, 114, 32, 105, 115, 32, 111, 102, 102])]))

/-- 'voyagelaw12.DiskPlays': WHATEVER THE INPUT: true; the input reads as it did. -/
def diskPlaysSpec : ChangeSpec := { name := "diskPlays", fn := fun _ => fun
  | [d] => { results := [.lit (.bool true)], args := [d] }
  | _ => none }
def diskPlaysRow : OpenClaim := { program := "ytbcclolhfogpnaadoor", sum := "0f4eb387e25f1039c95541bd8487bc91144b854eee37d6c4c899f5317757fb44", func := "voyage/voyagelaw12.DiskPlays", spec := "diskPlays", named := ["voyage/api.ErrArg", "voyage/api.ErrDown"], apart := false, laid := [("voyage/api.ErrArg", laid_voyage_api_ErrArg), ("voyage/api.ErrDown", laid_voyage_api_ErrDown)] }
def DiskPlaysSaid : Prop := diskPlaysRow.holds Tryd.pinned (OpenSpec.ofChange diskPlaysSpec)

/-- ITS FALSE NEIGHBOUR: 'it returns false'. Refute it at one input. -/
def diskPlaysWrong : ChangeSpec := { name := "diskPlays", fn := fun _ => fun
  | [d] => { results := [.lit (.bool false)], args := [d] }
  | _ => none }
def DiskPlaysWrongFalsely : Prop := diskPlaysRow.holds Tryd.pinned (OpenSpec.ofChange diskPlaysWrong)

/-- 'voyagelaw12.DiskSafe': WHATEVER THE INPUT: true; the input reads as it did. -/
def diskSafeSpec : ChangeSpec := { name := "diskSafe", fn := fun _ => fun
  | [d] => { results := [.lit (.bool true)], args := [d] }
  | _ => none }
def diskSafeRow : OpenClaim := { program := "ytbcclolhfogpnaadoor", sum := "0f4eb387e25f1039c95541bd8487bc91144b854eee37d6c4c899f5317757fb44", func := "voyage/voyagelaw12.DiskSafe", spec := "diskSafe", named := ["voyage/api.ErrArg", "voyage/api.ErrDown"], apart := false, laid := [("voyage/api.ErrArg", laid_voyage_api_ErrArg), ("voyage/api.ErrDown", laid_voyage_api_ErrDown)] }
def DiskSafeSaid : Prop := diskSafeRow.holds Tryd.pinned (OpenSpec.ofChange diskSafeSpec)

/-- ITS FALSE NEIGHBOUR: 'it returns false'. Refute it at one input. -/
def diskSafeWrong : ChangeSpec := { name := "diskSafe", fn := fun _ => fun
  | [d] => { results := [.lit (.bool false)], args := [d] }
  | _ => none }
def DiskSafeWrongFalsely : Prop := diskSafeRow.holds Tryd.pinned (OpenSpec.ofChange diskSafeWrong)

/-- 'voyagelaw12.DiskArms': WHATEVER THE INPUT: true; the input reads as it did. -/
def diskArmsSpec : ChangeSpec := { name := "diskArms", fn := fun _ => fun
  | [d1, d2] => { results := [.lit (.bool true)], args := [d1, d2] }
  | _ => none }
def diskArmsRow : OpenClaim := { program := "ytbcclolhfogpnaadoor", sum := "0f4eb387e25f1039c95541bd8487bc91144b854eee37d6c4c899f5317757fb44", func := "voyage/voyagelaw12.DiskArms", spec := "diskArms", named := ["voyage/api.ErrDown", "voyage/api.ErrArg"], apart := false, laid := [("voyage/api.ErrArg", laid_voyage_api_ErrArg), ("voyage/api.ErrDown", laid_voyage_api_ErrDown)] }
def DiskArmsSaid : Prop := diskArmsRow.holds Tryd.pinned (OpenSpec.ofChange diskArmsSpec)

/-- ITS FALSE NEIGHBOUR: 'it returns false'. Refute it at one input. -/
def diskArmsWrong : ChangeSpec := { name := "diskArms", fn := fun _ => fun
  | [d1, d2] => { results := [.lit (.bool false)], args := [d1, d2] }
  | _ => none }
def DiskArmsWrongFalsely : Prop := diskArmsRow.holds Tryd.pinned (OpenSpec.ofChange diskArmsWrong)

/-- 'voyagelaw12.DiskTears': WHATEVER THE INPUT: true; the input reads as it did. -/
def diskTearsSpec : ChangeSpec := { name := "diskTears", fn := fun _ => fun
  | [d1, d2, d3, d4, d5] => { results := [.lit (.bool true)], args := [d1, d2, d3, d4, d5] }
  | _ => none }
def diskTearsRow : OpenClaim := { program := "ytbcclolhfogpnaadoor", sum := "0f4eb387e25f1039c95541bd8487bc91144b854eee37d6c4c899f5317757fb44", func := "voyage/voyagelaw12.DiskTears", spec := "diskTears", named := ["voyage/api.ErrArg", "voyage/api.ErrDown"], apart := false, laid := [("voyage/api.ErrArg", laid_voyage_api_ErrArg), ("voyage/api.ErrDown", laid_voyage_api_ErrDown)] }
def DiskTearsSaid : Prop := diskTearsRow.holds Tryd.pinned (OpenSpec.ofChange diskTearsSpec)

/-- ITS FALSE NEIGHBOUR: 'it returns false'. Refute it at one input. -/
def diskTearsWrong : ChangeSpec := { name := "diskTears", fn := fun _ => fun
  | [d1, d2, d3, d4, d5] => { results := [.lit (.bool false)], args := [d1, d2, d3, d4, d5] }
  | _ => none }
def DiskTearsWrongFalsely : Prop := diskTearsRow.holds Tryd.pinned (OpenSpec.ofChange diskTearsWrong)

/- THE SECOND FORM. 'bulk': how many values and letters a reading holds, each counted each time it is reached (what is shared counts as often as it is met; a slice's spare places count too). A statement '..UptoSaid' is the law's where the arguments, and the package variables that the reading takes, are together of bulk at most 1048576: NARROWER than '..Said'. Prove '..Said' where nothing that the law and all that it calls make is longer than what came in: it says more and counts as full. Else prove '..UptoSaid'. A law counts once. -/
mutual
def uptoBulk {H : Type} : DataW H → Nat
  | .lit (.string bytes) => bytes.length + 1
  | .lit _ => 1
  | .nil => 1
  | .ptr d => uptoBulk d + 1
  | .slice elems spare => uptoBulkAll elems + uptoBulkAll spare + 1
  | .agg parts => uptoBulkAll parts + 1
  | .iface _ d => uptoBulk d + 1
  | .map entries => uptoBulkEntries entries + 1
  | .held _ => 1
def uptoBulkAll {H : Type} : List (DataW H) → Nat
  | [] => 0
  | d :: r => uptoBulk d + uptoBulkAll r
def uptoBulkEntries {H : Type} : List (Lit × DataW H) → Nat
  | [] => 0
  | x :: r => uptoBulkEntry x + uptoBulkEntries r
def uptoBulkEntry {H : Type} : Lit × DataW H → Nat
  | (.string bytes, d) => bytes.length + uptoBulk d + 1
  | (_, d) => uptoBulk d + 1
 end
def uptoSmall : (H : Type) → List (DataW H) → Bool := fun _ ds => decide (uptoBulkAll ds ≤ 1048576)
def OpenSpec.upto (s : _root_.Go.ChangeSpec) : _root_.Go.OpenSpec := { _root_.Go.OpenSpec.ofChange s with cond := some uptoSmall }

/-- 'voyagelaw12.DiskPlays', WHERE WHAT IT READS IS OF BULK AT MOST 1048576: true; the input reads as it did. -/
def diskPlaysUptoRow : OpenClaim := { program := "ytbcclolhfogpnaadoor", sum := "0f4eb387e25f1039c95541bd8487bc91144b854eee37d6c4c899f5317757fb44", func := "voyage/voyagelaw12.DiskPlays", spec := "diskPlays", named := ["voyage/api.ErrArg", "voyage/api.ErrDown"], apart := false, laid := [("voyage/api.ErrArg", laid_voyage_api_ErrArg), ("voyage/api.ErrDown", laid_voyage_api_ErrDown)], narrowed := true }
def DiskPlaysUptoSaid : Prop := diskPlaysUptoRow.holds Tryd.pinned (OpenSpec.upto diskPlaysSpec)

/-- 'voyagelaw12.DiskSafe', WHERE WHAT IT READS IS OF BULK AT MOST 1048576: true; the input reads as it did. -/
def diskSafeUptoRow : OpenClaim := { program := "ytbcclolhfogpnaadoor", sum := "0f4eb387e25f1039c95541bd8487bc91144b854eee37d6c4c899f5317757fb44", func := "voyage/voyagelaw12.DiskSafe", spec := "diskSafe", named := ["voyage/api.ErrArg", "voyage/api.ErrDown"], apart := false, laid := [("voyage/api.ErrArg", laid_voyage_api_ErrArg), ("voyage/api.ErrDown", laid_voyage_api_ErrDown)], narrowed := true }
def DiskSafeUptoSaid : Prop := diskSafeUptoRow.holds Tryd.pinned (OpenSpec.upto diskSafeSpec)

/-- 'voyagelaw12.DiskArms', WHERE WHAT IT READS IS OF BULK AT MOST 1048576: true; the input reads as it did. -/
def diskArmsUptoRow : OpenClaim := { program := "ytbcclolhfogpnaadoor", sum := "0f4eb387e25f1039c95541bd8487bc91144b854eee37d6c4c899f5317757fb44", func := "voyage/voyagelaw12.DiskArms", spec := "diskArms", named := ["voyage/api.ErrDown", "voyage/api.ErrArg"], apart := false, laid := [("voyage/api.ErrArg", laid_voyage_api_ErrArg), ("voyage/api.ErrDown", laid_voyage_api_ErrDown)], narrowed := true }
def DiskArmsUptoSaid : Prop := diskArmsUptoRow.holds Tryd.pinned (OpenSpec.upto diskArmsSpec)

/-- 'voyagelaw12.DiskTears', WHERE WHAT IT READS IS OF BULK AT MOST 1048576: true; the input reads as it did. -/
def diskTearsUptoRow : OpenClaim := { program := "ytbcclolhfogpnaadoor", sum := "0f4eb387e25f1039c95541bd8487bc91144b854eee37d6c4c899f5317757fb44", func := "voyage/voyagelaw12.DiskTears", spec := "diskTears", named := ["voyage/api.ErrArg", "voyage/api.ErrDown"], apart := false, laid := [("voyage/api.ErrArg", laid_voyage_api_ErrArg), ("voyage/api.ErrDown", laid_voyage_api_ErrDown)], narrowed := true }
def DiskTearsUptoSaid : Prop := diskTearsUptoRow.holds Tryd.pinned (OpenSpec.upto diskTearsSpec)

end Rows
end Go.Proofs.YtbcclolhfogpnaaDoor
