/- The reference of package stamp: leap, Month, Year. -/
import Derived.Test.YtemcilikchlaiabDoorKb
import Derived.Test.YtemcilikchlaiabDoorLb
import Derived.Test.YtemcilikchlaiabDoorChecked
import Derived.WalkKit
import Derived.Deep.QuietTactic
import Derived.BigQuiet
import Derived.Outline
import Derived.WalkLawsBesides
import Derived.Lib.SmallJoins
namespace Go.Proofs.YtemcilikchlaiabDoor.st
open Go.RowKit

theorem tm_iff (y k : Int) : (Int.tmod y k == 0) = decide (y % k = 0) := by
  have e : (Int.tmod y k = 0) ↔ (y % k = 0) := by
    rw [← Int.dvd_iff_tmod_eq_zero, Int.dvd_iff_emod_eq_zero]
  by_cases q : y % k = 0
  · rw [decide_eq_true q, beq_iff_eq]; exact e.2 q
  · rw [decide_eq_false q, beq_eq_false_iff_ne]; exact fun z => q (e.1 z)

theorem lp_yes {y : Int} (h : leap y = true) : lp y = 1 := by unfold lp; rw [if_pos h]
theorem lp_no {y : Int} (h : leap y = false) : lp y = 0 := by unfold lp; rw [h]; rfl

end Go.Proofs.YtemcilikchlaiabDoor.st
