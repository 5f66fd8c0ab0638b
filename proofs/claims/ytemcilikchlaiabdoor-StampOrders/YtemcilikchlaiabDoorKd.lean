/- The reference of package stamp: Days. -/
import Derived.Test.YtemcilikchlaiabDoorKc
namespace Go.Proofs.YtemcilikchlaiabDoor.st
open Go.RowKit

theorem dby_in (k : Int) (h1 : -1200000 ≤ k) (h2 : k ≤ 1200000) : -450000000 ≤ dby k ∧ dby k ≤ 450000000 := by
  unfold dby
  omega
theorem cum_in (y m : Int) (h1 : 1 ≤ m) (h2 : m ≤ 13) : 0 ≤ cum y m ∧ cum y m ≤ 366 := by
  have hl := lp_le y
  unfold cum
  split <;> omega
theorem yr_in (y : Int) : 365 ≤ yr y ∧ yr y ≤ 366 := by
  have hl := lp_le y
  unfold yr
  omega

end Go.Proofs.YtemcilikchlaiabDoor.st
