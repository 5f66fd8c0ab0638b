/- The contract of the reference's Floor. -/
import Derived.Test.YteenfgomanhjkaaDoorFs
import Derived.Deep.CutBlock
namespace Go.Proofs.YteenfgomanhjkaaDoor.rd
open Go.RowKit

theorem drop_le {l : List Int} (hd : Dig10 l) (k : Nat) : 0 ≤ valL (l.drop k) ∧ valL (l.drop k) ≤ valL l := by
  have h1 := valL_nonneg (hd.drop k)
  refine ⟨h1, ?_⟩
  rcases Nat.lt_or_ge k l.length with h | h
  · have h2 := split_val l k (by omega)
    have h3 := valL_nonneg (hd.take k)
    have h4 : (0 : Int) < 10 ^ k := Int.pow_pos (by omega)
    have h5 : 1 * valL (l.drop k) ≤ 10 ^ k * valL (l.drop k) := Int.mul_le_mul_of_nonneg_right (by omega) h1
    omega
  · rw [List.drop_eq_nil_of_le h]
    exact valL_nonneg hd

end Go.Proofs.YteenfgomanhjkaaDoor.rd
