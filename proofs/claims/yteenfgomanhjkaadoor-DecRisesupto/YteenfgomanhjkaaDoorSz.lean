/- The contract of the reference's size. -/
import Derived.Test.YteenfgomanhjkaaDoorRc
namespace Go.Proofs.YteenfgomanhjkaaDoor.rd
open Go.RowKit

theorem rev_take (l : List Int) (k : Nat) (h : k < l.length) : (l.take (k + 1)).reverse = l.getD k 0 :: (l.take k).reverse := by
  rw [take_getD l k h, List.reverse_append]; rfl

/-- A slice of ints, nil or not. -/
theorem Ints.form {w : World} {v : Value} {zs : List Int} (h : Ints w v zs) : ∃ o cap, v = .slice o zs.length cap ∧ zs.length ≤ cap ∧ cap ≤ 9223372036854775807 ∧ ∀ j, j < zs.length → ∃ g, o = some ⟨g, 0, none⟩ ∧ w.cell? ⟨g, j, none⟩ = some (.int .i64 (zs.getD j 0)) := by
  rcases h with ⟨rfl, rfl⟩ | ⟨g, cap, rfl, h1, h2, h3⟩
  · exact ⟨none, 0, rfl, Nat.le_refl _, by omega, fun j hj => by simp at hj⟩
  · exact ⟨_, cap, rfl, h1, h2, fun j hj => ⟨g, rfl, h3 j hj⟩⟩

end Go.Proofs.YteenfgomanhjkaaDoor.rd
