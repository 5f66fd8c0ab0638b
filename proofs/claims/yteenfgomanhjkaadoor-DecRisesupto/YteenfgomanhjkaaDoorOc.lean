/- The contracts of the reference's cut, told and plus for slices that begin anywhere in their row. -/
import Derived.Test.YteenfgomanhjkaaDoorFe
import Derived.Test.YteenfgomanhjkaaDoorRl
namespace Go.Proofs.YteenfgomanhjkaaDoor.rd
open Go.RowKit

/-- A slice of ints that begins anywhere in its row. -/
def IntsO (w : World) (v : Value) (zs : List Int) : Prop :=
  (v = .slice none 0 0 ∧ zs = []) ∨ ∃ g o cap, v = .slice (some ⟨g, o, none⟩) zs.length cap ∧ zs.length ≤ cap ∧ cap ≤ 9223372036854775807 ∧ ∀ j, j < zs.length → w.cell? ⟨g, o + j, none⟩ = some (.int .i64 (zs.getD j 0))
theorem IntsO.keep {w w' : World} {v : Value} {zs : List Int} (h : IntsO w v zs) (hb : Below w.heap.size w w') : IntsO w' v zs := by
  rcases h with h | ⟨g, o, cap, h1, h2, h3, h4⟩
  · exact .inl h
  · exact .inr ⟨g, o, cap, h1, h2, h3, fun j hj => keepC hb (h4 j hj)⟩
theorem Ints.any {w : World} {v : Value} {zs : List Int} (h : Ints w v zs) : IntsO w v zs := by
  rcases h with h | ⟨g, cap, h1, h2, h3, h4⟩
  · exact .inl h
  · exact .inr ⟨g, 0, cap, h1, h2, h3, fun j hj => by rw [Nat.zero_add]; exact h4 j hj⟩
theorem IntsO.form {w : World} {v : Value} {zs : List Int} (h : IntsO w v zs) : ∃ o cap, v = .slice o zs.length cap ∧ zs.length ≤ cap ∧ cap ≤ 9223372036854775807 ∧ ∀ j, j < zs.length → ∃ g b, o = some ⟨g, b, none⟩ ∧ w.cell? ⟨g, b + j, none⟩ = some (.int .i64 (zs.getD j 0)) := by
  rcases h with ⟨rfl, rfl⟩ | ⟨g, b, cap, rfl, h1, h2, h3⟩
  · exact ⟨none, 0, rfl, Nat.le_refl _, by omega, fun j hj => by simp at hj⟩
  · exact ⟨_, cap, rfl, h1, h2, fun j hj => ⟨g, b, rfl, h3 j hj⟩⟩

end Go.Proofs.YteenfgomanhjkaaDoor.rd
