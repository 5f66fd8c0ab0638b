/- DecForms: it answers true, whatever the number, where the texts are of a length that memory holds. -/
import Derived.Test.YteenfgomanhjkaaDoorTx
namespace Go.Proofs.YteenfgomanhjkaaDoor.rd
open Go.RowKit

theorem keepDf {b0 b1 : Nat} {v0 v1 v2 v3 v4 v5 : Value} {W w1 : World} (hb : Below W.heap.size W w1)
    (h : W.cell? ⟨b0, 0, none⟩ = some v0 ∧ W.cell? ⟨b0, 1, none⟩ = some v1 ∧ W.cell? ⟨b0, 2, none⟩ = some v2 ∧ W.cell? ⟨b1, 0, none⟩ = some v3 ∧ W.cell? ⟨b1, 1, none⟩ = some v4 ∧ W.cell? ⟨b1, 2, none⟩ = some v5) :
    w1.cell? ⟨b0, 0, none⟩ = some v0 ∧ w1.cell? ⟨b0, 1, none⟩ = some v1 ∧ w1.cell? ⟨b0, 2, none⟩ = some v2 ∧ w1.cell? ⟨b1, 0, none⟩ = some v3 ∧ w1.cell? ⟨b1, 1, none⟩ = some v4 ∧ w1.cell? ⟨b1, 2, none⟩ = some v5 := by
  obtain ⟨c0, c1, c2, c3, c4, c5⟩ := h
  exact ⟨keepC hb c0, keepC hb c1, keepC hb c2, keepC hb c3, keepC hb c4, keepC hb c5⟩

/-- What the package variables that are met hold. -/
structure Vars (w : World) (eN eX : Value) : Prop where
  n : w.cell? ⟨0, 0, none⟩ = some eN
  x : w.cell? ⟨1, 0, none⟩ = some eX
theorem Vars.keep {w w' : World} {eN eX : Value} (h : Vars w eN eX) (hb : Below w.heap.size w w') : Vars w' eN eX := ⟨keepC hb h.n, keepC hb h.x⟩

end Go.Proofs.YteenfgomanhjkaaDoor.rd
