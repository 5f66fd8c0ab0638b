/- Several texts in one. -/
import Derived.Test.YtmnikcnjdeldeaaDoorCuG
import Derived.Lib.AppendIntMem
import Derived.Lib.ItoaNum
/- The contracts of Text and of the reference's Text: both tell a number the same way. -/
namespace Go.Proofs.YtmnikcnjdeldeaaDoor.rd
open Go.RowKit

def itoaB (n : Int) : ByteArray := ⟨(Lib.itoa n).toArray⟩
theorem dec_len (u : Nat) : (Lib.decDigits u).length ≤ u + 1 := by
  induction u using Nat.strongRecOn with
  | _ u ih =>
    rw [Lib.decDigits]
    split
    · simp
    · rw [List.length_append]
      have := ih (u / 10) (by omega)
      simp
      omega
theorem itoaB_len (n : Int) (h0 : -9999 ≤ n) (h1 : n ≤ 9999) : (itoaB n).size ≤ 20000 := by
  have e : (itoaB n).size = (Lib.itoa n).length := by unfold itoaB; exact List.size_toArray
  rw [e]
  unfold Lib.itoa
  split
  · have := dec_len n.natAbs
    simp
    omega
  · have := dec_len n.toNat
    omega

/-- How a number in its one form is told. -/
def textOf (r : Dn) : ByteArray :=
  if r.dg.size = 0 then ⟨#[48]⟩
  else if r.ex = 0 then (if r.neg then ⟨#[45]⟩ ++ r.dg else r.dg)
  else (if r.neg then ⟨#[45]⟩ ++ r.dg else r.dg) ++ (⟨#[101]⟩ ++ itoaB r.ex)

def Pow (w : World) : Prop := Lib.TabIs Tryd.prog w "internal/strconv.uint64pow10" .u64 Lib.pow10Tab
theorem Pow.keep {w w' : World} (h : Pow w) (hb : Below w.heap.size w w') : Pow w' := Lib.tabBelow_of_tabIs h w' hb

end Go.Proofs.YtmnikcnjdeldeaaDoor.rd

/- DecForms: it answers true, whatever the number, where the texts are of a length that memory holds. -/
namespace Go.Proofs.YtmnikcnjdeldeaaDoor.rd
open Go.RowKit

theorem keepDf {b0 b1 : Nat} {v0 v1 v2 v3 v4 v5 : Value} {W w1 : World} (hb : Below W.heap.size W w1)
    (h : W.cell? ⟨b0, 0, none⟩ = some v0 ∧ W.cell? ⟨b0, 1, none⟩ = some v1 ∧ W.cell? ⟨b0, 2, none⟩ = some v2 ∧ W.cell? ⟨b1, 0, none⟩ = some v3 ∧ W.cell? ⟨b1, 1, none⟩ = some v4 ∧ W.cell? ⟨b1, 2, none⟩ = some v5) :
    w1.cell? ⟨b0, 0, none⟩ = some v0 ∧ w1.cell? ⟨b0, 1, none⟩ = some v1 ∧ w1.cell? ⟨b0, 2, none⟩ = some v2 ∧ w1.cell? ⟨b1, 0, none⟩ = some v3 ∧ w1.cell? ⟨b1, 1, none⟩ = some v4 ∧ w1.cell? ⟨b1, 2, none⟩ = some v5 := by
  obtain ⟨c0, c1, c2, c3, c4, c5⟩ := h
  exact ⟨keepC hb c0, keepC hb c1, keepC hb c2, keepC hb c3, keepC hb c4, keepC hb c5⟩

end Go.Proofs.YtmnikcnjdeldeaaDoor.rd
