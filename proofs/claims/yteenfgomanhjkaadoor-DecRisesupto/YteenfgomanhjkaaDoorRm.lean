/- The contract of the reference's Cmp. -/
import Derived.Test.YteenfgomanhjkaaDoorSz
namespace Go.Proofs.YteenfgomanhjkaaDoor.rd
open Go.RowKit

/-- Two numbers in two blocks; nothing old has turned. -/
structure HeldW (w wc : World) (b c : Nat) (p q : Dn) : Prop where
  a : DLies wc b p
  b : DLies wc c q
  below : Below w.heap.size w wc
theorem HeldW.call {w wc w' : World} {b c : Nat} {p q : Dn} (h : HeldW w wc b c p q) (hb : Below wc.heap.size wc w') : HeldW w w' b c p q where
  a := h.a.below hb (blk_lt h.a)
  b := h.b.below hb (blk_lt h.b)
  below := h.below.trans (hb.mono h.below.size)
theorem HeldW.drew {w wc : World} {b c : Nat} {p q : Dn} (h : HeldW w wc b c p q) : HeldW w wc.drew b c p q := ⟨h.a, h.b, h.below.drew⟩

theorem cmpN_bd (a b : List Int) : cmpN a b = -1 ∨ cmpN a b = 0 ∨ cmpN a b = 1 := by
  induction a generalizing b with
  | nil => simp [cmpN]
  | cons x r ih =>
    cases b with
    | nil => simp [cmpN]
    | cons y t =>
      simp only [cmpN]
      split
      · exact .inl rfl
      · split
        · exact .inr (.inr rfl)
        · exact ih t
theorem sizeN_bd (a b : List Int) : sizeN a b = -1 ∨ sizeN a b = 0 ∨ sizeN a b = 1 := by
  unfold sizeN
  split
  · exact .inl rfl
  · split
    · exact .inr (.inr rfl)
    · exact cmpN_bd _ _
theorem signN_bd (n : Dn) : signN n = -1 ∨ signN n = 0 ∨ signN n = 1 := by
  unfold signN
  split
  · exact .inr (.inl rfl)
  · split
    · exact .inl rfl
    · exact .inr (.inr rfl)
theorem lowerN_bd (p q : Dn) (p0 : -9999 ≤ p.ex) (p1 : p.ex ≤ 9999) (q0 : -9999 ≤ q.ex) (q1 : q.ex ≤ 9999) : -9999 ≤ lowerN p q ∧ lowerN p q ≤ 9999 := by
  unfold lowerN
  split
  · omega
  · split <;> omega

end Go.Proofs.YteenfgomanhjkaaDoor.rd
