/- The contracts of the reference's plus and minus. -/
import Derived.Test.YteenfgomanhjkaaDoorVa
import Derived.Test.YteenfgomanhjkaaDoorSz
namespace Go.Proofs.YteenfgomanhjkaaDoor.rd
open Go.RowKit

theorem drop_val (l : List Int) (n : Nat) : valL (l.drop n) = l.getD n 0 + 10 * valL (l.drop (n + 1)) := by
  rcases Nat.lt_or_ge n l.length with h | h
  · rw [List.drop_eq_getElem_cons h]; simp [valL, h]
  · rw [List.drop_eq_nil_of_le h, List.drop_eq_nil_of_le (by omega)]
    simp [valL, h]
theorem getD_past (l : List Int) (n : Nat) (h : l.length ≤ n) : l.getD n 0 = 0 := by simp [h]
theorem getD_bd {l : List Int} (hd : Dig10 l) (n : Nat) : 0 ≤ l.getD n 0 ∧ l.getD n 0 ≤ 9 := by
  rcases Nat.lt_or_ge n l.length with h | h
  · exact hd.at n h
  · rw [getD_past l n h]; omega
theorem Dig10.drop {l : List Int} (hd : Dig10 l) (n : Nat) : Dig10 (l.drop n) := fun z hz => hd z (List.mem_of_mem_drop hz)
theorem valL_snoc (l : List Int) (z : Int) : valL (l ++ [z]) = valL l + 10 ^ l.length * z := by rw [valL_append]; simp [valL]
theorem Dig10.snoc {l : List Int} (hd : Dig10 l) {z : Int} (h0 : 0 ≤ z) (h1 : z ≤ 9) : Dig10 (l ++ [z]) := hd.app (fun y hy => by simp at hy; subst hy; exact ⟨h0, h1⟩)

/-- One round of adding, in numbers. -/
theorem plus_round (l xs ys : List Int) (n : Nat) (c S : Int) (hl : l.length = n) (h : valL l + 10 ^ n * (c + valL (xs.drop n) + valL (ys.drop n)) = S) :
    valL (l ++ [(c + xs.getD n 0 + ys.getD n 0) % 10]) + 10 ^ (n + 1) * ((c + xs.getD n 0 + ys.getD n 0) / 10 + valL (xs.drop (n + 1)) + valL (ys.drop (n + 1))) = S := by
  rw [valL_snoc, hl]
  rw [drop_val xs n, drop_val ys n] at h
  have hd : (c + xs.getD n 0 + ys.getD n 0) % 10 + 10 * ((c + xs.getD n 0 + ys.getD n 0) / 10) = c + xs.getD n 0 + ys.getD n 0 := by omega
  generalize (c + xs.getD n 0 + ys.getD n 0) % 10 = r at *
  generalize (c + xs.getD n 0 + ys.getD n 0) / 10 = d at *
  rw [← h]
  grind

theorem own_snoc {w : World} {B : Nat} {v : Value} {n : Nat} {l : List Int} {z : Int} (h : w.ownsRow B 3 1 v (n + 1) (l.map iv ++ [iv z])) : w.ownsRow B 3 1 v (n + 1) ((l ++ [z]).map iv) := by
  rw [List.map_append]; exact h

/-- One round of taking away, in numbers. -/
theorem minus_round (l xs ys : List Int) (n : Nat) (c S t c' : Int) (hl : l.length = n) (h : valL l + 10 ^ n * (valL (xs.drop n) - valL (ys.drop n) - c) = S) (ht : t - 10 * c' = xs.getD n 0 - c - ys.getD n 0) :
    valL (l ++ [t]) + 10 ^ (n + 1) * (valL (xs.drop (n + 1)) - valL (ys.drop (n + 1)) - c') = S := by
  rw [valL_snoc, hl]
  rw [drop_val xs n, drop_val ys n] at h
  rw [← h]
  generalize xs.getD n 0 = a at *
  generalize ys.getD n 0 = d at *
  grind

end Go.Proofs.YteenfgomanhjkaaDoor.rd
