/- cut's contract. -/
import Derived.Test.YtgmjllkkgapjcabDoorAw
namespace Go.Proofs.YtgmjllkkgapjcabDoor.rd
open Go.RowKit

/-- Without noughts at the upper end (the list's end). -/
def cutN (l : List Int) : List Int := (l.reverse.dropWhile (· == 0)).reverse
theorem cutN_len (l : List Int) : (cutN l).length ≤ l.length := by
  unfold cutN
  rw [List.length_reverse]
  have := (List.dropWhile_suffix (l := l.reverse) (fun x : Int => x == 0)).length_le
  rw [List.length_reverse] at this
  exact this
theorem cutN_zero (l : List Int) (z : Int) (h : z = 0) : cutN (l ++ [z]) = cutN l := by
  unfold cutN; rw [List.reverse_append]; simp [h]
theorem cutN_other (l : List Int) (z : Int) (h : z ≠ 0) : cutN (l ++ [z]) = l ++ [z] := by
  unfold cutN; rw [List.reverse_append]; simp [h]
theorem take_getD (l : List Int) (k : Nat) (h : k < l.length) : l.take (k + 1) = l.take k ++ [l.getD k 0] := by
  rw [List.take_succ_eq_append_getElem h]; simp [h]
theorem cutN_take (l : List Int) : ∃ k, cutN l = l.take k := by
  unfold cutN
  have h := List.dropWhile_suffix (l := l.reverse) (fun x : Int => x == 0)
  have h2 := List.reverse_prefix.2 h
  rw [List.reverse_reverse] at h2
  exact ⟨_, List.prefix_iff_eq_take.1 h2⟩

end Go.Proofs.YtgmjllkkgapjcabDoor.rd
