/- The contract of the reference's times. -/
import Derived.Test.YteenfgomanhjkaaDoorRl
import Derived.Test.YteenfgomanhjkaaDoorVp
namespace Go.Proofs.YteenfgomanhjkaaDoor.rd
open Go.RowKit

/-- A row of ints. -/
def rowZ (l : List Int) : Array Value := (l.map iv).toArray
theorem rowZ_at (l : List Int) (j : Nat) (h : j < l.length) : (rowZ l)[j]? = some (.int .i64 (l.getD j 0)) := by simp [rowZ, h, iv]
theorem rowZ_set (l : List Int) (j : Nat) (z : Int) : (rowZ l).setIfInBounds j (.int .i64 z) = rowZ (l.set j z) := by
  apply Array.ext'
  simp only [rowZ, Array.toList_setIfInBounds, List.toList_toArray]
  rw [List.map_set]
  rfl
theorem rowZ_made (n : Nat) : madeCells #[.int .i64 0] n = rowZ (List.replicate n 0) := by
  apply Array.ext'
  rw [toList_madeCells_one]
  simp [rowZ, iv]
theorem set_val (l : List Int) (j : Nat) (z : Int) (h : j < l.length) : valL (l.set j z) = valL l + 10 ^ j * (z - l.getD j 0) := by
  induction l generalizing j with
  | nil => simp at h
  | cons y r ih =>
    cases j with
    | zero => simp [valL]; omega
    | succ j =>
      have h' : j < r.length := by simpa using h
      have := ih j h'
      simp only [List.set_cons_succ, valL, List.getD_cons_succ]
      rw [this]
      grind
theorem Dig10.set {l : List Int} (hd : Dig10 l) (j : Nat) (z : Int) (h0 : 0 ≤ z) (h1 : z ≤ 9) : Dig10 (l.set j z) := by
  intro y hy
  rcases List.mem_or_eq_of_mem_set hy with h | h
  · exact hd y h
  · subst h; exact ⟨h0, h1⟩
theorem set_other (l : List Int) (j k : Nat) (z : Int) (h : j ≠ k) : (l.set j z).getD k 0 = l.getD k 0 := by
  simp [List.getD, List.getElem?_set_ne h]
theorem split_val (l : List Int) (j : Nat) (h : j ≤ l.length) : valL l = valL (l.take j) + 10 ^ j * valL (l.drop j) := by
  have := valL_append (l.take j) (l.drop j)
  rw [List.take_append_drop, List.length_take, Nat.min_eq_left h] at this
  exact this
theorem Dig10.take {l : List Int} (hd : Dig10 l) (n : Nat) : Dig10 (l.take n) := fun z hz => hd z (List.mem_of_mem_take hz)
theorem high_nought {l : List Int} (hd : Dig10 l) (j : Nat) (h : valL l < 10 ^ j) : l.getD j 0 = 0 := by
  rcases Nat.lt_or_ge j l.length with hj | hj
  · have h1 := split_val l j (by omega)
    have h2 := valL_nonneg (hd.take j)
    have h3 := valL_nonneg (hd.drop j)
    have h4 : valL (l.drop j) = 0 := by
      rcases Int.lt_or_le 0 (valL (l.drop j)) with q | q
      · exfalso
        have : 10 ^ j * 1 ≤ 10 ^ j * valL (l.drop j) := Int.mul_le_mul_of_nonneg_left (by omega) (Int.pow_nonneg (by omega))
        omega
      · omega
    rw [drop_val] at h4
    have h5 := valL_nonneg (hd.drop (j + 1))
    have h6 := hd.at j hj
    omega
  · exact getD_past l j hj

/-- One place of a row of the product, in numbers. -/
theorem times_place (l ys : List Int) (n m : Nat) (a b z t S : Int) (hz : z = l.getD (n + m) 0) (hj : n + m < l.length) (ht : t = z + b + a * ys.getD m 0)
    (h : valL l + 10 ^ (n + m) * (b + a * valL (ys.drop m)) = S) : valL (l.set (n + m) (t % 10)) + 10 ^ (n + (m + 1)) * (t / 10 + a * valL (ys.drop (m + 1))) = S := by
  rw [set_val l _ _ hj, ← hz]
  rw [drop_val ys m] at h
  have hd : t % 10 + 10 * (t / 10) = t := by omega
  generalize t % 10 = r at *
  generalize t / 10 = d at *
  generalize ys.getD m 0 = y at *
  rw [← h, ← Nat.add_assoc]
  generalize n + m = j at *
  grind

end Go.Proofs.YteenfgomanhjkaaDoor.rd
