/- Several texts in one. -/
import Derived.Test.YtmnikcnjdeldeaaDoorVaG
import Derived.Test.YtmnikcnjdeldeaaDoorRcG
/- The contracts of the reference's plus and minus. -/
namespace Go.Proofs.YtmnikcnjdeldeaaDoor.rd
open Go.RowKit

theorem drop_val (l : List Int) (n : Nat) : valL (l.drop n) = l.getD n 0 + 10 * valL (l.drop (n + 1)) := by
  rcases Nat.lt_or_ge n l.length with h | h
  · rw [List.drop_eq_getElem_cons h]; simp [valL, h]
  · rw [List.drop_eq_nil_of_le h, List.drop_eq_nil_of_le (by omega)]
    simp [valL, h]
theorem getD_past (l : List Int) (n : Nat) (h : l.length ≤ n) : l.getD n 0 = 0 := by simp [h]
theorem getD_bd {l : List Int} (hd : Dig10 l) (n : Nat) : 0 ≤ l.getD n 0 ∧ l.getD n 0 ≤ 9 := by
  rcases Nat.lt_or_ge n l.length with h | h
  · exact hd.at n h
  · rw [getD_past l n h]; omega
theorem Dig10.drop {l : List Int} (hd : Dig10 l) (n : Nat) : Dig10 (l.drop n) := fun z hz => hd z (List.mem_of_mem_drop hz)
theorem valL_snoc (l : List Int) (z : Int) : valL (l ++ [z]) = valL l + 10 ^ l.length * z := by rw [valL_append]; simp [valL]
theorem Dig10.snoc {l : List Int} (hd : Dig10 l) {z : Int} (h0 : 0 ≤ z) (h1 : z ≤ 9) : Dig10 (l ++ [z]) := hd.app (fun y hy => by simp at hy; subst hy; exact ⟨h0, h1⟩)

/-- One round of adding, in numbers. -/
theorem plus_round (l xs ys : List Int) (n : Nat) (c S : Int) (hl : l.length = n) (h : valL l + 10 ^ n * (c + valL (xs.drop n) + valL (ys.drop n)) = S) :
    valL (l ++ [(c + xs.getD n 0 + ys.getD n 0) % 10]) + 10 ^ (n + 1) * ((c + xs.getD n 0 + ys.getD n 0) / 10 + valL (xs.drop (n + 1)) + valL (ys.drop (n + 1))) = S := by
  rw [valL_snoc, hl]
  rw [drop_val xs n, drop_val ys n] at h
  have hd : (c + xs.getD n 0 + ys.getD n 0) % 10 + 10 * ((c + xs.getD n 0 + ys.getD n 0) / 10) = c + xs.getD n 0 + ys.getD n 0 := by omega
  generalize (c + xs.getD n 0 + ys.getD n 0) % 10 = r at *
  generalize (c + xs.getD n 0 + ys.getD n 0) / 10 = d at *
  rw [← h]
  grind

theorem own_snoc {w : World} {B : Nat} {v : Value} {n : Nat} {l : List Int} {z : Int} (h : w.ownsRow B 3 1 v (n + 1) (l.map iv ++ [iv z])) : w.ownsRow B 3 1 v (n + 1) ((l ++ [z]).map iv) := by
  rw [List.map_append]; exact h

/-- One round of taking away, in numbers. -/
theorem minus_round (l xs ys : List Int) (n : Nat) (c S t c' : Int) (hl : l.length = n) (h : valL l + 10 ^ n * (valL (xs.drop n) - valL (ys.drop n) - c) = S) (ht : t - 10 * c' = xs.getD n 0 - c - ys.getD n 0) :
    valL (l ++ [t]) + 10 ^ (n + 1) * (valL (xs.drop (n + 1)) - valL (ys.drop (n + 1)) - c') = S := by
  rw [valL_snoc, hl]
  rw [drop_val xs n, drop_val ys n] at h
  rw [← h]
  generalize xs.getD n 0 = a at *
  generalize ys.getD n 0 = d at *
  grind

end Go.Proofs.YtmnikcnjdeldeaaDoor.rd

/- The contract of the reference's times. -/
namespace Go.Proofs.YtmnikcnjdeldeaaDoor.rd
open Go.RowKit

/-- A row of ints. -/
def rowZ (l : List Int) : Array Value := (l.map iv).toArray
theorem rowZ_at (l : List Int) (j : Nat) (h : j < l.length) : (rowZ l)[j]? = some (.int .i64 (l.getD j 0)) := by simp [rowZ, h, iv]
theorem rowZ_set (l : List Int) (j : Nat) (z : Int) : (rowZ l).setIfInBounds j (.int .i64 z) = rowZ (l.set j z) := by
  apply Array.ext'
  simp only [rowZ, Array.toList_setIfInBounds, List.toList_toArray]
  rw [List.map_set]
  rfl
theorem rowZ_made (n : Nat) : madeCells #[.int .i64 0] n = rowZ (List.replicate n 0) := by
  apply Array.ext'
  rw [toList_madeCells_one]
  simp [rowZ, iv]
theorem make_ints (n : Nat) (h : n ≤ 17592186044416) (u : World) : (Instr.makeSlice 27 (.int .i64 (n : Int)) (.int .i64 (n : Int))).run Tryd.prog u = .ok (.slice (some ⟨u.heap.size, 0, none⟩) n n) (u.alloc (.cells (rowZ (List.replicate n 0)) 3)) := by
  obtain ⟨i0, hi, hz0, hz1, hz2⟩ := info_parts info3
  have h := run_make (P := Tryd.prog) u 27 3 i0 (.int .i64 0) Tryd.underlying27 hi hz0 .i64 .i64 (n : Int) (n : Int) (by omega) (Int.le_refl _) (by rw [hz2]; omega) (by omega)
  have e : ((n : Nat) : Int).toNat = n := by omega
  rw [e] at h
  simpa [hz1, Value.cells, rowZ_made] using h

theorem set_val (l : List Int) (j : Nat) (z : Int) (h : j < l.length) : valL (l.set j z) = valL l + 10 ^ j * (z - l.getD j 0) := by
  induction l generalizing j with
  | nil => simp at h
  | cons y r ih =>
    cases j with
    | zero => simp [valL]; omega
    | succ j =>
      have h' : j < r.length := by simpa using h
      have := ih j h'
      simp only [List.set_cons_succ, valL, List.getD_cons_succ]
      rw [this]
      grind
theorem Dig10.set {l : List Int} (hd : Dig10 l) (j : Nat) (z : Int) (h0 : 0 ≤ z) (h1 : z ≤ 9) : Dig10 (l.set j z) := by
  intro y hy
  rcases List.mem_or_eq_of_mem_set hy with h | h
  · exact hd y h
  · subst h; exact ⟨h0, h1⟩
theorem set_other (l : List Int) (j k : Nat) (z : Int) (h : j ≠ k) : (l.set j z).getD k 0 = l.getD k 0 := by
  simp [List.getD, List.getElem?_set_ne h]
theorem split_val (l : List Int) (j : Nat) (h : j ≤ l.length) : valL l = valL (l.take j) + 10 ^ j * valL (l.drop j) := by
  have := valL_append (l.take j) (l.drop j)
  rw [List.take_append_drop, List.length_take, Nat.min_eq_left h] at this
  exact this
theorem Dig10.take {l : List Int} (hd : Dig10 l) (n : Nat) : Dig10 (l.take n) := fun z hz => hd z (List.mem_of_mem_take hz)
theorem high_nought {l : List Int} (hd : Dig10 l) (j : Nat) (h : valL l < 10 ^ j) : l.getD j 0 = 0 := by
  rcases Nat.lt_or_ge j l.length with hj | hj
  · have h1 := split_val l j (by omega)
    have h2 := valL_nonneg (hd.take j)
    have h3 := valL_nonneg (hd.drop j)
    have h4 : valL (l.drop j) = 0 := by
      rcases Int.lt_or_le 0 (valL (l.drop j)) with q | q
      · exfalso
        have : 10 ^ j * 1 ≤ 10 ^ j * valL (l.drop j) := Int.mul_le_mul_of_nonneg_left (by omega) (Int.pow_nonneg (by omega))
        omega
      · omega
    rw [drop_val] at h4
    have h5 := valL_nonneg (hd.drop (j + 1))
    have h6 := hd.at j hj
    omega
  · exact getD_past l j hj

/-- One place of a row of the product, in numbers. -/
theorem times_place (l ys : List Int) (n m : Nat) (a b z t S : Int) (hz : z = l.getD (n + m) 0) (hj : n + m < l.length) (ht : t = z + b + a * ys.getD m 0)
    (h : valL l + 10 ^ (n + m) * (b + a * valL (ys.drop m)) = S) : valL (l.set (n + m) (t % 10)) + 10 ^ (n + (m + 1)) * (t / 10 + a * valL (ys.drop (m + 1))) = S := by
  rw [set_val l _ _ hj, ← hz]
  rw [drop_val ys m] at h
  have hd : t % 10 + 10 * (t / 10) = t := by omega
  generalize t % 10 = r at *
  generalize t / 10 = d at *
  generalize ys.getD m 0 = y at *
  rw [← h, ← Nat.add_assoc]
  generalize n + m = j at *
  grind

end Go.Proofs.YtmnikcnjdeldeaaDoor.rd
