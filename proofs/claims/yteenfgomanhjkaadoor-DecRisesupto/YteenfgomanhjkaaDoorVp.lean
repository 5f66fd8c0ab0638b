/- column's and product's contracts. -/
import Derived.Test.YteenfgomanhjkaaDoorVd
namespace Go.Proofs.YteenfgomanhjkaaDoor.rd
open Go.RowKit

def gd (l : List UInt8) (j : Nat) : Int := match l[j]? with | some c => fz c | none => 0
/-- The sum of the products of the places that are k together. -/
def colC : List UInt8 → List UInt8 → Nat → Int
  | [], _, _ => 0
  | a :: x, y, 0 => fz a * gd y 0 + (0 : Int) * x.length
  | a :: x, y, k + 1 => fz a * gd y (k + 1) + colC x y k
def colP (x y : List UInt8) : Nat → Int
  | 0 => 0
  | j + 1 => colC x y j
def hor (f : Nat → Int) : Nat → Int
  | 0 => 0
  | k + 1 => 10 * hor f k + f k

theorem gd_at (l : List UInt8) (j : Nat) (h : j < l.length) : gd l j = fz l[j] := by unfold gd; rw [List.getElem?_eq_getElem h]
theorem gd_past (l : List UInt8) (j : Nat) (h : l.length ≤ j) : gd l j = 0 := by unfold gd; rw [List.getElem?_eq_none h]
theorem gd_bd {l : List UInt8} (hd : ∀ c ∈ l, nu.dig c = true) (j : Nat) : 0 ≤ gd l j ∧ gd l j ≤ 9 := by
  rcases Nat.lt_or_ge j l.length with h | h
  · rw [gd_at l j h]; exact fz_bd (hd _ (List.getElem_mem h))
  · rw [gd_past l j h]; omega
theorem mul_bd {a b : Int} (ha : 0 ≤ a ∧ a ≤ 9) (hb : 0 ≤ b ∧ b ≤ 9) : 0 ≤ a * b ∧ a * b ≤ 81 := by
  refine ⟨Int.mul_nonneg ha.1 hb.1, ?_⟩
  have := Int.mul_le_mul ha.2 hb.2 hb.1 (by omega)
  omega
theorem colC_bd {x y : List UInt8} (hx : ∀ c ∈ x, nu.dig c = true) (hy : ∀ c ∈ y, nu.dig c = true) (k : Nat) : 0 ≤ colC x y k ∧ colC x y k ≤ 81 * x.length := by
  induction x generalizing k with
  | nil => simp [colC]
  | cons a r ih =>
    have h1 := fz_bd (hx a (by simp))
    cases k with
    | zero =>
      have h2 := mul_bd h1 (gd_bd hy 0)
      simp only [colC, List.length_cons]; omega
    | succ k =>
      have h2 := mul_bd h1 (gd_bd hy (k + 1))
      have h3 := ih (fun c hc => hx c (by simp [hc])) k
      simp only [colC, List.length_cons]; omega

/-- What is left to add from place i on. -/
def colR (x y : List UInt8) (k i : Nat) : Int := if i ≤ k then colC (x.drop i) y (k - i) else 0
theorem colR_step (x y : List UInt8) (k i : Nat) (hi : i < x.length) (hk : i ≤ k) : colR x y k i = fz x[i] * gd y (k - i) + colR x y k (i + 1) := by
  unfold colR
  rw [if_pos hk, List.drop_eq_getElem_cons hi]
  rcases Nat.lt_or_ge i k with h | h
  · rw [if_pos (by omega)]
    obtain ⟨m, hm⟩ : ∃ m, k - i = m + 1 := ⟨k - i - 1, by omega⟩
    have hm2 : k - (i + 1) = m := by omega
    rw [hm, hm2]
    simp only [colC]
  · rw [if_neg (by omega)]
    have hm : k - i = 0 := by omega
    rw [hm]
    simp [colC]
theorem colR_end (x y : List UInt8) (k i : Nat) (h : x.length ≤ i ∨ k < i) : colR x y k i = 0 := by
  unfold colR
  split
  · rw [List.drop_eq_nil_of_le (by omega)]; rfl
  · rfl
theorem colR_skip (x y : List UInt8) (k i : Nat) (h : i + y.length ≤ k + 1) : colR x y k 0 = colR x y k i := by
  induction i with
  | zero => rfl
  | succ i ih =>
    rw [ih (by omega)]
    rcases Nat.lt_or_ge i x.length with h1 | h1
    · rw [colR_step x y k i h1 (by omega), gd_past y _ (by omega)]
      omega
    · rw [colR_end x y k i (.inl h1), colR_end x y k (i + 1) (.inl (by omega))]
theorem colR_zero (x y : List UInt8) (k : Nat) : colR x y k 0 = colC x y k := by unfold colR; rw [if_pos (by omega)]; rfl

theorem hor_congr {f g : Nat → Int} (h : ∀ k, f k = g k) (n : Nat) : hor f n = hor g n := by
  induction n with
  | zero => rfl
  | succ n ih => simp only [hor]; rw [ih, h]
theorem hor_lin (a : Int) (f g : Nat → Int) (n : Nat) : hor (fun k => a * f k + g k) n = a * hor f n + hor g n := by
  induction n with
  | zero => simp [hor]
  | succ n ih => simp only [hor]; rw [ih]; grind
theorem hor_gd (l : List UInt8) (k : Nat) (h : k ≤ l.length) : hor (gd l) k = valM (l.take k) := by
  induction k with
  | zero => rfl
  | succ k ih =>
    simp only [hor]
    rw [ih (by omega), List.take_succ_eq_append_getElem (by omega), valM_append, gd_at l k (by omega)]
    rw [valM_one]
    simp only [List.length_cons, List.length_nil]
    omega
theorem hor_pad (l : List UInt8) (m : Nat) : hor (gd l) (l.length + m) = valM l * 10 ^ m := by
  induction m with
  | zero => rw [Nat.add_zero, hor_gd l _ (Nat.le_refl _), List.take_length]; simp
  | succ m ih =>
    rw [← Nat.add_assoc]
    simp only [hor]
    rw [ih, gd_past l _ (by omega)]
    grind
theorem hor_zero (n : Nat) : hor (fun _ => 0) n = 0 := by
  induction n with
  | zero => rfl
  | succ n ih => simp [hor, ih]
def shiftF (f : Nat → Int) : Nat → Int
  | 0 => 0
  | k + 1 => f k
theorem hor_shift (f : Nat → Int) (n : Nat) : hor (shiftF f) (n + 1) = hor f n := by
  induction n with
  | zero => rfl
  | succ n ih => rw [hor, ih]; rfl
theorem colC_cons (a : UInt8) (x y : List UInt8) (k : Nat) : colC (a :: x) y k = fz a * gd y k + shiftF (colC x y) k := by
  cases k with
  | zero => simp [colC, shiftF]
  | succ k => rfl
theorem hor_col (x y : List UInt8) : hor (colC x y) (x.length + y.length - 1) = valM x * valM y := by
  induction x with
  | nil =>
    have : hor (colC [] y) (0 + y.length - 1) = hor (fun _ => 0) (0 + y.length - 1) := hor_congr (fun k => by simp [colC]) _
    simp only [List.length_nil]
    rw [this, hor_zero, valM_nil]
    omega
  | cons a r ih =>
    have h1 : (a :: r).length + y.length - 1 = y.length + r.length := by simp only [List.length_cons]; omega
    rw [h1, hor_congr (colC_cons a r y), hor_lin, hor_pad, valM_cons]
    rcases Nat.eq_zero_or_pos (y.length + r.length) with h | h
    · have hy : y = [] := List.eq_nil_of_length_eq_zero (by omega)
      rw [h]
      simp only [hor]
      subst hy
      rw [valM_nil]
      omega
    · obtain ⟨m, hm⟩ : ∃ m, y.length + r.length = m + 1 := ⟨y.length + r.length - 1, by omega⟩
      rw [hm, hor_shift]
      have : r.length + y.length - 1 = m := by omega
      rw [this] at ih
      rw [ih]
      grind
theorem colP_shift (x y : List UInt8) (k : Nat) : colP x y k = shiftF (colC x y) k := by cases k <;> rfl
theorem hor_colP (x y : List UInt8) : hor (colP x y) (x.length + y.length) = valM x * valM y := by
  rw [hor_congr (colP_shift x y)]
  rcases Nat.eq_zero_or_pos (x.length + y.length) with h | h
  · have hx : x = [] := List.eq_nil_of_length_eq_zero (by omega)
    rw [h]; subst hx
    simp [hor, valM_nil]
  · obtain ⟨m, hm⟩ : ∃ m, x.length + y.length = m + 1 := ⟨x.length + y.length - 1, by omega⟩
    rw [hm, hor_shift, ← hor_col]
    congr 1
    omega
theorem colP_bd {x y : List UInt8} (hx : ∀ c ∈ x, nu.dig c = true) (hy : ∀ c ∈ y, nu.dig c = true) (k : Nat) : 0 ≤ colP x y k ∧ colP x y k ≤ 81 * x.length := by
  cases k with
  | zero => simp only [colP]; omega
  | succ k => exact colC_bd hx hy k

theorem wrap_u64 (n : Int) (h0 : 0 ≤ n) (h1 : n ≤ 18446744073709551615) : IntKind.u64.wrap n = n := by
  simp [IntKind.wrap, IntKind.bits, IntKind.signed]
  omega
end Go.Proofs.YteenfgomanhjkaaDoor.rd
