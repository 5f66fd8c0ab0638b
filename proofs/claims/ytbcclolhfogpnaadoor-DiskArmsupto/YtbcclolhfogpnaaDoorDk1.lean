/- The landed disk's bits, pure: 32 bits lie in five bytes. -/
import Derived.Test.YtbcclolhfogpnaaDoorYo
namespace Go.Proofs.YtbcclolhfogpnaaDoor.dk
open Go.RowKit mm

theorem byte_ext {x y : UInt8} (h : ∀ j, j < 8 → x.toNat.testBit (7 - j) = y.toNat.testBit (7 - j)) : x = y := by
  apply UInt8.toNat_inj.mp
  apply Nat.eq_of_testBit_eq
  intro i
  by_cases hi : i < 8
  · have := h (7 - i) (by omega)
    rwa [show 7 - (7 - i) = i from by omega] at this
  · rw [Nat.testBit_lt_two_pow (Nat.lt_of_lt_of_le x.toNat_lt (Nat.pow_le_pow_right (by decide) (by omega : 8 ≤ i))), Nat.testBit_lt_two_pow (Nat.lt_of_lt_of_le y.toNat_lt (Nat.pow_le_pow_right (by decide) (by omega : 8 ≤ i)))]
/-- A byte of the five. -/
def five (a t i : Nat) : Nat := t * 2 ^ (8 - a % 8) / 2 ^ (32 - 8 * i) % 256
theorem five_lt (a t i : Nat) : five a t i < 256 := Nat.mod_lt _ (by decide)
theorem mask_five (a t i : Nat) (ht : t < 4294967296) (hi : i < 5) : mask (a : Int) t (a / 8 + i) = UInt8.ofNat (five a t i) := by
  apply byte_ext
  intro j hj
  unfold mask
  rw [byte_bit _ j hj, UInt8.toNat_ofNat', Nat.mod_eq_of_lt (by simpa using five_lt a t i)]
  unfold five
  rw [show (256 : Nat) = 2 ^ 8 from rfl, Nat.testBit_mod_two_pow, Nat.testBit_div_two_pow, Nat.testBit_mul_two_pow]
  have hr : a % 8 < 8 := Nat.mod_lt _ (by decide)
  have ha : a = 8 * (a / 8) + a % 8 := by omega
  have e0 : decide (7 - j < 8) = true := decide_eq_true (by omega)
  rw [e0, Bool.true_and]
  unfold bitOn
  have e1 : decide (0 ≤ (a : Int)) = true := decide_eq_true (by omega)
  rw [e1, Bool.true_and]
  by_cases h1 : a % 8 ≤ 8 * i + j
  · have e2 : decide ((a : Int) ≤ ((8 * (a / 8 + i) + j : Nat) : Int)) = true := decide_eq_true (by omega)
    rw [e2, Bool.true_and]
    by_cases h2 : 8 * i + j - a % 8 ≤ 31
    · have e3 : decide (((8 * (a / 8 + i) + j : Nat) : Int) - (a : Int) ≤ 31) = true := decide_eq_true (by omega)
      have e4 : decide (8 - a % 8 ≤ 7 - j + (32 - 8 * i)) = true := decide_eq_true (by omega)
      rw [e3, e4, Bool.true_and, Bool.true_and]
      congr 1
      omega
    · have e3 : decide (((8 * (a / 8 + i) + j : Nat) : Int) - (a : Int) ≤ 31) = false := decide_eq_false (by omega)
      have e4 : decide (8 - a % 8 ≤ 7 - j + (32 - 8 * i)) = false := decide_eq_false (by omega)
      rw [e3, e4, Bool.false_and, Bool.false_and]
  · have e2 : decide ((a : Int) ≤ ((8 * (a / 8 + i) + j : Nat) : Int)) = false := decide_eq_false (by omega)
    rw [e2, Bool.false_and, Bool.false_and]
    have : t.testBit (7 - j + (32 - 8 * i) - (8 - a % 8)) = false := Nat.testBit_lt_two_pow (Nat.lt_of_lt_of_le ht (Nat.pow_le_pow_right (n := 2) (by decide) (by omega : 32 ≤ 7 - j + (32 - 8 * i) - (8 - a % 8))))
    rw [this, Bool.and_false]
theorem mask_none (a t k : Nat) (h : k < a / 8 ∨ a / 8 + 5 ≤ k) : mask (a : Int) t k = 0 := by
  unfold mask
  rw [← byte_none]
  refine byteOf_congr (fun j hj => ?_)
  unfold bitOn
  rcases h with h | h
  · have e2 : decide ((a : Int) ≤ ((8 * k + j : Nat) : Int)) = false := decide_eq_false (by omega)
    rw [e2, Bool.and_false, Bool.false_and, Bool.false_and]
  · have e3 : decide (((8 * k + j : Nat) : Int) - (a : Int) ≤ 31) = false := decide_eq_false (by omega)
    rw [e3, Bool.and_false, Bool.false_and]
/-- Bytes up to the i-th of the five are torn. -/
def tk (a t i : Nat) (l : List UInt8) : List UInt8 := l.mapIdx (fun k b => if k < a / 8 + i then b ^^^ mask (a : Int) t k else b)
theorem tk_len (a t i : Nat) (l : List UInt8) : (tk a t i l).length = l.length := by unfold tk; simp
theorem tk_get (a t i : Nat) (l : List UInt8) (k : Nat) : (tk a t i l)[k]? = l[k]?.map (fun b => if k < a / 8 + i then b ^^^ mask (a : Int) t k else b) := by unfold tk; rw [List.getElem?_mapIdx]
theorem tk_zero (a t : Nat) (l : List UInt8) : tk a t 0 l = l := by
  apply List.ext_getElem?
  intro k
  rw [tk_get]
  cases l[k]? with
  | none => rfl
  | some b =>
    simp only [Option.map_some, Nat.add_zero]
    split
    · rename_i h
      rw [mask_none a t k (Or.inl h)]
      simp
    · rfl
theorem tk_all (a t : Nat) (l : List UInt8) : tk a t 5 l = tear (a : Int) t l := by
  apply List.ext_getElem?
  intro k
  rw [tk_get]
  unfold tear
  rw [List.getElem?_mapIdx]
  cases l[k]? with
  | none => rfl
  | some b =>
    simp only [Option.map_some]
    split
    · rfl
    · rename_i h
      rw [mask_none a t k (Or.inr (by omega))]
      simp
theorem tk_off (a t i : Nat) (l : List UInt8) (h : l.length ≤ a / 8 + i) : tk a t (i + 1) l = tk a t i l := by
  apply List.ext_getElem?
  intro k
  rw [tk_get, tk_get]
  cases hk : l[k]? with
  | none => rfl
  | some b =>
    obtain ⟨hlt, _⟩ := List.getElem?_eq_some_iff.mp hk
    rw [Option.map_some, Option.map_some, if_pos (by omega), if_pos (by omega)]
theorem tk_on (a t i : Nat) (l : List UInt8) (ht : t < 4294967296) (hi : i < 5) (b : UInt8) (hb : (tk a t i l)[a / 8 + i]? = some b) : tk a t (i + 1) l = (tk a t i l).set (a / 8 + i) (b ^^^ UInt8.ofNat (five a t i)) := by
  apply List.ext_getElem?
  intro k
  obtain ⟨hlt, _⟩ := List.getElem?_eq_some_iff.mp hb
  rw [List.getElem?_set]
  by_cases e : a / 8 + i = k
  · subst e
    rw [if_pos rfl, if_pos hlt]
    rw [tk_get] at hb ⊢
    cases hl : l[a / 8 + i]? with
    | none => rw [hl] at hb; cases hb
    | some c =>
      rw [hl] at hb
      simp only [Option.map_some, Option.some.injEq, Nat.lt_irrefl, if_false] at hb ⊢
      rw [if_pos (by omega), ← mask_five a t i ht hi, hb]
  · rw [if_neg e, tk_get, tk_get]
    cases l[k]? with
    | none => rfl
    | some c =>
      simp only [Option.map_some, Option.some.injEq]
      by_cases q : k < a / 8 + i
      · rw [if_pos q, if_pos (by omega)]
      · rw [if_neg q, if_neg (by omega)]
theorem xor_five (b : UInt8) (m : Nat) (h : m < 256) : Go.bits .xor .u8 (b.toNat : Int) (m : Int) = ((b ^^^ UInt8.ofNat m).toNat : Int) := by
  rw [u8_xor_nat _ _ b.toNat_lt h, UInt8.toNat_xor, UInt8.toNat_ofNat', Nat.mod_eq_of_lt (by simpa using h)]
theorem tear_neg (a : Int) (t : Nat) (l : List UInt8) (h : a < 0) : tear a t l = l := by
  apply List.ext_getElem?
  intro k
  unfold tear
  rw [List.getElem?_mapIdx]
  have : mask a t k = 0 := by
    unfold mask
    rw [← byte_none]
    refine byteOf_congr (fun j hj => ?_)
    unfold bitOn
    rw [decide_eq_false (by omega : ¬ 0 ≤ a), Bool.false_and, Bool.false_and, Bool.false_and]
  cases l[k]? with
  | none => rfl
  | some b => simp [this]
end Go.Proofs.YtbcclolhfogpnaaDoor.dk
