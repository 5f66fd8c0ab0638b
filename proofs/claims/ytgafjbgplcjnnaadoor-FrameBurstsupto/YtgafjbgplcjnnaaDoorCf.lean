/- A byte at once: eight bits by a table of 256 numbers. No program in it. -/
import Derived.Test.YtgafjbgplcjnnaaDoorCc
namespace Go.Proofs.YtgafjbgplcjnnaaDoor.fr

theorem its_xor : ∀ (n : Nat) (x y : BitVec 32), its n (x ^^^ y) = its n x ^^^ its n y
  | 0, _, _ => rfl
  | n + 1, x, y => by rw [its, t0_xor, its_xor n]; rfl
theorem t0_low (x : BitVec 32) (h : x.toNat < 2 ^ 31) : t0 x = x <<< 1 ∧ (t0 x).toNat = 2 * x.toNat := by
  have hm : x.msb = false := by rw [BitVec.msb_eq_false_iff_two_mul_lt]; omega
  have e : t0 x = x <<< 1 := by unfold t0; rw [hm]; simp
  refine ⟨e, ?_⟩
  rw [e, BitVec.toNat_shiftLeft, Nat.shiftLeft_eq]
  omega
theorem its_low : ∀ (k : Nat) (x : BitVec 32), x.toNat * 2 ^ k < 2 ^ 32 → (its k x).toNat = x.toNat * 2 ^ k
  | 0, x, _ => by simp [its]
  | k + 1, x, h => by
    have h1 : x.toNat < 2 ^ 31 := by
      have : 2 ^ (k + 1) = 2 * 2 ^ k := by rw [Nat.pow_succ]; omega
      have hp : 1 ≤ 2 ^ k := Nat.one_le_two_pow
      have : x.toNat * 2 ≤ x.toNat * 2 ^ (k + 1) := Nat.mul_le_mul_left _ (by omega)
      omega
    obtain ⟨_, h2⟩ := t0_low x h1
    have e : x.toNat * 2 ^ (k + 1) = 2 * x.toNat * 2 ^ k := by rw [Nat.pow_succ]; ac_rfl
    rw [its, its_low k (t0 x) (by rw [h2, ← e]; exact h), h2, e]
/-- The table. -/
def tab (i : BitVec 32) : BitVec 32 := its 8 (i <<< 24)
theorem word_bits (b : UInt8) : word (bits b) = (b.toBitVec.setWidth 32) <<< 24 := by
  apply BitVec.eq_of_getLsbD_eq
  intro i hi
  by_cases h : i < 24
  · rw [word_low (bits b) i (by rw [bits_length]; omega) (by rw [bits_length]; omega)]
    simp [h]
  · have h1 := word_at (bits b) (31 - i) (by rw [bits_length]; omega) (by rw [bits_length]; omega)
    have e : 31 - (31 - i) = i := by omega
    rw [e] at h1
    rw [h1]
    have : i = 24 ∨ i = 25 ∨ i = 26 ∨ i = 27 ∨ i = 28 ∨ i = 29 ∨ i = 30 ∨ i = 31 := by omega
    rcases this with rfl | rfl | rfl | rfl | rfl | rfl | rfl | rfl <;> simp [bits]
/-- Eight bits at once. -/
theorem run_byte (s : BitVec 32) (b : UInt8) : run s (bits b) = (s <<< 8) ^^^ tab ((s >>> 24) ^^^ b.toBitVec.setWidth 32) := by
  rw [run_word _ _ (by rw [bits_length]; omega), bits_length, word_bits]
  have hs : s = (s &&& 0xffffff#32) ^^^ ((s >>> 24) <<< 24) := by
    apply BitVec.eq_of_getLsbD_eq
    intro i hi
    simp only [BitVec.getLsbD_xor, BitVec.getLsbD_and, BitVec.getLsbD_shiftLeft, BitVec.getLsbD_ushiftRight]
    by_cases h : i < 24
    · have : (0xffffff#32).getLsbD i = true := by revert h; revert i; decide
      simp [h, this]
    · have : (0xffffff#32).getLsbD i = false := by
        have hr : ∀ j < 8, (0xffffff#32).getLsbD (24 + j) = false := by decide
        have := hr (i - 24) (by omega)
        rwa [show 24 + (i - 24) = i by omega] at this
      have e : 24 + (i - 24) = i := by omega
      rw [this, e]
      simp [h, hi]
  have hl : its 8 (s &&& 0xffffff#32) = s <<< 8 := by
    apply BitVec.eq_of_toNat_eq
    have ha : (s &&& 0xffffff#32).toNat = s.toNat % 2 ^ 24 := by
      rw [BitVec.toNat_and]
      exact Nat.and_two_pow_sub_one_eq_mod s.toNat 24
    rw [its_low 8 _ (by rw [ha]; omega), ha, BitVec.toNat_shiftLeft, Nat.shiftLeft_eq]
    have := s.isLt
    omega
  have e : its 8 (s ^^^ (b.toBitVec.setWidth 32) <<< 24) = its 8 (s &&& 0xffffff#32) ^^^ its 8 (((s >>> 24) ^^^ b.toBitVec.setWidth 32) <<< 24) := by
    rw [← its_xor, BitVec.shiftLeft_xor_distrib, ← BitVec.xor_assoc, ← hs]
  rw [e, hl]; rfl
theorem run_bytes (s : BitVec 32) (l : List UInt8) : run s (bitsL l) = l.foldl (fun (s : BitVec 32) (b : UInt8) => (s <<< 8) ^^^ tab ((s >>> 24) ^^^ b.toBitVec.setWidth 32)) s := by
  induction l generalizing s with
  | nil => rfl
  | cons b l ih => rw [bitsL_cons, run_append, ih, List.foldl_cons, run_byte]

end Go.Proofs.YtgafjbgplcjnnaaDoor.fr
