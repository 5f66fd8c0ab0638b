/- Moments: their one form, their texts, as plain functions. No program in it. -/
import Derived.Test.YtemcilikchlaiabDoorKa
namespace Go.Proofs.YtemcilikchlaiabDoor.st

/-- Billionths behind the beginning. -/
def tot (s n : Int) : Int := s * 1000000000 + n
def nSec (s n : Int) : Int :=
  if 9223372036854775808000000000 ≤ tot s n then 9223372036854775807 else if tot s n < -9223372036854775808000000000 then -9223372036854775808 else tot s n / 1000000000
def nNano (s n : Int) : Int :=
  if 9223372036854775808000000000 ≤ tot s n then 999999999 else if tot s n < -9223372036854775808000000000 then 0 else tot s n % 1000000000
theorem nNano_in (s n : Int) : 0 ≤ nNano s n ∧ nNano s n ≤ 999999999 := by
  unfold nNano
  split
  · omega
  · split <;> omega
theorem nSec_in (s n : Int) : -9223372036854775808 ≤ nSec s n ∧ nSec s n ≤ 9223372036854775807 := by
  unfold nSec
  split
  · omega
  · split <;> omega
/-- Which of two moments is later. -/
def cmpI (s n s' n' : Int) : Int :=
  if nSec s n = nSec s' n' ∧ nNano s n = nNano s' n' then 0 else if nSec s n < nSec s' n' ∨ (nSec s n = nSec s' n' ∧ nNano s n < nNano s' n') then -1 else 1

/-- The number of so many digits from a place on; -1: one of these is none. -/
def numI (s : ByteArray) : Nat → Nat → Nat → Int
  | 0, _, acc => acc
  | c + 1, i, acc => match s.data.toList[i]? with
    | some b => if 48 ≤ b.toNat ∧ b.toNat ≤ 57 then numI s c (i + 1) (10 * acc + (b.toNat - 48)) else -1
    | none => -1
theorem numI_in (s : ByteArray) (c i acc : Nat) : -1 ≤ numI s c i acc ∧ numI s c i acc < (acc + 1 : Int) * 10 ^ c := by
  induction c generalizing i acc with
  | zero => unfold numI; simp; omega
  | succ c ih =>
    unfold numI
    have hp : (0 : Int) < 10 ^ c := by
      have := Int.pow_pos (n := 10) (m := c) (by omega)
      exact this
    have hz : (0 : Int) ≤ (acc : Int) * 10 ^ (c + 1) := Int.mul_nonneg (by omega) (by omega)
    have hq : (-1 : Int) < ((acc : Int) + 1) * 10 ^ (c + 1) := by
      have : (0 : Int) < ((acc : Int) + 1) * 10 ^ (c + 1) := Int.mul_pos (by omega) (by omega)
      omega
    split
    · rename_i b _
      split
      · rename_i hb
        have h := ih (i + 1) (10 * acc + (b.toNat - 48))
        refine ⟨h.1, Int.lt_of_lt_of_le h.2 ?_⟩
        rw [show ((acc : Int) + 1) * 10 ^ (c + 1) = (10 * (acc : Int) + 10) * 10 ^ c by rw [Int.pow_succ]; grind]
        exact Int.mul_le_mul_of_nonneg_right (by omega) (Int.le_of_lt hp)
      · exact ⟨by omega, hq⟩
    · exact ⟨by omega, hq⟩
/-- Does this byte stand there? -/
def isI (s : ByteArray) (i : Nat) (c : UInt8) : Bool := decide (s.data.toList[i]? = some c)
/-- How many digits follow, and the billionths that they say. -/
def frcN : List UInt8 → Nat
  | [] => 0
  | c :: l => if 48 ≤ c.toNat ∧ c.toNat ≤ 57 then frcN l + 1 else 0
def frcV : List UInt8 → Nat → Nat
  | [], _ => 0
  | c :: l, p => if 48 ≤ c.toNat ∧ c.toNat ≤ 57 then p / 10 * (c.toNat - 48) + frcV l (p / 10) else 0
theorem frcN_le (l : List UInt8) : frcN l ≤ l.length := by
  induction l with
  | nil => exact Nat.le_refl _
  | cons c l ih =>
    unfold frcN
    rw [List.length_cons]
    split <;> omega
theorem frcV_lt (l : List UInt8) (p : Nat) (hp : 0 < p) : frcV l p < p := by
  induction l generalizing p with
  | nil => exact hp
  | cons c l ih =>
    unfold frcV
    split
    · rename_i h
      rcases Nat.eq_zero_or_pos (p / 10) with q | q
      · rw [q, Nat.zero_mul]
        have : ∀ l : List UInt8, frcV l 0 = 0 := by
          intro l
          induction l with
          | nil => rfl
          | cons c l ih => unfold frcV; split <;> simp [ih]
        rw [this]
        omega
      · have := ih (p / 10) q
        have h9 : p / 10 * (c.toNat - 48) ≤ p / 10 * 9 := Nat.mul_le_mul_left _ (by omega)
        omega
    · exact hp
/-- What stands behind the seconds: an offset in seconds; none: it is none. -/
def offI (s : ByteArray) (k : Nat) : Option Int :=
  if isI s k 90 = true ∧ k + 1 = s.size then some 0
  else if (isI s k 43 = true ∨ isI s k 45 = true) ∧ isI s (k + 3) 58 = true ∧ s.size = k + 6 ∧ 0 ≤ numI s 2 (k + 1) 0 ∧ numI s 2 (k + 1) 0 ≤ 23 ∧ 0 ≤ numI s 2 (k + 4) 0 ∧ numI s 2 (k + 4) 0 ≤ 59 then
    some (if isI s k 43 = true then -(numI s 2 (k + 1) 0 * 3600 + numI s 2 (k + 4) 0 * 60) else numI s 2 (k + 1) 0 * 3600 + numI s 2 (k + 4) 0 * 60)
  else none
/-- Are day and time as they must be? -/
def headI (s : ByteArray) : Prop :=
  (isI s 4 45 = true ∧ isI s 7 45 = true ∧ isI s 10 84 = true ∧ isI s 13 58 = true ∧ isI s 16 58 = true) ∧
  (0 ≤ numI s 4 0 0 ∧ isD (numI s 4 0 0) (numI s 2 5 0) (numI s 2 8 0)) ∧
  (0 ≤ numI s 2 11 0 ∧ numI s 2 11 0 ≤ 23) ∧ (0 ≤ numI s 2 14 0 ∧ numI s 2 14 0 ≤ 59) ∧ (0 ≤ numI s 2 17 0 ∧ numI s 2 17 0 ≤ 59)
instance (y m d : Int) : Decidable (isD y m d) := by unfold isD; infer_instance
instance (s : ByteArray) : Decidable (headI s) := by unfold headI; infer_instance
def secI (s : ByteArray) : Int := dn (numI s 4 0 0) (numI s 2 5 0) (numI s 2 8 0) * 86400 + (numI s 2 11 0 * 3600 + numI s 2 14 0 * 60 + numI s 2 17 0)
/-- The place behind the seconds and their parts, and the billionths. -/
def fracI (s : ByteArray) : Option (Nat × Nat) :=
  if isI s 19 46 = true then
    (if frcN (s.data.toList.drop 20) = 0 ∨ 9 < frcN (s.data.toList.drop 20) then none else some (20 + frcN (s.data.toList.drop 20), frcV (s.data.toList.drop 20) 1000000000))
  else some (19, 0)
/-- The moment of a text. -/
def parseT (s : ByteArray) : Option (Int × Int) :=
  if headI s then
    match fracI s with
    | none => none
    | some (k, n) => match offI s k with
      | none => none
      | some o => some (secI s + o, (n : Int))
  else none

/-- A number in so many digits. -/
def digs : Nat → Nat → List UInt8
  | 0, _ => []
  | w + 1, n => digs w (n / 10) ++ [UInt8.ofNat (48 + n % 10)]
theorem digs_len (w n : Nat) : (digs w n).length = w := by
  induction w generalizing n with
  | zero => rfl
  | succ w ih => unfold digs; rw [List.length_append, ih]; rfl
/-- Without the noughts at the end. -/
def cut0 (l : List UInt8) : List UInt8 := (l.reverse.dropWhile (fun c => c == 48)).reverse
/-- The text of a day, a time of it in seconds, and billionths. -/
def textD (y m d : Nat) (t n : Nat) : List UInt8 :=
  digs 4 y ++ [45] ++ digs 2 m ++ [45] ++ digs 2 d ++ [84] ++ digs 2 (t / 3600) ++ [58] ++ digs 2 (t / 60 % 60) ++ [58] ++ digs 2 (t % 60) ++
  (if n = 0 then [] else [46] ++ cut0 (digs 9 n)) ++ [90]
end Go.Proofs.YtemcilikchlaiabDoor.st
