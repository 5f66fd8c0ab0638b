/- What a numeral's text says, place by place, as a plain function: no program in it. -/
import Derived.Lib.Bytealg
namespace Go.Proofs.YteenfgomanhjkaaDoor.nu

def dig (c : UInt8) : Bool := decide (48 ≤ c.toNat ∧ c.toNat ≤ 57)

/-- The byte at a place. -/
def at_ (s : ByteArray) (k : Nat) : Option UInt8 := s.data.toList[k]?

/-- How many digits follow from a place on. -/
def nd (s : ByteArray) (k : Nat) : Nat := ((s.data.toList.drop k).takeWhile dig).length

structure Num where
  neg : Bool
  wh : ByteArray
  fr : ByteArray
  pn : Bool
  pw : ByteArray

/-- From the place behind a power's digit on. -/
def pwRest (s : ByteArray) (ng : Bool) (i k : Nat) : Option (Bool × ByteArray) :=
  if k + nd s k = s.size then some (ng, s.extract i (k + nd s k)) else none
/-- From the place of a power's first digit on. -/
def pwFirst (s : ByteArray) (ng : Bool) (i : Nat) : Option (Bool × ByteArray) :=
  match at_ s i with
  | some c => if dig c then pwRest s ng i (i + 1) else none
  | none => none
def power (s : ByteArray) (i : Nat) : Option (Bool × ByteArray) :=
  match at_ s i with
  | some c => if c = 45 then pwFirst s true (i + 1) else if c = 43 then pwFirst s false (i + 1) else pwFirst s false i
  | none => none

def measured (s : ByteArray) (k : Nat) (neg : Bool) (wh fr : ByteArray) : Option Num :=
  match at_ s k with
  | some c => if c = 101 ∨ c = 69 then (power s (k + 1)).map (fun p => ⟨neg, wh, fr, p.1, p.2⟩) else none
  | none => some ⟨neg, wh, fr, false, .empty⟩
def fraction (s : ByteArray) (i k : Nat) (neg : Bool) (wh : ByteArray) : Option Num :=
  measured s (k + nd s k) neg wh (s.extract i (k + nd s k))
def point (s : ByteArray) (k : Nat) (neg : Bool) (wh : ByteArray) : Option Num :=
  match at_ s k with
  | some c => if dig c then fraction s k (k + 1) neg wh else none
  | none => none
def counted (s : ByteArray) (i k : Nat) (neg : Bool) : Option Num :=
  if at_ s k = some 46 then point s (k + 1) neg (s.extract i k) else measured s k neg (s.extract i k) .empty
def whole (s : ByteArray) (i k : Nat) (neg : Bool) : Option Num := counted s i (k + nd s k) neg
def first (s : ByteArray) (k : Nat) (neg : Bool) : Option Num :=
  match at_ s k with
  | some c => if c = 48 then counted s k (k + 1) neg else if dig c then whole s k (k + 1) neg else none
  | none => none
def numeral (s : ByteArray) : Option Num := if at_ s 0 = some 45 then first s 1 true else first s 0 false

theorem at_some (s : ByteArray) (k : Nat) (h : k < s.size) : at_ s k = some s[k] := by
  unfold at_
  have h' : k < s.data.toList.length := by simpa using h
  rw [List.getElem?_eq_getElem h']
  rfl
theorem at_none (s : ByteArray) (k : Nat) (h : k = s.size) : at_ s k = none := by
  unfold at_
  apply List.getElem?_eq_none
  simp [h]

theorem nd_yes (s : ByteArray) (k : Nat) (h : k < s.size) (hd : dig s[k] = true) : nd s k = nd s (k + 1) + 1 := by
  unfold nd
  have h' : k < s.data.toList.length := by simpa using h
  rw [List.drop_eq_getElem_cons h', List.takeWhile_cons]
  have e : s.data.toList[k] = s[k] := rfl
  rw [e, hd]
  simp
theorem nd_no (s : ByteArray) (k : Nat) (h : k < s.size) (hd : dig s[k] = false) : nd s k = 0 := by
  unfold nd
  have h' : k < s.data.toList.length := by simpa using h
  rw [List.drop_eq_getElem_cons h', List.takeWhile_cons]
  have e : s.data.toList[k] = s[k] := rfl
  rw [e, hd]
  simp
theorem nd_end (s : ByteArray) (k : Nat) (h : k = s.size) : nd s k = 0 := by
  unfold nd
  rw [List.drop_eq_nil_of_le (by simp [h])]
  rfl
theorem nd_le (s : ByteArray) (k : Nat) (h : k ≤ s.size) : k + nd s k ≤ s.size := by
  unfold nd
  have h1 : ((s.data.toList.drop k).takeWhile dig).length ≤ (s.data.toList.drop k).length := (List.takeWhile_prefix (p := dig) (l := s.data.toList.drop k)).length_le
  have e : s.data.toList.length = s.size := by rw [Array.length_toList]; rfl
  rw [List.length_drop, e] at h1
  omega

/-! The set of the ten digits, and others, as 'indexByte' sees them. -/
theorem idx_digits (c : UInt8) : (0 ≤ Lib.indexByte [48, 49, 50, 51, 52, 53, 54, 55, 56, 57] c) ↔ dig c = true := by
  have h : ∀ n : Fin 256, (0 ≤ Lib.indexByte [48, 49, 50, 51, 52, 53, 54, 55, 56, 57] (UInt8.ofNat n.val)) ↔ dig (UInt8.ofNat n.val) = true := by decide +kernel
  have := h ⟨c.toNat, c.toNat_lt⟩
  simpa using this
theorem idx_one (a c : UInt8) : (0 ≤ Lib.indexByte [a] c) ↔ c = a := by
  by_cases h : a = c
  · subst h; simp [Lib.indexByte]
  · have h' : ¬ c = a := fun e => h e.symm
    simp [Lib.indexByte, h, h']
theorem idx_two (c : UInt8) : (0 ≤ Lib.indexByte [101, 69] c) ↔ (c = 101 ∨ c = 69) := by
  have h : ∀ n : Fin 256, (0 ≤ Lib.indexByte [101, 69] (UInt8.ofNat n.val)) ↔ (UInt8.ofNat n.val = 101 ∨ UInt8.ofNat n.val = 69) := by decide +kernel
  have := h ⟨c.toNat, c.toNat_lt⟩
  simpa using this

end Go.Proofs.YteenfgomanhjkaaDoor.nu
