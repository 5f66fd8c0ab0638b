/- The reference of package stamp: number, is. -/
import Derived.Test.YtemcilikchlaiabDoorKf
import Derived.Deep.Cut
namespace Go.Proofs.YtemcilikchlaiabDoor.st
open Go.RowKit

theorem isI_at (s : ByteArray) (k : Nat) (c : UInt8) (h : k < s.size) : isI s k c = decide (s[k] = c) := by
  unfold isI
  have h2 : k < s.data.toList.length := by rw [Array.length_toList]; exact h
  rw [List.getElem?_eq_getElem h2]
  simp
  rfl
theorem isI_end (s : ByteArray) (k : Nat) (c : UInt8) (h : s.size ≤ k) : isI s k c = false := by
  unfold isI
  rw [List.getElem?_eq_none (by rw [Array.length_toList]; exact h)]
  simp
theorem byte_beq (a c : UInt8) : ((a.toNat : Int) == (c.toNat : Int)) = decide (a = c) := by
  by_cases h : a = c
  · subst h; simp
  · have : ¬ (a.toNat : Int) = (c.toNat : Int) := fun q => h (UInt8.toNat_inj.1 (by omega))
    rw [decide_eq_false h, beq_eq_false_iff_ne]
    exact this

theorem numI_at (s : ByteArray) (c k acc : Nat) (h : k < s.size) : numI s (c + 1) k acc = if 48 ≤ s[k].toNat ∧ s[k].toNat ≤ 57 then numI s c (k + 1) (10 * acc + (s[k].toNat - 48)) else -1 := by
  conv => lhs; unfold numI
  have h2 : k < s.data.toList.length := by rw [Array.length_toList]; exact h
  rw [List.getElem?_eq_getElem h2]
  rfl
theorem numI_end (s : ByteArray) (c k acc : Nat) (h : s.size ≤ k) : numI s (c + 1) k acc = -1 := by
  unfold numI
  rw [List.getElem?_eq_none (by rw [Array.length_toList]; exact h)]

/-- What Parse answers of a moment, or none. -/
def parV : Option (Int × Int) → Value
  | some p => .tuple #[iv p.1 p.2, .int .i64 0]
  | none => .tuple #[iv 0 0, .int .i64 13]
/-- Numbers and signs of day and time. -/
def headP (s : ByteArray) : Prop := (isI s 4 45 && isI s 7 45 && isI s 10 84 && isI s 13 58 && isI s 16 58) = true ∧ 0 ≤ numI s 4 0 0 ∧ 0 ≤ numI s 2 5 0 ∧ 0 ≤ numI s 2 8 0 ∧ 0 ≤ numI s 2 11 0 ∧ numI s 2 11 0 ≤ 23 ∧ 0 ≤ numI s 2 14 0 ∧ numI s 2 14 0 ≤ 59 ∧ 0 ≤ numI s 2 17 0 ∧ numI s 2 17 0 ≤ 59
theorem headP_of {s : ByteArray} (h : headI s) : headP s := by
  obtain ⟨⟨a1, a2, a3, a4, a5⟩, ⟨b1, b2⟩, c, d, e⟩ := h
  obtain ⟨m1, m2, m3, m4⟩ := b2
  unfold headP
  rw [a1, a2, a3, a4, a5]
  exact ⟨rfl, b1, by omega, by omega, c.1, c.2, d.1, d.2, e.1, e.2⟩

end Go.Proofs.YtemcilikchlaiabDoor.st
