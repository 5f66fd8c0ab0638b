/- The reference of package stamp: Text. -/
import Derived.Test.YtemcilikchlaiabDoorKm
import Derived.Deep.Cut
namespace Go.Proofs.YtemcilikchlaiabDoor.st
open Go.RowKit

theorem digs_zero (w n : Nat) (h : ∀ c ∈ digs w n, c = 48) : n % 10 ^ w = 0 := by
  induction w generalizing n with
  | zero => simp; omega
  | succ w ih =>
    unfold digs at h
    have h1 := ih (n / 10) (fun c hc => h c (List.mem_append_left _ hc))
    have h2 := h (UInt8.ofNat (48 + n % 10)) (List.mem_append_right _ (List.mem_singleton.2 rfl))
    have h3 := byte_of (n % 10) (by omega)
    rw [h2] at h3
    have h4 : n % 10 = 0 := by
      have : ((48 : UInt8).toNat : Int) = 48 := rfl
      omega
    rw [Nat.pow_succ, Nat.mul_comm, Nat.mod_mul, h1, h4]
theorem digs_some (n : Nat) (h0 : 0 < n) (h1 : n < 1000000000) : ∃ c ∈ digs 9 n, c ≠ 48 := by
  refine Classical.byContradiction fun hh => ?_
  have h := digs_zero 9 n (fun c hc => Classical.byContradiction fun q => hh ⟨c, hc, q⟩)
  have : (10 : Nat) ^ 9 = 1000000000 := by decide
  rw [this] at h
  omega
theorem cut0_48 (l : List UInt8) : cut0 (l ++ [48]) = cut0 l := by
  unfold cut0
  rw [List.reverse_append]
  rfl
theorem cut0_no (l : List UInt8) (c : UInt8) (h : c ≠ 48) : cut0 (l ++ [c]) = l ++ [c] := by
  unfold cut0
  rw [List.reverse_append]
  have : (c == 48) = false := by rw [beq_eq_false_iff_ne]; exact h
  simp [this]
theorem last_of (f : ByteArray) (h : 0 < f.size) : f.data.toList = (f.extract 0 (f.size - 1)).data.toList ++ [f[f.size - 1]] := by
  have e : (f.extract 0 (f.size - 1)).data.toList = f.data.toList.take (f.size - 1) := by
    simp [List.dropLast_eq_take]
  rw [e]
  have hl : f.data.toList.length = f.size := Array.length_toList
  have h2 : f.size - 1 < f.data.toList.length := by omega
  have h3 : f[f.size - 1] = f.data.toList[f.size - 1] := rfl
  rw [h3, List.take_append_getElem h2, List.take_of_length_le (by omega)]

/-- How long a text in a slot is. -/
def strLen : Value → Nat
  | .string s => s.size
  | _ => 0
theorem text_eq (y m d t nn : Nat) (b1 b2 b3 b4 b5 b6 f : ByteArray) (h1 : b1.data.toList = digs 4 y) (h2 : b2.data.toList = digs 2 m) (h3 : b3.data.toList = digs 2 d) (h4 : b4.data.toList = digs 2 (t / 3600))
    (h5 : b5.data.toList = digs 2 (t / 60 % 60)) (h6 : b6.data.toList = digs 2 (t % 60)) (hf : f.data.toList = if nn = 0 then [] else [46] ++ cut0 (digs 9 nn)) :
    b1 ++ ⟨#[45]⟩ ++ b2 ++ ⟨#[45]⟩ ++ b3 ++ ⟨#[84]⟩ ++ b4 ++ ⟨#[58]⟩ ++ b5 ++ ⟨#[58]⟩ ++ b6 ++ f ++ ⟨#[90]⟩ = (⟨(textD y m d t nn).toArray⟩ : ByteArray) := by
  unfold textD
  rw [← h1, ← h2, ← h3, ← h4, ← h5, ← h6, ← hf]
  apply ByteArray.ext
  simp

theorem sum_ex (a b : ByteArray) (n : Nat) (h : a.size + b.size = n) (hn : n ≤ 100) : ∃ c : ByteArray, c.size = n ∧ (∀ u : World, (Op.stringOp .add a b).run Tryd.prog u = .ok (.string c) u) ∧ Hid (a ++ b = c) :=
  ⟨a ++ b, by rw [ByteArray.size_append, h], fun u => run_string_add_sum u _ _ (by omega), rfl⟩

end Go.Proofs.YtemcilikchlaiabDoor.st
