/- The reference of package rule: a pattern's parts. -/
import Derived.Test.YthpnclhfooileaaGreatDoorJa
import Derived.Test.YthpnclhfooileaaGreatDoorLb
import Derived.Test.YthpnclhfooileaaGreatDoorChecked
import Derived.WalkKit
import Derived.Deep.QuietTactic
import Derived.BigQuiet
import Derived.Outline
import Derived.WalkLawsBesides
import Derived.Lib.SmallJoins
import Derived.Deep.Cut
import Derived.Deep.AppendLies
namespace Go.Proofs.YthpnclhfooileaaGreatDoor.ru
open Go.RowKit

theorem blen (s : ByteArray) : s.data.toList.length = s.size := by rw [Array.length_toList]; rfl
theorem drop_at (s : ByteArray) (k : Nat) (h : k < s.size) : s.data.toList.drop k = s[k] :: s.data.toList.drop (k + 1) := List.drop_eq_getElem_cons (by rw [blen]; exact h)
/-- A part's two cells. -/
def pc (x : Bool × UInt8) : List Value := [.bool x.1, .int .u8 (x.2.toNat : Int)]
theorem pc_len (l : List (Bool × UInt8)) : (l.flatMap pc).length = l.length * 2 := by
  induction l with
  | nil => rfl
  | cons x l ih => rw [List.flatMap_cons, List.length_append, ih, List.length_cons]; show 2 + _ = _; omega
theorem prt_esc (s : ByteArray) (k : Nat) (h : k + 1 < s.size) (hc : s[k] = 92) (hd : s[k + 1] = 42 ∨ s[k + 1] = 92) : prt (s.data.toList.drop k) = (false, s[k + 1]) :: prt (s.data.toList.drop (k + 2)) := by
  rw [drop_at s k (by omega), drop_at s (k + 1) h]
  conv => lhs; unfold prt
  rw [if_pos ⟨hc, hd⟩]
theorem prt_one (s : ByteArray) (k : Nat) (h : k < s.size) (hn : ¬ (s[k] = 92 ∧ ∃ h1 : k + 1 < s.size, s[k + 1] = 42 ∨ s[k + 1] = 92)) : prt (s.data.toList.drop k) = (s[k] == 42, s[k]) :: prt (s.data.toList.drop (k + 1)) := by
  rw [drop_at s k h]
  by_cases h1 : k + 1 < s.size
  · rw [drop_at s (k + 1) h1]
    conv => lhs; unfold prt
    rw [if_neg (fun z => hn ⟨z.1, h1, z.2⟩)]
  · rw [List.drop_eq_nil_of_le (by rw [blen]; omega)]
    rfl
theorem infoP : (Tryz.prog.info? 64).map (fun i => (i.zero, i.size, i.bytes)) = some (some (.agg #[.bool false, .int .u8 0]), 2, 2) := by kernel_rfl
/-- A pattern's parts in a row of the call's own. -/
def OP (w : World) (B : Nat) (v : Value) (l : List (Bool × UInt8)) : Prop := w.ownsRow B 64 2 v l.length (l.flatMap pc)
end Go.Proofs.YthpnclhfooileaaGreatDoor.ru
