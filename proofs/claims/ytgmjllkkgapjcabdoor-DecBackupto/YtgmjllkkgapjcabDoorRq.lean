/- The reference's Parse: its contract. -/
import Derived.Test.YtgmjllkkgapjcabDoorRx
import Derived.Deep.Cut
namespace Go.Proofs.YtgmjllkkgapjcabDoor.rd
open Go.RowKit

/-- What comes of a sign, digits and an exponent. -/
def rpRes (neg : Bool) (all : ByteArray) (ex : Int) : Dn × Int :=
  if (oneForm neg (digs all) ex).2 then ((oneForm neg (digs all) ex).1, 0) else (zed, 4)
/-- .. with the exponent that is read at a place, less the digits behind the point. -/
def rpEnd (s : ByteArray) (neg : Bool) (all : ByteArray) (k bh : Nat) : Dn × Int :=
  if (rex s k).2 then rpRes neg all ((rex s k).1 - bh) else (zed, 3)
/-- From the place of the first digit on. -/
def rpFrom (s : ByteArray) (neg : Bool) (i : Nat) : Dn × Int :=
  if nu.nd s i = 0 ∨ (nu.at_ s i = some 48 ∧ 1 < nu.nd s i) then (zed, 3)
  else if nu.at_ s (i + nu.nd s i) = some 46 then
    (if nu.nd s (i + nu.nd s i + 1) = 0 then (zed, 3)
     else rpEnd s neg (s.extract i (i + nu.nd s i) ++ s.extract (i + nu.nd s i + 1) (i + nu.nd s i + 1 + nu.nd s (i + nu.nd s i + 1))) (i + nu.nd s i + 1 + nu.nd s (i + nu.nd s i + 1)) (nu.nd s (i + nu.nd s i + 1)))
  else rpEnd s neg (s.extract i (i + nu.nd s i)) (i + nu.nd s i) 0
def rparse (s : ByteArray) : Dn × Int := if nu.at_ s 0 = some 45 then rpFrom s true 1 else rpFrom s false 0

theorem rexD_bd (s : ByteArray) (neg : Bool) (j : Nat) : -10000000000000 ≤ (rexD s neg j).1 ∧ (rexD s neg j).1 ≤ 10000000000000 := by
  have := rsize_bd ((s.data.toList.drop j).take (nu.nd s j)) (take_dig s j _ (Nat.le_refl _))
  unfold rexD
  split
  · simp
  · simp only
    split <;> omega
theorem rex_bd (s : ByteArray) (k : Nat) : -10000000000000 ≤ (rex s k).1 ∧ (rex s k).1 ≤ 10000000000000 := by
  unfold rex
  split
  · simp
  · split
    · split
      · split
        · exact rexD_bd _ _ _
        · split
          · exact rexD_bd _ _ _
          · exact rexD_bd _ _ _
      · exact rexD_bd _ _ _
    · simp

theorem rex_end (s : ByteArray) (k : Nat) (h : k = s.size) : rex s k = (0, true) := by unfold rex; rw [nu.at_none s k h]
theorem rpEnd_ok {s : ByteArray} {neg : Bool} {all : ByteArray} {k bh : Nat} {ex : Int} (h : rex s k = (ex, true)) : rpEnd s neg all k bh = rpRes neg all (ex - bh) := by
  unfold rpEnd; rw [h]; exact if_pos rfl
theorem rpEnd_no {s : ByteArray} {neg : Bool} {all : ByteArray} {k bh : Nat} {ex : Int} (h : rex s k = (ex, false)) : rpEnd s neg all k bh = (zed, 3) := by
  unfold rpEnd; rw [h]; exact if_neg Bool.false_ne_true
theorem rpRes_ok {neg : Bool} {all : ByteArray} {ex : Int} {d : Dn} (h : oneForm neg (digs all) ex = (d, true)) : rpRes neg all ex = (d, 0) := by
  unfold rpRes; rw [h]; exact if_pos rfl
theorem rpRes_no {neg : Bool} {all : ByteArray} {ex : Int} {d : Dn} (h : oneForm neg (digs all) ex = (d, false)) : rpRes neg all ex = (zed, 4) := by
  unfold rpRes; rw [h]; exact if_neg Bool.false_ne_true

theorem slice_at (u : World) (s : ByteArray) (a b : Int) (i j : Nat) (ha : a = (i : Int)) (hb : b = (j : Int)) (h1 : i ≤ j) (h2 : j ≤ s.size) :
    (Instr.slice 9 (.string s) (some (.int .i64 a)) (some (.int .i64 b)) none).run Tryd.prog u = .ok (.string (s.extract i j)) u := by
  subst ha hb
  rw [run_slice_string u 9 s .i64 .i64 i j Tryd.underlying9 (by omega) (by omega) (by omega)]
  rfl

theorem rp_start (s : ByteArray) : ∃ (ng : Bool) (i : Nat), decide (nu.at_ s 0 = some 45) = ng ∧ i = (if ng then 1 else 0) ∧ rparse s = rpFrom s ng i ∧ i ≤ s.size := by
  by_cases h : nu.at_ s 0 = some 45
  · refine ⟨true, 1, decide_eq_true h, rfl, by unfold rparse; rw [if_pos h], ?_⟩
    rcases Nat.lt_or_ge 0 s.size with h' | h'
    · exact h'
    · rw [nu.at_none s 0 (by omega)] at h; cases h
  · exact ⟨false, 0, decide_eq_false h, rfl, by unfold rparse; rw [if_neg h], Nat.zero_le _⟩

end Go.Proofs.YtgmjllkkgapjcabDoor.rd
