/- The reference's number and exponent: their contracts. -/
import Derived.Test.YtgmjllkkgapjcabDoorNr
namespace Go.Proofs.YtgmjllkkgapjcabDoor.rd
open Go.RowKit

/-- One digit more of an exponent, as the reference holds it. -/
def rstep (e : Int) (c : UInt8) : Int := if e < 1000000000000 then 10 * e + ((c.toNat : Int) - 48) else e
def rsize (l : List UInt8) : Int := l.foldl rstep 0
theorem rsize_snoc (l : List UInt8) (c : UInt8) : rsize (l ++ [c]) = rstep (rsize l) c := by
  unfold rsize; rw [List.foldl_append]; rfl
theorem rsize_bd (l : List UInt8) (h : ∀ c ∈ l, nu.dig c = true) : 0 ≤ rsize l ∧ rsize l ≤ 10000000000000 := by
  have key : ∀ (l : List UInt8) (e : Int), (∀ c ∈ l, nu.dig c = true) → 0 ≤ e → e ≤ 10000000000000 → 0 ≤ l.foldl rstep e ∧ l.foldl rstep e ≤ 10000000000000 := by
    intro l
    induction l with
    | nil => intro e _ h0 h1; exact ⟨h0, h1⟩
    | cons c r ih =>
      intro e hl h0 h1
      have hc : 48 ≤ c.toNat ∧ c.toNat ≤ 57 := by
        have := hl c (by simp)
        simpa [nu.dig] using this
      have hb : 0 ≤ rstep e c ∧ rstep e c ≤ 10000000000000 := by unfold rstep; split <;> omega
      exact ih (rstep e c) (fun c' hc' => hl c' (by simp [hc'])) hb.1 hb.2
  exact key l 0 h (by omega) (by omega)

/-- The exponent from the place of its first digit on. -/
def rexD (s : ByteArray) (neg : Bool) (j : Nat) : Int × Bool :=
  if nu.nd s j = 0 ∨ j + nu.nd s j < s.size then (0, false)
  else (if neg then - rsize ((s.data.toList.drop j).take (nu.nd s j)) else rsize ((s.data.toList.drop j).take (nu.nd s j)), true)
/-- The exponent from the letter on. -/
def rex (s : ByteArray) (k : Nat) : Int × Bool :=
  match nu.at_ s k with
  | none => (0, true)
  | some c => if c = 101 ∨ c = 69 then
      (match nu.at_ s (k + 1) with
       | some d => if d = 45 then rexD s true (k + 2) else if d = 43 then rexD s false (k + 2) else rexD s false (k + 1)
       | none => rexD s false (k + 1))
    else (0, false)

theorem take_dig (s : ByteArray) (j m : Nat) (hm : m ≤ nu.nd s j) : ∀ c ∈ (s.data.toList.drop j).take m, nu.dig c = true := by
  intro c hc
  have h1 : (s.data.toList.drop j).takeWhile nu.dig = (s.data.toList.drop j).take (nu.nd s j) := List.prefix_iff_eq_take.1 (List.takeWhile_prefix nu.dig)
  have h2 : c ∈ (s.data.toList.drop j).takeWhile nu.dig := by
    rw [h1]
    have : (s.data.toList.drop j).take m = ((s.data.toList.drop j).take (nu.nd s j)).take m := by rw [List.take_take]; congr 1; omega
    rw [this] at hc
    exact List.mem_of_mem_take hc
  exact List.all_eq_true.1 (List.all_takeWhile (p := nu.dig) (l := s.data.toList.drop j)) c h2
theorem take_next (s : ByteArray) (j m : Nat) (h : j + m < s.size) : (s.data.toList.drop j).take (m + 1) = (s.data.toList.drop j).take m ++ [s[j + m]] := by
  have h' : m < (s.data.toList.drop j).length := by rw [List.length_drop]; simp; omega
  rw [List.take_succ_eq_append_getElem h']
  congr 1
  simp [List.getElem_drop]
  rfl
end Go.Proofs.YtgmjllkkgapjcabDoor.rd
