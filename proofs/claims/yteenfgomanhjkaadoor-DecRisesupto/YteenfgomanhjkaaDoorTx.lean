/- The contracts of Text and of the reference's Text: both tell a number the same way. -/
import Derived.Test.YteenfgomanhjkaaDoorNr
import Derived.Lib.AppendIntMem
import Derived.Lib.ItoaNum
namespace Go.Proofs.YteenfgomanhjkaaDoor.rd
open Go.RowKit

def itoaB (n : Int) : ByteArray := ⟨(Lib.itoa n).toArray⟩
theorem dec_len (u : Nat) : (Lib.decDigits u).length ≤ u + 1 := by
  induction u using Nat.strongRecOn with
  | _ u ih =>
    rw [Lib.decDigits]
    split
    · simp
    · rw [List.length_append]
      have := ih (u / 10) (by omega)
      simp
      omega
theorem itoaB_len (n : Int) (h0 : -9999 ≤ n) (h1 : n ≤ 9999) : (itoaB n).size ≤ 20000 := by
  have e : (itoaB n).size = (Lib.itoa n).length := by unfold itoaB; exact List.size_toArray
  rw [e]
  unfold Lib.itoa
  split
  · have := dec_len n.natAbs
    simp
    omega
  · have := dec_len n.toNat
    omega

/-- How a number in its one form is told. -/
def textOf (r : Dn) : ByteArray :=
  if r.dg.size = 0 then ⟨#[48]⟩
  else if r.ex = 0 then (if r.neg then ⟨#[45]⟩ ++ r.dg else r.dg)
  else (if r.neg then ⟨#[45]⟩ ++ r.dg else r.dg) ++ (⟨#[101]⟩ ++ itoaB r.ex)

def Pow (w : World) : Prop := Lib.TabIs Tryd.prog w "internal/strconv.uint64pow10" .u64 Lib.pow10Tab
theorem Pow.keep {w w' : World} (h : Pow w) (hb : Below w.heap.size w w') : Pow w' := Lib.tabBelow_of_tabIs h w' hb

end Go.Proofs.YteenfgomanhjkaaDoor.rd
