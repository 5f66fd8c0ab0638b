/- The reference's exponent: its contract. -/
import Derived.Test.YtgmjllkkgapjcabDoorNb
namespace Go.Proofs.YtgmjllkkgapjcabDoor.rd
open Go.RowKit

theorem byte_neb {a b : UInt8} (h : ¬ a = b) : (((a.toNat : Nat) : Int) == ((b.toNat : Nat) : Int)) = false := by
  have : a.toNat ≠ b.toNat := fun e => h (UInt8.toNat_inj.1 e)
  simp
  omega
theorem byte_neq {a b : UInt8} (h : ¬ a = b) : (((a.toNat : Nat) : Int) != ((b.toNat : Nat) : Int)) = true := by
  have : a.toNat ≠ b.toNat := fun e => h (UInt8.toNat_inj.1 e)
  simp
  omega

end Go.Proofs.YtgmjllkkgapjcabDoor.rd
