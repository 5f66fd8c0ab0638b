/- The reference of package stamp: digits. -/
import Derived.Test.YtemcilikchlaiabDoorKf
import Derived.Lib.ConvBytes
import Derived.Lib.UnsafeStr
namespace Go.Proofs.YtemcilikchlaiabDoor.st
open Go.RowKit

theorem conv_one (w : World) (c : UInt8) (ci : Int) (h : ci = (c.toNat : Int)) : (convert 32 9 (.slice (some ⟨w.heap.size, 0, none⟩) 1 1)).run Tryd.prog (w.alloc (.cells #[.int .u8 ci] 5)) = .ok (.string ⟨#[c]⟩) (w.alloc (.cells #[.int .u8 ci] 5)) := by
  subst h
  refine run_convert_bytes_back _ 32 9 5 ⟨w.heap.size, 0, none⟩ 1 [c] Tryd.underlying32 Tryd.underlying5 Tryd.underlying9 (fun j hj => ?_)
  have hj0 : j = 0 := by simp at hj; omega
  subst hj0
  rw [show (⟨w.heap.size, 0, none⟩ : Addr).add 0 = ⟨w.heap.size, 0, none⟩ from rfl, blk_cell (heap_alloc_new w _)]
  rfl
theorem byte_of (n : Nat) (h : n < 10) : ((UInt8.ofNat (48 + n)).toNat : Int) = 48 + (n : Int) := by
  have : (UInt8.ofNat (48 + n)).toNat = 48 + n := by
    rw [UInt8.toNat_ofNat']
    omega
  omega

end Go.Proofs.YtemcilikchlaiabDoor.st
