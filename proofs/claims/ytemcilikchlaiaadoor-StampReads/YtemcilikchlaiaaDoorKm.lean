/- The reference of package stamp: digits. -/
import Derived.Test.YtemcilikchlaiaaDoorKf
import Derived.Lib.ConvBytes
import Derived.Lib.UnsafeStr
namespace Go.Proofs.YtemcilikchlaiaaDoor.st
open Go.RowKit

theorem conv_one (w : World) (c : UInt8) (ci : Int) (h : ci = (c.toNat : Int)) : (convert 80 9 (.slice (some ⟨w.heap.size, 0, none⟩) 1 1)).run Tryd.prog (w.alloc (.cells #[.int .u8 ci] 5)) = .ok (.string ⟨#[c]⟩) (w.alloc (.cells #[.int .u8 ci] 5)) := by
  subst h
  refine run_convert_bytes_back _ 80 9 5 ⟨w.heap.size, 0, none⟩ 1 [c] Tryd.underlying80 Tryd.underlying5 Tryd.underlying9 (fun j hj => ?_)
  have hj0 : j = 0 := by simp at hj; omega
  subst hj0
  rw [show (⟨w.heap.size, 0, none⟩ : Addr).add 0 = ⟨w.heap.size, 0, none⟩ from rfl, blk_cell (heap_alloc_new w _)]
  rfl
theorem byte_of (n : Nat) (h : n < 10) : ((UInt8.ofNat (48 + n)).toNat : Int) = 48 + (n : Int) := by
  have : (UInt8.ofNat (48 + n)).toNat = 48 + n := by
    rw [UInt8.toNat_ofNat']
    omega
  omega

set_option maxRecDepth 100000 in
set_option maxHeartbeats 3200000 in
theorem rdigits_any (n wd : Nat) (ni wi : Int) (hn : ni = (n : Int)) (hwi : wi = (wd : Int)) (hwd : wd ≤ 9) (hb : n ≤ 4611686018427387904) (w : World) :
    Calls Tryd.prog 33 #[.int .i64 ni, .int .i64 wi] w fun e w' => e = .returned (.string ⟨(digs wd n).toArray⟩) ∧ Below w.heap.size w w' := by
  subst hn hwi
  obtain ⟨res, hres⟩ : ∃ r, digs wd n = r := ⟨_, rfl⟩
  have HR := hide hres
  rw [hres]
  clear hres
  go_enter Tryd.func33, Tryd.ntmps33
  go_wp2
  go_loopw [0, 5, 6] (fun nv sv iv wr => ∃ (k q m : Nat) (acc : ByteArray), k + q = wd ∧ iv = .int .i64 (k : Int) ∧ nv = .int .i64 (m : Int) ∧ sv = .string acc ∧ acc.size = k ∧ m ≤ 4611686018427387904 ∧ Hid (digs q m ++ acc.data.toList = res) ∧ Hid (Below w.heap.size w wr)) (fun _ _ iv _ => wd - (intOf iv).toNat)
  case atStart => exact ⟨0, wd, n, ⟨#[]⟩, by omega, rfl, rfl, rfl, rfl, hb, by rw [← unhide HR]; exact List.append_nil _, Below.refl _ _⟩
  case round =>
    clear HR
    obtain ⟨k, q, m, acc, hkq, rfl, rfl, rfl, hacc, hm, hR, hB⟩ := hrel
    cases q with
    | zero =>
      have e1 : ¬ (k : Int) < (wd : Int) := by omega
      have HR := hide (show acc.data.toList = res from unhide hR)
      clear hR hacc
      go_wp2
      go_ret
      exact ⟨by rw [← unhide HR]; rfl, unhide hB⟩
    | succ q =>
      have e1 : (k : Int) < (wd : Int) := by omega
      have hw8 : IntKind.u8.wrap (48 + (m : Int) % 10) = 48 + (m : Int) % 10 := IntWalk.u8_in _ ⟨by omega, by omega⟩
      have hcv := conv_one wr (UInt8.ofNat (48 + m % 10)) (48 + (m : Int) % 10) (by rw [byte_of (m % 10) (by omega)]; omega)
      have hB2 := hide ((unhide hB).alloc (unhide hB).size (.cells #[.int .u8 (48 + (m : Int) % 10)] 5))
      have HR := hide (show digs q (m / 10) ++ ((⟨#[UInt8.ofNat (48 + m % 10)]⟩ : ByteArray) ++ acc).data.toList = res by
        rw [← unhide hR]
        show _ = digs q (m / 10) ++ [UInt8.ofNat (48 + m % 10)] ++ acc.data.toList
        simp)
      have hsz : ((⟨#[UInt8.ofNat (48 + m % 10)]⟩ : ByteArray) ++ acc).size = k + 1 := by
        rw [ByteArray.size_append, hacc]
        show 1 + k = k + 1
        omega
      have i1 : (⟨#[UInt8.ofNat (48 + m % 10)]⟩ : ByteArray).size = 1 := rfl
      clear hR hB
      generalize (⟨#[UInt8.ofNat (48 + m % 10)]⟩ : ByteArray) = cb at *
      have hcc : ∀ u : World, (Op.stringOp .add cb acc).run Tryd.prog u = .ok (.string (cb ++ acc)) u := fun u => run_string_add_sum u _ _ (by omega)
      clear hacc i1
      go_wp2
      exact ⟨⟨k + 1, q, m / 10, cb ++ acc, by omega, by go_num, by go_num, rfl, hsz, by omega, HR, hB2⟩, by simp [intOf]; omega⟩
end Go.Proofs.YtemcilikchlaiaaDoor.st
