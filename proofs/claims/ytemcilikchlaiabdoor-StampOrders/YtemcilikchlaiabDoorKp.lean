/- What the error's variable holds; what is asked of package stamp's calls; the laws' small functions. -/
import Derived.Test.YtemcilikchlaiabDoorKn
import Derived.Test.YtemcilikchlaiabDoorKj
namespace Go.Proofs.YtemcilikchlaiabDoor.st
open Go.RowKit

theorem infoP : (Tryd.prog.info? 127).map (fun i => i.comparable) = some true := by kernel_rfl
theorem infoE : (Tryd.prog.info? 141).map (fun i => i.size) = some 1 := by kernel_rfl
theorem eql_same (w : World) (a : Addr) : (binOp .eql 28 (.iface 127 (.pointer (some a))) (.iface 127 (.pointer (some a)))).run Tryd.prog w = .ok (.bool true) w := by
  have hi := infoP
  have hj := infoE
  cases h1 : Tryd.prog.info? 127 with
  | none => rw [h1] at hi; cases hi
  | some i =>
    cases h2 : Tryd.prog.info? 141 with
    | none => rw [h2] at hj; cases hj
    | some j =>
      rw [h1] at hi
      exact run_eql_iface_ptr_same w a Tryd.underlying28 Tryd.underlying127 h1 (by simpa using hi) h2

/-- What the calls answer, in values. -/
def parE (a : Addr) : Option (Int × Int) → Value
  | some p => .tuple #[iv p.1 p.2, .nilIface]
  | none => .tuple #[iv 0 0, eT a]
def dateE (a : Addr) (y m d : Int) : Value := if -999999 ≤ y ∧ y ≤ 999999 then .tuple #[.int .i64 y, .int .i64 m, .int .i64 d, .nilIface] else .tuple #[.int .i64 0, .int .i64 0, .int .i64 0, eT a]
def texE (a : Addr) : Option (List UInt8) → Value
  | some l => .tuple #[.string ⟨l.toArray⟩, .nilIface]
  | none => .tuple #[.string ⟨#[]⟩, eT a]
/-- The text of a moment. -/
def isText (s n : Int) (r : Option (List UInt8)) : Prop :=
  (r = none ∧ (nSec s n < -62167219200 ∨ 253402300799 < nSec s n)) ∨
  ∃ R nn y m d : Nat, nSec s n = (R : Int) - 62167219200 ∧ R ≤ 315569519999 ∧ nNano s n = (nn : Int) ∧ isDate ((R : Int) / 86400 - 719528) y m d ∧ r = some (textD y m d (R % 86400) nn)
theorem isText_ex (s n : Int) : ∃ r, isText s n r := by
  by_cases h : nSec s n < -62167219200 ∨ 253402300799 < nSec s n
  · exact ⟨none, Or.inl ⟨rfl, h⟩⟩
  · obtain ⟨R, hR⟩ : ∃ R : Nat, nSec s n = (R : Int) - 62167219200 := ⟨(nSec s n + 62167219200).toNat, by omega⟩
    obtain ⟨nn, hn⟩ : ∃ k : Nat, nNano s n = (k : Int) := ⟨(nNano s n).toNat, by have := nNano_in s n; omega⟩
    obtain ⟨y, m, d, hd⟩ := isDate_ex ((R : Int) / 86400 - 719528)
    have hb := dn_in hd.1
    rw [hd.2] at hb
    have hy0 : 0 ≤ y := by
      rcases Int.lt_or_le y 0 with q | q
      · have h1 := dby_mono (y + 1) 0 (by omega)
        have h2 : dby 0 = -719528 := by decide
        omega
      · exact q
    have hm := hd.1.1
    have hdd := hd.1.2.2.1
    refine ⟨some (textD y.toNat m.toNat d.toNat (R % 86400) nn), Or.inr ⟨R, nn, y.toNat, m.toNat, d.toNat, hR, by omega, hn, ?_, rfl⟩⟩
    rw [show ((y.toNat : Nat) : Int) = y by omega, show ((m.toNat : Nat) : Int) = m by omega, show ((d.toNat : Nat) : Int) = d by omega]
    exact hd

/-- What is asked of package stamp. -/
structure StampOK : Prop where
  parse : ∀ (s : ByteArray) (w : World) (a : Addr), s.size ≤ 9223372036854775807 → Sent w a → Calls Tryd.prog 9 #[.string s] w fun e w' => e = .returned (parE a (parseT s)) ∧ Below w.heap.size w w'
  text : ∀ (s n : Int) (r : Option (List UInt8)) (w : World) (a : Addr), inI s → inI n → isText s n r → Sent w a → Calls Tryd.prog 8 #[iv s n] w fun e w' => e = .returned (texE a r) ∧ Below w.heap.size w w'
  cmp : ∀ (s n s' n' : Int) (w : World), inI s → inI n → inI s' → inI n' → Calls Tryd.prog 6 #[iv s n, iv s' n'] w fun e w' => e = .returned (.int .i64 (cmpI s n s' n')) ∧ Below w.heap.size w w'
  days : ∀ (y m d : Int) (w : World) (a : Addr), inI y → inI m → inI d → Sent w a → Calls Tryd.prog 10 #[.int .i64 y, .int .i64 m, .int .i64 d] w fun e w' =>
    e = .returned (if isD y m d ∧ -999999 ≤ y ∧ y ≤ 999999 then .tuple #[.int .i64 (dn y m d), .nilIface] else .tuple #[.int .i64 0, eT a]) ∧ Below w.heap.size w w'
def NormOK : Prop := ∀ (s n : Int) (w : World), inI s → inI n → Calls Tryd.prog 7 #[iv s n] w fun e w' => e = .returned (iv (nSec s n) (nNano s n)) ∧ Below w.heap.size w w'
def DateOK : Prop := ∀ (n y m d : Int) (w : World) (a : Addr), inI n → isDate n y m d → Sent w a → Calls Tryd.prog 15 #[.int .i64 n] w fun e w' => e = .returned (dateE a y m d) ∧ Below w.heap.size w w'

def ex1 : ByteArray := ⟨#[50, 48, 50, 54, 45, 49, 49, 45, 49, 53, 84, 49, 50, 58, 51, 48, 58, 48, 53, 46, 50, 53, 43, 48, 49, 58, 51, 48]⟩
theorem ex1_is : parseT ex1 = some (1794740405, 250000000) := by decide
def ex2 : ByteArray := ⟨#[50, 48, 50, 51, 45, 48, 50, 45, 50, 57, 84, 48, 48, 58, 48, 48, 58, 48, 48, 90]⟩
theorem ex2_is : parseT ex2 = none := by decide
theorem ex3_is : isText (-1) 500000000 (some [49, 57, 54, 57, 45, 49, 50, 45, 51, 49, 84, 50, 51, 58, 53, 57, 58, 53, 57, 46, 53, 90]) := by
  refine Or.inr ⟨62167219199, 500000000, 1969, 12, 31, by decide, by decide, by decide, ⟨by decide, by decide⟩, by decide⟩
end Go.Proofs.YtemcilikchlaiabDoor.st
