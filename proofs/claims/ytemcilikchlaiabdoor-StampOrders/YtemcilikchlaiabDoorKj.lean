/- What the error's variable and the library's table hold. -/
import Derived.Test.YtemcilikchlaiabDoorKf
import Derived.LaidEql
import Derived.Lib.AppendIntMem
namespace Go.Proofs.YtemcilikchlaiabDoor.st
open Go.RowKit

def Pow (w : World) : Prop := Lib.TabIs Tryd.prog w "internal/strconv.uint64pow10" .u64 Lib.pow10Tab
theorem Pow.keep {w w' : World} (h : Pow w) (hb : Below w.heap.size w w') : Pow w' := Lib.tabBelow_of_tabIs h w' hb
/-- What the variables hold: a pointer to a block that isn't frozen; a table of the library's. -/
structure Sent (w : World) (a : Addr) : Prop where
  n : w.cell? ⟨0, 0, none⟩ = some (.iface 127 (.pointer (some a)))
  la : ∃ c t, w.heap[a.block]? = some (.cells c t (0, 0))
  tb : Pow w
def eT (a : Addr) : Value := .iface 127 (.pointer (some a))
theorem cell_lt {w : World} {b o : Nat} {v : Value} (h : w.cell? ⟨b, o, none⟩ = some v) : b < w.heap.size := by
  rcases Nat.lt_or_ge b w.heap.size with h' | h'
  · exact h'
  · simp [World.cell?, Array.getElem?_eq_none h'] at h
theorem keepC {W w1 : World} (hb : Below W.heap.size W w1) {b o : Nat} {v : Value} (h : W.cell? ⟨b, o, none⟩ = some v) : w1.cell? ⟨b, o, none⟩ = some v := by
  rw [hb.cell (p := ⟨b, o, none⟩) (cell_lt h)]; exact h
theorem Sent.keep {w w' : World} {a : Addr} (h : Sent w a) (hb : Below w.heap.size w w') : Sent w' a := by
  obtain ⟨ca, ta, ha⟩ := h.la
  have hlt : a.block < w.heap.size := by
    rcases Nat.lt_or_ge a.block w.heap.size with q | q
    · exact q
    · rw [Array.getElem?_eq_none q] at ha; cases ha
  exact ⟨keepC hb h.n, ⟨ca, ta, (hb.block _ hlt).trans ha⟩, h.tb.keep hb⟩
theorem Sent.alloc {w : World} {a : Addr} (h : Sent w a) (o : Obj) : Sent (w.alloc o) a := h.keep ((Below.refl _ _).alloc (Nat.le_refl _) o)

def inI (x : Int) : Prop := -9223372036854775808 ≤ x ∧ x ≤ 9223372036854775807
end Go.Proofs.YtemcilikchlaiabDoor.st
