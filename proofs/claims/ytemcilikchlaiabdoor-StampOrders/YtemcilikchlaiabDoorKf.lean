/- The reference of package stamp: Norm and Cmp; a moment in its block. -/
import Derived.Test.YtemcilikchlaiabDoorKe
import Derived.Laws.StructEq
namespace Go.Proofs.YtemcilikchlaiabDoor.st
open Go.RowKit

/-- A moment as a value. -/
def iv (s n : Int) : Value := .agg #[.int .i64 s, .int .i64 n]
/-- A moment lies in block m. -/
def IL (w : World) (m : Nat) (s n : Int) : Prop := w.heap[m]? = some (.cells #[.int .i64 s, .int .i64 n] 23 (0, 0))
theorem IL.cells {w : World} {m : Nat} {s n : Int} (h : IL w m s n) : w.cell? ⟨m, 0, none⟩ = some (.int .i64 s) ∧ w.cell? ⟨m, 1, none⟩ = some (.int .i64 n) := ⟨blk_cell h 0, blk_cell h 1⟩
theorem IL.frees {w : World} {m : Nat} {s n : Int} (h : IL w m s n) : w.frozen? ⟨m, 0, none⟩ = false ∧ w.frozen? ⟨m, 1, none⟩ = false := ⟨blk_free h 0, blk_free h 1⟩
theorem IL.set {w : World} {m : Nat} {s n : Int} (h : IL w m s n) (a b : Int) : IL ((w.setCell ⟨m, 0, none⟩ (.int .i64 a)).setCell ⟨m, 1, none⟩ (.int .i64 b)) m a b := blk_set (blk_set h 0 _) 1 _
theorem IL.below {B : Nat} {w w' : World} {m : Nat} {s n : Int} (h : IL w m s n) (hb : Below B w w') (hm : m < B) : IL w' m s n := (hb.block m hm).trans h
theorem IL.lt {w : World} {m : Nat} {s n : Int} (h : IL w m s n) : m < w.heap.size := by
  rcases Nat.lt_or_ge m w.heap.size with q | q
  · exact q
  · unfold IL at h; rw [Array.getElem?_eq_none q] at h; cases h
theorem IL.alloc {w : World} {m : Nat} {s n : Int} (h : IL w m s n) (o : Obj) : IL (w.alloc o) m s n := (Below.heap_alloc w o m h.lt).trans h
theorem IL.new (w : World) (s n : Int) : IL (w.alloc (.cells #[.int .i64 s, .int .i64 n] 23)) w.heap.size s n := by
  show (w.heap.push _)[w.heap.size]? = _
  rw [Array.getElem?_push_size]
theorem below2 {B : Nat} {a w : World} (h : Below B a w) {m : Nat} (hB : B ≤ m) (u v : Value) : Below B a ((w.setCell ⟨m, 0, none⟩ u).setCell ⟨m, 1, none⟩ v) :=
  (h.setCell hB _).setCell hB _

theorem norm_of (s n c m : Int) (h : n = c * 1000000000 + m) (h0 : 0 ≤ m) (h1 : m < 1000000000) :
    (9223372036854775807 < s + c → nSec s n = 9223372036854775807 ∧ nNano s n = 999999999) ∧ (s + c < -9223372036854775808 → nSec s n = -9223372036854775808 ∧ nNano s n = 0) ∧
    (-9223372036854775808 ≤ s + c → s + c ≤ 9223372036854775807 → nSec s n = s + c ∧ nNano s n = m) := by
  have ht : tot s n = (s + c) * 1000000000 + m := by unfold tot; omega
  unfold nSec nNano
  rw [ht]
  generalize s + c = k
  refine ⟨fun q => ?_, fun q => ?_, fun q q2 => ?_⟩
  · rw [if_pos (by omega), if_pos (by omega)]; exact ⟨rfl, rfl⟩
  · rw [if_neg (by omega), if_pos (by omega), if_neg (by omega), if_pos (by omega)]; exact ⟨rfl, rfl⟩
  · rw [if_neg (by omega), if_neg (by omega), if_neg (by omega), if_neg (by omega)]
    omega
theorem t_parts (n : Int) : n = n.tdiv 1000000000 * 1000000000 + n.tmod 1000000000 ∧ -1000000000 < n.tmod 1000000000 ∧ n.tmod 1000000000 < 1000000000 ∧ (n.tmod 1000000000 < 0 → n < 0) := by
  have h3 : 0 ≤ n → 0 ≤ n.tmod 1000000000 := fun q => Int.tmod_nonneg _ q
  have h := Int.mul_tdiv_add_tmod n 1000000000
  have h1 := Int.tmod_lt_of_pos n (b := 1000000000) (by omega)
  have h2 := Int.lt_tmod_of_pos n (b := 1000000000) (by omega)
  omega

theorem hst : Tryd.prog.stoodInHeld 23 = false := by kernel_rfl
theorem eq_iv (w : World) (a b c d : Int) : (binOp .eql 23 (.agg #[.int .i64 a, .int .i64 b]) (.agg #[.int .i64 c, .int .i64 d])).run Tryd.prog w = .ok (.bool (a == c && b == d)) w := by
  rw [run_eql_struct, run_equalIn_struct _ _ _ _ _ (by kernel_rfl) hst]
  simp only [Program.fieldsOf, Tryd.underlying23, Op.eqFields]
  simp [go_sem, Tryd.underlying2, Tryd.underlying3]
  by_cases h : a = c
  · by_cases h2 : b = d
    · simp [h, h2]
    · simp [h, h2]
  · simp [h]
theorem neq_iv (w : World) (a b c d : Int) : (binOp .neq 23 (.agg #[.int .i64 a, .int .i64 b]) (.agg #[.int .i64 c, .int .i64 d])).run Tryd.prog w = .ok (.bool (!(a == c && b == d))) w := by
  rw [run_neq_struct, run_equalIn_struct _ _ _ _ _ (by kernel_rfl) hst]
  simp only [Program.fieldsOf, Tryd.underlying23, Op.eqFields]
  simp [go_sem, Tryd.underlying2, Tryd.underlying3]
  by_cases h : a = c
  · by_cases h2 : b = d
    · simp [h, h2]
    · simp [h, h2]
  · simp [h]

end Go.Proofs.YtemcilikchlaiabDoor.st
