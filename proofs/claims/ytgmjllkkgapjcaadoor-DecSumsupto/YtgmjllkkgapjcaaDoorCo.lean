/- The contracts of the law's code: the number of an error. -/
import Derived.Test.YtgmjllkkgapjcaaDoorPq
import Derived.Test.YtgmjllkkgapjcaaDoorDf
import Derived.LaidEql
namespace Go.Proofs.YtgmjllkkgapjcaaDoor.rd
open Go.RowKit

/-- What the two variables hold: two pointers that differ, to blocks that aren't frozen. -/
structure Sents (w : World) (a b : Addr) : Prop where
  n : w.cell? ⟨0, 0, none⟩ = some (.iface 137 (.pointer (some a)))
  x : w.cell? ⟨1, 0, none⟩ = some (.iface 137 (.pointer (some b)))
  ne : a ≠ b
  la : ∃ c t, w.heap[a.block]? = some (.cells c t (0, 0))
  lb : ∃ c t, w.heap[b.block]? = some (.cells c t (0, 0))
def eNo (a : Addr) : Value := .iface 137 (.pointer (some a))
theorem Sents.keep {w w' : World} {a b : Addr} (h : Sents w a b) (hb : Below w.heap.size w w') : Sents w' a b := by
  obtain ⟨ca, ta, ha⟩ := h.la
  obtain ⟨cb, tb, hc⟩ := h.lb
  exact ⟨keepC hb h.n, keepC hb h.x, h.ne, ⟨ca, ta, (hb.block _ (blk_lt ha)).trans ha⟩, ⟨cb, tb, (hb.block _ (blk_lt hc)).trans hc⟩⟩
theorem Sents.vars {w : World} {a b : Addr} (h : Sents w a b) : Vars w (eNo a) (eNo b) := ⟨h.n, h.x⟩

theorem infoP : (Tryd.prog.info? 137).map (fun i => i.comparable) = some true := by kernel_rfl
theorem infoE : (Tryd.prog.info? 151).map (fun i => i.size) = some 1 := by kernel_rfl

theorem eql_same (w : World) (a : Addr) : (binOp .eql 29 (.iface 137 (.pointer (some a))) (.iface 137 (.pointer (some a)))).run Tryd.prog w = .ok (.bool true) w := by
  have hi := infoP
  have hj := infoE
  cases h1 : Tryd.prog.info? 137 with
  | none => rw [h1] at hi; cases hi
  | some i =>
    cases h2 : Tryd.prog.info? 151 with
    | none => rw [h2] at hj; cases hj
    | some j =>
      rw [h1] at hi
      exact run_eql_iface_ptr_same w a Tryd.underlying29 Tryd.underlying137 h1 (by simpa using hi) h2
theorem eql_other (w : World) {a b : Addr} (hne : a ≠ b) (la : ∃ c t, w.heap[a.block]? = some (.cells c t (0, 0))) (lb : ∃ c t, w.heap[b.block]? = some (.cells c t (0, 0))) :
    (binOp .eql 29 (.iface 137 (.pointer (some a))) (.iface 137 (.pointer (some b)))).run Tryd.prog w = .ok (.bool false) w := by
  obtain ⟨ca, ta, ha⟩ := la
  obtain ⟨cb, tb, hb⟩ := lb
  have hi := infoP
  have hj := infoE
  cases h1 : Tryd.prog.info? 137 with
  | none => rw [h1] at hi; cases hi
  | some i =>
    cases h2 : Tryd.prog.info? 151 with
    | none => rw [h2] at hj; cases hj
    | some j =>
      rw [h1] at hi
      rw [h2] at hj
      have hj' : j.size = 1 := by simpa using hj
      exact run_eql_iface_ptr_other w Tryd.underlying29 Tryd.underlying137 h1 (by simpa using hi) h2 (by omega) hne ha hb

theorem code_nil (w : World) : Calls Tryd.prog 38 #[.nilIface] w fun e w' => e = .returned (.int .i64 0) ∧ w' = w := by
  go_enter Tryd.func38, Tryd.ntmps38
  go_wp2
  go_ret
  exact ⟨rfl, rfl⟩

set_option maxRecDepth 100000 in
theorem code_num (a b : Addr) (w : World) (hv : Sents w a b) : Calls Tryd.prog 38 #[eNo a] w fun e w' => e = .returned (.int .i64 3) ∧ w' = w := by
  have hN := hv.n
  have h1 := eql_same w a
  unfold eNo
  clear hv
  go_enter Tryd.func38, Tryd.ntmps38
  go_wp2
  go_ret
  exact ⟨rfl, rfl⟩

set_option maxRecDepth 100000 in
theorem code_exp (a b : Addr) (w : World) (hv : Sents w a b) : Calls Tryd.prog 38 #[eNo b] w fun e w' => e = .returned (.int .i64 4) ∧ w' = w := by
  have hN := hv.n
  have hX := hv.x
  have h1 := eql_other w hv.ne.symm hv.lb hv.la
  have h2 := eql_same w b
  unfold eNo
  clear hv
  go_enter Tryd.func38, Tryd.ntmps38
  go_wp2
  go_ret
  exact ⟨rfl, rfl⟩
end Go.Proofs.YtgmjllkkgapjcaaDoor.rd
