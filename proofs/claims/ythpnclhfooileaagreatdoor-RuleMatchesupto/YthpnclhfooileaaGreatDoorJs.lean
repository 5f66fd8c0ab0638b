/- law7.awake answers true, if Eval and Match answer as is asked at its three calls. -/
import Derived.Test.YthpnclhfooileaaGreatDoorJi
import Derived.Test.YthpnclhfooileaaGreatDoorJr
import Derived.LaidEql
import Derived.Deep.RegionHeld3
namespace Go.Proofs.YthpnclhfooileaaGreatDoor.ru
open Go.RowKit

/-- What ErrPath's variable holds: a pointer to a block that isn't frozen. -/
structure SentP (w : World) (a : Addr) : Prop where
  n : w.cell? ⟨0, 0, none⟩ = some (.iface 178 (.pointer (some a)))
  la : ∃ c t, w.heap[a.block]? = some (.cells c t (0, 0))
def eP (a : Addr) : Value := .iface 178 (.pointer (some a))
theorem SentP.keep {w w' : World} {a : Addr} (h : SentP w a) (hb : Below w.heap.size w w') : SentP w' a := by
  obtain ⟨ca, ta, ha⟩ := h.la
  have hlt : a.block < w.heap.size := by
    rcases Nat.lt_or_ge a.block w.heap.size with q | q
    · exact q
    · rw [Array.getElem?_eq_none q] at ha; cases ha
  exact ⟨keepC' hb h.n, ca, ta, (hb.block _ hlt).trans ha⟩
theorem infoPE : (Tryz.prog.info? 178).map (fun i => i.comparable) = some true := by kernel_rfl
theorem infoEE : (Tryz.prog.info? 192).map (fun i => i.size) = some 1 := by kernel_rfl
theorem eql_sameE (w : World) (a : Addr) : (binOp .eql 38 (.iface 178 (.pointer (some a))) (.iface 178 (.pointer (some a)))).run Tryz.prog w = .ok (.bool true) w := by
  have hi := infoPE
  have hj := infoEE
  cases h1 : Tryz.prog.info? 178 with
  | none => rw [h1] at hi; cases hi
  | some i =>
    cases h2 : Tryz.prog.info? 192 with
    | none => rw [h2] at hj; cases hj
    | some j =>
      rw [h1] at hi
      exact run_eql_iface_ptr_same w a Tryz.underlying38 Tryz.underlying178 h1 (by simpa using hi) h2
/-- A step of one name in memory. -/
def StepAt (w : World) (sb : Nat) (nm : ByteArray) : Prop := w.cell? ⟨sb, 0, none⟩ = some (.string nm) ∧ w.cell? ⟨sb, 1, none⟩ = some (.int .i64 0) ∧ w.cell? ⟨sb, 2, none⟩ = some (.bool false)
theorem StepAt.keep {w w' : World} {sb : Nat} {nm : ByteArray} (h : StepAt w sb nm) (hb : Below w.heap.size w w') : StepAt w' sb nm := ⟨keepC' hb h.1, keepC' hb h.2.1, keepC' hb h.2.2⟩
/-- A field in memory: n, which is the number 3. -/
def FieldAt (w : World) (fb : Nat) : Prop := w.cell? ⟨fb, 0, none⟩ = some (.string ⟨#[110]⟩) ∧ ∀ j (h : j < 8), w.cell? ⟨fb, 1 + j, none⟩ = some ((nC false ⟨#[51]⟩ 0)[j]'h)
theorem FieldAt.keep {w w' : World} {fb : Nat} (h : FieldAt w fb) (hb : Below w.heap.size w w') : FieldAt w' fb := ⟨keepC' hb h.1, fun j hj => keepC' hb (h.2 j hj)⟩
def ruleV (sb : Nat) : Value := .agg #[.int .i64 15, .slice none 0 0, .bool true, .bool false, .bool false, .slice (some ⟨sb, 0, none⟩) 1 1, .int .i64 2, .bool false, .bool false, .string ⟨#[51]⟩, .int .i64 0, .string ⟨#[]⟩, .slice none 0 0, .slice none 0 0, .bool false, .bool false, .bool false, .slice none 0 0, .string ⟨#[]⟩]
/-- What is asked of Eval at awake's two rules. -/
structure EvalOK (G : World → Prop) (a : Addr) : Prop where
  yes : ∀ (sb fb : Nat) (w : World), G w → StepAt w sb ⟨#[110]⟩ → FieldAt w fb → Calls Tryz.prog 12 #[ruleV sb, objV fb 1, .agg z8] w fun e w' => e = .returned (.tuple #[.bool true, .nilIface]) ∧ Below w.heap.size w w'
  no : ∀ (sb fb : Nat) (w : World), G w → StepAt w sb ⟨#[113]⟩ → FieldAt w fb → Calls Tryz.prog 12 #[ruleV sb, objV fb 1, .agg z8] w fun e w' => e = .returned (.tuple #[.bool false, eP a]) ∧ Below w.heap.size w w'

theorem ret_at {m : Nat} (w : World) (sb : Nat) (h : w.heap[m]? = some (.cells #[.bool true, .bool false, .bool false, .slice (some ⟨sb, 0, none⟩) 1 1] 43 (0, 0))) (tmps : Array Value) (ht : tmps[2]?.getD undef = .pointer (some ⟨m, 0, none⟩)) :
    (results Tryz.f13 tmps).run Tryz.prog w = .ok (pathV sb 1) w := by
  have q0 : w.cell? ⟨m, 0, none⟩ = some (.bool true) := blk_cell h 0
  have q1 : w.cell? ⟨m, 1, none⟩ = some (.bool false) := blk_cell h 1
  have q2 : w.cell? ⟨m, 2, none⟩ = some (.bool false) := blk_cell h 2
  have q3 : w.cell? ⟨m, 3, none⟩ = some (.slice (some ⟨sb, 0, none⟩) 1 1) := blk_cell h 3
  simp [results, Tryz.results13, ht, go_sem, q0, q1, q2, q3, pathV]
theorem two_lo (w : World) (a b : Array Value) (t u : TypeId) : ((w.alloc (.cells a t)).alloc (.cells b u)).heap[w.heap.size]? = some (.cells a t (0, 0)) := by
  rw [Below.heap_alloc _ _ _ (by rw [World.size_alloc]; omega)]
  exact Array.getElem?_push_size
theorem two_hi (w : World) (a b : Array Value) (t u : TypeId) : ((w.alloc (.cells a t)).alloc (.cells b u)).heap[w.heap.size + 1]? = some (.cells b u (0, 0)) := by
  have := Array.getElem?_push_size (xs := (w.alloc (.cells a t)).heap) (x := (.cells b u (0, 0) : Obj))
  simp only [World.size_alloc] at this
  exact this
theorem two_below (w : World) (o o' : Obj) : Below w.heap.size w ((w.alloc o).alloc o') := ((Below.refl _ _).alloc (Nat.le_refl _) _).alloc (by rw [World.size_alloc]; omega) _
set_option maxRecDepth 100000 in
theorem at_any (nm : ByteArray) (w : World) : Calls Tryz.prog 13 #[.string nm] w fun e w' => ∃ sb, e = .returned (pathV sb 1) ∧ StepAt w' sb nm ∧ Below w.heap.size w w' := by
  go_enter Tryz.func13, Tryz.ntmps13
  go_wp2
  refine bodyPost_ret (ret_at (m := w.heap.size) _ (w.heap.size + 1) (two_lo w _ _ _ _) _ rfl) rfl ?_
  have hS := two_hi w #[.bool true, .bool false, .bool false, .slice (some ⟨w.heap.size + 1, 0, none⟩) 1 1] #[.string nm, .int .i64 0, .bool false] 43 70
  exact ⟨_, rfl, ⟨blk_cell hS 0, blk_cell hS 1, blk_cell hS 2⟩, two_below _ _ _⟩
end Go.Proofs.YthpnclhfooileaaGreatDoor.ru
