/- Package rule: operators. -/
import Derived.Test.YthpnclhfooileaaGreatDoorHg
import Derived.Deep.Cut
namespace Go.Proofs.YthpnclhfooileaaGreatDoor.ru
open Go.RowKit

theorem al_old (w : World) (o : Obj) {k : Nat} {b : Obj} (h : w.heap[k]? = some b) : (w.alloc o).heap[k]? = some b := by
  rw [Below.heap_alloc _ _ _ (blk_lt h)]; exact h
theorem al_new (w : World) (c : Array Value) (t : TypeId) {k : Nat} (h : w.heap.size = k) : (w.alloc (.cells c t)).heap[k]? = some (.cells c t (0, 0)) := by
  subst h; exact Array.getElem?_push_size
/-- The seven blocks ahead of the region. -/
def W7 (w : World) (c0 c1 c2 c3 c4 c5 c6 : Array Value) (t k : TypeId) : World := ((((((w.alloc (.cells c0 t)).alloc (.cells c1 k)).alloc (.cells c2 t)).alloc (.cells c3 k)).alloc (.cells c4 t)).alloc (.cells c5 k)).alloc (.cells c6 k)
theorem W7_size (w : World) (c0 c1 c2 c3 c4 c5 c6 : Array Value) (t k : TypeId) : (W7 w c0 c1 c2 c3 c4 c5 c6 t k).heap.size = w.heap.size + 7 := by
  unfold W7; simp only [World.size_alloc]
theorem W7_1 (w : World) (c0 c1 c2 c3 c4 c5 c6 : Array Value) (t k : TypeId) : (W7 w c0 c1 c2 c3 c4 c5 c6 t k).heap[w.heap.size + 1]? = some (.cells c1 k (0, 0)) := by
  unfold W7
  exact al_old _ _ (al_old _ _ (al_old _ _ (al_old _ _ (al_old _ _ (al_new _ _ _ (by simp only [World.size_alloc]))))))
theorem W7_2 (w : World) (c0 c1 c2 c3 c4 c5 c6 : Array Value) (t k : TypeId) : (W7 w c0 c1 c2 c3 c4 c5 c6 t k).heap[w.heap.size + 2]? = some (.cells c2 t (0, 0)) := by
  unfold W7
  exact al_old _ _ (al_old _ _ (al_old _ _ (al_old _ _ (al_new _ _ _ (by simp only [World.size_alloc])))))
theorem W7_3 (w : World) (c0 c1 c2 c3 c4 c5 c6 : Array Value) (t k : TypeId) : (W7 w c0 c1 c2 c3 c4 c5 c6 t k).heap[w.heap.size + 3]? = some (.cells c3 k (0, 0)) := by
  unfold W7
  exact al_old _ _ (al_old _ _ (al_old _ _ (al_new _ _ _ (by simp only [World.size_alloc]))))
theorem W7_5 (w : World) (c0 c1 c2 c3 c4 c5 c6 : Array Value) (t k : TypeId) : (W7 w c0 c1 c2 c3 c4 c5 c6 t k).heap[w.heap.size + 5]? = some (.cells c5 k (0, 0)) := by
  unfold W7
  exact al_old _ _ (al_new _ _ _ (by simp only [World.size_alloc]))
theorem W7_6 (w : World) (c0 c1 c2 c3 c4 c5 c6 : Array Value) (t k : TypeId) : (W7 w c0 c1 c2 c3 c4 c5 c6 t k).heap[w.heap.size + 6]? = some (.cells c6 k (0, 0)) := by
  unfold W7
  exact al_new _ _ _ (by simp only [World.size_alloc])
theorem W7_below (w : World) (c0 c1 c2 c3 c4 c5 c6 : Array Value) (t k : TypeId) : Below w.heap.size w (W7 w c0 c1 c2 c3 c4 c5 c6 t k) := by
  have hz : ∀ u : World, w.heap.size ≤ u.heap.size → ∀ o, Below w.heap.size w u → Below w.heap.size w (u.alloc o) ∧ w.heap.size ≤ (u.alloc o).heap.size := fun u h o hb => ⟨hb.alloc h _, by rw [World.size_alloc]; omega⟩
  obtain ⟨b0, z0⟩ := hz w (Nat.le_refl _) (.cells c0 t) (Below.refl _ _)
  obtain ⟨b1, z1⟩ := hz _ z0 (.cells c1 k) b0
  obtain ⟨b2, z2⟩ := hz _ z1 (.cells c2 t) b1
  obtain ⟨b3, z3⟩ := hz _ z2 (.cells c3 k) b2
  obtain ⟨b4, z4⟩ := hz _ z3 (.cells c4 t) b3
  obtain ⟨b5, z5⟩ := hz _ z4 (.cells c5 k) b4
  exact (hz _ z5 (.cells c6 k) b5).1
theorem WR_row (n : Nat) (x : World) (h : x.heap.size = n + 7) : (WR n x).heap[n + 8]? = some (.cells (rowC n) 53 (0, 0)) := al_new _ _ _ (by unfold WC; rw [World.size_alloc, h])

set_option maxRecDepth 100000 in
set_option maxHeartbeats 3200000 in
theorem operators_any (w : World) : Calls Tryz.prog 14 #[] w fun e w' => e = .returned (.slice (some ⟨w.heap.size + 8, 0, none⟩) 43 43) ∧ OpsW w.heap.size w w' := by
  have CO := hide ofKind_any
  unfold okF at CO
  go_enter Tryz.func14, Tryz.ntmps14
  go_upto_region 5 with (go_at_call 22; refine (unhide CO _ _).mono ?_; rintro e w' ⟨rfl, rfl⟩)
  generalize hW : World.alloc _ _ = x
  have hx : x = W7 w #[.int .i64 3] #[okF w.heap.size, pl 23] #[.int .i64 2] #[okF (w.heap.size + 2), pl 24] #[.int .i64 1] #[okF (w.heap.size + 4), pl 25] #[pl 26, pl 27] 3 74 := hW.symm
  clear hW
  have hz : x.heap.size = w.heap.size + 7 := by rw [hx]; exact W7_size _ _ _ _ _ _ _ _ _ _
  have g1 := (congrArg (fun u : World => u.heap[w.heap.size + 1]?) hx).trans (W7_1 w _ _ _ _ _ _ _ _ _)
  have g2 := (congrArg (fun u : World => u.heap[w.heap.size + 2]?) hx).trans (W7_2 w _ _ _ _ _ _ _ _ _)
  have g3 := (congrArg (fun u : World => u.heap[w.heap.size + 3]?) hx).trans (W7_3 w _ _ _ _ _ _ _ _ _)
  have g5 := (congrArg (fun u : World => u.heap[w.heap.size + 5]?) hx).trans (W7_5 w _ _ _ _ _ _ _ _ _)
  have g6 := (congrArg (fun u : World => u.heap[w.heap.size + 6]?) hx).trans (W7_6 w _ _ _ _ _ _ _ _ _)
  have hb : Below w.heap.size w x := by rw [hx]; exact W7_below _ _ _ _ _ _ _ _ _ _
  have X : X0 w.heap.size x.drew := ⟨hz, blk_cell g1 0, blk_cell g1 1, blk_cell g3 0, blk_cell g3 1, blk_cell g5 0, blk_cell g5 1, blk_cell g6 0, blk_cell g6 1⟩
  refine region5 (n := w.heap.size) (by kernel_rfl) X rfl rfl rfl rfl rfl rfl ?_
  intro a' hd h0
  refine ‹∀ (a : Act) (w : World), Code.wp Tryz.prog _ _ a w → _› _ _ ?_
  refine wp_ret ?_
  refine bodyPost_ret (results_tmp rfl _ _ _) hd ⟨congrArg _ h0, WR_row _ _ hz, ?_, ?_⟩
  · exact keepC' (WR_below _ _) (blk_cell (w := x.drew) g2 0)
  · exact (hb.drew).trans ((WR_below _ _).mono (by show w.heap.size ≤ x.heap.size; omega))
end Go.Proofs.YthpnclhfooileaaGreatDoor.ru
