/- DecWholes: it answers true, whatever the two numbers, of a bounded length. -/
import Derived.Test.YtgmjllkkgapjcaaDoorFw
namespace Go.Proofs.YtgmjllkkgapjcaaDoor.rd
open Go.RowKit

theorem keepDw {b0 : Nat} {v0 v1 v2 : Value} {W w1 : World} (hb : Below W.heap.size W w1)
    (h : W.cell? ⟨b0, 0, none⟩ = some v0 ∧ W.cell? ⟨b0, 1, none⟩ = some v1 ∧ W.cell? ⟨b0, 2, none⟩ = some v2) :
    w1.cell? ⟨b0, 0, none⟩ = some v0 ∧ w1.cell? ⟨b0, 1, none⟩ = some v1 ∧ w1.cell? ⟨b0, 2, none⟩ = some v2 := by
  obtain ⟨c0, c1, c2⟩ := h
  exact ⟨keepC hb c0, keepC hb c1, keepC hb c2⟩

set_option maxRecDepth 100000 in
set_option maxHeartbeats 3200000 in
theorem decWholes_any (v : Int) (d : Dn) (eN eX : Value) (w : World) (hs : d.dg.size ≤ 1048576) (hv0 : -9223372036854775808 ≤ v) (hv1 : v ≤ 9223372036854775807) (h0 : -9223372036854775808 ≤ d.ex) (h1 : d.ex ≤ 9223372036854775807) (hp : Pow w) (hv : Vars w eN eX) :
    Calls Tryd.prog 6 #[.int .i64 v, dv d] w fun e w' => e = .returned (.bool true) ∧ Below w.heap.size w w' := by
  have c0 := fun w (h : Vars w eN eX) => awake_any eN eX w (cell_lt h.n) h.n (cell_lt h.x) h.x
  have c1 := fun w h => of_any v w hv0 hv1 h
  have c2 := fun w => int_any d w (by omega) h0 h1
  have c3 := fun w => floor_any d w (by omega) h0 h1
  have c4 := fun w => rint_any d w hs h0 h1
  have c5 := fun w => rfloor_any d w hs h0 h1
  obtain ⟨o1, o2, o3⟩ := ofN_size v hv0 hv1
  have c6 := fun w => int_any (ofN v) w (by omega) (by omega) (by omega)
  rw [int_of v hv0 hv1] at c6
  have c7 := fun w h => rof_any v w hv0 hv1 h
  generalize ofN v = o at *
  generalize intV (norm d) = X at *
  generalize flo (norm d) = Y at *
  obtain ⟨dn, dg, dx⟩ := d
  obtain ⟨on, og, ox⟩ := o
  obtain ⟨xi, xb⟩ := X
  obtain ⟨yi, yb⟩ := Y
  simp only [dv] at c1 c2 c3 c4 c5 c6 c7 ⊢
  have C0 := hide c0
  have C1 := hide c1
  have C2 := hide c2
  have C3 := hide c3
  have C4 := hide c4
  have C5 := hide c5
  have C6 := hide c6
  have C7 := hide c7
  have HP := hide hp
  have HV := hide hv
  clear c0 c1 c2 c3 c4 c5 c6 c7 hp hv hs h0 h1 hv0 hv1 o1 o2 o3
  go_enter Tryd.func6, Tryd.ntmps6
  go_wp2_with fail
  have B0 : Below w.heap.size w (w.alloc (.cells #[.bool dn, .string dg, .int .i64 dx] 23)) := (Below.refl _ _).alloc (Nat.le_refl _) _
  have l0 := dlies_new w ⟨dn, dg, dx⟩
  refine (unhide C0 _ ((unhide HV).keep B0)).mono ?_
  rintro e w1 ⟨rfl, h1⟩
  have l1 := l0.below h1 (blk_lt l0)
  have B1 : Below w.heap.size w w1 := B0.trans (h1.mono B0.size)
  clear h1 l0 B0
  go_wp2_with fail
  refine (unhide C1 _ ((unhide HP).keep B1)).mono ?_
  rintro e w2 ⟨rfl, h2⟩
  have l2 := l1.below h2 (blk_lt l1)
  have B2 : Below w.heap.size w w2 := B1.trans (h2.mono B1.size)
  have z2 : w.heap.size < w2.heap.size := blk_lt l2
  obtain ⟨x0, x1, x2⟩ := l2.cells
  simp only at x0 x1 x2
  have B2' : Below w.heap.size w (w2.alloc (.cells #[.bool on, .string og, .int .i64 ox] 23)) := B2.alloc B2.size _
  have l2' := l2.alloc (.cells #[.bool on, .string og, .int .i64 ox] 23)
  have m2 := dlies_new w2 ⟨on, og, ox⟩
  clear h2 l1 B1 l2 B2
  go_wp2_with fail
  refine (unhide C2 _).mono ?_
  rintro e w3 ⟨rfl, h3⟩
  have l3 := l2'.below h3 (blk_lt l2')
  have m3 := m2.below h3 (blk_lt m2)
  have B3 : Below w.heap.size w w3 := B2'.trans (h3.mono B2'.size)
  clear h3 l2' m2 B2' x0 x1 x2
  obtain ⟨x0, x1, x2⟩ := l3.cells
  simp only at x0 x1 x2
  go_wp2_with fail
  refine (unhide C3 _).mono ?_
  rintro e w4 ⟨rfl, h4⟩
  have l4 := l3.below h4 (blk_lt l3)
  have m4 := m3.below h4 (blk_lt m3)
  have B4 : Below w.heap.size w w4 := B3.trans (h4.mono B3.size)
  clear h4 l3 m3 B3 x0 x1 x2
  obtain ⟨x0, x1, x2⟩ := l4.cells
  simp only at x0 x1 x2
  go_wp2_with fail
  refine (unhide C4 _).mono ?_
  rintro e w5 ⟨rfl, h5⟩
  have l5 := l4.below h5 (blk_lt l4)
  have m5 := m4.below h5 (blk_lt m4)
  have B5 : Below w.heap.size w w5 := B4.trans (h5.mono B4.size)
  clear h5 l4 m4 B4 x0 x1 x2
  obtain ⟨x0, x1, x2⟩ := l5.cells
  simp only at x0 x1 x2
  go_wp2_with fail
  refine (unhide C5 _).mono ?_
  rintro e w6 ⟨rfl, h6⟩
  have m6 := m5.below h6 (blk_lt m5)
  have B6 : Below w.heap.size w w6 := B5.trans (h6.mono B5.size)
  clear h6 l5 m5 B5 x0 x1 x2
  obtain ⟨x0, x1, x2⟩ := m6.cells
  simp only at x0 x1 x2
  go_wp2_with fail
  refine (unhide C6 _).mono ?_
  rintro e w7 ⟨rfl, h7⟩
  have m7 := m6.below h7 (blk_lt m6)
  have B7 : Below w.heap.size w w7 := B6.trans (h7.mono B6.size)
  clear h7 m6 B6 x0 x1 x2
  obtain ⟨x0, x1, x2⟩ := m7.cells
  simp only at x0 x1 x2
  have B7h := hide B7
  clear B7
  go_wp2_with fail
  go_region_held3 (fun w' => w'.cell? ⟨w2.heap.size, 0, none⟩ = some (.bool on) ∧ w'.cell? ⟨w2.heap.size, 1, none⟩ = some (.string og) ∧ w'.cell? ⟨w2.heap.size, 2, none⟩ = some (.int .i64 ox)) (((try dsimp only); (repeat' apply And.intro); all_goals first | (go_keep; done) | (simp; omega))) (first
    | (go_at_call 23; refine (unhide C7 _ ((unhide HP).keep (by repeat (first | exact B7h.out | apply Below.drew)))).mono ?_; rintro e w8 ⟨rfl, hb8⟩; obtain ⟨k0, k1, k2⟩ := keepDw (b0 := w2.heap.size) (v0 := .bool on) (v1 := .string og) (v2 := .int .i64 ox) hb8 (by first | assumption | go_keep); have B8 : Hid (Below w.heap.size w w8) := (by refine Below.trans ?_ (hb8.mono (by first | exact B7h.out.size | (simp; omega) | omega)); repeat (first | exact B7h.out | apply Below.drew)); clear hb8))
  all_goals go_wp2
  all_goals go_ret
  all_goals exact ⟨rfl, B8.out⟩
end Go.Proofs.YtgmjllkkgapjcaaDoor.rd
