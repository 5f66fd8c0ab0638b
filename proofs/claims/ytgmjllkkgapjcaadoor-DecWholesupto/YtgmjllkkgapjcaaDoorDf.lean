/- DecForms: it answers true, whatever the number, where the texts are of a length that memory holds. -/
import Derived.Test.YtgmjllkkgapjcaaDoorTx
namespace Go.Proofs.YtgmjllkkgapjcaaDoor.rd
open Go.RowKit

theorem keepDf {b0 b1 : Nat} {v0 v1 v2 v3 v4 v5 : Value} {W w1 : World} (hb : Below W.heap.size W w1)
    (h : W.cell? ⟨b0, 0, none⟩ = some v0 ∧ W.cell? ⟨b0, 1, none⟩ = some v1 ∧ W.cell? ⟨b0, 2, none⟩ = some v2 ∧ W.cell? ⟨b1, 0, none⟩ = some v3 ∧ W.cell? ⟨b1, 1, none⟩ = some v4 ∧ W.cell? ⟨b1, 2, none⟩ = some v5) :
    w1.cell? ⟨b0, 0, none⟩ = some v0 ∧ w1.cell? ⟨b0, 1, none⟩ = some v1 ∧ w1.cell? ⟨b0, 2, none⟩ = some v2 ∧ w1.cell? ⟨b1, 0, none⟩ = some v3 ∧ w1.cell? ⟨b1, 1, none⟩ = some v4 ∧ w1.cell? ⟨b1, 2, none⟩ = some v5 := by
  obtain ⟨c0, c1, c2, c3, c4, c5⟩ := h
  exact ⟨keepC hb c0, keepC hb c1, keepC hb c2, keepC hb c3, keepC hb c4, keepC hb c5⟩

/-- What the package variables that are met hold. -/
structure Vars (w : World) (eN eX : Value) : Prop where
  n : w.cell? ⟨0, 0, none⟩ = some eN
  x : w.cell? ⟨1, 0, none⟩ = some eX
theorem Vars.keep {w w' : World} {eN eX : Value} (h : Vars w eN eX) (hb : Below w.heap.size w w') : Vars w' eN eX := ⟨keepC hb h.n, keepC hb h.x⟩

set_option maxRecDepth 100000 in
set_option maxHeartbeats 3200000 in
theorem decForms_any (d : Dn) (eN eX : Value) (w : World) (hs : d.dg.size ≤ 1099511627776) (h0 : -9223372036854775808 ≤ d.ex) (h1 : d.ex ≤ 9223372036854775807) (hp : Pow w) (hv : Vars w eN eX) :
    Calls Tryd.prog 3 #[dv d] w fun e w' => e = .returned (.bool true) ∧ Below w.heap.size w w' := by
  have c0 := fun w (h : Vars w eN eX) => awake_any eN eX w (cell_lt h.n) h.n (cell_lt h.x) h.x
  have c1 := fun w => norm_any d w (by omega) h0 h1
  have c2 := fun w h => text_any d w hs h0 h1 h
  have c3 := fun w => rnorm_any d w hs h0 h1
  have c4 := fun w h => rtext_any d w hs h0 h1 h
  obtain ⟨n, g, x⟩ := d
  generalize norm ⟨n, g, x⟩ = r at *
  generalize textOf r = tx at *
  obtain ⟨rn, rg, rx⟩ := r
  simp only [dv] at c1 c2 c3 c4 ⊢
  have C0 := hide c0
  have C1 := hide c1
  have C2 := hide c2
  have C3 := hide c3
  have C4 := hide c4
  have HP := hide hp
  have HV := hide hv
  clear c0 c1 c2 c3 c4 hp hv hs h0 h1
  go_enter Tryd.func3, Tryd.ntmps3
  go_wp2_with fail
  refine (unhide C0 _ ((unhide HV).keep ((Below.refl _ _).alloc (Nat.le_refl _) _))).mono ?_
  rintro e w1 ⟨rfl, hb1⟩
  have l1 : DLies w1 w.heap.size ⟨n, g, x⟩ := (dlies_new w ⟨n, g, x⟩).below hb1 (by simp)
  have B1 := hide (show Below w.heap.size w w1 from ((Below.refl _ _).alloc (Nat.le_refl _) _).trans (hb1.mono (by simp)))
  obtain ⟨x0, x1, x2⟩ := l1.cells
  simp only at x0 x1 x2
  clear hb1
  go_wp2_with fail
  refine (unhide C1 _).mono ?_
  rintro e w2 ⟨rfl, hb2⟩
  have l2 : DLies w2 w.heap.size ⟨n, g, x⟩ := l1.below hb2 (blk_lt l1)
  have B2 := hide (show Below w.heap.size w w2 from (unhide B1).trans (hb2.mono (unhide B1).size))
  have z2 : w.heap.size < w2.heap.size := blk_lt l2
  obtain ⟨y0, y1, y2⟩ := l2.cells
  simp only at y0 y1 y2
  clear hb2 x0 x1 x2 l1
  go_wp2_with fail
  have l3 : DLies (w2.alloc (.cells #[.bool rn, .string rg, .int .i64 rx] 23)) w.heap.size ⟨n, g, x⟩ := l2.alloc _
  have B3 := hide (show Below w.heap.size w (w2.alloc (.cells #[.bool rn, .string rg, .int .i64 rx] 23)) from (unhide B2).alloc (by omega) _)
  refine (unhide C2 _ ((unhide HP).keep (unhide B3))).mono ?_
  rintro e w3 ⟨rfl, hb3⟩
  have l4 : DLies w3 w.heap.size ⟨n, g, x⟩ := l3.below hb3 (blk_lt l3)
  have m4 : DLies w3 w2.heap.size ⟨rn, rg, rx⟩ := (dlies_new w2 ⟨rn, rg, rx⟩).below hb3 (by simp)
  have B4 := hide (show Below w.heap.size w w3 from (unhide B3).trans (hb3.mono (unhide B3).size))
  have z4 : w.heap.size < w3.heap.size := blk_lt l4
  obtain ⟨u0, u1, u2⟩ := l4.cells
  obtain ⟨v0, v1, v2⟩ := m4.cells
  simp only at u0 u1 u2 v0 v1 v2
  clear hb3 y0 y1 y2 l2 l3 l4 m4
  go_wp2_with fail
  go_region_held3 (fun w' => w'.cell? ⟨w.heap.size, 0, none⟩ = some (.bool n) ∧ w'.cell? ⟨w.heap.size, 1, none⟩ = some (.string g) ∧ w'.cell? ⟨w.heap.size, 2, none⟩ = some (.int .i64 x) ∧ w'.cell? ⟨w2.heap.size, 0, none⟩ = some (.bool rn) ∧ w'.cell? ⟨w2.heap.size, 1, none⟩ = some (.string rg) ∧ w'.cell? ⟨w2.heap.size, 2, none⟩ = some (.int .i64 rx)) (((try dsimp only); (repeat' apply And.intro); all_goals first | (go_keep; done) | (simp; omega))) (first
    | (go_at_call 11; refine (unhide C3 _).mono ?_; rintro e w4 ⟨rfl, hb4⟩; obtain ⟨k0, k1, k2, k3, k4, k5⟩ := keepDf (b0 := w.heap.size) (b1 := w2.heap.size) (v0 := .bool n) (v1 := .string g) (v2 := .int .i64 x) (v3 := .bool rn) (v4 := .string rg) (v5 := .int .i64 rx) hb4 (by first | assumption | go_keep); have B5 : Hid (Below w.heap.size w w4) := (by refine Below.trans ?_ (hb4.mono (by first | (simp; omega) | omega)); repeat (first | exact unhide B4 | apply Below.drew)); have z5 : w.heap.size ≤ w4.heap.size := (unhide B5).size; clear hb4)
    | (go_at_call 12; refine (unhide C4 _ ((unhide HP).keep (by repeat (first | exact B5.out | apply Below.drew)))).mono ?_; rintro e w5 ⟨rfl, hb5⟩; obtain ⟨m0, m1, m2, m3, m4, m5⟩ := keepDf (b0 := w.heap.size) (b1 := w2.heap.size) (v0 := .bool n) (v1 := .string g) (v2 := .int .i64 x) (v3 := .bool rn) (v4 := .string rg) (v5 := .int .i64 rx) hb5 (by first | assumption | go_keep); have B6 : Hid (Below w.heap.size w w5) := (by refine Below.trans ?_ (hb5.mono (by first | (simp; omega) | omega)); repeat (first | exact B5.out | apply Below.drew)); clear hb5))
  all_goals go_wp2
  all_goals go_ret
  all_goals exact ⟨rfl, B6.out⟩
end Go.Proofs.YtgmjllkkgapjcaaDoor.rd
