/- DecOrders: it answers true, whatever the two numbers, where the texts are of a length that memory holds. -/
import Derived.Test.YtgmjllkkgapjcaaDoorRm
namespace Go.Proofs.YtgmjllkkgapjcaaDoor.rd
open Go.RowKit

set_option maxRecDepth 100000 in
set_option maxHeartbeats 3200000 in
theorem decOrders_any (a b : Dn) (eN eX : Value) (w : World) (hsa : a.dg.size ≤ 1048576) (hsb : b.dg.size ≤ 1048576)
    (ha0 : -9223372036854775808 ≤ a.ex) (ha1 : a.ex ≤ 9223372036854775807) (hb0 : -9223372036854775808 ≤ b.ex) (hb1 : b.ex ≤ 9223372036854775807) (hv : Vars w eN eX) :
    Calls Tryd.prog 5 #[dv a, dv b] w fun e w' => e = .returned (.bool true) ∧ Below w.heap.size w w' := by
  have hP := PairW.start w a b
  have c0 := fun w (h : Vars w eN eX) => awake_any eN eX w (cell_lt h.n) h.n (cell_lt h.x) h.x
  have c1 := fun w => cmp_any a b w (by omega) (by omega) ha0 ha1 hb0 hb1
  have c2 := fun w => cmp_any b a w (by omega) (by omega) hb0 hb1 ha0 ha1
  have c3 := fun w => rcmp_any a b w (by omega) (by omega) ha0 ha1 hb0 hb1
  have e1 := cmp_eq (norm a) (norm b) (norm_formed a) (norm_formed b)
  have e2 := decCmp_flip (norm b) (norm a) (norm_formed b) (norm_formed a)
  rw [e1] at e2
  have e3 : -1 ≤ refCmp (norm a) (norm b) ∧ refCmp (norm a) (norm b) ≤ 1 := by
    unfold refCmp
    have h1 := signN_bd (norm a)
    have h2 := sizeN_bd (linedN (norm a) (lowerN (norm a) (norm b))) (linedN (norm b) (lowerN (norm a) (norm b)))
    generalize signN (norm a) = s1 at *
    generalize sizeN (linedN (norm a) (lowerN (norm a) (norm b))) (linedN (norm b) (lowerN (norm a) (norm b))) = s2 at *
    split
    · omega
    · split
      · omega
      · rcases h1 with h | h | h <;> rcases h2 with h' | h' | h' <;> subst h <;> subst h' <;> decide
  rw [e1] at c1
  rw [e2] at c2
  clear e1 e2
  generalize refCmp (norm a) (norm b) = r at *
  obtain ⟨an, ag, ax⟩ := a
  obtain ⟨bn, bg, bx⟩ := b
  obtain ⟨r0, r1⟩ := e3
  have hrr : (r == r) = true := by simp
  have hss : (-r == -r) = true := by simp
  simp only [dv] at c1 c2 c3 hP ⊢
  have C0 := hide c0
  have C1 := hide c1
  have C2 := hide c2
  have C3 := hide c3
  have HV := hide hv
  clear c0 c1 c2 c3 hv hsa hsb ha0 ha1 hb0 hb1
  go_enter Tryd.func5, Tryd.ntmps5
  go_wp2_with fail
  refine (unhide C0 _ ((unhide HV).keep hP.below)).mono ?_
  rintro e w1 ⟨rfl, h1⟩
  have hP1 := hP.call h1
  clear hP h1
  obtain ⟨x0, x1, x2⟩ := hP1.a.cells
  obtain ⟨y0, y1, y2⟩ := hP1.b.cells
  simp only at x0 x1 x2 y0 y1 y2
  go_wp2_with fail
  refine (unhide C1 _).mono ?_
  rintro e w2 ⟨rfl, h2⟩
  have hP2 := hP1.call h2
  clear hP1 h2 x0 x1 x2 y0 y1 y2
  obtain ⟨x0, x1, x2⟩ := hP2.a.cells
  obtain ⟨y0, y1, y2⟩ := hP2.b.cells
  simp only at x0 x1 x2 y0 y1 y2
  go_wp2_with fail
  refine (unhide C2 _).mono ?_
  rintro e w3 ⟨rfl, h3⟩
  have hP3 := hP2.call h3
  clear hP2 h3 x0 x1 x2 y0 y1 y2
  obtain ⟨x0, x1, x2⟩ := hP3.a.cells
  obtain ⟨y0, y1, y2⟩ := hP3.b.cells
  simp only at x0 x1 x2 y0 y1 y2
  go_wp2_with fail
  refine (unhide C3 _).mono ?_
  rintro e w4 ⟨rfl, h4⟩
  have hP4 := hP3.call h4
  clear hP3 h4 x0 x1 x2 y0 y1 y2
  go_wp2
  go_ret
  exact ⟨rfl, hP4.below⟩
end Go.Proofs.YtgmjllkkgapjcaaDoor.rd
