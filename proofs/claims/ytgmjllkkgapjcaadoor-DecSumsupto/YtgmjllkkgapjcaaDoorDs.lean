/- DecSums: it answers true, whatever the two numbers, of bounded lengths. -/
import Derived.Test.YtgmjllkkgapjcaaDoorRh
import Derived.Test.YtgmjllkkgapjcaaDoorMu
import Derived.Test.YtgmjllkkgapjcaaDoorRe
namespace Go.Proofs.YtgmjllkkgapjcaaDoor.rd
open Go.RowKit

/-- What Add and Mul answer is taken for what the reference answers. -/
theorem answered_sum (r : Dn × Bool) (a b : Addr) :
    ∃ (d : Dn) (ev : Value) (c : Int), boundV r (eNo b) = (dv d, ev) ∧ ansV r = (d, c) ∧
      ∀ w, Sents w a b → Calls Tryd.prog 15 #[dv d, ev, dv d, .int .i64 c] w fun e w' => e = .returned (.bool true) ∧ Below w.heap.size w w' := by
  obtain ⟨d, ok⟩ := r
  cases ok with
  | true => exact ⟨d, .nilIface, 0, rfl, rfl, fun w _ => answered_ok _ w⟩
  | false => exact ⟨zed, eNo b, 4, rfl, rfl, fun w hv => answered_bad _ 4 w (by decide) fun w' hb => code_exp a b w' (hv.keep hb)⟩

set_option maxRecDepth 100000 in
set_option maxHeartbeats 3200000 in
theorem decSums_any (a b : Dn) (pa pb : Addr) (w : World) (hsa : a.dg.size ≤ 1048576) (hsb : b.dg.size ≤ 1048576)
    (ha0 : -9223372036854775808 ≤ a.ex) (ha1 : a.ex ≤ 9223372036854775807) (hb0 : -9223372036854775808 ≤ b.ex) (hb1 : b.ex ≤ 9223372036854775807) (hv : Sents w pa pb) :
    Calls Tryd.prog 7 #[dv a, dv b] w fun e w' => e = .returned (.bool true) ∧ Below w.heap.size w w' := by
  have hP := PairW.start w a b
  have c0 := fun w (h : Sents w pa pb) => awake_any (eNo pa) (eNo pb) w (cell_lt h.n) h.n (cell_lt h.x) h.x
  have c1 := fun w (h : Sents w pa pb) => add_any a b (eNo pb) w (by omega) (by omega) ha0 ha1 hb0 hb1 (cell_lt h.x) h.x
  have c2 := fun w (h : Sents w pa pb) => mul_any a b (eNo pb) w (by omega) (by omega) ha0 ha1 hb0 hb1 (cell_lt h.x) h.x
  have c3 := fun w => radd_any a b w hsa hsb ha0 ha1 hb0 hb1
  have c4 := fun w => rmul_any a b w hsa hsb ha0 ha1 hb0 hb1
  obtain ⟨⟨sn, sg, sx⟩, e1, k1, hs1, hs2, s3⟩ := answered_sum (addV (norm a) (norm b)) pa pb
  obtain ⟨⟨tn, tg, tx⟩, e2, k2, ht1, ht2, t3⟩ := answered_sum (mulV (norm a) (norm b)) pa pb
  simp only [hs1] at c1
  simp only [ht1] at c2
  simp only [hs2] at c3
  simp only [ht2] at c4
  obtain ⟨an, ag, ax⟩ := a
  obtain ⟨bn, bg, bx⟩ := b
  simp only [dv] at c1 c2 c3 c4 s3 t3 hP ⊢
  have C0 := hide c0
  have C1 := hide c1
  have C2 := hide c2
  have C3 := hide c3
  have C4 := hide c4
  have C5 := hide s3
  have C6 := hide t3
  have HV := hide hv
  clear c0 c1 c2 c3 c4 s3 t3 hv hsa hsb ha0 ha1 hb0 hb1 hs1 hs2 ht1 ht2
  go_enter Tryd.func7, Tryd.ntmps7
  go_wp2_with fail
  refine (unhide C0 _ ((unhide HV).keep hP.below)).mono ?_
  rintro e w1 ⟨rfl, h1⟩
  have hP1 := hP.call h1
  clear hP h1
  obtain ⟨x0, x1, x2⟩ := hP1.a.cells
  obtain ⟨y0, y1, y2⟩ := hP1.b.cells
  simp only at x0 x1 x2 y0 y1 y2
  go_wp2_with fail
  refine (unhide C1 _ ((unhide HV).keep hP1.below)).mono ?_
  rintro e w2 ⟨rfl, h2⟩
  have hP2 := hP1.call h2
  clear hP1 h2 x0 x1 x2 y0 y1 y2
  have z0 : w.heap.size < w2.heap.size := blk_lt hP2.a
  have z1 : w.heap.size + 1 < w2.heap.size := blk_lt hP2.b
  obtain ⟨x0, x1, x2⟩ := hP2.a.cells
  obtain ⟨y0, y1, y2⟩ := hP2.b.cells
  simp only at x0 x1 x2 y0 y1 y2
  have hP2' : PairW w (w2.alloc (.cells #[.bool sn, .string sg, .int .i64 sx] 23)) ⟨an, ag, ax⟩ ⟨bn, bg, bx⟩ := ⟨hP2.a.alloc _, hP2.b.alloc _, hP2.below.alloc (by omega) _⟩
  have lS : DLies (w2.alloc (.cells #[.bool sn, .string sg, .int .i64 sx] 23)) w2.heap.size ⟨sn, sg, sx⟩ := dlies_new w2 ⟨sn, sg, sx⟩
  clear hP2
  go_wp2_with fail
  refine (unhide C2 _ ((unhide HV).keep hP2'.below)).mono ?_
  rintro e w3 ⟨rfl, h3⟩
  have hP3 := hP2'.call h3
  have lS3 := lS.below h3 (blk_lt lS)
  clear hP2' h3 x0 x1 x2 y0 y1 y2 lS
  have z2 : w2.heap.size < w3.heap.size := blk_lt lS3
  have z3 : w.heap.size < w3.heap.size := blk_lt hP3.a
  have z4 : w.heap.size + 1 < w3.heap.size := blk_lt hP3.b
  obtain ⟨x0, x1, x2⟩ := hP3.a.cells
  obtain ⟨y0, y1, y2⟩ := hP3.b.cells
  simp only at x0 x1 x2 y0 y1 y2
  have hP3' : PairW w (w3.alloc (.cells #[.bool tn, .string tg, .int .i64 tx] 23)) ⟨an, ag, ax⟩ ⟨bn, bg, bx⟩ := ⟨hP3.a.alloc _, hP3.b.alloc _, hP3.below.alloc (by omega) _⟩
  have lT : DLies (w3.alloc (.cells #[.bool tn, .string tg, .int .i64 tx] 23)) w3.heap.size ⟨tn, tg, tx⟩ := dlies_new w3 ⟨tn, tg, tx⟩
  have lS3' := lS3.alloc (.cells #[.bool tn, .string tg, .int .i64 tx] 23)
  clear hP3 lS3
  go_wp2_with fail
  refine (unhide C3 _).mono ?_
  rintro e w4 ⟨rfl, h4⟩
  have hP4 := hP3'.call h4
  have lS4 := lS3'.below h4 (blk_lt lS3')
  have lT4 := lT.below h4 (blk_lt lT)
  clear hP3' h4 x0 x1 x2 y0 y1 y2 lS3' lT
  have z5 : w3.heap.size < w4.heap.size := blk_lt lT4
  have z6 : w.heap.size < w4.heap.size := blk_lt hP4.a
  have z7 : w.heap.size + 1 < w4.heap.size := blk_lt hP4.b
  obtain ⟨x0, x1, x2⟩ := hP4.a.cells
  obtain ⟨y0, y1, y2⟩ := hP4.b.cells
  simp only at x0 x1 x2 y0 y1 y2
  have hP4' : PairW w (w4.alloc (.cells #[.bool sn, .string sg, .int .i64 sx] 23)) ⟨an, ag, ax⟩ ⟨bn, bg, bx⟩ := ⟨hP4.a.alloc _, hP4.b.alloc _, hP4.below.alloc (by omega) _⟩
  have lX : DLies (w4.alloc (.cells #[.bool sn, .string sg, .int .i64 sx] 23)) w4.heap.size ⟨sn, sg, sx⟩ := dlies_new w4 ⟨sn, sg, sx⟩
  have lS4' := lS4.alloc (.cells #[.bool sn, .string sg, .int .i64 sx] 23)
  have lT4' := lT4.alloc (.cells #[.bool sn, .string sg, .int .i64 sx] 23)
  clear hP4 lS4 lT4
  go_wp2_with fail
  refine (unhide C4 _).mono ?_
  rintro e w5 ⟨rfl, h5⟩
  have hP5 := hP4'.call h5
  have lS5 := lS4'.below h5 (blk_lt lS4')
  have lT5 := lT4'.below h5 (blk_lt lT4')
  have lX5 := lX.below h5 (blk_lt lX)
  clear hP4' h5 x0 x1 x2 y0 y1 y2 lS4' lT4' lX
  have z8 : w4.heap.size < w5.heap.size := blk_lt lX5
  have z9 : w2.heap.size < w5.heap.size := blk_lt lS5
  have z10 : w3.heap.size < w5.heap.size := blk_lt lT5
  obtain ⟨x0, x1, x2⟩ := lS5.cells
  obtain ⟨y0, y1, y2⟩ := lX5.cells
  simp only at x0 x1 x2 y0 y1 y2
  have B5 : Below w.heap.size w (w5.alloc (.cells #[.bool tn, .string tg, .int .i64 tx] 23)) := hP5.below.alloc (by omega) _
  have lY : DLies (w5.alloc (.cells #[.bool tn, .string tg, .int .i64 tx] 23)) w5.heap.size ⟨tn, tg, tx⟩ := dlies_new w5 ⟨tn, tg, tx⟩
  have lT5' := lT5.alloc (.cells #[.bool tn, .string tg, .int .i64 tx] 23)
  clear hP5 lS5 lX5 lT5
  go_wp2_with fail
  refine (unhide C5 _ ((unhide HV).keep B5)).mono ?_
  rintro e w6 ⟨rfl, h6⟩
  have lT6 := lT5'.below h6 (blk_lt lT5')
  have lY6 := lY.below h6 (blk_lt lY)
  have B6 : Below w.heap.size w w6 := B5.trans (h6.mono B5.size)
  clear h6 x0 x1 x2 y0 y1 y2 lT5' lY B5
  obtain ⟨x0, x1, x2⟩ := lT6.cells
  obtain ⟨y0, y1, y2⟩ := lY6.cells
  simp only at x0 x1 x2 y0 y1 y2
  go_wp2_with fail
  refine (unhide C6 _ ((unhide HV).keep B6)).mono ?_
  rintro e w7 ⟨rfl, h7⟩
  have B7 : Below w.heap.size w w7 := B6.trans (h7.mono B6.size)
  clear h7 x0 x1 x2 y0 y1 y2 lT6 lY6 B6
  go_wp2
  go_ret
  exact ⟨rfl, B7⟩
end Go.Proofs.YtgmjllkkgapjcaaDoor.rd
