/- The walk of the reference's Mul. -/
import Derived.Test.YtgmjllkkgapjcaaDoorRg
namespace Go.Proofs.YtgmjllkkgapjcaaDoor.rd
open Go.RowKit

set_option maxRecDepth 100000 in
set_option maxHeartbeats 3200000 in
theorem rmul_any (a b : Dn) (w : World) (hsa : a.dg.size ≤ 1048576) (hsb : b.dg.size ≤ 1048576)
    (ha0 : -9223372036854775808 ≤ a.ex) (ha1 : a.ex ≤ 9223372036854775807) (hb0 : -9223372036854775808 ≤ b.ex) (hb1 : b.ex ≤ 9223372036854775807) :
    Calls Tryd.prog 27 #[dv a, dv b] w fun e w' => e = .returned (.tuple #[dv (ansV (mulV (norm a) (norm b))).1, .int .i64 (ansV (mulV (norm a) (norm b))).2]) ∧ Below w.heap.size w w' := by
  have hP := AnsW.start w a b
  have c1 := fun w => rnorm_any a w (by omega) ha0 ha1
  have c2 := fun w => rnorm_any b w (by omega) hb0 hb1
  obtain ⟨an, ag, ax⟩ := a
  obtain ⟨bn, bg, bx⟩ := b
  have gp := norm_good ⟨an, ag, ax⟩
  have gq := norm_good ⟨bn, bg, bx⟩
  generalize norm ⟨an, ag, ax⟩ = p at *
  generalize norm ⟨bn, bg, bx⟩ = q at *
  obtain ⟨gp1, gp2, gp3, gp4⟩ := gp
  obtain ⟨gq1, gq2, gq3, gq4⟩ := gq
  simp only at gp1 gq1 hsa hsb
  generalize hans : ansV (mulV p q) = res at *
  obtain ⟨⟨dn, dd, de⟩, cc⟩ := res
  have D1 := hide (fun w => digits_any p.dg w (by omega))
  have D2 := hide (fun w => digits_any q.dg w (by omega))
  have k1 := dl_short p.dg
  have k2 := dl_short q.dg
  have d1 := dl_dig10 p.dg
  have d2 := dl_dig10 q.dg
  have v1 := dl_val p.dg gp4
  have v2 := dl_val q.dg gq4
  have k1' : (cutN (dl p.dg 0)).length ≤ 2000000 := by omega
  have k2' : (cutN (dl q.dg 0)).length ≤ 2000000 := by omega
  have hm : mulV p q = tellV (p.neg != q.neg) (valB p.dg * valB q.dg) (p.ex + q.ex) := rfl
  rw [← v1, ← v2] at hm
  clear v1 v2 k1 k2
  obtain ⟨pn, pg, px⟩ := p
  obtain ⟨qn, qg, qx⟩ := q
  simp only at D1 D2 d1 d2 k1' k2' hm gp2 gp3 gq2 gq3
  generalize cutN (dl pg 0) = lp at *
  generalize cutN (dl qg 0) = lq at *
  have TT := hide (fun v1 v2 (w : World) h1 h2 => times_any v1 v2 lp lq w h1 h2 d1 d2 (by omega) (by omega))
  have AA := hide (fun va zs (w : World) (h : Ints w va zs) (hd : Dig10 zs) (hv : valL zs = valL lp * valL lq) (hz : zs.length = lp.length + lq.length + 1) =>
    (show Calls Tryd.prog 57 #[.bool (!(pn == qn)), va, .int .i64 (IntKind.i64.wrap (px + qx))] w fun e w' => e = .returned (.tuple #[dv ⟨dn, dd, de⟩, .int .i64 cc]) ∧ Below w.heap.size w w' by
      have q := answer_any (pn != qn) va zs (px + qx) w h (by omega) hd (by omega) (by omega)
      rw [hv, ← hm, hans] at q
      rw [wrap_in (px + qx) (by omega) (by omega)]
      exact q))
  simp only [dv] at AA
  clear hm hans d1 d2 gp4 gq4 k1' k2' 
  simp only [dv] at c1 c2 hP ⊢
  have C1 := hide c1
  have C2 := hide c2
  clear c1 c2
  go_enter Tryd.func27, Tryd.ntmps27
  go_wp2_with fail
  refine (unhide C1 _).mono ?_
  rintro e w1 ⟨rfl, h1⟩
  have hP1 := hP.call h1
  obtain ⟨y0, y1, y2⟩ := hP1.b.cells
  simp only at y0 y1 y2
  have z1 : w.heap.size + 1 < w1.heap.size := blk_lt hP1.b
  have z0 := hide (show w.heap.size + 1 + 1 < w1.heap.size from blk_lt hP1.r)
  clear hP h1
  go_wp2_with fail
  refine (unhide C2 _).mono ?_
  rintro e w2 ⟨rfl, h2⟩
  have l2 : DLies w2 w1.heap.size ⟨pn, pg, px⟩ := (dlies_new w1 ⟨pn, pg, px⟩).below h2 (by simp)
  have B2 : Below w.heap.size w w2 := (hP1.below.alloc (by omega) _).trans (h2.mono (by simp; omega))
  have z2 : w1.heap.size < w2.heap.size := blk_lt l2
  have r2 : DLies w2 (w.heap.size + 1 + 1) zed := (hP1.r.alloc _).below h2 (by have := unhide z0; simp; omega)
  have hH0 : AnsW w (w2.alloc (.cells #[.bool qn, .string qg, .int .i64 qx] 23)) w1.heap.size w2.heap.size ⟨pn, pg, px⟩ ⟨qn, qg, qx⟩ := ⟨l2.alloc _, dlies_new w2 ⟨qn, qg, qx⟩, r2.alloc _, B2.alloc B2.size _⟩
  obtain ⟨x0, x1, x2⟩ := l2.cells
  simp only at x0 x1 x2
  clear y0 y1 y2 h2 hP1 B2 l2 r2
  have n3 : w.heap.size + 1 + 1 ≠ w1.heap.size := by have := unhide z0; omega
  have n4 : w1.heap.size ≠ w.heap.size + 1 + 1 := by have := unhide z0; omega
  have n5 : w.heap.size + 1 + 1 ≠ w2.heap.size := by have := unhide z0; omega
  have n6 : w2.heap.size ≠ w.heap.size + 1 + 1 := by have := unhide z0; omega
  have hH := hH0
  clear hH0
  go_wp2_with fail
  go_region_held3 (fun w' => w'.cell? ⟨w1.heap.size, 0, none⟩ = some (.bool pn) ∧ w'.cell? ⟨w1.heap.size, 1, none⟩ = some (.string pg) ∧ w'.cell? ⟨w1.heap.size, 2, none⟩ = some (.int .i64 px) ∧ w'.cell? ⟨w2.heap.size, 0, none⟩ = some (.bool qn) ∧ w'.cell? ⟨w2.heap.size, 1, none⟩ = some (.string qg) ∧ w'.cell? ⟨w2.heap.size, 2, none⟩ = some (.int .i64 qx)) (((try dsimp only); (repeat' apply And.intro); all_goals first | (go_keep; done) | (simp; omega))) (first
    | (go_at_call_of 32 (Value.string pg); refine (unhide D1 _).mono ?_; rintro e wa ⟨va, rfl, Ia, ha⟩; obtain ⟨k0, k1, k2, k3, k4, k5⟩ := keepAd (b0 := w1.heap.size) (b1 := w2.heap.size) (v0 := .bool pn) (v1 := .string pg) (v2 := .int .i64 px) (v3 := .bool qn) (v4 := .string qg) (v5 := .int .i64 qx) ha (by first | assumption | go_keep); have hWa := hH.drew.call ha; have JA := hide Ia; clear ha Ia)
    | (go_at_call_of 32 (Value.string qg); refine (unhide D2 _).mono ?_; rintro e wb ⟨vb', rfl, Ib, hb⟩; obtain ⟨m0, m1, m2, m3, m4, m5⟩ := keepAd (b0 := w1.heap.size) (b1 := w2.heap.size) (v0 := .bool pn) (v1 := .string pg) (v2 := .int .i64 px) (v3 := .bool qn) (v4 := .string qg) (v5 := .int .i64 qx) hb (by first | assumption | go_keep); have hWb' := hWa.call hb; have JA2 := hide ((unhide JA).keep hb); have JB := hide Ib; clear hb Ib)
    | (go_at_call 59; refine (unhide TT _ _ _ (unhide JA2) (unhide JB)).mono ?_; rintro e wt ⟨vt, zs, rfl, Iz, Dz, Vz, Lz, ht⟩; have AN := hide (fun w (h : Ints w vt zs) => unhide AA vt zs w h Dz Vz Lz); obtain ⟨t0, t1, t2, t3, t4, t5⟩ := keepAd (b0 := w1.heap.size) (b1 := w2.heap.size) (v0 := .bool pn) (v1 := .string pg) (v2 := .int .i64 px) (v3 := .bool qn) (v4 := .string qg) (v5 := .int .i64 qx) ht (by first | assumption | go_keep); have hWt := hWb'.call ht; have JZ := hide Iz; clear ht Iz Dz Vz Lz)
    | (go_at_call 57; refine (unhide AN _ (unhide JZ)).mono ?_; rintro e wd ⟨rfl, hd⟩; obtain ⟨n0, n1, n2, n3, n4, n5⟩ := keepAd (b0 := w1.heap.size) (b1 := w2.heap.size) (v0 := .bool pn) (v1 := .string pg) (v2 := .int .i64 px) (v3 := .bool qn) (v4 := .string qg) (v5 := .int .i64 qx) hd (by first | assumption | go_keep); have hWb := hWt.call hd; obtain ⟨r0, r1, r2⟩ := hWb.r.cells; obtain ⟨s0, s1, s2⟩ := hWb.r.frees; simp only [zed] at r0 r1 r2; clear hd))
  all_goals go_wp2
  all_goals exact bodyPost_ret (ret_rmul _ ⟨dn, dd, de⟩ cc (hWb.r.set dn dd de) _ rfl rfl) rfl ⟨rfl, below3 hWb.below (by omega) _ _ _⟩

end Go.Proofs.YtgmjllkkgapjcaaDoor.rd
