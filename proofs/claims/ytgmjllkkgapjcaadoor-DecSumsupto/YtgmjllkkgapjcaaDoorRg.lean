/- The walks of the reference's Add and Mul. -/
import Derived.Test.YtgmjllkkgapjcaaDoorRs
namespace Go.Proofs.YtgmjllkkgapjcaaDoor.rd
open Go.RowKit

theorem Ints.drew {w : World} {v : Value} {zs : List Int} (h : Ints w v zs) : Ints w.drew v zs := h
theorem ret_radd {m : Nat} (w : World) (d : Dn) (c : Int) (h : DLies w m d) (tmps : Array Value) (ht : tmps.getD 4 undef = .pointer (some ⟨m, 0, none⟩)) (h3 : tmps.getD 5 undef = .int .i64 c) :
    (results Tryd.f26 tmps).run Tryd.prog w = .ok (.tuple #[dv d, .int .i64 c]) w := by
  obtain ⟨q0, q1, q2⟩ := h.cells
  rw [results_cell_tmp Tryd.results26, ht, h3]
  simp [go_sem, q0, q1, q2, dv]
theorem ret_rmul {m : Nat} (w : World) (d : Dn) (c : Int) (h : DLies w m d) (tmps : Array Value) (ht : tmps.getD 4 undef = .pointer (some ⟨m, 0, none⟩)) (h3 : tmps.getD 5 undef = .int .i64 c) :
    (results Tryd.f27 tmps).run Tryd.prog w = .ok (.tuple #[dv d, .int .i64 c]) w := by
  obtain ⟨q0, q1, q2⟩ := h.cells
  rw [results_cell_tmp Tryd.results27, ht, h3]
  simp [go_sem, q0, q1, q2, dv]

set_option maxRecDepth 100000 in
set_option maxHeartbeats 3200000 in
theorem radd_any (a b : Dn) (w : World) (hsa : a.dg.size ≤ 1048576) (hsb : b.dg.size ≤ 1048576)
    (ha0 : -9223372036854775808 ≤ a.ex) (ha1 : a.ex ≤ 9223372036854775807) (hb0 : -9223372036854775808 ≤ b.ex) (hb1 : b.ex ≤ 9223372036854775807) :
    Calls Tryd.prog 26 #[dv a, dv b] w fun e w' => e = .returned (.tuple #[dv (ansV (addV (norm a) (norm b))).1, .int .i64 (ansV (addV (norm a) (norm b))).2]) ∧ Below w.heap.size w w' := by
  have hP := AnsW.start w a b
  have c1 := fun w => rnorm_any a w (by omega) ha0 ha1
  have c2 := fun w => rnorm_any b w (by omega) hb0 hb1
  obtain ⟨an, ag, ax⟩ := a
  obtain ⟨bn, bg, bx⟩ := b
  have gp := norm_good ⟨an, ag, ax⟩
  have gq := norm_good ⟨bn, bg, bx⟩
  generalize norm ⟨an, ag, ax⟩ = p at *
  generalize norm ⟨bn, bg, bx⟩ = q at *
  obtain ⟨gp1, gp2, gp3, gp4⟩ := gp
  obtain ⟨gq1, gq2, gq3, gq4⟩ := gq
  simp only at gp1 gq1 hsa hsb
  generalize hans : ansV (addV p q) = res at *
  obtain ⟨⟨dn, dd, de⟩, cc⟩ := res
  obtain ⟨lo0, lo1⟩ := lowerN_bd p q gp2 gp3 gq2 gq3
  obtain ⟨ok1, ok2⟩ := lower_ok p q
  have sp := lined_sR p (lowerN p q) lo0 gp4 ok1
  have sq := lined_sR q (lowerN p q) lo0 gq4 ok2
  have LO := hide (fun w => rlower_any p q w)
  have L1 := hide (fun w => lined_any p (lowerN p q) w (by omega) (by omega) (by omega) (by omega) (by omega))
  have L2 := hide (fun w => lined_any q (lowerN p q) w (by omega) (by omega) (by omega) (by omega) (by omega))
  have k1 := linedN_len p (lowerN p q)
  have k2 := linedN_len q (lowerN p q)
  have d1 := linedN_dig p (lowerN p q)
  have d2 := linedN_dig q (lowerN p q)
  have v1 := valL_nonneg d1
  have v2 := valL_nonneg d2
  have e1 := fun h => sum_same p q _ _ (lowerN p q) lo0 v1 v2 sp sq h
  have e2 := fun h hl => sum_lt p q _ _ (lowerN p q) lo0 sp sq h hl
  have e3 := fun h hl => sum_ge p q _ _ (lowerN p q) lo0 sp sq h hl
  have k1' : (linedN p (lowerN p q)).length ≤ 2000000 := by omega
  have k2' : (linedN q (lowerN p q)).length ≤ 2000000 := by omega
  have SZ := hide (fun v1 v2 (w : World) h1 h2 => size_any v1 v2 (linedN p (lowerN p q)) (linedN q (lowerN p q)) w h1 h2)
  have hsv := sizeN_val d1 d2
  clear sp sq k1 k2 ok1 ok2
  generalize sizeN (linedN p (lowerN p q)) (linedN q (lowerN p q)) = z at *
  generalize linedN p (lowerN p q) = lp at *
  generalize linedN q (lowerN p q) = lq at *
  generalize lowerN p q = lo at *
  have PL := hide (fun v1 v2 (w : World) h1 h2 => plus_any v1 v2 lp lq w h1 h2 d1 d2 (by omega) (by omega))
  have M1 := hide (fun (h : valL lp ≤ valL lq) v1 v2 (w : World) h1 h2 => minus_any v2 v1 lq lp w h2 h1 d2 d1 (by omega) h)
  have M2 := hide (fun (h : valL lq ≤ valL lp) v1 v2 (w : World) h1 h2 => minus_any v1 v2 lp lq w h1 h2 d1 d2 (by omega) h)
  obtain ⟨pn, pg, px⟩ := p
  obtain ⟨qn, qg, qx⟩ := q
  simp only at e1 e2 e3
  simp only [dv] at LO L1 L2
  have E1 := hide e1
  have E2 := hide e2
  have E3 := hide e3
  have HSV := hide hsv
  have HA := hide hans
  clear e1 e2 e3 hsv hans d1 d2 v1 v2 gp4 gq4
  simp only [dv] at c1 c2 hP ⊢
  have C1 := hide c1
  have C2 := hide c2
  clear c1 c2
  go_enter Tryd.func26, Tryd.ntmps26
  go_wp2_with fail
  refine (unhide C1 _).mono ?_
  rintro e w1 ⟨rfl, h1⟩
  have hP1 := hP.call h1
  obtain ⟨y0, y1, y2⟩ := hP1.b.cells
  simp only at y0 y1 y2
  have z1 : w.heap.size + 1 < w1.heap.size := blk_lt hP1.b
  have z0 := hide (show w.heap.size + 1 + 1 < w1.heap.size from blk_lt hP1.r)
  clear hP h1
  go_wp2_with fail
  refine (unhide C2 _).mono ?_
  rintro e w2 ⟨rfl, h2⟩
  have l2 : DLies w2 w1.heap.size ⟨pn, pg, px⟩ := (dlies_new w1 ⟨pn, pg, px⟩).below h2 (by simp)
  have B2 : Below w.heap.size w w2 := (hP1.below.alloc (by omega) _).trans (h2.mono (by simp; omega))
  have z2 : w1.heap.size < w2.heap.size := blk_lt l2
  have r2 : DLies w2 (w.heap.size + 1 + 1) zed := (hP1.r.alloc _).below h2 (by have := unhide z0; simp; omega)
  have hH0 : AnsW w (w2.alloc (.cells #[.bool qn, .string qg, .int .i64 qx] 23)) w1.heap.size w2.heap.size ⟨pn, pg, px⟩ ⟨qn, qg, qx⟩ := ⟨l2.alloc _, dlies_new w2 ⟨qn, qg, qx⟩, r2.alloc _, B2.alloc B2.size _⟩
  obtain ⟨x0, x1, x2⟩ := l2.cells
  simp only at x0 x1 x2
  clear y0 y1 y2 h2 hP1 B2 l2 r2
  have n3 : w.heap.size + 1 + 1 ≠ w1.heap.size := by have := unhide z0; omega
  have n4 : w1.heap.size ≠ w.heap.size + 1 + 1 := by have := unhide z0; omega
  have n5 : w.heap.size + 1 + 1 ≠ w2.heap.size := by have := unhide z0; omega
  have n6 : w2.heap.size ≠ w.heap.size + 1 + 1 := by have := unhide z0; omega
  go_wp2_with fail
  refine (unhide LO _).mono ?_
  rintro e w3 ⟨rfl, h3⟩
  have hH3 := hH0.call h3
  clear x0 x1 x2 h3 hH0
  obtain ⟨x0, x1, x2⟩ := hH3.a.cells
  obtain ⟨y0, y1, y2⟩ := hH3.b.cells
  simp only at x0 x1 x2 y0 y1 y2
  go_wp2_with fail
  refine (unhide L1 _).mono ?_
  rintro e w4 ⟨vk, rfl, Ik, h4⟩
  have hH4 := hH3.call h4
  have JK := hide Ik
  clear x0 x1 x2 y0 y1 y2 h4 hH3 Ik
  obtain ⟨x0, x1, x2⟩ := hH4.a.cells
  obtain ⟨y0, y1, y2⟩ := hH4.b.cells
  simp only at x0 x1 x2 y0 y1 y2
  go_wp2_with fail
  refine (unhide L2 _).mono ?_
  rintro e w5 ⟨vl, rfl, Il, h5⟩
  have hH := hH4.call h5
  have JA := hide ((unhide JK).keep h5)
  have JB := hide Il
  clear x0 x1 x2 y0 y1 y2 h5 hH4 Il JK
  obtain ⟨x0, x1, x2⟩ := hH.a.cells
  obtain ⟨y0, y1, y2⟩ := hH.b.cells
  simp only at x0 x1 x2 y0 y1 y2
  by_cases hs : pn = qn
  · have hb : (pn == qn) = true := by simpa using hs
    have AA := hide (fun va zs (w : World) (h : Ints w va zs) (hd : Dig10 zs) (hv : valL zs = valL lp + valL lq) (hz : zs.length ≤ max lp.length lq.length + 1) =>
      (show Calls Tryd.prog 57 #[.bool pn, va, .int .i64 lo] w fun e w' => e = .returned (.tuple #[dv ⟨dn, dd, de⟩, .int .i64 cc]) ∧ Below w.heap.size w w' by
        have q := answer_any pn va zs lo w h (by omega) hd (by omega) (by omega)
        rw [hv, unhide E1 hs, unhide HA] at q
        exact q))
    simp only [dv] at AA
    clear hs E1 E2 E3 SZ HSV M1 M2
    go_wp2_with fail
    go_region_held3 (fun w' => w'.cell? ⟨w1.heap.size, 0, none⟩ = some (.bool pn) ∧ w'.cell? ⟨w1.heap.size, 1, none⟩ = some (.string pg) ∧ w'.cell? ⟨w1.heap.size, 2, none⟩ = some (.int .i64 px) ∧ w'.cell? ⟨w2.heap.size, 0, none⟩ = some (.bool qn) ∧ w'.cell? ⟨w2.heap.size, 1, none⟩ = some (.string qg) ∧ w'.cell? ⟨w2.heap.size, 2, none⟩ = some (.int .i64 qx)) (((try dsimp only); (repeat' apply And.intro); all_goals first | (go_keep; done) | (simp; omega))) (first
      | (go_at_call 51; refine (unhide PL _ _ _ (unhide JA).drew (unhide JB).drew).mono ?_; rintro e wa ⟨va, zs, rfl, Iz, Dz, Vz, Lz, ha⟩; have AN := hide (fun w (h : Ints w va zs) => unhide AA va zs w h Dz Vz Lz); obtain ⟨k0, k1, k2, k3, k4, k5⟩ := keepAd (b0 := w1.heap.size) (b1 := w2.heap.size) (v0 := .bool pn) (v1 := .string pg) (v2 := .int .i64 px) (v3 := .bool qn) (v4 := .string qg) (v5 := .int .i64 qx) ha (by first | assumption | go_keep); have hWa := hH.drew.call ha; have JZ := hide Iz; clear ha Iz Dz Vz Lz)
      | (go_at_call 57; refine (unhide AN _ (unhide JZ)).mono ?_; rintro e wb ⟨rfl, hb⟩; obtain ⟨m0, m1, m2, m3, m4, m5⟩ := keepAd (b0 := w1.heap.size) (b1 := w2.heap.size) (v0 := .bool pn) (v1 := .string pg) (v2 := .int .i64 px) (v3 := .bool qn) (v4 := .string qg) (v5 := .int .i64 qx) hb (by first | assumption | go_keep); have hWb := hWa.call hb; obtain ⟨r0, r1, r2⟩ := hWb.r.cells; obtain ⟨s0, s1, s2⟩ := hWb.r.frees; simp only [zed] at r0 r1 r2; clear hb))
    all_goals go_wp2
    all_goals exact bodyPost_ret (ret_radd _ ⟨dn, dd, de⟩ cc (hWb.r.set dn dd de) _ rfl rfl) rfl ⟨rfl, below3 hWb.below (by omega) _ _ _⟩
  · have hb : (pn == qn) = false := by simpa using hs
    go_wp2_with fail
    refine (unhide SZ _ _ _ (unhide JA) (unhide JB)).mono ?_
    rintro e w6 ⟨rfl, h6⟩
    have hH' := hH.call h6
    have JA' := hide ((unhide JA).keep h6)
    have JB' := hide ((unhide JB).keep h6)
    clear x0 x1 x2 y0 y1 y2 h6 hH JA JB
    have hH := hH'
    have JA := JA'
    have JB := JB'
    clear hH' JA' JB'
    obtain ⟨x0, x1, x2⟩ := hH.a.cells
    obtain ⟨y0, y1, y2⟩ := hH.b.cells
    simp only at x0 x1 x2 y0 y1 y2
    by_cases hz : z < 0
    · have hv := (unhide HSV).1 hz
      have AA := hide (fun va zs (w : World) (h : Ints w va zs) (hd : Dig10 zs) (hv' : valL zs = valL lq - valL lp) (hz : zs.length = lq.length) =>
        (show Calls Tryd.prog 57 #[.bool qn, va, .int .i64 lo] w fun e w' => e = .returned (.tuple #[dv ⟨dn, dd, de⟩, .int .i64 cc]) ∧ Below w.heap.size w w' by
          have q := answer_any qn va zs lo w h (by omega) hd (by omega) (by omega)
          rw [hv', unhide E2 hs hv, unhide HA] at q
          exact q))
      simp only [dv] at AA
      have MM := hide (unhide M1 (by omega))
      clear hs hv E1 E2 E3 SZ HSV M1 M2 PL
      go_wp2_with fail
      go_region_held3 (fun w' => w'.cell? ⟨w1.heap.size, 0, none⟩ = some (.bool pn) ∧ w'.cell? ⟨w1.heap.size, 1, none⟩ = some (.string pg) ∧ w'.cell? ⟨w1.heap.size, 2, none⟩ = some (.int .i64 px) ∧ w'.cell? ⟨w2.heap.size, 0, none⟩ = some (.bool qn) ∧ w'.cell? ⟨w2.heap.size, 1, none⟩ = some (.string qg) ∧ w'.cell? ⟨w2.heap.size, 2, none⟩ = some (.int .i64 qx)) (((try dsimp only); (repeat' apply And.intro); all_goals first | (go_keep; done) | (simp; omega))) (first
        | (go_at_call 58; refine (unhide MM _ _ _ (unhide JA).drew (unhide JB).drew).mono ?_; rintro e wa ⟨va, zs, rfl, Iz, Dz, Vz, Lz, ha⟩; have AN := hide (fun w (h : Ints w va zs) => unhide AA va zs w h Dz Vz Lz); obtain ⟨k0, k1, k2, k3, k4, k5⟩ := keepAd (b0 := w1.heap.size) (b1 := w2.heap.size) (v0 := .bool pn) (v1 := .string pg) (v2 := .int .i64 px) (v3 := .bool qn) (v4 := .string qg) (v5 := .int .i64 qx) ha (by first | assumption | go_keep); have hWa := hH.drew.call ha; have JZ := hide Iz; clear ha Iz Dz Vz Lz)
        | (go_at_call 57; refine (unhide AN _ (unhide JZ)).mono ?_; rintro e wb ⟨rfl, hb⟩; obtain ⟨m0, m1, m2, m3, m4, m5⟩ := keepAd (b0 := w1.heap.size) (b1 := w2.heap.size) (v0 := .bool pn) (v1 := .string pg) (v2 := .int .i64 px) (v3 := .bool qn) (v4 := .string qg) (v5 := .int .i64 qx) hb (by first | assumption | go_keep); have hWb := hWa.call hb; obtain ⟨r0, r1, r2⟩ := hWb.r.cells; obtain ⟨s0, s1, s2⟩ := hWb.r.frees; simp only [zed] at r0 r1 r2; clear hb))
      all_goals go_wp2
      all_goals exact bodyPost_ret (ret_radd _ ⟨dn, dd, de⟩ cc (hWb.r.set dn dd de) _ rfl rfl) rfl ⟨rfl, below3 hWb.below (by omega) _ _ _⟩
    · have hv : ¬ valL lp < valL lq := fun q => hz ((unhide HSV).2 q)
      have AA := hide (fun va zs (w : World) (h : Ints w va zs) (hd : Dig10 zs) (hv' : valL zs = valL lp - valL lq) (hz : zs.length = lp.length) =>
        (show Calls Tryd.prog 57 #[.bool pn, va, .int .i64 lo] w fun e w' => e = .returned (.tuple #[dv ⟨dn, dd, de⟩, .int .i64 cc]) ∧ Below w.heap.size w w' by
          have q := answer_any pn va zs lo w h (by omega) hd (by omega) (by omega)
          rw [hv', unhide E3 hs (by omega), unhide HA] at q
          exact q))
      simp only [dv] at AA
      have MM := hide (unhide M2 (by omega))
      clear hs hv E1 E2 E3 SZ HSV M1 M2 PL
      go_wp2_with fail
      go_region_held3 (fun w' => w'.cell? ⟨w1.heap.size, 0, none⟩ = some (.bool pn) ∧ w'.cell? ⟨w1.heap.size, 1, none⟩ = some (.string pg) ∧ w'.cell? ⟨w1.heap.size, 2, none⟩ = some (.int .i64 px) ∧ w'.cell? ⟨w2.heap.size, 0, none⟩ = some (.bool qn) ∧ w'.cell? ⟨w2.heap.size, 1, none⟩ = some (.string qg) ∧ w'.cell? ⟨w2.heap.size, 2, none⟩ = some (.int .i64 qx)) (((try dsimp only); (repeat' apply And.intro); all_goals first | (go_keep; done) | (simp; omega))) (first
        | (go_at_call 58; refine (unhide MM _ _ _ (unhide JA).drew (unhide JB).drew).mono ?_; rintro e wa ⟨va, zs, rfl, Iz, Dz, Vz, Lz, ha⟩; have AN := hide (fun w (h : Ints w va zs) => unhide AA va zs w h Dz Vz Lz); obtain ⟨k0, k1, k2, k3, k4, k5⟩ := keepAd (b0 := w1.heap.size) (b1 := w2.heap.size) (v0 := .bool pn) (v1 := .string pg) (v2 := .int .i64 px) (v3 := .bool qn) (v4 := .string qg) (v5 := .int .i64 qx) ha (by first | assumption | go_keep); have hWa := hH.drew.call ha; have JZ := hide Iz; clear ha Iz Dz Vz Lz)
        | (go_at_call 57; refine (unhide AN _ (unhide JZ)).mono ?_; rintro e wb ⟨rfl, hb⟩; obtain ⟨m0, m1, m2, m3, m4, m5⟩ := keepAd (b0 := w1.heap.size) (b1 := w2.heap.size) (v0 := .bool pn) (v1 := .string pg) (v2 := .int .i64 px) (v3 := .bool qn) (v4 := .string qg) (v5 := .int .i64 qx) hb (by first | assumption | go_keep); have hWb := hWa.call hb; obtain ⟨r0, r1, r2⟩ := hWb.r.cells; obtain ⟨s0, s1, s2⟩ := hWb.r.frees; simp only [zed] at r0 r1 r2; clear hb))
      all_goals go_wp2
      all_goals exact bodyPost_ret (ret_radd _ ⟨dn, dd, de⟩ cc (hWb.r.set dn dd de) _ rfl rfl) rfl ⟨rfl, below3 hWb.below (by omega) _ _ _⟩

end Go.Proofs.YtgmjllkkgapjcaaDoor.rd
