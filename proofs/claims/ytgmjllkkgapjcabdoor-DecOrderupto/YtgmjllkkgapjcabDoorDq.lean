/- DecOrder: it answers true, whatever the three numbers, of bounded lengths. -/
import Derived.Test.YtgmjllkkgapjcabDoorOq
import Derived.Test.YtgmjllkkgapjcabDoorDg
import Derived.BigQuiet
namespace Go.Proofs.YtgmjllkkgapjcabDoor.rd
open Go.RowKit

theorem Lie.drewN {wc : World} {l : List (Nat × Dn)} (h : Lie wc l) (n : Nat) : Lie (wc.drewN n) l := h
theorem keep9 {b0 b1 b2 : Nat} {v0 v1 v2 v3 v4 v5 v6 v7 v8 : Value} {W w1 : World} (hb : Below W.heap.size W w1)
    (h : W.cell? ⟨b0, 0, none⟩ = some v0 ∧ W.cell? ⟨b0, 1, none⟩ = some v1 ∧ W.cell? ⟨b0, 2, none⟩ = some v2 ∧ W.cell? ⟨b1, 0, none⟩ = some v3 ∧ W.cell? ⟨b1, 1, none⟩ = some v4 ∧ W.cell? ⟨b1, 2, none⟩ = some v5 ∧ W.cell? ⟨b2, 0, none⟩ = some v6 ∧ W.cell? ⟨b2, 1, none⟩ = some v7 ∧ W.cell? ⟨b2, 2, none⟩ = some v8) :
    w1.cell? ⟨b0, 0, none⟩ = some v0 ∧ w1.cell? ⟨b0, 1, none⟩ = some v1 ∧ w1.cell? ⟨b0, 2, none⟩ = some v2 ∧ w1.cell? ⟨b1, 0, none⟩ = some v3 ∧ w1.cell? ⟨b1, 1, none⟩ = some v4 ∧ w1.cell? ⟨b1, 2, none⟩ = some v5 ∧ w1.cell? ⟨b2, 0, none⟩ = some v6 ∧ w1.cell? ⟨b2, 1, none⟩ = some v7 ∧ w1.cell? ⟨b2, 2, none⟩ = some v8 := by
  obtain ⟨c0, c1, c2, c3, c4, c5, c6, c7, c8⟩ := h
  exact ⟨keepC hb c0, keepC hb c1, keepC hb c2, keepC hb c3, keepC hb c4, keepC hb c5, keepC hb c6, keepC hb c7, keepC hb c8⟩

set_option maxRecDepth 100000 in
set_option maxHeartbeats 6400000 in
theorem decOrder_any (a b c : Dn) (pa pb : Addr) (w : World) (hsa : a.dg.size ≤ 1048576) (hsb : b.dg.size ≤ 1048576) (hsc : c.dg.size ≤ 1048576)
    (ha0 : -9223372036854775808 ≤ a.ex) (ha1 : a.ex ≤ 9223372036854775807) (hb0 : -9223372036854775808 ≤ b.ex) (hb1 : b.ex ≤ 9223372036854775807) (hc0 : -9223372036854775808 ≤ c.ex) (hc1 : c.ex ≤ 9223372036854775807) (hpw : Pow w) (hv : Sents w pa pb) :
    Calls Tryd.prog 5 #[dv a, dv b, dv c] w fun e w' => e = .returned (.bool true) ∧ Below w.heap.size w w' := by
  have wA : Whole1 (norm a) := norm_formed a
  have wB : Whole1 (norm b) := norm_formed b
  have wC : Whole1 (norm c) := norm_formed c
  have zA := (norm_good a).1
  have zB := (norm_good b).1
  obtain ⟨s, e1, hs, ws, zs, os⟩ := add_res (norm a) (norm b) (eNo pb) wA wB 1048576 (by omega) (by omega)
  have bs := ws.exbd
  have f1 : e1 = .nilIface ∨ e1 = eNo pb := os.imp And.left id
  have hks : e1 = .nilIface → refCmp s (norm a) = refCmp (norm b) zed := fun q => by
    have n1 : ¬ e1 = eNo pb := fun q' => by rw [q] at q'; cases q'
    exact refCmp_add (norm a) (norm b) s wA wB (os.resolve_right n1).2
  have c0 := fun w (h : Sents w pa pb) => awake_any (eNo pa) (eNo pb) w (cell_lt h.n) h.n (cell_lt h.x) h.x
  have caa := fun w => cmp_any a a w (by omega) (by omega) ha0 ha1 ha0 ha1
  have cab := fun w => cmp_any a b w (by omega) (by omega) ha0 ha1 hb0 hb1
  have cba := fun w => cmp_any b a w (by omega) (by omega) hb0 hb1 ha0 ha1
  have cbc := fun w => cmp_any b c w (by omega) (by omega) hb0 hb1 hc0 hc1
  have cac := fun w => cmp_any a c w (by omega) (by omega) ha0 ha1 hc0 hc1
  have lab := fun w => like_any a b w (by omega) (by omega) ha0 ha1 hb0 hb1
  have na := fun w => norm_any a w (by omega) ha0 ha1
  have nb := fun w => norm_any b w (by omega) hb0 hb1
  have ad := fun w (h : Sents w pa pb) => add_any a b (eNo pb) w (by omega) (by omega) ha0 ha1 hb0 hb1 (cell_lt h.x) h.x
  have csa := fun w => cmp_any s a w (by omega) (by omega) (by omega) (by omega) ha0 ha1
  have cb0 := fun w => cmp_any b zed w (by omega) (by decide) hb0 hb1 (by decide) (by decide)
  have fl := fun w => floor_any a w (by omega) ha0 ha1
  rw [cmp_eq _ _ wA wA, refCmp_self _ wA] at caa
  rw [cmp_eq _ _ wA wB] at cab lab
  rw [cmp_eq _ _ wB wA, refCmp_flip _ _ wB wA] at cba
  rw [cmp_eq _ _ wB wC] at cbc
  rw [cmp_eq _ _ wA wC] at cac
  rw [hs] at ad
  rw [ws.norm_id, cmp_eq _ _ ws wA] at csa
  rw [norm_zed, cmp_eq _ _ wB (.inl rfl)] at cb0
  have htr := refCmp_trans (norm a) (norm b) (norm c) wA wB wC
  have hze := refCmp_zero (norm a) (norm b) wA wB
  have kin := refCmp_in (norm a) (norm b) wA wB
  have hfn := fun v h => flo_none (norm a) wA v h
  have hfs := fun v h => flo_some (norm a) wA v h
  have hflv : ∃ v ft, flo (norm a) = (v, ft) := ⟨_, _, rfl⟩
  obtain ⟨v, ft, hvf⟩ := hflv
  rw [hvf] at fl
  have TF : Hid (ft = false → ∃ (Lo Hi : Dn) (kl kh : Int), (∀ w, Pow w → Calls Tryd.prog 15 #[.int .i64 (-9223372036854775808)] w fun e w' => e = .returned (dv Lo) ∧ Below w.heap.size w w') ∧
      (∀ w, Pow w → Calls Tryd.prog 15 #[.int .i64 9223372036854775807] w fun e w' => e = .returned (dv Hi) ∧ Below w.heap.size w w') ∧
      (∀ w, Calls Tryd.prog 16 #[dv a, dv Lo] w fun e w' => e = .returned (.int .i64 kl) ∧ Below w.heap.size w w') ∧
      (∀ w, Calls Tryd.prog 16 #[dv a, dv Hi] w fun e w' => e = .returned (.int .i64 kh) ∧ Below w.heap.size w w') ∧ v = 0 ∧ (kl < 0 ∨ 0 < kh)) := fun q => by
    subst q
    obtain ⟨q1, q2⟩ := hfn v hvf
    obtain ⟨l1, l2, _⟩ := of_exact (-9223372036854775808) (by omega) (by omega)
    obtain ⟨m1, m2, _⟩ := of_exact 9223372036854775807 (by omega) (by omega)
    obtain ⟨s1, s2, s3⟩ := ofN_size (-9223372036854775808) (by omega) (by omega)
    obtain ⟨t1, t2, t3⟩ := ofN_size 9223372036854775807 (by omega) (by omega)
    have d1 := fun w => cmp_any a (ofN (-9223372036854775808)) w (by omega) (by omega) ha0 ha1 (by omega) (by omega)
    have d2 := fun w => cmp_any a (ofN 9223372036854775807) w (by omega) (by omega) ha0 ha1 (by omega) (by omega)
    rw [l1.norm_id, cmp_eq _ _ wA l1] at d1
    rw [m1.norm_id, cmp_eq _ _ wA m1] at d2
    refine ⟨_, _, _, _, fun w h => of_any _ w (by omega) (by omega) h, fun w h => of_any _ w (by omega) (by omega) h, d1, d2, q1, q2.imp (fun q => ?_) (fun q => ?_)⟩
    · rw [refCmp_lt _ _ wA l1, l2]; exact q
    · rw [refCmp_gt _ _ wA m1, m2]; exact q
  have TT : Hid (ft = true → ∃ (V nx : Dn) (kv kn : Int), (∀ w, Pow w → Calls Tryd.prog 15 #[.int .i64 v] w fun e w' => e = .returned (dv V) ∧ Below w.heap.size w w') ∧
      (∀ w, Pow w → Calls Tryd.prog 15 #[.int .i64 1] w fun e w' => e = .returned (dv oneD) ∧ Below w.heap.size w w') ∧
      (∀ w, Sents w pa pb → Calls Tryd.prog 12 #[dv V, dv oneD] w fun e w' => e = .returned (.tuple #[dv nx, .nilIface]) ∧ Below w.heap.size w w') ∧
      (∀ w, Calls Tryd.prog 16 #[dv V, dv a] w fun e w' => e = .returned (.int .i64 kv) ∧ Below w.heap.size w w') ∧
      (∀ w, Calls Tryd.prog 16 #[dv a, dv nx] w fun e w' => e = .returned (.int .i64 kn) ∧ Below w.heap.size w w') ∧ kv ≤ 0 ∧ kn < 0) := fun q => by
    subst q
    obtain ⟨q1, q2, q3, q4⟩ := hfs v hvf
    obtain ⟨r, r1, r2, r3, r4⟩ := add_next v q1 q2
    obtain ⟨l1, l2, _⟩ := of_exact v q1 q2
    obtain ⟨s1, s2, s3⟩ := ofN_size v q1 q2
    have br := r2.exbd
    have d0 := fun w h => of_any 1 w (by omega) (by omega) h
    rw [of_one] at d0
    have d1 := fun w (h : Sents w pa pb) => add_any (ofN v) oneD (eNo pb) w (by omega) (by decide) (by omega) (by omega) (by decide) (by decide) (cell_lt h.x) h.x
    rw [l1.norm_id, norm_one, r1] at d1
    have d2 := fun w => cmp_any (ofN v) a w (by omega) (by omega) (by omega) (by omega) ha0 ha1
    have d3 := fun w => cmp_any a r w (by omega) (by omega) ha0 ha1 (by omega) (by omega)
    rw [l1.norm_id, cmp_eq _ _ l1 wA] at d2
    rw [r2.norm_id, cmp_eq _ _ wA r2] at d3
    refine ⟨_, _, _, _, fun w h => of_any _ w q1 q2 h, d0, d1, d2, d3, ?_, ?_⟩
    · have := refCmp_gt (ofN v) (norm a) l1 wA
      rw [l2] at this
      omega
    · rw [refCmp_lt _ _ wA r2, r3]; exact q4
  have hL0 : Lie (((w.alloc (.cells #[.bool a.neg, .string a.dg, .int .i64 a.ex] 23)).alloc (.cells #[.bool b.neg, .string b.dg, .int .i64 b.ex] 23)).alloc (.cells #[.bool c.neg, .string c.dg, .int .i64 c.ex] 23)) [(w.heap.size + 2, c), (w.heap.size + 1, b), (w.heap.size, a)] := by
    have h0 : Lie w [] := fun x hx => by simp at hx
    have h := ((h0.add a).add b).add c
    simpa using h
  have hB0 : Below w.heap.size w (((w.alloc (.cells #[.bool a.neg, .string a.dg, .int .i64 a.ex] 23)).alloc (.cells #[.bool b.neg, .string b.dg, .int .i64 b.ex] 23)).alloc (.cells #[.bool c.neg, .string c.dg, .int .i64 c.ex] 23)) := (((Below.refl _ _).alloc (Nat.le_refl _) _).alloc (by simp) _).alloc (by simp; omega) _
  clear wA
  clear hfn hfs hvf hs ws zs os bs zB wB wC
  generalize refCmp (norm a) (norm b) = kab at *
  generalize refCmp (norm b) (norm c) = kbc at *
  generalize refCmp (norm a) (norm c) = kac at *
  generalize refCmp s (norm a) = ks at *
  generalize refCmp (norm b) zed = k0 at *
  have HTR := hide htr
  have HZE := hide hze
  have HKS := hide hks
  have F1 := hide f1
  clear htr hze hks f1
  have hwk : IntKind.i64.wrap kab = kab := wrap_in _ (by omega) (by omega)
  generalize hA : norm a = A at *
  generalize hBn : norm b = B at *
  clear hA hBn zA hsa hsb hsc ha1 ha0 hb0 hb1 hc0 hc1
  obtain ⟨an, ag, ax⟩ := a
  obtain ⟨bn, bg, bx⟩ := b
  obtain ⟨cn, cg, cx⟩ := c
  obtain ⟨An, Ag, Ax⟩ := A
  obtain ⟨Bn, Bg, Bx⟩ := B
  obtain ⟨sn, sg, sx⟩ := s
  simp only [dv, zed] at caa cab cba cbc cac lab na nb ad csa cb0 fl hL0 hB0 ⊢
  have C0h := hide c0
  have CAAh := hide caa
  have CABh := hide cab
  have CBAh := hide cba
  have CBCh := hide cbc
  have CACh := hide cac
  have LABh := hide lab
  have NAh := hide na
  have NBh := hide nb
  have ADh := hide ad
  have CSAh := hide csa
  have CB0h := hide cb0
  have FLh := hide fl
  have HPW := hide hpw
  have HV := hide hv
  have hLh := hide hL0
  have hBh := hide hB0
  clear c0 caa cab cba cbc cac lab na nb ad csa cb0 fl hpw hv hL0 hB0
  go_enter Tryd.func5, Tryd.ntmps5
  go_wp2_with fail
  refine (unhide C0h _ ((unhide HV).keep (unhide hBh))).mono ?_
  rintro e w1 ⟨rfl, h1⟩
  have hLc := hide ((unhide hLh).call h1)
  have hBc := hide (show Below w.heap.size w w1 from (unhide hBh).trans (h1.mono (unhide hBh).size))
  clear h1 hLh hBh C0h
  have lie0 := (unhide hLc).at (w.heap.size) ⟨an, ag, ax⟩ (by simp)
  obtain ⟨x00, x01, x02⟩ := lie0.cells
  simp only at x00 x01 x02
  have sz0 : w.heap.size < w1.heap.size := blk_lt lie0
  clear lie0
  have lie1 := (unhide hLc).at (w.heap.size + 1) ⟨bn, bg, bx⟩ (by simp)
  obtain ⟨x10, x11, x12⟩ := lie1.cells
  simp only at x10 x11 x12
  have sz1 : w.heap.size + 1 < w1.heap.size := blk_lt lie1
  clear lie1
  go_upto_region 2 with fail
  go_cut [34] from 16 (fun s34 wx => s34 = .bool false ∧ Hid (Lie wx [(w.heap.size + 2, ⟨cn, cg, cx⟩), (w.heap.size + 1, ⟨bn, bg, bx⟩), (w.heap.size, ⟨an, ag, ax⟩)]) ∧ Hid (Below w.heap.size w wx))
  case first =>
    go_region_held3 (fun w' => w'.cell? ⟨w.heap.size, 0, none⟩ = some (.bool an) ∧ w'.cell? ⟨w.heap.size, 1, none⟩ = some (.string ag) ∧ w'.cell? ⟨w.heap.size, 2, none⟩ = some (.int .i64 ax) ∧ w'.cell? ⟨w.heap.size + 1, 0, none⟩ = some (.bool bn) ∧ w'.cell? ⟨w.heap.size + 1, 1, none⟩ = some (.string bg) ∧ w'.cell? ⟨w.heap.size + 1, 2, none⟩ = some (.int .i64 bx)) (((try dsimp only); (repeat' apply And.intro); all_goals first | (go_keep; done) | (simp; omega))) (first
      | (go_at_call 16; have _q := hLu2; refine (unhide CBAh _).mono ?_; rintro e u3 ⟨rfl, ha⟩; obtain ⟨r0, r1, r2, r3, r4, r5⟩ := keepAd (b0 := w.heap.size) (b1 := w.heap.size + 1) (v0 := .bool an) (v1 := .string ag) (v2 := .int .i64 ax) (v3 := .bool bn) (v4 := .string bg) (v5 := .int .i64 bx) ha (by first | assumption | go_keep); have hLu3 := hide ((unhide hLu2).call ha); have hBu3 := hide (show Below w.heap.size w u3 from (unhide hBu2).trans (ha.mono (unhide hBu2).size)); clear ha)
      | (go_at_call 16; have _q := hLu1; refine (unhide CABh _).mono ?_; rintro e u2 ⟨rfl, ha⟩; obtain ⟨q0, q1, q2, q3, q4, q5⟩ := keepAd (b0 := w.heap.size) (b1 := w.heap.size + 1) (v0 := .bool an) (v1 := .string ag) (v2 := .int .i64 ax) (v3 := .bool bn) (v4 := .string bg) (v5 := .int .i64 bx) ha (by first | assumption | go_keep); have hLu2 := hide ((unhide hLu1).call ha); have hBu2 := hide (show Below w.heap.size w u2 from (unhide hBu1).trans (ha.mono (unhide hBu1).size)); clear ha)
      | (go_at_call 16; refine (unhide CAAh _).mono ?_; rintro e u1 ⟨rfl, ha⟩; obtain ⟨p0, p1, p2, p3, p4, p5⟩ := keepAd (b0 := w.heap.size) (b1 := w.heap.size + 1) (v0 := .bool an) (v1 := .string ag) (v2 := .int .i64 ax) (v3 := .bool bn) (v4 := .string bg) (v5 := .int .i64 bx) ha (by first | assumption | go_keep); have hLu1 := hide ((unhide hLc).drew.call ha); have hBu1 := hide (show Below w.heap.size w u1 from (unhide hBc).drew.trans (ha.mono (unhide hBc).drew.size)); clear ha))
    all_goals go_wp2_with fail
    all_goals go_meet
    all_goals exact ⟨by first | rfl | (simp; done) | (rw [hwk]; simp), hLu3, hBu3⟩
  case rest =>
    clear x00 x01 x02 sz0 x10 x11 x12 sz1
    clear hLc hBc CBAh CAAh hwk
    obtain ⟨rfl, hLc, hBc⟩ := hcut
    have lie0 := (unhide hLc).at (w.heap.size) ⟨an, ag, ax⟩ (by simp)
    obtain ⟨x00, x01, x02⟩ := lie0.cells
    simp only at x00 x01 x02
    have sz0 : w.heap.size < wc.heap.size := blk_lt lie0
    clear lie0
    have lie1 := (unhide hLc).at (w.heap.size + 1) ⟨bn, bg, bx⟩ (by simp)
    obtain ⟨x10, x11, x12⟩ := lie1.cells
    simp only at x10 x11 x12
    have sz1 : w.heap.size + 1 < wc.heap.size := blk_lt lie1
    clear lie1
    have lie2 := (unhide hLc).at (w.heap.size + 2) ⟨cn, cg, cx⟩ (by simp)
    obtain ⟨x20, x21, x22⟩ := lie2.cells
    simp only at x20 x21 x22
    have sz2 : w.heap.size + 2 < wc.heap.size := blk_lt lie2
    clear lie2
    go_upto_region 4 with fail
    go_cut [50] from 16 (fun s50 wx => s50 = .bool false ∧ Hid (Lie wx [(w.heap.size + 2, ⟨cn, cg, cx⟩), (w.heap.size + 1, ⟨bn, bg, bx⟩), (w.heap.size, ⟨an, ag, ax⟩)]) ∧ Hid (Below w.heap.size w wx))
    case first =>
      by_cases q1 : kab ≤ 0
      · by_cases q2 : kbc ≤ 0
        · have q3 : ¬ 0 < kac := by have := unhide HTR q1 q2; omega
          go_wp2_with fail
          refine (unhide CABh _).mono ?_
          rintro e u1 ⟨rfl, ha⟩
          have hLu1 := hide ((unhide hLc).call ha)
          have hBu1 := hide (show Below w.heap.size w u1 from (unhide hBc).trans (ha.mono (unhide hBc).size))
          clear x00 x01 x02 sz0 x10 x11 x12 sz1 x20 x21 x22 sz2
          clear ha
          have lie0 := (unhide hLu1).at (w.heap.size) ⟨an, ag, ax⟩ (by simp)
          obtain ⟨x00, x01, x02⟩ := lie0.cells
          simp only at x00 x01 x02
          have sz0 : w.heap.size < u1.heap.size := blk_lt lie0
          clear lie0
          have lie1 := (unhide hLu1).at (w.heap.size + 1) ⟨bn, bg, bx⟩ (by simp)
          obtain ⟨x10, x11, x12⟩ := lie1.cells
          simp only at x10 x11 x12
          have sz1 : w.heap.size + 1 < u1.heap.size := blk_lt lie1
          clear lie1
          have lie2 := (unhide hLu1).at (w.heap.size + 2) ⟨cn, cg, cx⟩ (by simp)
          obtain ⟨x20, x21, x22⟩ := lie2.cells
          simp only at x20 x21 x22
          have sz2 : w.heap.size + 2 < u1.heap.size := blk_lt lie2
          clear lie2
          go_wp2_with fail
          refine (unhide CBCh _).mono ?_
          rintro e u2 ⟨rfl, ha⟩
          have hLu2 := hide ((unhide hLu1).call ha)
          have hBu2 := hide (show Below w.heap.size w u2 from (unhide hBu1).trans (ha.mono (unhide hBu1).size))
          clear x00 x01 x02 sz0 x10 x11 x12 sz1 x20 x21 x22 sz2
          clear ha
          have lie0 := (unhide hLu2).at (w.heap.size) ⟨an, ag, ax⟩ (by simp)
          obtain ⟨x00, x01, x02⟩ := lie0.cells
          simp only at x00 x01 x02
          have sz0 : w.heap.size < u2.heap.size := blk_lt lie0
          clear lie0
          have lie1 := (unhide hLu2).at (w.heap.size + 1) ⟨bn, bg, bx⟩ (by simp)
          obtain ⟨x10, x11, x12⟩ := lie1.cells
          simp only at x10 x11 x12
          have sz1 : w.heap.size + 1 < u2.heap.size := blk_lt lie1
          clear lie1
          have lie2 := (unhide hLu2).at (w.heap.size + 2) ⟨cn, cg, cx⟩ (by simp)
          obtain ⟨x20, x21, x22⟩ := lie2.cells
          simp only at x20 x21 x22
          have sz2 : w.heap.size + 2 < u2.heap.size := blk_lt lie2
          clear lie2
          go_wp2_with fail
          refine (unhide CACh _).mono ?_
          rintro e u3 ⟨rfl, ha⟩
          have hLu3 := hide ((unhide hLu2).call ha)
          have hBu3 := hide (show Below w.heap.size w u3 from (unhide hBu2).trans (ha.mono (unhide hBu2).size))
          clear ha
          go_wp2
          go_meet
          exact ⟨by first | rfl | simp [q3], hLu3, hBu3⟩
        · go_wp2_with fail
          refine (unhide CABh _).mono ?_
          rintro e u1 ⟨rfl, ha⟩
          have hLu1 := hide ((unhide hLc).call ha)
          have hBu1 := hide (show Below w.heap.size w u1 from (unhide hBc).trans (ha.mono (unhide hBc).size))
          clear x00 x01 x02 sz0 x10 x11 x12 sz1 x20 x21 x22 sz2
          clear ha
          have lie0 := (unhide hLu1).at (w.heap.size) ⟨an, ag, ax⟩ (by simp)
          obtain ⟨x00, x01, x02⟩ := lie0.cells
          simp only at x00 x01 x02
          have sz0 : w.heap.size < u1.heap.size := blk_lt lie0
          clear lie0
          have lie1 := (unhide hLu1).at (w.heap.size + 1) ⟨bn, bg, bx⟩ (by simp)
          obtain ⟨x10, x11, x12⟩ := lie1.cells
          simp only at x10 x11 x12
          have sz1 : w.heap.size + 1 < u1.heap.size := blk_lt lie1
          clear lie1
          have lie2 := (unhide hLu1).at (w.heap.size + 2) ⟨cn, cg, cx⟩ (by simp)
          obtain ⟨x20, x21, x22⟩ := lie2.cells
          simp only at x20 x21 x22
          have sz2 : w.heap.size + 2 < u1.heap.size := blk_lt lie2
          clear lie2
          go_wp2_with fail
          refine (unhide CBCh _).mono ?_
          rintro e u2 ⟨rfl, ha⟩
          have hLu2 := hide ((unhide hLu1).call ha)
          have hBu2 := hide (show Below w.heap.size w u2 from (unhide hBu1).trans (ha.mono (unhide hBu1).size))
          clear ha
          go_wp2
          go_meet
          exact ⟨by first | rfl | simp [q2], hLu2, hBu2⟩
      · go_wp2_with fail
        refine (unhide CABh _).mono ?_
        rintro e u1 ⟨rfl, ha⟩
        have hLu1 := hide ((unhide hLc).call ha)
        have hBu1 := hide (show Below w.heap.size w u1 from (unhide hBc).trans (ha.mono (unhide hBc).size))
        clear ha
        go_wp2
        go_meet
        exact ⟨by first | rfl | simp [q1], hLu1, hBu1⟩
    case rest =>
      clear x00 x01 x02 sz0 x10 x11 x12 sz1 x20 x21 x22 sz2
      clear hLc hBc CABh CBCh CACh HTR
      obtain ⟨rfl, hLc, hBc⟩ := hcut
      have lie0 := (unhide hLc).at (w.heap.size) ⟨an, ag, ax⟩ (by simp)
      obtain ⟨x00, x01, x02⟩ := lie0.cells
      simp only at x00 x01 x02
      have sz0 : w.heap.size < wc.heap.size := blk_lt lie0
      clear lie0
      have lie1 := (unhide hLc).at (w.heap.size + 1) ⟨bn, bg, bx⟩ (by simp)
      obtain ⟨x10, x11, x12⟩ := lie1.cells
      simp only at x10 x11 x12
      have sz1 : w.heap.size + 1 < wc.heap.size := blk_lt lie1
      clear lie1
      go_upto_region 6 with fail
      go_cut [59] from 16 (fun s59 wx => s59 = .bool false ∧ Hid (Lie wx [(w.heap.size + 2, ⟨cn, cg, cx⟩), (w.heap.size + 1, ⟨bn, bg, bx⟩), (w.heap.size, ⟨an, ag, ax⟩)]) ∧ Hid (Below w.heap.size w wx))
      case first =>
        by_cases hz : kab = 0
        · obtain ⟨rfl, rfl, rfl⟩ : An = Bn ∧ Ag = Bg ∧ Ax = Bx := by
            have q := (unhide HZE).1 hz
            injection q with q1 q2 q3
            exact ⟨q1, q2, q3⟩
          have hzb : (kab == 0) = true := by simpa using hz
          go_region_held3 (fun w' => w'.cell? ⟨w.heap.size, 0, none⟩ = some (.bool an) ∧ w'.cell? ⟨w.heap.size, 1, none⟩ = some (.string ag) ∧ w'.cell? ⟨w.heap.size, 2, none⟩ = some (.int .i64 ax) ∧ w'.cell? ⟨w.heap.size + 1, 0, none⟩ = some (.bool bn) ∧ w'.cell? ⟨w.heap.size + 1, 1, none⟩ = some (.string bg) ∧ w'.cell? ⟨w.heap.size + 1, 2, none⟩ = some (.int .i64 bx)) (((try dsimp only); (repeat' apply And.intro); all_goals first | (go_keep; done) | (simp; omega))) (first
            | (go_at_call 10; have _q := hLu2; refine (unhide NBh _).mono ?_; rintro e u3 ⟨rfl, ha⟩; obtain ⟨r0, r1, r2, r3, r4, r5⟩ := keepAd (b0 := w.heap.size) (b1 := w.heap.size + 1) (v0 := .bool an) (v1 := .string ag) (v2 := .int .i64 ax) (v3 := .bool bn) (v4 := .string bg) (v5 := .int .i64 bx) ha (by first | assumption | go_keep); have hLu3 := hide ((unhide hLu2).call ha); have hBu3 := hide (show Below w.heap.size w u3 from (unhide hBu2).trans (ha.mono (unhide hBu2).size)); clear ha)
            | (go_at_call 10; have _q := hLu1; refine (unhide NAh _).mono ?_; rintro e u2 ⟨rfl, ha⟩; obtain ⟨q0, q1, q2, q3, q4, q5⟩ := keepAd (b0 := w.heap.size) (b1 := w.heap.size + 1) (v0 := .bool an) (v1 := .string ag) (v2 := .int .i64 ax) (v3 := .bool bn) (v4 := .string bg) (v5 := .int .i64 bx) ha (by first | assumption | go_keep); have hLu2 := hide ((unhide hLu1).call ha); have hBu2 := hide (show Below w.heap.size w u2 from (unhide hBu1).trans (ha.mono (unhide hBu1).size)); clear ha)
            | (go_at_call 11; refine (unhide LABh _).mono ?_; rintro e u1 ⟨rfl, ha⟩; obtain ⟨p0, p1, p2, p3, p4, p5⟩ := keepAd (b0 := w.heap.size) (b1 := w.heap.size + 1) (v0 := .bool an) (v1 := .string ag) (v2 := .int .i64 ax) (v3 := .bool bn) (v4 := .string bg) (v5 := .int .i64 bx) ha (by first | assumption | go_keep); have hLu1 := hide ((unhide hLc).drew.call ha); have hBu1 := hide (show Below w.heap.size w u1 from (unhide hBc).drew.trans (ha.mono (unhide hBc).drew.size)); clear ha))
          all_goals go_wp2_with fail
          all_goals go_meet
          all_goals exact ⟨by first | rfl | (simp [hzb]; done), hLu3, hBu3⟩
        · have hzb : (kab == 0) = false := by simpa using hz
          have hne : ¬ (An = Bn ∧ Ag = Bg ∧ Ax = Bx) := fun ⟨q1, q2, q3⟩ => hz ((unhide HZE).2 (by rw [q1, q2, q3]))
          by_cases d1 : An = Bn
          · subst d1
            by_cases d2 : Ag = Bg
            · subst d2
              have d3 : (Ax == Bx) = false := by
                simp only [beq_eq_false_iff_ne]
                exact fun q => hne ⟨rfl, rfl, q⟩
              go_region_held3 (fun w' => w'.cell? ⟨w.heap.size, 0, none⟩ = some (.bool an) ∧ w'.cell? ⟨w.heap.size, 1, none⟩ = some (.string ag) ∧ w'.cell? ⟨w.heap.size, 2, none⟩ = some (.int .i64 ax) ∧ w'.cell? ⟨w.heap.size + 1, 0, none⟩ = some (.bool bn) ∧ w'.cell? ⟨w.heap.size + 1, 1, none⟩ = some (.string bg) ∧ w'.cell? ⟨w.heap.size + 1, 2, none⟩ = some (.int .i64 bx)) (((try dsimp only); (repeat' apply And.intro); all_goals first | (go_keep; done) | (simp; omega))) (first
                | (go_at_call 10; have _q := hLu2; refine (unhide NBh _).mono ?_; rintro e u3 ⟨rfl, ha⟩; obtain ⟨r0, r1, r2, r3, r4, r5⟩ := keepAd (b0 := w.heap.size) (b1 := w.heap.size + 1) (v0 := .bool an) (v1 := .string ag) (v2 := .int .i64 ax) (v3 := .bool bn) (v4 := .string bg) (v5 := .int .i64 bx) ha (by first | assumption | go_keep); have hLu3 := hide ((unhide hLu2).call ha); have hBu3 := hide (show Below w.heap.size w u3 from (unhide hBu2).trans (ha.mono (unhide hBu2).size)); clear ha)
                | (go_at_call 10; have _q := hLu1; refine (unhide NAh _).mono ?_; rintro e u2 ⟨rfl, ha⟩; obtain ⟨q0, q1, q2, q3, q4, q5⟩ := keepAd (b0 := w.heap.size) (b1 := w.heap.size + 1) (v0 := .bool an) (v1 := .string ag) (v2 := .int .i64 ax) (v3 := .bool bn) (v4 := .string bg) (v5 := .int .i64 bx) ha (by first | assumption | go_keep); have hLu2 := hide ((unhide hLu1).call ha); have hBu2 := hide (show Below w.heap.size w u2 from (unhide hBu1).trans (ha.mono (unhide hBu1).size)); clear ha)
                | (go_at_call 11; refine (unhide LABh _).mono ?_; rintro e u1 ⟨rfl, ha⟩; obtain ⟨p0, p1, p2, p3, p4, p5⟩ := keepAd (b0 := w.heap.size) (b1 := w.heap.size + 1) (v0 := .bool an) (v1 := .string ag) (v2 := .int .i64 ax) (v3 := .bool bn) (v4 := .string bg) (v5 := .int .i64 bx) ha (by first | assumption | go_keep); have hLu1 := hide ((unhide hLc).drew.call ha); have hBu1 := hide (show Below w.heap.size w u1 from (unhide hBc).drew.trans (ha.mono (unhide hBc).drew.size)); clear ha))
              all_goals go_wp2_with fail
              all_goals go_meet
              all_goals exact ⟨by first | rfl | (simp [hzb]; done), hLu3, hBu3⟩
            · have d4 : (Ag.toList == Bg.toList) = false := by
                simp only [beq_eq_false_iff_ne]
                intro q
                apply d2
                rw [ByteArray.toList_eq, ByteArray.toList_eq] at q
                apply ByteArray.ext
                exact Array.ext' q
              go_region_held3 (fun w' => w'.cell? ⟨w.heap.size, 0, none⟩ = some (.bool an) ∧ w'.cell? ⟨w.heap.size, 1, none⟩ = some (.string ag) ∧ w'.cell? ⟨w.heap.size, 2, none⟩ = some (.int .i64 ax) ∧ w'.cell? ⟨w.heap.size + 1, 0, none⟩ = some (.bool bn) ∧ w'.cell? ⟨w.heap.size + 1, 1, none⟩ = some (.string bg) ∧ w'.cell? ⟨w.heap.size + 1, 2, none⟩ = some (.int .i64 bx)) (((try dsimp only); (repeat' apply And.intro); all_goals first | (go_keep; done) | (simp; omega))) (first
                | (go_at_call 10; have _q := hLu2; refine (unhide NBh _).mono ?_; rintro e u3 ⟨rfl, ha⟩; obtain ⟨r0, r1, r2, r3, r4, r5⟩ := keepAd (b0 := w.heap.size) (b1 := w.heap.size + 1) (v0 := .bool an) (v1 := .string ag) (v2 := .int .i64 ax) (v3 := .bool bn) (v4 := .string bg) (v5 := .int .i64 bx) ha (by first | assumption | go_keep); have hLu3 := hide ((unhide hLu2).call ha); have hBu3 := hide (show Below w.heap.size w u3 from (unhide hBu2).trans (ha.mono (unhide hBu2).size)); clear ha)
                | (go_at_call 10; have _q := hLu1; refine (unhide NAh _).mono ?_; rintro e u2 ⟨rfl, ha⟩; obtain ⟨q0, q1, q2, q3, q4, q5⟩ := keepAd (b0 := w.heap.size) (b1 := w.heap.size + 1) (v0 := .bool an) (v1 := .string ag) (v2 := .int .i64 ax) (v3 := .bool bn) (v4 := .string bg) (v5 := .int .i64 bx) ha (by first | assumption | go_keep); have hLu2 := hide ((unhide hLu1).call ha); have hBu2 := hide (show Below w.heap.size w u2 from (unhide hBu1).trans (ha.mono (unhide hBu1).size)); clear ha)
                | (go_at_call 11; refine (unhide LABh _).mono ?_; rintro e u1 ⟨rfl, ha⟩; obtain ⟨p0, p1, p2, p3, p4, p5⟩ := keepAd (b0 := w.heap.size) (b1 := w.heap.size + 1) (v0 := .bool an) (v1 := .string ag) (v2 := .int .i64 ax) (v3 := .bool bn) (v4 := .string bg) (v5 := .int .i64 bx) ha (by first | assumption | go_keep); have hLu1 := hide ((unhide hLc).drew.call ha); have hBu1 := hide (show Below w.heap.size w u1 from (unhide hBc).drew.trans (ha.mono (unhide hBc).drew.size)); clear ha))
              all_goals go_wp2_with fail
              all_goals go_meet
              all_goals exact ⟨by first | rfl | (simp [hzb]; done), hLu3, hBu3⟩
          · cases An <;> cases Bn
            · exact absurd rfl d1
            · go_region_held3 (fun w' => w'.cell? ⟨w.heap.size, 0, none⟩ = some (.bool an) ∧ w'.cell? ⟨w.heap.size, 1, none⟩ = some (.string ag) ∧ w'.cell? ⟨w.heap.size, 2, none⟩ = some (.int .i64 ax) ∧ w'.cell? ⟨w.heap.size + 1, 0, none⟩ = some (.bool bn) ∧ w'.cell? ⟨w.heap.size + 1, 1, none⟩ = some (.string bg) ∧ w'.cell? ⟨w.heap.size + 1, 2, none⟩ = some (.int .i64 bx)) (((try dsimp only); (repeat' apply And.intro); all_goals first | (go_keep; done) | (simp; omega))) (first
                | (go_at_call 10; have _q := hLu2; refine (unhide NBh _).mono ?_; rintro e u3 ⟨rfl, ha⟩; obtain ⟨r0, r1, r2, r3, r4, r5⟩ := keepAd (b0 := w.heap.size) (b1 := w.heap.size + 1) (v0 := .bool an) (v1 := .string ag) (v2 := .int .i64 ax) (v3 := .bool bn) (v4 := .string bg) (v5 := .int .i64 bx) ha (by first | assumption | go_keep); have hLu3 := hide ((unhide hLu2).call ha); have hBu3 := hide (show Below w.heap.size w u3 from (unhide hBu2).trans (ha.mono (unhide hBu2).size)); clear ha)
                | (go_at_call 10; have _q := hLu1; refine (unhide NAh _).mono ?_; rintro e u2 ⟨rfl, ha⟩; obtain ⟨q0, q1, q2, q3, q4, q5⟩ := keepAd (b0 := w.heap.size) (b1 := w.heap.size + 1) (v0 := .bool an) (v1 := .string ag) (v2 := .int .i64 ax) (v3 := .bool bn) (v4 := .string bg) (v5 := .int .i64 bx) ha (by first | assumption | go_keep); have hLu2 := hide ((unhide hLu1).call ha); have hBu2 := hide (show Below w.heap.size w u2 from (unhide hBu1).trans (ha.mono (unhide hBu1).size)); clear ha)
                | (go_at_call 11; refine (unhide LABh _).mono ?_; rintro e u1 ⟨rfl, ha⟩; obtain ⟨p0, p1, p2, p3, p4, p5⟩ := keepAd (b0 := w.heap.size) (b1 := w.heap.size + 1) (v0 := .bool an) (v1 := .string ag) (v2 := .int .i64 ax) (v3 := .bool bn) (v4 := .string bg) (v5 := .int .i64 bx) ha (by first | assumption | go_keep); have hLu1 := hide ((unhide hLc).drew.call ha); have hBu1 := hide (show Below w.heap.size w u1 from (unhide hBc).drew.trans (ha.mono (unhide hBc).drew.size)); clear ha))
              all_goals go_wp2_with fail
              all_goals go_meet
              all_goals exact ⟨by first | rfl | (simp [hzb]; done), hLu3, hBu3⟩
            · go_region_held3 (fun w' => w'.cell? ⟨w.heap.size, 0, none⟩ = some (.bool an) ∧ w'.cell? ⟨w.heap.size, 1, none⟩ = some (.string ag) ∧ w'.cell? ⟨w.heap.size, 2, none⟩ = some (.int .i64 ax) ∧ w'.cell? ⟨w.heap.size + 1, 0, none⟩ = some (.bool bn) ∧ w'.cell? ⟨w.heap.size + 1, 1, none⟩ = some (.string bg) ∧ w'.cell? ⟨w.heap.size + 1, 2, none⟩ = some (.int .i64 bx)) (((try dsimp only); (repeat' apply And.intro); all_goals first | (go_keep; done) | (simp; omega))) (first
                | (go_at_call 10; have _q := hLu2; refine (unhide NBh _).mono ?_; rintro e u3 ⟨rfl, ha⟩; obtain ⟨r0, r1, r2, r3, r4, r5⟩ := keepAd (b0 := w.heap.size) (b1 := w.heap.size + 1) (v0 := .bool an) (v1 := .string ag) (v2 := .int .i64 ax) (v3 := .bool bn) (v4 := .string bg) (v5 := .int .i64 bx) ha (by first | assumption | go_keep); have hLu3 := hide ((unhide hLu2).call ha); have hBu3 := hide (show Below w.heap.size w u3 from (unhide hBu2).trans (ha.mono (unhide hBu2).size)); clear ha)
                | (go_at_call 10; have _q := hLu1; refine (unhide NAh _).mono ?_; rintro e u2 ⟨rfl, ha⟩; obtain ⟨q0, q1, q2, q3, q4, q5⟩ := keepAd (b0 := w.heap.size) (b1 := w.heap.size + 1) (v0 := .bool an) (v1 := .string ag) (v2 := .int .i64 ax) (v3 := .bool bn) (v4 := .string bg) (v5 := .int .i64 bx) ha (by first | assumption | go_keep); have hLu2 := hide ((unhide hLu1).call ha); have hBu2 := hide (show Below w.heap.size w u2 from (unhide hBu1).trans (ha.mono (unhide hBu1).size)); clear ha)
                | (go_at_call 11; refine (unhide LABh _).mono ?_; rintro e u1 ⟨rfl, ha⟩; obtain ⟨p0, p1, p2, p3, p4, p5⟩ := keepAd (b0 := w.heap.size) (b1 := w.heap.size + 1) (v0 := .bool an) (v1 := .string ag) (v2 := .int .i64 ax) (v3 := .bool bn) (v4 := .string bg) (v5 := .int .i64 bx) ha (by first | assumption | go_keep); have hLu1 := hide ((unhide hLc).drew.call ha); have hBu1 := hide (show Below w.heap.size w u1 from (unhide hBc).drew.trans (ha.mono (unhide hBc).drew.size)); clear ha))
              all_goals go_wp2_with fail
              all_goals go_meet
              all_goals exact ⟨by first | rfl | (simp [hzb]; done), hLu3, hBu3⟩
            · exact absurd rfl d1
      case rest =>
        clear x00 x01 x02 sz0 x10 x11 x12 sz1
        clear hLc hBc LABh NAh NBh HZE
        obtain ⟨rfl, hLc, hBc⟩ := hcut
        have lie0 := (unhide hLc).at (w.heap.size) ⟨an, ag, ax⟩ (by simp)
        obtain ⟨x00, x01, x02⟩ := lie0.cells
        simp only at x00 x01 x02
        have sz0 : w.heap.size < wc.heap.size := blk_lt lie0
        clear lie0
        have lie1 := (unhide hLc).at (w.heap.size + 1) ⟨bn, bg, bx⟩ (by simp)
        obtain ⟨x10, x11, x12⟩ := lie1.cells
        simp only at x10 x11 x12
        have sz1 : w.heap.size + 1 < wc.heap.size := blk_lt lie1
        clear lie1
        go_wp2_with fail
        refine (unhide ADh _ ((unhide HV).keep (unhide hBc))).mono ?_
        rintro e w5 ⟨rfl, h1⟩
        have hL5 := hide ((unhide hLc).call h1)
        have hB5 := hide (show Below w.heap.size w w5 from (unhide hBc).trans (h1.mono (unhide hBc).size))
        have hLp := hide ((unhide hL5).add ⟨sn, sg, sx⟩)
        have hBp := hide (show Below w.heap.size w (w5.alloc (.cells #[.bool sn, .string sg, .int .i64 sx] 23)) from (unhide hB5).alloc (unhide hB5).size _)
        clear x00 x01 x02 sz0 x10 x11 x12 sz1
        clear h1 hLc hBc ADh
        have lie0 := (unhide hL5).at (w.heap.size) ⟨an, ag, ax⟩ (by simp)
        obtain ⟨x00, x01, x02⟩ := lie0.cells
        simp only at x00 x01 x02
        have sz0 : w.heap.size < w5.heap.size := blk_lt lie0
        clear lie0
        have lie1 := (unhide hL5).at (w.heap.size + 1) ⟨bn, bg, bx⟩ (by simp)
        obtain ⟨x10, x11, x12⟩ := lie1.cells
        simp only at x10 x11 x12
        have sz1 : w.heap.size + 1 < w5.heap.size := blk_lt lie1
        clear lie1
        go_upto_region 9 with fail
        go_cut [76] from 16 (fun s76 wx => s76 = .bool false ∧ Hid (Lie wx ((w5.heap.size, ⟨sn, sg, sx⟩) :: [(w.heap.size + 2, ⟨cn, cg, cx⟩), (w.heap.size + 1, ⟨bn, bg, bx⟩), (w.heap.size, ⟨an, ag, ax⟩)])) ∧ Hid (Below w.heap.size w wx))
        case first =>
          rcases unhide F1 with rfl | rfl
          · obtain rfl := unhide HKS rfl
            go_region_held3 (fun w' => w'.cell? ⟨w5.heap.size, 0, none⟩ = some (.bool sn) ∧ w'.cell? ⟨w5.heap.size, 1, none⟩ = some (.string sg) ∧ w'.cell? ⟨w5.heap.size, 2, none⟩ = some (.int .i64 sx) ∧ w'.cell? ⟨w.heap.size, 0, none⟩ = some (.bool an) ∧ w'.cell? ⟨w.heap.size, 1, none⟩ = some (.string ag) ∧ w'.cell? ⟨w.heap.size, 2, none⟩ = some (.int .i64 ax) ∧ w'.cell? ⟨w.heap.size + 1, 0, none⟩ = some (.bool bn) ∧ w'.cell? ⟨w.heap.size + 1, 1, none⟩ = some (.string bg) ∧ w'.cell? ⟨w.heap.size + 1, 2, none⟩ = some (.int .i64 bx)) (((try dsimp only); (repeat' apply And.intro); all_goals first | (go_keep; done) | (simp; omega))) (first
              | (go_at_call 16; have _q := hLu1; refine (unhide CB0h _).mono ?_; rintro e u2 ⟨rfl, ha⟩; obtain ⟨q0, q1, q2, q3, q4, q5, q6, q7, q8⟩ := keep9 (b0 := w5.heap.size) (b1 := w.heap.size) (b2 := w.heap.size + 1) (v0 := .bool sn) (v1 := .string sg) (v2 := .int .i64 sx) (v3 := .bool an) (v4 := .string ag) (v5 := .int .i64 ax) (v6 := .bool bn) (v7 := .string bg) (v8 := .int .i64 bx) ha (by first | assumption | go_keep); have hLu2 := hide ((unhide hLu1).call ha); have hBu2 := hide (show Below w.heap.size w u2 from (unhide hBu1).trans (ha.mono (unhide hBu1).size)); clear ha)
              | (go_at_call 16; refine (unhide CSAh _).mono ?_; rintro e u1 ⟨rfl, ha⟩; obtain ⟨p0, p1, p2, p3, p4, p5, p6, p7, p8⟩ := keep9 (b0 := w5.heap.size) (b1 := w.heap.size) (b2 := w.heap.size + 1) (v0 := .bool sn) (v1 := .string sg) (v2 := .int .i64 sx) (v3 := .bool an) (v4 := .string ag) (v5 := .int .i64 ax) (v6 := .bool bn) (v7 := .string bg) (v8 := .int .i64 bx) ha (by first | assumption | go_keep); have hLu1 := hide ((unhide hLp).drew.call ha); have hBu1 := hide (show Below w.heap.size w u1 from (unhide hBp).drew.trans (ha.mono (unhide hBp).drew.size)); clear ha))
            all_goals go_wp2_with fail
            all_goals go_meet
            all_goals exact ⟨by first | rfl | (simp; done), hLu2, hBu2⟩
          · unfold eNo
            go_quiet (fail)
            go_wp2_with fail
            go_meet
            exact ⟨by first | rfl | (simp; done), hide (Lie.drewN (unhide hLp) _), hide ((unhide hBp).trans ((Upd.drewN w.heap.size _ _).below (Nat.le_refl _)))⟩
        case rest =>
          clear x00 x01 x02 sz0 x10 x11 x12 sz1
          clear hL5 hB5 hLp hBp CSAh CB0h HKS F1
          obtain ⟨rfl, hLc, hBc⟩ := hcut
          have lie0 := (unhide hLc).at (w.heap.size) ⟨an, ag, ax⟩ (by simp)
          obtain ⟨x00, x01, x02⟩ := lie0.cells
          simp only at x00 x01 x02
          have sz0 : w.heap.size < wc.heap.size := blk_lt lie0
          clear lie0
          go_wp2_with fail
          refine (unhide FLh _).mono ?_
          rintro e w7 ⟨rfl, h1⟩
          have hL7 := hide ((unhide hLc).call h1)
          have hB7 := hide (show Below w.heap.size w w7 from (unhide hBc).trans (h1.mono (unhide hBc).size))
          clear x00 x01 x02 sz0
          clear h1 hLc hBc FLh
          cases ft with
          | false =>
            obtain ⟨Lo, Hi, kl, kh, ofl, ofh, cal, cah, rfl, hk⟩ := unhide TF rfl
            obtain ⟨ln, lg, lx⟩ := Lo
            obtain ⟨hn, hg, hx⟩ := Hi
            simp only [dv] at ofl ofh cal cah
            have OFL := hide ofl
            have OFH := hide ofh
            have CAL := hide cal
            have CAH := hide cah
            have HK := hide hk
            clear ofl ofh cal cah hk TT
            go_wp2_with fail
            refine (unhide OFL _ ((unhide HPW).keep (unhide hB7))).mono ?_
            rintro e w8 ⟨rfl, h1⟩
            have hL8 := hide ((unhide hL7).call h1)
            have hB8 := hide (show Below w.heap.size w w8 from (unhide hB7).trans (h1.mono (unhide hB7).size))
            have hLp := hide ((unhide hL8).add ⟨ln, lg, lx⟩)
            have hBp := hide (show Below w.heap.size w (w8.alloc (.cells #[.bool ln, .string lg, .int .i64 lx] 23)) from (unhide hB8).alloc (unhide hB8).size _)
            clear h1 hL7 hB7
            go_wp2_with fail
            refine (unhide OFH _ ((unhide HPW).keep (unhide hBp))).mono ?_
            rintro e w9 ⟨rfl, h1⟩
            have hL9 := hide ((unhide hLp).call h1)
            have hB9 := hide (show Below w.heap.size w w9 from (unhide hBp).trans (h1.mono (unhide hBp).size))
            have hLq := hide ((unhide hL9).add ⟨hn, hg, hx⟩)
            have hBq := hide (show Below w.heap.size w (w9.alloc (.cells #[.bool hn, .string hg, .int .i64 hx] 23)) from (unhide hB9).alloc (unhide hB9).size _)
            clear h1 hL8 hB8 hLp hBp
            have lie0 := (unhide hL9).at (w.heap.size) ⟨an, ag, ax⟩ (by simp)
            obtain ⟨x00, x01, x02⟩ := lie0.cells
            simp only at x00 x01 x02
            have sz0 : w.heap.size < w9.heap.size := blk_lt lie0
            clear lie0
            have lie1 := (unhide hL9).at (w8.heap.size) ⟨ln, lg, lx⟩ (by simp)
            obtain ⟨x10, x11, x12⟩ := lie1.cells
            simp only at x10 x11 x12
            have sz1 : w8.heap.size < w9.heap.size := blk_lt lie1
            clear lie1
            by_cases q1 : kl < 0
            · go_wp2_with fail
              refine (unhide CAL _).mono ?_
              rintro e w10 ⟨rfl, h1⟩
              have hB10 := hide (show Below w.heap.size w w10 from (unhide hBq).trans (h1.mono (unhide hBq).size))
              clear h1
              go_wp2
              go_ret
              exact ⟨rfl, unhide hB10⟩
            · have q2 : 0 < kh := (unhide HK).resolve_left q1
              go_wp2_with fail
              refine (unhide CAL _).mono ?_
              rintro e w10 ⟨rfl, h1⟩
              have hL10 := hide ((unhide hLq).call h1)
              have hB10 := hide (show Below w.heap.size w w10 from (unhide hBq).trans (h1.mono (unhide hBq).size))
              clear x00 x01 x02 sz0 x10 x11 x12 sz1
              clear h1
              have lie0 := (unhide hL10).at (w.heap.size) ⟨an, ag, ax⟩ (by simp)
              obtain ⟨x00, x01, x02⟩ := lie0.cells
              simp only at x00 x01 x02
              have sz0 : w.heap.size < w10.heap.size := blk_lt lie0
              clear lie0
              have lie1 := (unhide hL10).at (w9.heap.size) ⟨hn, hg, hx⟩ (by simp)
              obtain ⟨x10, x11, x12⟩ := lie1.cells
              simp only at x10 x11 x12
              have sz1 : w9.heap.size < w10.heap.size := blk_lt lie1
              clear lie1
              go_wp2_with fail
              refine (unhide CAH _).mono ?_
              rintro e w11 ⟨rfl, h1⟩
              have hB11 := hide (show Below w.heap.size w w11 from (unhide hB10).trans (h1.mono (unhide hB10).size))
              clear h1
              go_wp2
              go_ret
              exact ⟨rfl, unhide hB11⟩
          | true =>
            obtain ⟨V, nx, kv, kn, ofv, of1, adn, cva, can, hk1, hk2⟩ := unhide TT rfl
            obtain ⟨Vn, Vg, Vx⟩ := V
            obtain ⟨xn, xg, xx⟩ := nx
            simp only [dv, oneD] at ofv of1 adn cva can
            have OFV := hide ofv
            have OF1 := hide of1
            have ADN := hide adn
            have CVA := hide cva
            have CAN := hide can
            clear ofv of1 adn cva can TF
            go_wp2_with fail
            refine (unhide OFV _ ((unhide HPW).keep (unhide hB7))).mono ?_
            rintro e w8 ⟨rfl, h1⟩
            have hL8 := hide ((unhide hL7).call h1)
            have hB8 := hide (show Below w.heap.size w w8 from (unhide hB7).trans (h1.mono (unhide hB7).size))
            clear h1 hL7 hB7
            go_wp2_with fail
            refine (unhide OF1 _ ((unhide HPW).keep (unhide hB8))).mono ?_
            rintro e w9 ⟨rfl, h1⟩
            have hL9 := hide ((unhide hL8).call h1)
            have hB9 := hide (show Below w.heap.size w w9 from (unhide hB8).trans (h1.mono (unhide hB8).size))
            clear h1 hL8 hB8
            go_wp2_with fail
            refine (unhide ADN _ ((unhide HV).keep (unhide hB9))).mono ?_
            rintro e w10 ⟨rfl, h1⟩
            have hL10 := hide ((unhide hL9).call h1)
            have hB10 := hide (show Below w.heap.size w w10 from (unhide hB9).trans (h1.mono (unhide hB9).size))
            have hLp := hide ((unhide hL10).add ⟨xn, xg, xx⟩)
            have hBp := hide (show Below w.heap.size w (w10.alloc (.cells #[.bool xn, .string xg, .int .i64 xx] 23)) from (unhide hB10).alloc (unhide hB10).size _)
            clear h1 hL9 hB9
            have lie0 := (unhide hL10).at (w.heap.size) ⟨an, ag, ax⟩ (by simp)
            obtain ⟨x00, x01, x02⟩ := lie0.cells
            simp only at x00 x01 x02
            have sz0 : w.heap.size < w10.heap.size := blk_lt lie0
            clear lie0
            go_wp2_with fail
            go_region_held3 (fun w' => w'.cell? ⟨w10.heap.size, 0, none⟩ = some (.bool xn) ∧ w'.cell? ⟨w10.heap.size, 1, none⟩ = some (.string xg) ∧ w'.cell? ⟨w10.heap.size, 2, none⟩ = some (.int .i64 xx) ∧ w'.cell? ⟨w.heap.size, 0, none⟩ = some (.bool an) ∧ w'.cell? ⟨w.heap.size, 1, none⟩ = some (.string ag) ∧ w'.cell? ⟨w.heap.size, 2, none⟩ = some (.int .i64 ax)) (((try dsimp only); (repeat' apply And.intro); all_goals first | (go_keep; done) | (simp; omega))) (first
              | (go_at_call 15; refine (unhide OFV _ ((unhide HPW).keep (unhide hBp).drew)).mono ?_; rintro e u1 ⟨rfl, ha⟩; obtain ⟨p0, p1, p2, p3, p4, p5⟩ := keepAd (b0 := w10.heap.size) (b1 := w.heap.size) (v0 := .bool xn) (v1 := .string xg) (v2 := .int .i64 xx) (v3 := .bool an) (v4 := .string ag) (v5 := .int .i64 ax) ha (by first | assumption | go_keep); have hBu1 := hide (show Below w.heap.size w u1 from (unhide hBp).drew.trans (ha.mono (unhide hBp).drew.size)); clear ha)
              | (go_at_call 16; have _q := hBu2; refine (unhide CAN _).mono ?_; rintro e u3 ⟨rfl, ha⟩; obtain ⟨r0, r1, r2, r3, r4, r5⟩ := keepAd (b0 := w10.heap.size) (b1 := w.heap.size) (v0 := .bool xn) (v1 := .string xg) (v2 := .int .i64 xx) (v3 := .bool an) (v4 := .string ag) (v5 := .int .i64 ax) ha (by first | assumption | go_keep); have hBu3 := hide (show Below w.heap.size w u3 from (unhide hBu2).trans (ha.mono (unhide hBu2).size)); clear ha)
              | (go_at_call 16; refine (unhide CVA _).mono ?_; rintro e u2 ⟨rfl, ha⟩; obtain ⟨q0, q1, q2, q3, q4, q5⟩ := keepAd (b0 := w10.heap.size) (b1 := w.heap.size) (v0 := .bool xn) (v1 := .string xg) (v2 := .int .i64 xx) (v3 := .bool an) (v4 := .string ag) (v5 := .int .i64 ax) ha (by first | assumption | go_keep); have hBu2 := hide (show Below w.heap.size w u2 from (unhide hBu1).trans (ha.mono (unhide hBu1).size)); clear ha))
            all_goals go_wp2
            all_goals go_ret
            all_goals exact ⟨by first | rfl | (simp; done), unhide hBu3⟩
end Go.Proofs.YtgmjllkkgapjcabDoor.rd
