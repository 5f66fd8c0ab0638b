/- DecRing: it answers true, whatever the three numbers, of bounded lengths. -/
import Derived.Test.YtgmjllkkgapjcabDoorSx
namespace Go.Proofs.YtgmjllkkgapjcabDoor.rd
open Go.RowKit

/-- Numbers in blocks; nothing old has turned. -/
def Lie (wc : World) (l : List (Nat × Dn)) : Prop := ∀ x ∈ l, DLies wc x.1 x.2
theorem Lie.call {wc w' : World} {l : List (Nat × Dn)} (h : Lie wc l) (hb : Below wc.heap.size wc w') : Lie w' l := fun x hx => (h x hx).below hb (blk_lt (h x hx))
theorem Lie.drew {wc : World} {l : List (Nat × Dn)} (h : Lie wc l) : Lie wc.drew l := h
theorem Lie.add {wc : World} {l : List (Nat × Dn)} (h : Lie wc l) (d : Dn) : Lie (wc.alloc (.cells #[.bool d.neg, .string d.dg, .int .i64 d.ex] 23)) ((wc.heap.size, d) :: l) := fun x hx => by
  rcases List.mem_cons.1 hx with q | q
  · subst q; exact dlies_new wc d
  · exact (h x q).alloc _
theorem Lie.addat {wc : World} {l : List (Nat × Dn)} (h : Lie wc l) (d : Dn) (b : Nat) (hb : b = wc.heap.size) : Lie (wc.alloc (.cells #[.bool d.neg, .string d.dg, .int .i64 d.ex] 23)) ((b, d) :: l) := by
  subst hb; exact h.add d
theorem Lie.set {wc : World} {l : List (Nat × Dn)} {b : Nat} {d0 : Dn} (h : Lie wc ((b, d0) :: l)) (hne : ∀ x ∈ l, x.1 ≠ b) (d : Dn) :
    Lie (((wc.setCell ⟨b, 0, none⟩ (.bool d.neg)).setCell ⟨b, 1, none⟩ (.string d.dg)).setCell ⟨b, 2, none⟩ (.int .i64 d.ex)) ((b, d) :: l) := fun x hx => by
  rcases List.mem_cons.1 hx with q | q
  · subst q; exact (h (b, d0) (by simp)).set _ _ _
  · have hu := (Upd.setCell b 0 wc (.bool d.neg)).trans ((Upd.setCell b 1 _ (.string d.dg)).trans (Upd.setCell b 2 _ (.int .i64 d.ex)))
    exact (hu.block _ (hne x q)).trans (h x (by simp [q]))
theorem Lie.at {wc : World} {l : List (Nat × Dn)} (h : Lie wc l) (b : Nat) (d : Dn) (hm : (b, d) ∈ l) : DLies wc b d := h _ hm

set_option maxRecDepth 100000 in
set_option maxHeartbeats 6400000 in
theorem decRing_any (a b c : Dn) (pa pb : Addr) (w : World) (hsa : a.dg.size ≤ 1048576) (hsb : b.dg.size ≤ 1048576) (hsc : c.dg.size ≤ 1048576)
    (ha0 : -9223372036854775808 ≤ a.ex) (ha1 : a.ex ≤ 9223372036854775807) (hb0 : -9223372036854775808 ≤ b.ex) (hb1 : b.ex ≤ 9223372036854775807) (hc0 : -9223372036854775808 ≤ c.ex) (hc1 : c.ex ≤ 9223372036854775807) (hpw : Pow w) (hv : Sents w pa pb) :
    Calls Tryd.prog 4 #[dv a, dv b, dv c] w fun e w' => e = .returned (.bool true) ∧ Below w.heap.size w w' := by
  have wA : Whole1 (norm a) := norm_formed a
  have wB : Whole1 (norm b) := norm_formed b
  have wC : Whole1 (norm c) := norm_formed c
  have zA := (norm_good a).1
  have zB := (norm_good b).1
  have zC := (norm_good c).1
  obtain ⟨x, e1, hx, wx, zx, ox⟩ := add_res (norm a) (norm b) (eNo pb) wA wB 1048576 (by omega) (by omega)
  obtain ⟨p, g1, hpp, wp, zp, op⟩ := mul_res (norm a) (norm b) (eNo pb) wA wB 1048576 1048576 (by omega) (by omega)
  obtain ⟨z, ek, hz, wz, zz, oz⟩ := add_res (norm b) (norm c) (eNo pb) wB wC 1048576 (by omega) (by omega)
  obtain ⟨l, em, hl, wl, zl, ol⟩ := add_res x (norm c) (eNo pb) wx wC 1100000 (by omega) (by omega)
  obtain ⟨n, eo, hn, wn, zn, on⟩ := add_res (norm a) z (eNo pb) wA wz 1100000 (by omega) (by omega)
  obtain ⟨r, es, hr, wr, zr, or_⟩ := mul_res (norm a) z (eNo pb) wA wz 1100000 1100000 (by omega) (by omega)
  obtain ⟨t, eu, ht, wt, zt, ot⟩ := mul_res (norm a) (norm c) (eNo pb) wA wC 1048576 1048576 (by omega) (by omega)
  obtain ⟨v, ew, hvv, wv, zv, ov⟩ := add_res p t (eNo pb) wp wt 3000000 (by omega) (by omega)
  have hassoc : e1 = .nilIface → ek = .nilIface → em = .nilIface → eo = .nilIface → l = n := fun q1 q2 q3 q4 => by
    have n1 : ∀ ev, ev = Value.nilIface → ¬ ev = eNo pb := fun ev q q' => by rw [q] at q'; cases q'
    exact add_assoc (ox.resolve_right (n1 _ q1)).2 (oz.resolve_right (n1 _ q2)).2 (ol.resolve_right (n1 _ q3)).2 (on.resolve_right (n1 _ q4)).2
  have hdist : ek = .nilIface → es = .nilIface → g1 = .nilIface → eu = .nilIface → ew = .nilIface → r = v := fun q1 q2 q3 q4 q5 => by
    have n1 : ∀ ev, ev = Value.nilIface → ¬ ev = eNo pb := fun ev q q' => by rw [q] at q'; cases q'
    exact mul_add wA wB wC (oz.resolve_right (n1 _ q1)).2 (or_.resolve_right (n1 _ q2)).2 (op.resolve_right (n1 _ q3)).2 (ot.resolve_right (n1 _ q4)).2 (ov.resolve_right (n1 _ q5)).2
  have f1 : e1 = .nilIface ∨ e1 = eNo pb := ox.imp And.left id
  have fg : g1 = .nilIface ∨ g1 = eNo pb := op.imp And.left id
  have fk : ek = .nilIface ∨ ek = eNo pb := oz.imp And.left id
  have fm : em = .nilIface ∨ em = eNo pb := ol.imp And.left id
  have fo : eo = .nilIface ∨ eo = eNo pb := on.imp And.left id
  have fs : es = .nilIface ∨ es = eNo pb := or_.imp And.left id
  have fu : eu = .nilIface ∨ eu = eNo pb := ot.imp And.left id
  have fw : ew = .nilIface ∨ ew = eNo pb := ov.imp And.left id
  have bx := wx.exbd
  have bz := wz.exbd
  have bp := wp.exbd
  have bt := wt.exbd
  have bA := wA.exbd
  have c0 := fun w (h : Sents w pa pb) => awake_any (eNo pa) (eNo pb) w (cell_lt h.n) h.n (cell_lt h.x) h.x
  have c1 := fun w (h : Sents w pa pb) => add_any a b (eNo pb) w (by omega) (by omega) ha0 ha1 hb0 hb1 (cell_lt h.x) h.x
  have c2 := fun w (h : Sents w pa pb) => add_any b a (eNo pb) w (by omega) (by omega) hb0 hb1 ha0 ha1 (cell_lt h.x) h.x
  have c3 := fun w (h : Sents w pa pb) => mul_any a b (eNo pb) w (by omega) (by omega) ha0 ha1 hb0 hb1 (cell_lt h.x) h.x
  have c4 := fun w (h : Sents w pa pb) => mul_any b a (eNo pb) w (by omega) (by omega) hb0 hb1 ha0 ha1 (cell_lt h.x) h.x
  have c5 := fun w (h : Sents w pa pb) => add_any a zed (eNo pb) w (by omega) (by decide) ha0 ha1 (by decide) (by decide) (cell_lt h.x) h.x
  have c6 := fun w h => of_any 1 w (by omega) (by omega) h
  have c7 := fun w (h : Sents w pa pb) => mul_any a oneD (eNo pb) w (by omega) (by decide) ha0 ha1 (by decide) (by decide) (cell_lt h.x) h.x
  have c8 := fun w => like_any (norm a) a w (by omega) (by omega) (by omega) (by omega) ha0 ha1
  have c9 := fun w (h : Sents w pa pb) => add_any b c (eNo pb) w (by omega) (by omega) hb0 hb1 hc0 hc1 (cell_lt h.x) h.x
  have c10 := fun w (h : Sents w pa pb) => add_any x c (eNo pb) w (by omega) (by omega) (by omega) (by omega) hc0 hc1 (cell_lt h.x) h.x
  have c11 := fun w (h : Sents w pa pb) => add_any a z (eNo pb) w (by omega) (by omega) ha0 ha1 (by omega) (by omega) (cell_lt h.x) h.x
  have c12 := fun w (h : Sents w pa pb) => mul_any a z (eNo pb) w (by omega) (by omega) ha0 ha1 (by omega) (by omega) (cell_lt h.x) h.x
  have c13 := fun w (h : Sents w pa pb) => mul_any a c (eNo pb) w (by omega) (by omega) ha0 ha1 hc0 hc1 (cell_lt h.x) h.x
  have c14 := fun w (h : Sents w pa pb) => add_any p t (eNo pb) w (by omega) (by omega) (by omega) (by omega) (by omega) (by omega) (cell_lt h.x) h.x
  have s1 := fun w => same_any e1 pb f1 w
  have s2 := fun w => same_any g1 pb fg w
  rw [hx] at c1
  rw [addV_comm, hx] at c2
  rw [hpp] at c3
  rw [mulV_comm, hpp] at c4
  rw [norm_zed, addV_zed wA] at c5
  rw [of_one] at c6
  rw [norm_one, mul_one wA] at c7
  rw [norm_norm, cmp_eq _ _ wA wA, refCmp_self _ wA] at c8
  rw [hz] at c9
  rw [wx.norm_id, hl] at c10
  rw [wz.norm_id, hn] at c11
  rw [wz.norm_id, hr] at c12
  rw [ht] at c13
  rw [wp.norm_id, wt.norm_id, hvv] at c14
  have hB5 : boundV (norm a, true) (eNo pb) = (dv (norm a), .nilIface) := rfl
  rw [hB5] at c5 c7
  have hL0 : Lie (((w.alloc (.cells #[.bool a.neg, .string a.dg, .int .i64 a.ex] 23)).alloc (.cells #[.bool b.neg, .string b.dg, .int .i64 b.ex] 23)).alloc (.cells #[.bool c.neg, .string c.dg, .int .i64 c.ex] 23)) [(w.heap.size + 2, c), (w.heap.size + 1, b), (w.heap.size, a)] := by
    have h0 : Lie w [] := fun x hx => by simp at hx
    have h := ((h0.add a).add b).add c
    simpa using h
  have hB0 : Below w.heap.size w (((w.alloc (.cells #[.bool a.neg, .string a.dg, .int .i64 a.ex] 23)).alloc (.cells #[.bool b.neg, .string b.dg, .int .i64 b.ex] 23)).alloc (.cells #[.bool c.neg, .string c.dg, .int .i64 c.ex] 23)) := (((Below.refl _ _).alloc (Nat.le_refl _) _).alloc (by simp) _).alloc (by simp; omega) _
  generalize norm a = A at *
  clear hx hpp hz hl hn hr ht hvv ox op oz ol on or_ ot ov wA wB wC wx wz wp wt wl wn wr wv hB5 zA zB zC zx zp zz zl zn zr zt zv bx bz bp bt bA hsa hsb hsc ha0 ha1 hb0 hb1 hc0 hc1
  obtain ⟨an, ag, ax⟩ := a
  obtain ⟨bn, bg, bx⟩ := b
  obtain ⟨cn, cg, cx⟩ := c
  obtain ⟨An, Ag, Ax⟩ := A
  obtain ⟨pn, pg, px⟩ := p
  obtain ⟨xn, xg, xx⟩ := x
  obtain ⟨zn, zg, zx⟩ := z
  obtain ⟨ln, lg, lx⟩ := l
  obtain ⟨nn, ng, nx⟩ := n
  obtain ⟨rn, rg, rx⟩ := r
  obtain ⟨tn, tg, tx⟩ := t
  obtain ⟨vn, vg, vx⟩ := v
  simp only [dv, zed, oneD] at c1 c2 c3 c4 c5 c6 c7 c8 c9 c10 c11 c12 c13 c14 hL0 hB0 ⊢
  have C0 := hide c0
  have C1 := hide c1
  have C2 := hide c2
  have C3 := hide c3
  have C4 := hide c4
  have C5 := hide c5
  have C6 := hide c6
  have C7 := hide c7
  have C8 := hide c8
  have C9 := hide c9
  have C10 := hide c10
  have C11 := hide c11
  have C12 := hide c12
  have C13 := hide c13
  have C14 := hide c14
  have S1 := hide s1
  have S2 := hide s2
  have HPW := hide hpw
  have HV := hide hv
  have HAS := hide hassoc
  have HDI := hide hdist
  have F1 := hide f1
  have FG := hide fg
  have FK := hide fk
  have FM := hide fm
  have FO := hide fo
  have FS := hide fs
  have FU := hide fu
  have FW := hide fw
  clear c0 c1 c2 c3 c4 c5 c6 c7 c8 c9 c10 c11 c12 c13 c14 s1 s2 hpw hv hassoc hdist f1 fg fk fm fo fs fu fw
  have hLh := hide hL0
  have hBh := hide hB0
  clear hL0 hB0
  go_enter Tryd.func4, Tryd.ntmps4
  go_wp2_with fail
  refine (unhide C0 _ ((unhide HV).keep (unhide hBh))).mono ?_
  rintro e w1 ⟨rfl, h1⟩
  have hL1 := hide ((unhide hLh).call h1)
  have hB1 := hide (show Below w.heap.size w w1 from (unhide hBh).trans (h1.mono (unhide hBh).size))
  clear h1 hLh hBh
  have lie0 := (unhide hL1).at (w.heap.size) ⟨an, ag, ax⟩ (by simp)
  obtain ⟨x00, x01, x02⟩ := lie0.cells
  simp only at x00 x01 x02
  have sz0 : w.heap.size < w1.heap.size := blk_lt lie0
  clear lie0
  have lie1 := (unhide hL1).at (w.heap.size + 1) ⟨bn, bg, bx⟩ (by simp)
  obtain ⟨x10, x11, x12⟩ := lie1.cells
  simp only at x10 x11 x12
  have sz1 : w.heap.size + 1 < w1.heap.size := blk_lt lie1
  clear lie1
  go_wp2_with fail
  refine (unhide C1 _ ((unhide HV).keep (unhide hB1))).mono ?_
  rintro e w2 ⟨rfl, h1⟩
  have hL2 := hide ((unhide hL1).call h1)
  have hB2 := hide (show Below w.heap.size w w2 from (unhide hB1).trans (h1.mono (unhide hB1).size))
  clear h1 hL1 hB1
  clear x00 x01 x02 sz0 x10 x11 x12 sz1
  have lie0 := (unhide hL2).at (w.heap.size + 1) ⟨bn, bg, bx⟩ (by simp)
  obtain ⟨x00, x01, x02⟩ := lie0.cells
  simp only at x00 x01 x02
  have sz0 : w.heap.size + 1 < w2.heap.size := blk_lt lie0
  clear lie0
  have lie1 := (unhide hL2).at (w.heap.size) ⟨an, ag, ax⟩ (by simp)
  obtain ⟨x10, x11, x12⟩ := lie1.cells
  simp only at x10 x11 x12
  have sz1 : w.heap.size < w2.heap.size := blk_lt lie1
  clear lie1
  have hLp := hide ((unhide hL2).add ⟨xn, xg, xx⟩)
  have hBp := hide (show Below w.heap.size w (w2.alloc (.cells #[.bool xn, .string xg, .int .i64 xx] 23)) from (unhide hB2).alloc (unhide hB2).size _)
  go_wp2_with fail
  refine (unhide C2 _ ((unhide HV).keep (unhide hBp))).mono ?_
  rintro e w3 ⟨rfl, h1⟩
  have hL3 := hide ((unhide hLp).call h1)
  have hB3 := hide (show Below w.heap.size w w3 from (unhide hBp).trans (h1.mono (unhide hBp).size))
  clear h1 hL2 hB2 hLp hBp
  clear x00 x01 x02 sz0 x10 x11 x12 sz1
  have lie0 := (unhide hL3).at (w.heap.size) ⟨an, ag, ax⟩ (by simp)
  obtain ⟨x00, x01, x02⟩ := lie0.cells
  simp only at x00 x01 x02
  have sz0 : w.heap.size < w3.heap.size := blk_lt lie0
  clear lie0
  have lie1 := (unhide hL3).at (w.heap.size + 1) ⟨bn, bg, bx⟩ (by simp)
  obtain ⟨x10, x11, x12⟩ := lie1.cells
  simp only at x10 x11 x12
  have sz1 : w.heap.size + 1 < w3.heap.size := blk_lt lie1
  clear lie1
  have hLp := hide ((unhide hL3).add ⟨xn, xg, xx⟩)
  have hBp := hide (show Below w.heap.size w (w3.alloc (.cells #[.bool xn, .string xg, .int .i64 xx] 23)) from (unhide hB3).alloc (unhide hB3).size _)
  go_wp2_with fail
  refine (unhide C3 _ ((unhide HV).keep (unhide hBp))).mono ?_
  rintro e w4 ⟨rfl, h1⟩
  have hL4 := hide ((unhide hLp).call h1)
  have hB4 := hide (show Below w.heap.size w w4 from (unhide hBp).trans (h1.mono (unhide hBp).size))
  clear h1 hL3 hB3 hLp hBp
  clear x00 x01 x02 sz0 x10 x11 x12 sz1
  have lie0 := (unhide hL4).at (w.heap.size + 1) ⟨bn, bg, bx⟩ (by simp)
  obtain ⟨x00, x01, x02⟩ := lie0.cells
  simp only at x00 x01 x02
  have sz0 : w.heap.size + 1 < w4.heap.size := blk_lt lie0
  clear lie0
  have lie1 := (unhide hL4).at (w.heap.size) ⟨an, ag, ax⟩ (by simp)
  obtain ⟨x10, x11, x12⟩ := lie1.cells
  simp only at x10 x11 x12
  have sz1 : w.heap.size < w4.heap.size := blk_lt lie1
  clear lie1
  have hLp := hide ((unhide hL4).add ⟨pn, pg, px⟩)
  have hBp := hide (show Below w.heap.size w (w4.alloc (.cells #[.bool pn, .string pg, .int .i64 px] 23)) from (unhide hB4).alloc (unhide hB4).size _)
  go_wp2_with fail
  refine (unhide C4 _ ((unhide HV).keep (unhide hBp))).mono ?_
  rintro e w5 ⟨rfl, h1⟩
  have hL5 := hide ((unhide hLp).call h1)
  have hB5 := hide (show Below w.heap.size w w5 from (unhide hBp).trans (h1.mono (unhide hBp).size))
  clear h1 hL4 hB4 hLp hBp
  clear x00 x01 x02 sz0 x10 x11 x12 sz1
  have hLp := hide ((unhide hL5).add ⟨pn, pg, px⟩)
  have hBp := hide (show Below w.heap.size w (w5.alloc (.cells #[.bool pn, .string pg, .int .i64 px] 23)) from (unhide hB5).alloc (unhide hB5).size _)
  have lie0 := (unhide hL5).at (w2.heap.size) ⟨xn, xg, xx⟩ (by simp)
  obtain ⟨x00, x01, x02⟩ := lie0.cells
  simp only at x00 x01 x02
  have sz0 : w2.heap.size < w5.heap.size := blk_lt lie0
  clear lie0
  have lie1 := (unhide hL5).at (w3.heap.size) ⟨xn, xg, xx⟩ (by simp)
  obtain ⟨x10, x11, x12⟩ := lie1.cells
  simp only at x10 x11 x12
  have sz1 : w3.heap.size < w5.heap.size := blk_lt lie1
  clear lie1
  have lie2 := (unhide hL5).at (w4.heap.size) ⟨pn, pg, px⟩ (by simp)
  obtain ⟨x20, x21, x22⟩ := lie2.cells
  simp only at x20 x21 x22
  have sz2 : w4.heap.size < w5.heap.size := blk_lt lie2
  clear lie2
  go_wp2_with fail
  refine (unhide S1 _).mono ?_
  rintro e wq ⟨rfl, rfl⟩
  go_wp2_with fail
  refine (unhide S2 _).mono ?_
  rintro e wq ⟨rfl, rfl⟩
  clear S1 S2
  have lie9 := (unhide hL5).at (w.heap.size) ⟨an, ag, ax⟩ (by simp)
  obtain ⟨x90, x91, x92⟩ := lie9.cells
  simp only at x90 x91 x92
  have sz9 : w.heap.size < w5.heap.size := blk_lt lie9
  go_wp2_with fail
  refine (unhide C5 _ ((unhide HV).keep (unhide hBp))).mono ?_
  rintro e w6 ⟨rfl, h1⟩
  have hL6 := hide ((unhide hLp).call h1)
  have hB6 := hide (show Below w.heap.size w w6 from (unhide hBp).trans (h1.mono (unhide hBp).size))
  clear h1 hL5 hB5 hLp hBp lie9 x90 x91 x92 sz9
  clear x00 x01 x02 sz0 x10 x11 x12 sz1 x20 x21 x22 sz2
  have hLp := hide ((unhide hL6).add ⟨An, Ag, Ax⟩)
  have hBp := hide (show Below w.heap.size w (w6.alloc (.cells #[.bool An, .string Ag, .int .i64 Ax] 23)) from (unhide hB6).alloc (unhide hB6).size _)
  have lie0 := (unhide hLp).at (w.heap.size) ⟨an, ag, ax⟩ (by simp)
  obtain ⟨x00, x01, x02⟩ := lie0.cells
  simp only at x00 x01 x02
  clear lie0
  have szn : w.heap.size < w6.heap.size := blk_lt ((unhide hL6).at (w.heap.size) ⟨an, ag, ax⟩ (by simp))
  have nn1 : w.heap.size ≠ w6.heap.size + 1 := by omega
  have nn2 : w6.heap.size + 1 ≠ w.heap.size := by omega
  go_upto_region 9 with fail
  go_cut [18, 19] from 32 (fun s18 s19 wx => ∃ bO, s18 = .pointer (some ⟨bO, 0, none⟩) ∧ s19 = .nilIface ∧ Hid (Lie wx ((bO, ⟨An, Ag, Ax⟩) :: [(w6.heap.size, ⟨An, Ag, Ax⟩), (w5.heap.size, ⟨pn, pg, px⟩), (w4.heap.size, ⟨pn, pg, px⟩), (w3.heap.size, ⟨xn, xg, xx⟩), (w2.heap.size, ⟨xn, xg, xx⟩), (w.heap.size + 2, ⟨cn, cg, cx⟩), (w.heap.size + 1, ⟨bn, bg, bx⟩), (w.heap.size, ⟨an, ag, ax⟩)])) ∧ Hid (Below w.heap.size w wx))
  case first =>
    go_region_held3 (fun w' => w'.cell? ⟨w.heap.size, 0, none⟩ = some (.bool an) ∧ w'.cell? ⟨w.heap.size, 1, none⟩ = some (.string ag) ∧ w'.cell? ⟨w.heap.size, 2, none⟩ = some (.int .i64 ax)) (((try dsimp only); (repeat' apply And.intro); all_goals first | (go_keep; done) | (simp; omega) | (simp [*, World.cell?_alloc_past]; done))) (first
      | (go_at_call 15; (first | (refine (unhide C6 _ ((unhide HPW).keep (unhide hBp).drew)).mono ?_; rintro e u1 ⟨rfl, ha⟩; have hLa := hide ((unhide hLp).drew.call ha); have hBa := hide (show Below w.heap.size w u1 from (unhide hBp).drew.trans (ha.mono (unhide hBp).drew.size))) | (refine (unhide C6 _ ((unhide HPW).keep ((unhide hBp).drew.alloc (unhide hBp).size _))).mono ?_; rintro e u1 ⟨rfl, ha⟩; have hLa := hide (((unhide hLp).drew.addat zed (w6.heap.size + 1) (show _ = (w6.heap.push _).size from (Array.size_push _).symm)).call ha); have hBa := hide (show Below w.heap.size w u1 from ((unhide hBp).drew.alloc (unhide hBp).size _).trans (ha.mono ((unhide hBp).drew.alloc (unhide hBp).size _).size)))); have liea := (unhide hLa).at (w.heap.size) ⟨an, ag, ax⟩ (by simp); obtain ⟨y00, y01, y02⟩ := liea.cells; simp only at y00 y01 y02; have szy : w.heap.size < u1.heap.size := blk_lt liea; have ny1 : w.heap.size ≠ u1.heap.size := Nat.ne_of_lt szy; have ny2 : u1.heap.size ≠ w.heap.size := Ne.symm ny1; clear ha liea)
      | (go_at_call 13; (first | (refine (unhide C7 _ ((unhide HV).keep (unhide hBa))).mono ?_; rintro e u2 ⟨rfl, hb⟩; have hLb := hide ((unhide hLa).call hb); have hBb := hide (show Below w.heap.size w u2 from (unhide hBa).trans (hb.mono (unhide hBa).size))) | (refine (unhide C7 _ ((unhide HV).keep ((unhide hBa).alloc (unhide hBa).size _))).mono ?_; rintro e u2 ⟨rfl, hb⟩; have hLb := hide (((unhide hLa).add zed).call hb); have hBb := hide (show Below w.heap.size w u2 from ((unhide hBa).alloc (unhide hBa).size _).trans (hb.mono ((unhide hBa).alloc (unhide hBa).size _).size)))); have lieb := (unhide hLb).at (w.heap.size) ⟨an, ag, ax⟩ (by simp); obtain ⟨z00, z01, z02⟩ := lieb.cells; simp only at z00 z01 z02; have szb : w.heap.size < u2.heap.size := blk_lt lieb; have ne1 : w.heap.size ≠ u2.heap.size := Nat.ne_of_lt szb; have ne2 : u2.heap.size ≠ w.heap.size := Ne.symm ne1; (first | (have lt := (unhide hLb).at u1.heap.size zed List.mem_cons_self; obtain ⟨t0, t1, t2⟩ := lt.cells; obtain ⟨t3, t4, t5⟩ := lt.frees; simp only [zed] at t0 t1 t2; clear lt) | (have lt := (unhide hLb).at (w6.heap.size + 1) zed List.mem_cons_self; obtain ⟨t0, t1, t2⟩ := lt.cells; obtain ⟨t3, t4, t5⟩ := lt.frees; simp only [zed] at t0 t1 t2; clear lt) | skip); clear hb lieb))
    all_goals go_wp2_with fail
    all_goals go_meet
    all_goals first
      | exact ⟨u2.heap.size, rfl, rfl, hide ((unhide hLb).add ⟨An, Ag, Ax⟩), hide ((unhide hBb).alloc (unhide hBb).size _)⟩
      | exact ⟨u1.heap.size, rfl, rfl, hide (Lie.set (unhide hLb) (fun x hx => Nat.ne_of_lt (blk_lt ((unhide hLa) x hx))) ⟨An, Ag, Ax⟩), hide (below3 (unhide hBb) (unhide hBa).size _ _ _)⟩
      | exact ⟨w6.heap.size + 1, rfl, rfl, hide (Lie.set (b := w6.heap.size + 1) (unhide hLb) (fun x hx => by have := blk_lt ((unhide hLp) x hx); simp at this; omega) ⟨An, Ag, Ax⟩), hide (below3 (unhide hBb) (by have := (unhide hB6).size; omega) _ _ _)⟩
  case rest =>
    obtain ⟨bO, rfl, rfl, hLw, hBw⟩ := hcut
    clear x00 x01 x02 C6 C7 HPW hLp hBp hL6 hB6
    have lie0 := (unhide hLw).at (w6.heap.size) ⟨An, Ag, Ax⟩ (by simp)
    obtain ⟨x00, x01, x02⟩ := lie0.cells
    simp only at x00 x01 x02
    have sz0 : w6.heap.size < wc.heap.size := blk_lt lie0
    clear lie0
    have lie1 := (unhide hLw).at (w.heap.size) ⟨an, ag, ax⟩ (by simp)
    obtain ⟨x10, x11, x12⟩ := lie1.cells
    simp only at x10 x11 x12
    have sz1 : w.heap.size < wc.heap.size := blk_lt lie1
    clear lie1
    go_wp2_with fail
    refine (unhide C8 _).mono ?_
    rintro e v1 ⟨rfl, h1⟩
    have hLv1 := hide ((unhide hLw).call h1)
    have hBv1 := hide (show Below w.heap.size w v1 from (unhide hBw).trans (h1.mono (unhide hBw).size))
    clear h1 hLw hBw
    clear x00 x01 x02 sz0 x10 x11 x12 sz1
    have lie0 := (unhide hLv1).at (bO) ⟨An, Ag, Ax⟩ (by simp)
    obtain ⟨x00, x01, x02⟩ := lie0.cells
    simp only at x00 x01 x02
    have sz0 : bO < v1.heap.size := blk_lt lie0
    clear lie0
    have lie1 := (unhide hLv1).at (w.heap.size) ⟨an, ag, ax⟩ (by simp)
    obtain ⟨x10, x11, x12⟩ := lie1.cells
    simp only at x10 x11 x12
    have sz1 : w.heap.size < v1.heap.size := blk_lt lie1
    clear lie1
    go_wp2_with fail
    refine (unhide C8 _).mono ?_
    rintro e v2 ⟨rfl, h1⟩
    have hLv2 := hide ((unhide hLv1).call h1)
    have hBv2 := hide (show Below w.heap.size w v2 from (unhide hBv1).trans (h1.mono (unhide hBv1).size))
    clear h1 hLv1 hBv1
    clear x00 x01 x02 sz0 x10 x11 x12 sz1
    have lie0 := (unhide hLv2).at (w.heap.size + 1) ⟨bn, bg, bx⟩ (by simp)
    obtain ⟨x00, x01, x02⟩ := lie0.cells
    simp only at x00 x01 x02
    have sz0 : w.heap.size + 1 < v2.heap.size := blk_lt lie0
    clear lie0
    have lie1 := (unhide hLv2).at (w.heap.size + 2) ⟨cn, cg, cx⟩ (by simp)
    obtain ⟨x10, x11, x12⟩ := lie1.cells
    simp only at x10 x11 x12
    have sz1 : w.heap.size + 2 < v2.heap.size := blk_lt lie1
    clear lie1
    go_wp2_with fail
    refine (unhide C9 _ ((unhide HV).keep (unhide hBv2))).mono ?_
    rintro e v3 ⟨rfl, h1⟩
    have hLv3 := hide ((unhide hLv2).call h1)
    have hBv3 := hide (show Below w.heap.size w v3 from (unhide hBv2).trans (h1.mono (unhide hBv2).size))
    clear h1 hLv2 hBv2
    clear x00 x01 x02 sz0 x10 x11 x12 sz1
    have lie0 := (unhide hLv3).at (w2.heap.size) ⟨xn, xg, xx⟩ (by simp)
    obtain ⟨x00, x01, x02⟩ := lie0.cells
    simp only at x00 x01 x02
    have sz0 : w2.heap.size < v3.heap.size := blk_lt lie0
    clear lie0
    have lie1 := (unhide hLv3).at (w.heap.size + 2) ⟨cn, cg, cx⟩ (by simp)
    obtain ⟨x10, x11, x12⟩ := lie1.cells
    simp only at x10 x11 x12
    have sz1 : w.heap.size + 2 < v3.heap.size := blk_lt lie1
    clear lie1
    have hLp := hide ((unhide hLv3).add ⟨zn, zg, zx⟩)
    have hBp := hide (show Below w.heap.size w (v3.alloc (.cells #[.bool zn, .string zg, .int .i64 zx] 23)) from (unhide hBv3).alloc (unhide hBv3).size _)
    go_wp2_with fail
    refine (unhide C10 _ ((unhide HV).keep (unhide hBp))).mono ?_
    rintro e v4 ⟨rfl, h1⟩
    have hLv4 := hide ((unhide hLp).call h1)
    have hBv4 := hide (show Below w.heap.size w v4 from (unhide hBp).trans (h1.mono (unhide hBp).size))
    clear h1 hLv3 hBv3 hLp hBp
    clear x00 x01 x02 sz0 x10 x11 x12 sz1
    have lie0 := (unhide hLv4).at (w.heap.size) ⟨an, ag, ax⟩ (by simp)
    obtain ⟨x00, x01, x02⟩ := lie0.cells
    simp only at x00 x01 x02
    have sz0 : w.heap.size < v4.heap.size := blk_lt lie0
    clear lie0
    have lie1 := (unhide hLv4).at (v3.heap.size) ⟨zn, zg, zx⟩ (by simp)
    obtain ⟨x10, x11, x12⟩ := lie1.cells
    simp only at x10 x11 x12
    have sz1 : v3.heap.size < v4.heap.size := blk_lt lie1
    clear lie1
    have hLp := hide ((unhide hLv4).add ⟨ln, lg, lx⟩)
    have hBp := hide (show Below w.heap.size w (v4.alloc (.cells #[.bool ln, .string lg, .int .i64 lx] 23)) from (unhide hBv4).alloc (unhide hBv4).size _)
    go_wp2_with fail
    refine (unhide C11 _ ((unhide HV).keep (unhide hBp))).mono ?_
    rintro e v5 ⟨rfl, h1⟩
    have hLv5 := hide ((unhide hLp).call h1)
    have hBv5 := hide (show Below w.heap.size w v5 from (unhide hBp).trans (h1.mono (unhide hBp).size))
    clear h1 hLv4 hBv4 hLp hBp
    clear x00 x01 x02 sz0 x10 x11 x12 sz1
    have hLp := hide ((unhide hLv5).add ⟨nn, ng, nx⟩)
    have hBp := hide (show Below w.heap.size w (v5.alloc (.cells #[.bool nn, .string ng, .int .i64 nx] 23)) from (unhide hBv5).alloc (unhide hBv5).size _)
    have lie0 := (unhide hLv5).at (v4.heap.size) ⟨ln, lg, lx⟩ (by simp)
    obtain ⟨x00, x01, x02⟩ := lie0.cells
    simp only at x00 x01 x02
    have sz0 : v4.heap.size < v5.heap.size := blk_lt lie0
    clear lie0
    go_upto_region 15 with fail
    go_cut [147] from 32 (fun s147 wx => s147 = .bool false ∧ wx = (v5.alloc (.cells #[.bool nn, .string ng, .int .i64 nx] 23)))
    case first =>
      rcases unhide F1 with rfl | rfl
      · rcases unhide FK with rfl | rfl
        · rcases unhide FM with rfl | rfl
          · rcases unhide FO with rfl | rfl
            · obtain ⟨rfl, rfl, rfl⟩ : ln = nn ∧ lg = ng ∧ lx = nx := by
                have q := unhide HAS rfl rfl rfl rfl
                injection q with q1 q2 q3
                exact ⟨q1, q2, q3⟩
              go_wp2
              go_meet
              exact ⟨by simp, rfl⟩
            · unfold eNo
              go_wp2
              go_meet
              exact ⟨rfl, rfl⟩
          · unfold eNo
            go_wp2
            go_meet
            exact ⟨rfl, rfl⟩
        · unfold eNo
          go_wp2
          go_meet
          exact ⟨rfl, rfl⟩
      · unfold eNo
        go_wp2
        go_meet
        exact ⟨rfl, rfl⟩
    case rest =>
      obtain ⟨rfl, rfl⟩ := hcut
      clear F1 FM FO HAS x00 x01 x02 sz0 hLv5 hBv5
      have lie0 := (unhide hLp).at (w.heap.size) ⟨an, ag, ax⟩ (by simp)
      obtain ⟨x00, x01, x02⟩ := lie0.cells
      simp only at x00 x01 x02
      clear lie0
      have lie1 := (unhide hLp).at (v3.heap.size) ⟨zn, zg, zx⟩ (by simp)
      obtain ⟨x10, x11, x12⟩ := lie1.cells
      simp only at x10 x11 x12
      clear lie1
      generalize hgen : v5.alloc (.cells #[.bool nn, .string ng, .int .i64 nx] 23) = wg at *
      clear hgen
      go_wp2_with fail
      refine (unhide C12 _ ((unhide HV).keep (unhide hBp))).mono ?_
      rintro e v6 ⟨rfl, h1⟩
      have hLv6 := hide ((unhide hLp).call h1)
      have hBv6 := hide (show Below w.heap.size w v6 from (unhide hBp).trans (h1.mono (unhide hBp).size))
      clear h1 hLp hBp x00 x01 x02 x10 x11 x12
      have lie0 := (unhide hLv6).at (w.heap.size) ⟨an, ag, ax⟩ (by simp)
      obtain ⟨x00, x01, x02⟩ := lie0.cells
      simp only at x00 x01 x02
      have sz0 : w.heap.size < v6.heap.size := blk_lt lie0
      clear lie0
      have lie1 := (unhide hLv6).at (w.heap.size + 2) ⟨cn, cg, cx⟩ (by simp)
      obtain ⟨x10, x11, x12⟩ := lie1.cells
      simp only at x10 x11 x12
      have sz1 : w.heap.size + 2 < v6.heap.size := blk_lt lie1
      clear lie1
      have hLp := hide ((unhide hLv6).add ⟨rn, rg, rx⟩)
      have hBp := hide (show Below w.heap.size w (v6.alloc (.cells #[.bool rn, .string rg, .int .i64 rx] 23)) from (unhide hBv6).alloc (unhide hBv6).size _)
      go_wp2_with fail
      refine (unhide C13 _ ((unhide HV).keep (unhide hBp))).mono ?_
      rintro e v7 ⟨rfl, h1⟩
      have hLv7 := hide ((unhide hLp).call h1)
      have hBv7 := hide (show Below w.heap.size w v7 from (unhide hBp).trans (h1.mono (unhide hBp).size))
      clear h1 hLv6 hBv6 hLp hBp
      clear x00 x01 x02 sz0 x10 x11 x12 sz1
      have lie0 := (unhide hLv7).at (w4.heap.size) ⟨pn, pg, px⟩ (by simp)
      obtain ⟨x00, x01, x02⟩ := lie0.cells
      simp only at x00 x01 x02
      have sz0 : w4.heap.size < v7.heap.size := blk_lt lie0
      clear lie0
      have hLp := hide ((unhide hLv7).add ⟨tn, tg, tx⟩)
      have hBp := hide (show Below w.heap.size w (v7.alloc (.cells #[.bool tn, .string tg, .int .i64 tx] 23)) from (unhide hBv7).alloc (unhide hBv7).size _)
      go_wp2_with fail
      refine (unhide C14 _ ((unhide HV).keep (unhide hBp))).mono ?_
      rintro e v8 ⟨rfl, h1⟩
      have hLv8 := hide ((unhide hLp).call h1)
      have hBv8 := hide (show Below w.heap.size w v8 from (unhide hBp).trans (h1.mono (unhide hBp).size))
      clear h1 hLv7 hBv7 hLp hBp
      clear x00 x01 x02 sz0
      have hLp := hide ((unhide hLv8).add ⟨vn, vg, vx⟩)
      have hBp := hide (show Below w.heap.size w (v8.alloc (.cells #[.bool vn, .string vg, .int .i64 vx] 23)) from (unhide hBv8).alloc (unhide hBv8).size _)
      have lie0 := (unhide hLv8).at (v6.heap.size) ⟨rn, rg, rx⟩ (by simp)
      obtain ⟨x00, x01, x02⟩ := lie0.cells
      simp only at x00 x01 x02
      have sz0 : v6.heap.size < v8.heap.size := blk_lt lie0
      clear lie0
      rcases unhide FK with rfl | rfl
      · rcases unhide FS with rfl | rfl
        · rcases unhide FG with rfl | rfl
          · rcases unhide FU with rfl | rfl
            · rcases unhide FW with rfl | rfl
              · obtain ⟨rfl, rfl, rfl⟩ : rn = vn ∧ rg = vg ∧ rx = vx := by
                  have q := unhide HDI rfl rfl rfl rfl rfl
                  injection q with q1 q2 q3
                  exact ⟨q1, q2, q3⟩
                go_wp2
                go_ret
                exact ⟨rfl, unhide hBp⟩
              · unfold eNo
                go_wp2
                go_ret
                exact ⟨rfl, unhide hBp⟩
            · unfold eNo
              go_wp2
              go_ret
              exact ⟨rfl, unhide hBp⟩
          · unfold eNo
            go_wp2
            go_ret
            exact ⟨rfl, unhide hBp⟩
        · unfold eNo
          go_wp2
          go_ret
          exact ⟨rfl, unhide hBp⟩
      · unfold eNo
        go_wp2
        go_ret
        exact ⟨rfl, unhide hBp⟩
end Go.Proofs.YtgmjllkkgapjcabDoor.rd
