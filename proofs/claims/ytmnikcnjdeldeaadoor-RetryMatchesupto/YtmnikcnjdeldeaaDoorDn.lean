/- The contract of countedRate. -/
import Derived.Test.YtmnikcnjdeldeaaDoorOqG
namespace Go.Proofs.YtmnikcnjdeldeaaDoor.rd
open Go.RowKit

/-- In the walk of countedRate: the answer lies at b, n at c. -/
structure CrW (w wc : World) (b c : Nat) (n : Dn) : Prop where
  r : DLies wc b zed
  n : DLies wc c n
  below : Below w.heap.size w wc
  hb : w.heap.size ≤ b
  hc : w.heap.size ≤ c
  ne : b ≠ c
theorem CrW.call {w wc w' : World} {b c : Nat} {n : Dn} (h : CrW w wc b c n) (hb : Below wc.heap.size wc w') : CrW w w' b c n where
  r := h.r.below hb (blk_lt h.r)
  n := h.n.below hb (blk_lt h.n)
  below := h.below.trans (hb.mono h.below.size)
  hb := h.hb
  hc := h.hc
  ne := h.ne
theorem CrW.drew {w wc : World} {b c : Nat} {n : Dn} (h : CrW w wc b c n) : CrW w wc.drew b c n := ⟨h.r, h.n, h.below.drew, h.hb, h.hc, h.ne⟩
theorem keep3c {b0 : Nat} {v0 v1 v2 : Value} {W w1 : World} (hb : Below W.heap.size W w1)
    (h : W.cell? ⟨b0, 0, none⟩ = some v0 ∧ W.cell? ⟨b0, 1, none⟩ = some v1 ∧ W.cell? ⟨b0, 2, none⟩ = some v2) :
    w1.cell? ⟨b0, 0, none⟩ = some v0 ∧ w1.cell? ⟨b0, 1, none⟩ = some v1 ∧ w1.cell? ⟨b0, 2, none⟩ = some v2 := by
  obtain ⟨c0, c1, c2⟩ := h
  exact ⟨keepC hb c0, keepC hb c1, keepC hb c2⟩
theorem CrW.cut {w wc : World} {b c : Nat} {n : Dn} (h : CrW w wc b c n) (s : ByteArray) : CrW w (wc.setCell ⟨c, 1, none⟩ (.string s)) b c ⟨n.neg, s, n.ex⟩ := by
  have hu := Upd.setCell c 1 wc (.string s)
  refine ⟨(hu.block _ h.ne).trans h.r, ?_, h.below.setCell h.hc _, h.hb, h.hc, h.ne⟩
  exact blk_set h.n 1 (.string s)

theorem CrW.cutX {w wc : World} {b c : Nat} {n : Dn} (h : CrW w wc b c n) (x : Int) : CrW w (wc.setCell ⟨c, 2, none⟩ (.int .i64 x)) b c ⟨n.neg, n.dg, x⟩ := by
  have hu := Upd.setCell c 2 wc (.int .i64 x)
  refine ⟨(hu.block _ h.ne).trans h.r, ?_, h.below.setCell h.hc _, h.hb, h.hc, h.ne⟩
  exact blk_set h.n 2 (.int .i64 x)

theorem CrW.start {w u1 : World} (d n : Dn) (hb : Below ((w.alloc (.cells #[.bool d.neg, .string d.dg, .int .i64 d.ex] 47)).alloc (.cells #[.bool false, .string ⟨#[]⟩, .int .i64 0] 47)).heap.size ((w.alloc (.cells #[.bool d.neg, .string d.dg, .int .i64 d.ex] 47)).alloc (.cells #[.bool false, .string ⟨#[]⟩, .int .i64 0] 47)) u1) :
    CrW w (u1.alloc (.cells #[.bool n.neg, .string n.dg, .int .i64 n.ex] 47)) (w.heap.size + 1) u1.heap.size n := by
  have l0 := dlies_new (w.alloc (.cells #[.bool d.neg, .string d.dg, .int .i64 d.ex] 47)) zed
  have b0 : Below w.heap.size w ((w.alloc (.cells #[.bool d.neg, .string d.dg, .int .i64 d.ex] 47)).alloc (.cells #[.bool false, .string ⟨#[]⟩, .int .i64 0] 47)) := ((Below.refl _ _).alloc (Nat.le_refl _) _).alloc (by simp) _
  have b1 := b0.trans (hb.mono b0.size)
  have l1 := l0.below hb (blk_lt l0)
  have e : (w.alloc (.cells #[.bool d.neg, .string d.dg, .int .i64 d.ex] 47)).heap.size = w.heap.size + 1 := by simp
  rw [e] at l1
  have z := blk_lt l1
  exact ⟨l1.alloc _, dlies_new u1 n, b1.alloc b1.size _, by omega, b1.size, by omega⟩

theorem ret_cr {m : Nat} (w : World) (d : Dn) (h : DLies w m d) (tmps : Array Value) (ht : tmps[2]?.getD undef = .pointer (some ⟨m, 0, none⟩)) :
    (results Tryd.f34 tmps).run Tryd.prog w = .ok (dv d) w := by
  obtain ⟨q0, q1, q2⟩ := h.cells
  simp [results, Tryd.results34, ht, go_sem, q0, q1, q2, dv]

set_option maxRecDepth 100000 in
set_option maxHeartbeats 3200000 in
theorem countedRate_any (d : Dn) (w : World) (hs : d.dg.size ≤ 1048576) (h0 : -9223372036854775808 ≤ d.ex) (h1 : d.ex ≤ 9223372036854775807) (hp : Pow w) :
    Calls Tryd.prog 34 #[dv d] w fun e w' => e = .returned (dv (ctd d)) ∧ Below w.heap.size w w' := by
  have c1 := fun w => norm_any d w (by omega) h0 h1
  have hw : Whole1 (norm d) := norm_formed d
  obtain ⟨g1, g2, g3, g4⟩ := norm_good d
  obtain ⟨a1, a2, a3⟩ := of_exact 1 (by omega) (by omega)
  obtain ⟨b1, b2, b3⟩ := of_exact 1000 (by omega) (by omega)
  obtain ⟨s1, s2, s3⟩ := ofN_size 1 (by omega) (by omega)
  obtain ⟨t1, t2, t3⟩ := ofN_size 1000 (by omega) (by omega)
  have o1 := fun w h => of_any 1 w (by omega) (by omega) h
  have o2 := fun w h => of_any 1000 w (by omega) (by omega) h
  have k1 := fun w => cmp_any (norm d) (ofN 1) w (by omega) (by omega) (by omega) (by omega) (by omega) (by omega)
  have k2 := fun w => cmp_any (norm d) (ofN 1000) w (by omega) (by omega) (by omega) (by omega) (by omega) (by omega)
  rw [norm_norm, a1.norm_id] at k1
  rw [norm_norm, b1.norm_id] at k2
  have ht := top_pos (norm d) hw
  have T1 := hide (fun w => top_any (norm d) w (by omega) (by omega) (by omega))
  have HR : Hid (ctd d = if decCmp (norm d) (ofN 1) < 0 then ofN 1 else if 0 ≤ decCmp (norm d) (ofN 1000) then ofN 1000 else norm (cutD (norm d))) := rfl
  generalize ctd d = res at HR ⊢
  generalize decCmp (norm d) (ofN 1) = ka at *
  generalize decCmp (norm d) (ofN 1000) = kb at *
  have HN : Hid (norm (norm d) = norm d) := norm_norm d
  generalize norm d = n at *
  generalize ofN 1 = one at *
  generalize ofN 1000 = thou at *
  obtain ⟨dn, dg, dx⟩ := d
  obtain ⟨nn, ng, nx⟩ := n
  obtain ⟨on, og, ox⟩ := one
  obtain ⟨tn, tg, tx⟩ := thou
  simp only [dv] at c1 o1 o2 k1 k2 T1 ⊢
  have C1 := hide c1
  have O1 := hide o1
  have O2 := hide o2
  have K1 := hide k1
  have K2 := hide k2
  have HP := hide hp
  have HTP := hide ht
  have G := hide (And.intro g1 (And.intro g2 g3))
  clear c1 o1 o2 k1 k2 hp ht g1 g2 g3 g4 hw a1 a2 a3 b1 b2 b3 s1 s2 s3 t1 t2 t3
  go_enter Tryd.func34, Tryd.ntmps34
  go_wp2_with fail
  refine (unhide C1 _).mono ?_
  rintro e u1 ⟨rfl, hb1⟩
  have hW := CrW.start ⟨dn, dg, dx⟩ ⟨nn, ng, nx⟩ hb1
  clear hb1 C1
  go_upto_region 2 with fail
  go_cut [9] from 4 (fun s9 wx => s9 = .bool (decide (ka < 0)) ∧ CrW w wx (w.heap.size + 1) u1.heap.size ⟨nn, ng, nx⟩)
  case first =>
    obtain ⟨x0, x1, x2⟩ := hW.n.cells
    simp only at x0 x1 x2
    go_region_held3 (fun w' => w'.cell? ⟨u1.heap.size, 0, none⟩ = some (.bool nn) ∧ w'.cell? ⟨u1.heap.size, 1, none⟩ = some (.string ng) ∧ w'.cell? ⟨u1.heap.size, 2, none⟩ = some (.int .i64 nx)) (((try dsimp only); (repeat' apply And.intro); all_goals first | (go_keep; done) | (simp; omega))) (first
      | (go_at_call 35; refine (unhide K1 _).mono ?_; rintro e u3 ⟨rfl, ha⟩; obtain ⟨q0, q1, q2⟩ := keep3c (b0 := u1.heap.size) (v0 := .bool nn) (v1 := .string ng) (v2 := .int .i64 nx) ha (by first | assumption | go_keep); have hW3 := hW2.call ha; clear ha)
      | (go_at_call 33; refine (unhide O1 _ ((unhide HP).keep hW.drew.below)).mono ?_; rintro e u2 ⟨rfl, ha⟩; obtain ⟨p0, p1, p2⟩ := keep3c (b0 := u1.heap.size) (v0 := .bool nn) (v1 := .string ng) (v2 := .int .i64 nx) ha (by first | assumption | go_keep); have hW2 := hW.drew.call ha; clear ha))
    all_goals go_wp2_with fail
    all_goals go_meet
    all_goals exact ⟨by first | rfl | (simp; done), hW3⟩
  case rest =>
    clear hW
    obtain ⟨rfl, hA⟩ := hcut
    by_cases q1 : ka < 0
    · have hr : res = ⟨on, og, ox⟩ := by rw [HR.out, if_pos q1]
      subst hr
      clear HR
      go_wp2_with fail
      refine (unhide O1 _ ((unhide HP).keep hA.below)).mono ?_
      rintro e u2 ⟨rfl, ha⟩
      have hB := hA.call ha
      clear ha
      obtain ⟨y0, y1, y2⟩ := hB.r.cells
      obtain ⟨f0, f1, f2⟩ := hB.r.frees
      simp only [zed] at y0 y1 y2
      go_wp2
      exact bodyPost_ret (ret_cr _ ⟨on, og, ox⟩ (hB.r.set on og ox) _ rfl) rfl ⟨rfl, below3 hB.below hB.hb _ _ _⟩
    · have hr : res = if 0 ≤ kb then ⟨tn, tg, tx⟩ else norm (cutD ⟨nn, ng, nx⟩) := by rw [HR.out, if_neg q1]
      have HR2 := hide hr
      have htp := unhide HTP (by omega)
      clear HR hr HTP
      go_upto_region 4 with fail
      go_cut [14] from 4 (fun s14 wx => s14 = .bool (decide (0 ≤ kb)) ∧ CrW w wx (w.heap.size + 1) u1.heap.size ⟨nn, ng, nx⟩)
      case first =>
        obtain ⟨x0, x1, x2⟩ := hA.n.cells
        simp only at x0 x1 x2
        go_region_held3 (fun w' => w'.cell? ⟨u1.heap.size, 0, none⟩ = some (.bool nn) ∧ w'.cell? ⟨u1.heap.size, 1, none⟩ = some (.string ng) ∧ w'.cell? ⟨u1.heap.size, 2, none⟩ = some (.int .i64 nx)) (((try dsimp only); (repeat' apply And.intro); all_goals first | (go_keep; done) | (simp; omega))) (first
          | (go_at_call 35; refine (unhide K2 _).mono ?_; rintro e u3 ⟨rfl, ha⟩; obtain ⟨q0, q1, q2⟩ := keep3c (b0 := u1.heap.size) (v0 := .bool nn) (v1 := .string ng) (v2 := .int .i64 nx) ha (by first | assumption | go_keep); have hW3 := hW2.call ha; clear ha)
          | (go_at_call 33; refine (unhide O2 _ ((unhide HP).keep hA.drew.below)).mono ?_; rintro e u2 ⟨rfl, ha⟩; obtain ⟨p0, p1, p2⟩ := keep3c (b0 := u1.heap.size) (v0 := .bool nn) (v1 := .string ng) (v2 := .int .i64 nx) ha (by first | assumption | go_keep); have hW2 := hA.drew.call ha; clear ha))
        all_goals go_wp2_with fail
        all_goals go_meet
        all_goals exact ⟨by first | rfl | (simp; done), hW3⟩
      case rest =>
        clear hA
        obtain ⟨rfl, hA⟩ := hcut
        by_cases q2 : 0 ≤ kb
        · have hr : res = ⟨tn, tg, tx⟩ := by rw [HR2.out, if_pos q2]
          subst hr
          clear HR2
          go_wp2_with fail
          refine (unhide O2 _ ((unhide HP).keep hA.below)).mono ?_
          rintro e u2 ⟨rfl, ha⟩
          have hB := hA.call ha
          clear ha
          obtain ⟨y0, y1, y2⟩ := hB.r.cells
          obtain ⟨f0, f1, f2⟩ := hB.r.frees
          simp only [zed] at y0 y1 y2
          go_wp2
          exact bodyPost_ret (ret_cr _ ⟨tn, tg, tx⟩ (hB.r.set tn tg tx) _ rfl) rfl ⟨rfl, below3 hB.below hB.hb _ _ _⟩
        · have hr : res = norm (cutD ⟨nn, ng, nx⟩) := by rw [HR2.out, if_neg q2]
          clear HR2
          obtain ⟨z1, z2, z3⟩ := unhide G
          try simp only at z1 z2 z3 hs
          by_cases hx : nx < -9
          · have ht0 : 0 < (ng.size : Int) + nx := htp
            have hc : cutD ⟨nn, ng, nx⟩ = ⟨nn, ng.extract 0 ((ng.size : Int) + nx + 9).toNat, -9⟩ := if_pos hx
            have hsl : ∀ u : World, (Instr.slice 9 (.string ng) none (some (.int .i64 ((ng.size : Int) + nx + 9))) none).run Tryd.prog u = .ok (.string (ng.extract 0 ((ng.size : Int) + nx + 9).toNat)) u := fun u => run_slice_string_h u 9 ng Tryd.underlying9 .i64 ((ng.size : Int) + nx + 9) (by omega) (by omega)
            have hwr : IntKind.i64.wrap ((ng.size : Int) + nx + 9) = (ng.size : Int) + nx + 9 := wrap_in _ (by omega) (by omega)
            have hes : (ng.extract 0 ((ng.size : Int) + nx + 9).toNat).size ≤ ng.size := by simp [ByteArray.size_extract]; omega
            have n1 := fun w => norm_any ⟨nn, ng.extract 0 ((ng.size : Int) + nx + 9).toNat, -9⟩ w (by simp only; omega) (by simp only; omega) (by simp only; omega)
            rw [← hc, ← hr, hc] at n1
            generalize ng.extract 0 ((ng.size : Int) + nx + 9).toNat = s at *
            obtain ⟨rn, rg, rx⟩ := res
            simp only [dv] at n1 ⊢
            have N1 := hide n1
            clear n1 hr hc htp hes
            obtain ⟨x0, x1, x2⟩ := hA.n.cells
            obtain ⟨f0, f1, f2⟩ := hA.n.frees
            simp only at x0 x1 x2
            go_upto_region 7 with fail
            go_cut [] from 4 (fun wx => CrW w wx (w.heap.size + 1) u1.heap.size ⟨nn, s, nx⟩)
            case first =>
              go_region_with (first
                | (go_at_call 40; refine (unhide T1 _).mono ?_; rintro e u2 ⟨rfl, ha⟩; obtain ⟨p0, p1, p2⟩ := keep3c (b0 := u1.heap.size) (v0 := .bool nn) (v1 := .string ng) (v2 := .int .i64 nx) ha (by first | assumption | go_keep); have hW2 := hA.drew.call ha; obtain ⟨fq0, fq1, fq2⟩ := hW2.n.frees; clear ha))
              all_goals go_wp2_with fail
              all_goals go_meet
              all_goals exact hW2.cut s
            case rest =>
              clear hA f0 f1 f2
              have hA := hcut
              clear hcut
              obtain ⟨x0, x1, x2⟩ := hA.n.cells
              obtain ⟨f0, f1, f2⟩ := hA.n.frees
              simp only at x0 x1 x2
              go_wp2_with fail
              refine (unhide N1 _).mono ?_
              rintro e u2 ⟨rfl, ha⟩
              have hA2 : CrW w (wc.setCell ⟨u1.heap.size, 2, none⟩ (.int .i64 (-9))) (w.heap.size + 1) u1.heap.size ⟨nn, s, -9⟩ := hA.cutX (-9)
              have hB := hA2.call ha
              clear ha x0 x1 x2 f0 f1 f2
              obtain ⟨y0, y1, y2⟩ := hB.r.cells
              obtain ⟨f0, f1, f2⟩ := hB.r.frees
              simp only [zed] at y0 y1 y2
              go_wp2
              exact bodyPost_ret (ret_cr _ ⟨rn, rg, rx⟩ (hB.r.set rn rg rx) _ rfl) rfl ⟨rfl, below3 hB.below hB.hb _ _ _⟩
          · have hc : cutD ⟨nn, ng, nx⟩ = ⟨nn, ng, nx⟩ := if_neg hx
            rw [hc] at hr
            have n1 := fun w => norm_any ⟨nn, ng, nx⟩ w (by simp only; omega) (by simp only; omega) (by simp only; omega)
            rw [← hr] at n1
            obtain ⟨rn, rg, rx⟩ := res
            simp only [dv] at n1 ⊢
            have N1 := hide n1
            clear n1 hr hc htp
            obtain ⟨x0, x1, x2⟩ := hA.n.cells
            simp only at x0 x1 x2
            go_wp2_with fail
            refine (unhide N1 _).mono ?_
            rintro e u2 ⟨rfl, ha⟩
            have hB := hA.call ha
            clear ha x0 x1 x2
            obtain ⟨y0, y1, y2⟩ := hB.r.cells
            obtain ⟨f0, f1, f2⟩ := hB.r.frees
            simp only [zed] at y0 y1 y2
            go_wp2
            exact bodyPost_ret (ret_cr _ ⟨rn, rg, rx⟩ (hB.r.set rn rg rx) _ rfl) rfl ⟨rfl, below3 hB.below hB.hb _ _ _⟩
end Go.Proofs.YtmnikcnjdeldeaaDoor.rd
