/- The contracts of sign, compareSizes and Cmp. -/
import Derived.Test.YthpnclhfooileaaGreatDoorCm
namespace Go.Proofs.YthpnclhfooileaaGreatDoor.rd
open Go.RowKit

/-- Two numbers in two blocks of a call's own. -/
structure PairW (w wc : World) (p q : Dn) : Prop where
  a : DLies wc w.heap.size p
  b : DLies wc (w.heap.size + 1) q
  below : Below w.heap.size w wc
theorem PairW.start (w : World) (p q : Dn) : PairW w ((w.alloc (.cells #[.bool p.neg, .string p.dg, .int .i64 p.ex] 30)).alloc (.cells #[.bool q.neg, .string q.dg, .int .i64 q.ex] 30)) p q where
  a := (dlies_new w p).alloc _
  b := by
    have := dlies_new (w.alloc (.cells #[.bool p.neg, .string p.dg, .int .i64 p.ex] 30)) q
    simpa using this
  below := ((Below.refl _ _).alloc (Nat.le_refl _) _).alloc (by simp) _
theorem PairW.call {w wc w' : World} {p q : Dn} (h : PairW w wc p q) (hb : Below wc.heap.size wc w') : PairW w w' p q where
  a := h.a.below hb (blk_lt h.a)
  b := h.b.below hb (blk_lt h.b)
  below := h.below.trans (hb.mono h.below.size)
theorem PairW.drew {w wc : World} {p q : Dn} (h : PairW w wc p q) : PairW w wc.drew p q := ⟨h.a, h.b, h.below.drew⟩
theorem PairW.set1 {w wc : World} {p q : Dn} (h : PairW w wc p q) (x : Dn) :
    PairW w (((wc.setCell ⟨w.heap.size, 0, none⟩ (.bool x.neg)).setCell ⟨w.heap.size, 1, none⟩ (.string x.dg)).setCell ⟨w.heap.size, 2, none⟩ (.int .i64 x.ex)) x q := by
  have hu := (Upd.setCell w.heap.size 0 wc (.bool x.neg)).trans ((Upd.setCell w.heap.size 1 _ (.string x.dg)).trans (Upd.setCell w.heap.size 2 _ (.int .i64 x.ex)))
  exact ⟨h.a.set _ _ _, (hu.block _ (by omega)).trans h.b, below3 h.below (Nat.le_refl _) _ _ _⟩
theorem PairW.set2 {w wc : World} {p q : Dn} (h : PairW w wc p q) (x : Dn) :
    PairW w (((wc.setCell ⟨w.heap.size + 1, 0, none⟩ (.bool x.neg)).setCell ⟨w.heap.size + 1, 1, none⟩ (.string x.dg)).setCell ⟨w.heap.size + 1, 2, none⟩ (.int .i64 x.ex)) p x := by
  have hu := (Upd.setCell (w.heap.size + 1) 0 wc (.bool x.neg)).trans ((Upd.setCell (w.heap.size + 1) 1 _ (.string x.dg)).trans (Upd.setCell (w.heap.size + 1) 2 _ (.int .i64 x.ex)))
  exact ⟨(hu.block _ (by omega)).trans h.a, h.b.set _ _ _, below3 h.below (by omega) _ _ _⟩

theorem sign_any (d : Dn) (w : World) : Calls Tryz.prog 58 #[dv d] w fun e w' => e = .returned (.int .i64 (signN d)) ∧ Below w.heap.size w w' := by
  obtain ⟨n, g, x⟩ := d
  simp only [dv]
  have HS : Hid (signN ⟨n, g, x⟩ = if g.size = 0 then 0 else if n then -1 else 1) := rfl
  generalize signN ⟨n, g, x⟩ = r at HS ⊢
  by_cases hz : g.size = 0
  · have hz' : g.toList.isEmpty = true := by rw [empty_iff]; simpa using hz
    have hr : r = 0 := by rw [HS.out, if_pos hz]
    subst hr
    clear hz HS
    go_enter Tryz.func58, Tryz.ntmps58
    go_wp2
    go_ret
    exact ⟨rfl, (Below.refl _ _).alloc (Nat.le_refl _) _⟩
  · have hz' : g.toList.isEmpty = false := by rw [empty_iff]; simpa using hz
    have hr : r = if n then -1 else 1 := by rw [HS.out, if_neg hz]
    subst hr
    clear hz HS
    cases n
    all_goals go_enter Tryz.func58, Tryz.ntmps58
    all_goals go_wp2
    all_goals go_ret
    all_goals exact ⟨rfl, (Below.refl _ _).alloc (Nat.le_refl _) _⟩

theorem cmpInt_in (a b : Int) : Lib.compareInt a b = if a < b then -1 else if b < a then 1 else 0 := by
  unfold Lib.compareInt
  by_cases h1 : a < b
  · simp [h1]
  · by_cases h2 : b < a
    · simp [h1, h2]
    · simp [h1, h2]

set_option maxRecDepth 100000 in
set_option maxHeartbeats 1600000 in
theorem compareSizes_any (p q : Dn) (w : World) (hp : p.dg.size ≤ 1099511627776) (hq : q.dg.size ≤ 1099511627776) (p0 : -9999 ≤ p.ex) (p1 : p.ex ≤ 9999) (q0 : -9999 ≤ q.ex) (q1 : q.ex ≤ 9999) :
    Calls Tryz.prog 59 #[dv p, dv q] w fun e w' => e = .returned (.int .i64 (cmpS p q)) ∧ Below w.heap.size w w' := by
  have hW := PairW.start w p q
  have T1 := hide (fun w => top_any p w (by omega) (by omega) (by omega))
  have T2 := hide (fun w => top_any q w (by omega) (by omega) (by omega))
  have K := hide (fun w => Tryz.cmp_Compare_int (p.dg.size + p.ex) (q.dg.size + q.ex) w)
  have S := hide (fun w => Tryz.strings_Compare p.dg q.dg w)
  have HC : Hid (cmpS p q = if (p.dg.size : Int) + p.ex < q.dg.size + q.ex then -1 else if (q.dg.size : Int) + q.ex < p.dg.size + p.ex then 1 else Lib.compareBytes p.dg.data.toList q.dg.data.toList) := rfl
  have hk := cmpInt_in (p.dg.size + p.ex) (q.dg.size + q.ex)
  generalize cmpS p q = r at HC ⊢
  obtain ⟨pn, pg, px⟩ := p
  obtain ⟨qn, qg, qx⟩ := q
  simp only [dv] at T1 T2 K S HC hW hk ⊢
  generalize hc : Lib.compareInt (pg.size + px) (qg.size + qx) = c at *
  obtain ⟨x0, x1, x2⟩ := hW.a.cells
  obtain ⟨y0, y1, y2⟩ := hW.b.cells
  simp only at x0 x1 x2 y0 y1 y2
  generalize Lib.compareBytes pg.data.toList qg.data.toList = cb at *
  have HK : Hid ((c = 0 ∧ r = cb) ∨ ((c == 0) = false ∧ c = r)) := by
    show (c = 0 ∧ r = cb) ∨ ((c == 0) = false ∧ c = r)
    have hr := HC.out
    by_cases h1 : (pg.size : Int) + px < qg.size + qx
    · rw [if_pos h1] at hk hr; rw [hk, hr]; exact .inr ⟨rfl, rfl⟩
    · by_cases h2 : (qg.size : Int) + qx < pg.size + px
      · rw [if_neg h1, if_pos h2] at hk hr; rw [hk, hr]; exact .inr ⟨rfl, rfl⟩
      · rw [if_neg h1, if_neg h2] at hk hr; exact .inl ⟨hk, hr⟩
  clear hc hk HC hp hq p0 p1 q0 q1
  go_enter Tryz.func59, Tryz.ntmps59
  go_wp2_with fail
  go_cut [5] from 6 (fun s5 wd => s5 = .int .i64 c ∧ PairW w wd ⟨pn, pg, px⟩ ⟨qn, qg, qx⟩)
  case first =>
    go_region_held3 (fun w' => w'.cell? ⟨w.heap.size, 0, none⟩ = some (.bool pn) ∧ w'.cell? ⟨w.heap.size, 1, none⟩ = some (.string pg) ∧ w'.cell? ⟨w.heap.size, 2, none⟩ = some (.int .i64 px) ∧ w'.cell? ⟨w.heap.size + 1, 0, none⟩ = some (.bool qn) ∧ w'.cell? ⟨w.heap.size + 1, 1, none⟩ = some (.string qg) ∧ w'.cell? ⟨w.heap.size + 1, 2, none⟩ = some (.int .i64 qx)) (((try dsimp only); (repeat' apply And.intro); all_goals first | (go_keep; done) | (simp; omega))) (first
      | (go_at_call_of 81 (Value.agg #[.bool pn, .string pg, .int .i64 px]); refine (unhide T1 _).mono ?_; rintro e w1 ⟨rfl, h1⟩; obtain ⟨k0, k1, k2, k3, k4, k5⟩ := keepAd (b0 := w.heap.size) (b1 := w.heap.size + 1) (v0 := .bool pn) (v1 := .string pg) (v2 := .int .i64 px) (v3 := .bool qn) (v4 := .string qg) (v5 := .int .i64 qx) h1 (by first | assumption | go_keep); have hW1 := hW.drew.call h1; clear h1)
      | (go_at_call_of 81 (Value.agg #[.bool qn, .string qg, .int .i64 qx]); refine (unhide T2 _).mono ?_; rintro e w2 ⟨rfl, h2⟩; obtain ⟨m0, m1, m2, m3, m4, m5⟩ := keepAd (b0 := w.heap.size) (b1 := w.heap.size + 1) (v0 := .bool pn) (v1 := .string pg) (v2 := .int .i64 px) (v3 := .bool qn) (v4 := .string qg) (v5 := .int .i64 qx) h2 (by first | assumption | go_keep); have hW2 := hW1.call h2; clear h2)
      | (go_at_call 57; refine (unhide K _).mono ?_; rintro e w3 ⟨rfl, rfl⟩))
    all_goals go_wp2_with fail
    all_goals go_meet
    all_goals exact ⟨rfl, hW2⟩
  case rest =>
    clear hW x0 x1 x2 y0 y1 y2
    obtain ⟨rfl, hA⟩ := hcut
    obtain ⟨x0, x1, x2⟩ := hA.a.cells
    obtain ⟨y0, y1, y2⟩ := hA.b.cells
    simp only at x0 x1 x2 y0 y1 y2
    rcases HK.out with ⟨rfl, rfl⟩ | ⟨hc, rfl⟩
    · clear HK
      go_wp2_with fail
      refine (unhide S _).mono ?_
      rintro e w3 ⟨rfl, rfl⟩
      go_wp2
      go_ret
      exact ⟨rfl, hA.below⟩
    · clear HK
      go_wp2
      go_ret
      exact ⟨rfl, hA.below⟩

theorem cmpS_bd (p q : Dn) : cmpS p q = -1 ∨ cmpS p q = 0 ∨ cmpS p q = 1 := by
  unfold cmpS
  split
  · exact .inl rfl
  · split
    · exact .inr (.inr rfl)
    · generalize p.dg.data.toList = a
      generalize q.dg.data.toList = b
      induction a generalizing b with
      | nil => cases b <;> simp [Lib.compareBytes]
      | cons x r ih =>
        cases b with
        | nil => simp [Lib.compareBytes]
        | cons y t =>
          simp only [Lib.compareBytes]
          split
          · exact .inl rfl
          · split
            · exact .inr (.inr rfl)
            · exact ih t

set_option maxRecDepth 100000 in
set_option maxHeartbeats 1600000 in
theorem cmp_any (a b : Dn) (w : World) (hsa : a.dg.size ≤ 1099511627776) (hsb : b.dg.size ≤ 1099511627776)
    (ha0 : -9223372036854775808 ≤ a.ex) (ha1 : a.ex ≤ 9223372036854775807) (hb0 : -9223372036854775808 ≤ b.ex) (hb1 : b.ex ≤ 9223372036854775807) :
    Calls Tryz.prog 47 #[dv a, dv b] w fun e w' => e = .returned (.int .i64 (decCmp (norm a) (norm b))) ∧ Below w.heap.size w w' := by
  have hW := PairW.start w a b
  have c1 := fun w => norm_any a w (by omega) ha0 ha1
  have c2 := fun w => norm_any b w (by omega) hb0 hb1
  obtain ⟨an, ag, ax⟩ := a
  obtain ⟨bn, bg, bx⟩ := b
  have gp := norm_good ⟨an, ag, ax⟩
  have gq := norm_good ⟨bn, bg, bx⟩
  generalize norm ⟨an, ag, ax⟩ = p at *
  generalize norm ⟨bn, bg, bx⟩ = q at *
  have S1 := hide (fun w => sign_any p w)
  have S2 := hide (fun w => sign_any q w)
  have K := hide (fun w => Tryz.cmp_Compare_int (signN p) (signN q) w)
  have hk := cmpInt_in (signN p) (signN q)
  have Z1 := hide (fun w => compareSizes_any p q w (by simp only at *; omega) (by simp only at *; omega) (by omega) (by omega) (by omega) (by omega))
  have Z2 := hide (fun w => compareSizes_any q p w (by simp only at *; omega) (by simp only at *; omega) (by omega) (by omega) (by omega) (by omega))
  have HC : Hid (decCmp p q = if signN p < signN q then -1 else if signN q < signN p then 1 else if p.neg then cmpS q p else cmpS p q) := rfl
  generalize decCmp p q = r at HC ⊢
  generalize Lib.compareInt (signN p) (signN q) = c at *
  generalize cmpS p q = z1 at *
  generalize cmpS q p = z2 at *
  generalize signN p = sp at *
  generalize signN q = sq at *
  obtain ⟨pn, pg, px⟩ := p
  obtain ⟨qn, qg, qx⟩ := q
  simp only [dv] at c1 c2 hW S1 S2 Z1 Z2 HC ⊢
  have HK : Hid ((c = 0 ∧ r = if pn then z2 else z1) ∨ ((c == 0) = false ∧ c = r)) := by
    show (c = 0 ∧ r = if pn then z2 else z1) ∨ ((c == 0) = false ∧ c = r)
    have hr := HC.out
    by_cases h1 : sp < sq
    · rw [if_pos h1] at hk hr; rw [hk, hr]; exact .inr ⟨rfl, rfl⟩
    · by_cases h2 : sq < sp
      · rw [if_neg h1, if_pos h2] at hk hr; rw [hk, hr]; exact .inr ⟨rfl, rfl⟩
      · rw [if_neg h1, if_neg h2] at hk hr; exact .inl ⟨hk, hr⟩
  have C1 := hide c1
  have C2 := hide c2
  clear c1 c2 hk HC gp gq hsa hsb ha0 ha1 hb0 hb1
  go_enter Tryz.func47, Tryz.ntmps47
  go_wp2_with fail
  go_cut [] from 6 (fun wc => PairW w wc ⟨pn, pg, px⟩ ⟨qn, qg, qx⟩)
  case first =>
    go_region_with (first
      | (go_at_call_of 56 (Value.agg #[.bool an, .string ag, .int .i64 ax]); refine (unhide C1 _).mono ?_; rintro e w1 ⟨rfl, h1⟩; have hW1 := hW.drew.call h1; obtain ⟨x0, x1, x2⟩ := hW1.a.cells; obtain ⟨y0, y1, y2⟩ := hW1.b.cells)
      | (go_at_call_of 56 (Value.agg #[.bool bn, .string bg, .int .i64 bx]); refine (unhide C2 _).mono ?_; rintro e w2 ⟨rfl, h2⟩; have hW2 := hW1.call h2; obtain ⟨X0, X1, X2⟩ := hW2.a.cells; obtain ⟨Y0, Y1, Y2⟩ := hW2.b.cells; obtain ⟨fx0, fx1, fx2⟩ := hW2.a.frees; obtain ⟨fy0, fy1, fy2⟩ := hW2.b.frees))
    all_goals go_wp2_with fail
    all_goals go_meet
    all_goals exact (hW2.set1 ⟨pn, pg, px⟩).set2 ⟨qn, qg, qx⟩
  case rest =>
    clear hW C1 C2
    obtain ⟨x0, x1, x2⟩ := hcut.a.cells
    obtain ⟨y0, y1, y2⟩ := hcut.b.cells
    simp only at x0 x1 x2 y0 y1 y2
    have hA := hcut
    clear hcut
    go_wp2_with fail
    go_cut [5] from 6 (fun s5 wd => s5 = .int .i64 c ∧ PairW w wd ⟨pn, pg, px⟩ ⟨qn, qg, qx⟩)
    case first =>
      go_region_held3 (fun w' => w'.cell? ⟨w.heap.size, 0, none⟩ = some (.bool pn) ∧ w'.cell? ⟨w.heap.size, 1, none⟩ = some (.string pg) ∧ w'.cell? ⟨w.heap.size, 2, none⟩ = some (.int .i64 px) ∧ w'.cell? ⟨w.heap.size + 1, 0, none⟩ = some (.bool qn) ∧ w'.cell? ⟨w.heap.size + 1, 1, none⟩ = some (.string qg) ∧ w'.cell? ⟨w.heap.size + 1, 2, none⟩ = some (.int .i64 qx)) (((try dsimp only); (repeat' apply And.intro); all_goals first | (go_keep; done) | (simp; omega))) (first
        | (go_at_call_of 58 (Value.agg #[.bool pn, .string pg, .int .i64 px]); refine (unhide S1 _).mono ?_; rintro e w1 ⟨rfl, h1⟩; obtain ⟨k0, k1, k2, k3, k4, k5⟩ := keepAd (b0 := w.heap.size) (b1 := w.heap.size + 1) (v0 := .bool pn) (v1 := .string pg) (v2 := .int .i64 px) (v3 := .bool qn) (v4 := .string qg) (v5 := .int .i64 qx) h1 (by first | assumption | go_keep); have hW1 := hA.drew.call h1; clear h1)
        | (go_at_call_of 58 (Value.agg #[.bool qn, .string qg, .int .i64 qx]); refine (unhide S2 _).mono ?_; rintro e w2 ⟨rfl, h2⟩; obtain ⟨m0, m1, m2, m3, m4, m5⟩ := keepAd (b0 := w.heap.size) (b1 := w.heap.size + 1) (v0 := .bool pn) (v1 := .string pg) (v2 := .int .i64 px) (v3 := .bool qn) (v4 := .string qg) (v5 := .int .i64 qx) h2 (by first | assumption | go_keep); have hW2 := hW1.call h2; clear h2)
        | (go_at_call 57; refine (unhide K _).mono ?_; rintro e w3 ⟨rfl, rfl⟩))
      all_goals go_wp2_with fail
      all_goals go_meet
      all_goals exact ⟨rfl, hW2⟩
    case rest =>
      clear hA x0 x1 x2 y0 y1 y2
      obtain ⟨rfl, hB⟩ := hcut
      obtain ⟨x0, x1, x2⟩ := hB.a.cells
      obtain ⟨y0, y1, y2⟩ := hB.b.cells
      obtain ⟨f0, f1, f2⟩ := hB.a.frees
      obtain ⟨e0, e1, e2⟩ := hB.b.frees
      simp only at x0 x1 x2 y0 y1 y2
      rcases HK.out with ⟨rfl, hr⟩ | ⟨hc, rfl⟩
      · clear HK
        cases pn
        · obtain rfl : r = z1 := hr
          go_wp2_with fail
          refine (unhide Z1 _).mono ?_
          rintro e w3 ⟨rfl, h3⟩
          go_wp2
          go_ret
          exact ⟨rfl, hB.below.trans (h3.mono hB.below.size)⟩
        · obtain rfl : r = z2 := hr
          go_wp2_with fail
          refine (unhide Z2 _).mono ?_
          rintro e w3 ⟨rfl, h3⟩
          have B2 := below3 (below3 hB.below (Nat.le_refl _) (.bool qn) (.string qg) (.int .i64 qx)) (show w.heap.size ≤ w.heap.size + 1 by omega) (.bool true) (.string pg) (.int .i64 px)
          go_wp2
          go_ret
          exact ⟨rfl, B2.trans (h3.mono B2.size)⟩
      · clear HK
        go_wp2
        go_ret
        exact ⟨rfl, hB.below⟩
end Go.Proofs.YthpnclhfooileaaGreatDoor.rd
