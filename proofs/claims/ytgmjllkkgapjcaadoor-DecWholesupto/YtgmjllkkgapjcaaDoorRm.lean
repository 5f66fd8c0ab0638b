/- The contract of the reference's Cmp. -/
import Derived.Test.YtgmjllkkgapjcaaDoorSz
namespace Go.Proofs.YtgmjllkkgapjcaaDoor.rd
open Go.RowKit

/-- Two numbers in two blocks; nothing old has turned. -/
structure HeldW (w wc : World) (b c : Nat) (p q : Dn) : Prop where
  a : DLies wc b p
  b : DLies wc c q
  below : Below w.heap.size w wc
theorem HeldW.call {w wc w' : World} {b c : Nat} {p q : Dn} (h : HeldW w wc b c p q) (hb : Below wc.heap.size wc w') : HeldW w w' b c p q where
  a := h.a.below hb (blk_lt h.a)
  b := h.b.below hb (blk_lt h.b)
  below := h.below.trans (hb.mono h.below.size)
theorem HeldW.drew {w wc : World} {b c : Nat} {p q : Dn} (h : HeldW w wc b c p q) : HeldW w wc.drew b c p q := ⟨h.a, h.b, h.below.drew⟩

theorem cmpN_bd (a b : List Int) : cmpN a b = -1 ∨ cmpN a b = 0 ∨ cmpN a b = 1 := by
  induction a generalizing b with
  | nil => simp [cmpN]
  | cons x r ih =>
    cases b with
    | nil => simp [cmpN]
    | cons y t =>
      simp only [cmpN]
      split
      · exact .inl rfl
      · split
        · exact .inr (.inr rfl)
        · exact ih t
theorem sizeN_bd (a b : List Int) : sizeN a b = -1 ∨ sizeN a b = 0 ∨ sizeN a b = 1 := by
  unfold sizeN
  split
  · exact .inl rfl
  · split
    · exact .inr (.inr rfl)
    · exact cmpN_bd _ _
theorem signN_bd (n : Dn) : signN n = -1 ∨ signN n = 0 ∨ signN n = 1 := by
  unfold signN
  split
  · exact .inr (.inl rfl)
  · split
    · exact .inl rfl
    · exact .inr (.inr rfl)
theorem lowerN_bd (p q : Dn) (p0 : -9999 ≤ p.ex) (p1 : p.ex ≤ 9999) (q0 : -9999 ≤ q.ex) (q1 : q.ex ≤ 9999) : -9999 ≤ lowerN p q ∧ lowerN p q ≤ 9999 := by
  unfold lowerN
  split
  · omega
  · split <;> omega

set_option maxRecDepth 100000 in
set_option maxHeartbeats 3200000 in
theorem rcmp_any (a b : Dn) (w : World) (hsa : a.dg.size ≤ 1099511000000) (hsb : b.dg.size ≤ 1099511000000)
    (ha0 : -9223372036854775808 ≤ a.ex) (ha1 : a.ex ≤ 9223372036854775807) (hb0 : -9223372036854775808 ≤ b.ex) (hb1 : b.ex ≤ 9223372036854775807) :
    Calls Tryd.prog 17 #[dv a, dv b] w fun e w' => e = .returned (.int .i64 (refCmp (norm a) (norm b))) ∧ Below w.heap.size w w' := by
  have hP := PairW.start w a b
  have c1 := fun w => rnorm_any a w (by omega) ha0 ha1
  have c2 := fun w => rnorm_any b w (by omega) hb0 hb1
  obtain ⟨an, ag, ax⟩ := a
  obtain ⟨bn, bg, bx⟩ := b
  have gp := norm_good ⟨an, ag, ax⟩
  have gq := norm_good ⟨bn, bg, bx⟩
  generalize norm ⟨an, ag, ax⟩ = p at *
  generalize norm ⟨bn, bg, bx⟩ = q at *
  obtain ⟨gp1, gp2, gp3, _⟩ := gp
  obtain ⟨gq1, gq2, gq3, _⟩ := gq
  simp only at gp1 gq1 hsa hsb
  obtain ⟨lo0, lo1⟩ := lowerN_bd p q gp2 gp3 gq2 gq3
  have S1 := hide (fun w => rsigned_any p w)
  have S2 := hide (fun w => rsigned_any q w)
  have LO := hide (fun w => rlower_any p q w)
  have L1 := hide (fun w => lined_any p (lowerN p q) w (by omega) (by omega) (by omega) (by omega) (by omega))
  have L2 := hide (fun w => lined_any q (lowerN p q) w (by omega) (by omega) (by omega) (by omega) (by omega))
  have hsb1 := signN_bd p
  have hzb := sizeN_bd (linedN p (lowerN p q)) (linedN q (lowerN p q))
  have HC : Hid (refCmp p q = if signN p < signN q then -1 else if signN q < signN p then 1 else signN p * sizeN (linedN p (lowerN p q)) (linedN q (lowerN p q))) := rfl
  generalize refCmp p q = r at HC ⊢
  have Z := hide (fun v1 v2 (w : World) h1 h2 => size_any v1 v2 (linedN p (lowerN p q)) (linedN q (lowerN p q)) w h1 h2)
  generalize sizeN (linedN p (lowerN p q)) (linedN q (lowerN p q)) = z at *
  generalize linedN p (lowerN p q) = lp at *
  generalize linedN q (lowerN p q) = lq at *
  generalize lowerN p q = lo at *
  generalize signN p = sp at *
  generalize signN q = sq at *
  obtain ⟨pn, pg, px⟩ := p
  obtain ⟨qn, qg, qx⟩ := q
  have hwr : IntKind.i64.wrap (sp * z) = sp * z := by
    apply wrap_in <;> (rcases hsb1 with h | h | h <;> rcases hzb with h' | h' | h' <;> subst h <;> subst h' <;> decide)
  simp only [dv] at c1 c2 hP S1 S2 LO L1 L2 ⊢
  have C1 := hide c1
  have C2 := hide c2
  clear c1 c2 gp1 gp2 gp3 gq1 gq2 gq3 lo0 lo1 hsa hsb ha0 ha1 hb0 hb1 hsb1 hzb
  go_enter Tryd.func17, Tryd.ntmps17
  go_wp2_with fail
  refine (unhide C1 _).mono ?_
  rintro e w1 ⟨rfl, h1⟩
  have hP1 := hP.call h1
  obtain ⟨y0, y1, y2⟩ := hP1.b.cells
  simp only at y0 y1 y2
  have z1 : w.heap.size + 1 < w1.heap.size := blk_lt hP1.b
  clear hP h1
  go_wp2_with fail
  refine (unhide C2 _).mono ?_
  rintro e w2 ⟨rfl, h2⟩
  have l2 : DLies w2 w1.heap.size ⟨pn, pg, px⟩ := (dlies_new w1 ⟨pn, pg, px⟩).below h2 (by simp)
  have B2 : Below w.heap.size w w2 := (hP1.below.alloc (by omega) _).trans (h2.mono (by simp; omega))
  have z2 : w1.heap.size < w2.heap.size := blk_lt l2
  have hH : HeldW w (w2.alloc (.cells #[.bool qn, .string qg, .int .i64 qx] 23)) w1.heap.size w2.heap.size ⟨pn, pg, px⟩ ⟨qn, qg, qx⟩ := ⟨l2.alloc _, dlies_new w2 ⟨qn, qg, qx⟩, B2.alloc B2.size _⟩
  obtain ⟨x0, x1, x2⟩ := l2.cells
  simp only at x0 x1 x2
  clear y0 y1 y2 h2 hP1 B2 l2
  go_wp2_with fail
  refine (unhide S1 _).mono ?_
  rintro e w3 ⟨rfl, h3⟩
  have hH3 := hH.call h3
  clear x0 x1 x2 h3 hH
  obtain ⟨x0, x1, x2⟩ := hH3.a.cells
  obtain ⟨y0, y1, y2⟩ := hH3.b.cells
  simp only at x0 x1 x2 y0 y1 y2
  go_wp2_with fail
  refine (unhide S2 _).mono ?_
  rintro e w4 ⟨rfl, h4⟩
  have hH4 := hH3.call h4
  clear x0 x1 x2 y0 y1 y2 h4 hH3
  obtain ⟨x0, x1, x2⟩ := hH4.a.cells
  obtain ⟨y0, y1, y2⟩ := hH4.b.cells
  simp only at x0 x1 x2 y0 y1 y2
  rcases Int.lt_trichotomy sp sq with h | h | h
  · have hr : r = -1 := by rw [HC.out, if_pos h]
    subst hr
    have hn : (sp != sq) = true := by simp; omega
    clear HC
    go_wp2
    go_ret
    exact ⟨rfl, hH4.below⟩
  · have hr : r = sp * z := by rw [HC.out, if_neg (by omega), if_neg (by omega)]
    have HR := hide hr
    have hn : (sp != sq) = false := by simp; omega
    clear HC hr h
    go_wp2_with fail
    refine (unhide LO _).mono ?_
    rintro e w5 ⟨rfl, h5⟩
    have hH5 := hH4.call h5
    clear x0 x1 x2 y0 y1 y2 h5 hH4
    obtain ⟨x0, x1, x2⟩ := hH5.a.cells
    obtain ⟨y0, y1, y2⟩ := hH5.b.cells
    simp only at x0 x1 x2 y0 y1 y2
    go_wp2_with fail
    go_region_held3 (fun w' => w'.cell? ⟨w1.heap.size, 0, none⟩ = some (.bool pn) ∧ w'.cell? ⟨w1.heap.size, 1, none⟩ = some (.string pg) ∧ w'.cell? ⟨w1.heap.size, 2, none⟩ = some (.int .i64 px) ∧ w'.cell? ⟨w2.heap.size, 0, none⟩ = some (.bool qn) ∧ w'.cell? ⟨w2.heap.size, 1, none⟩ = some (.string qg) ∧ w'.cell? ⟨w2.heap.size, 2, none⟩ = some (.int .i64 qx)) (((try dsimp only); (repeat' apply And.intro); all_goals first | (go_keep; done) | (simp; omega))) (first
      | (go_at_call_of 45 (Value.agg #[.bool pn, .string pg, .int .i64 px]); refine (unhide L1 _).mono ?_; rintro e wa ⟨va, rfl, Ia, ha⟩; obtain ⟨k0, k1, k2, k3, k4, k5⟩ := keepAd (b0 := w1.heap.size) (b1 := w2.heap.size) (v0 := .bool pn) (v1 := .string pg) (v2 := .int .i64 px) (v3 := .bool qn) (v4 := .string qg) (v5 := .int .i64 qx) ha (by first | assumption | go_keep); have hWa := hH5.drew.call ha; have JA := hide Ia; clear ha Ia)
      | (go_at_call_of 45 (Value.agg #[.bool qn, .string qg, .int .i64 qx]); refine (unhide L2 _).mono ?_; rintro e wb ⟨vb', rfl, Ib, hb⟩; obtain ⟨m0, m1, m2, m3, m4, m5⟩ := keepAd (b0 := w1.heap.size) (b1 := w2.heap.size) (v0 := .bool pn) (v1 := .string pg) (v2 := .int .i64 px) (v3 := .bool qn) (v4 := .string qg) (v5 := .int .i64 qx) hb (by first | assumption | go_keep); have hWb := hWa.call hb; have JA2 := hide ((unhide JA).keep hb); have JB := hide Ib; clear hb Ib)
      | (go_at_call 44; refine (unhide Z _ _ _ (unhide JA2) (unhide JB)).mono ?_; rintro e wd ⟨rfl, hd⟩; have hWd := hWb.call hd; obtain ⟨n0, n1, n2, n3, n4, n5⟩ := keepAd (b0 := w1.heap.size) (b1 := w2.heap.size) (v0 := .bool pn) (v1 := .string pg) (v2 := .int .i64 px) (v3 := .bool qn) (v4 := .string qg) (v5 := .int .i64 qx) hd (by first | assumption | go_keep); clear hd))
    all_goals go_wp2
    all_goals go_ret
    all_goals exact ⟨by rw [unhide HR]; rfl, hWd.below⟩
  · have hr : r = 1 := by rw [HC.out, if_neg (by omega), if_pos h]
    subst hr
    have hn : (sp != sq) = true := by simp; omega
    have hlt : ¬ sp < sq := by omega
    clear HC
    go_wp2
    go_ret
    exact ⟨rfl, hH4.below⟩
end Go.Proofs.YtgmjllkkgapjcaaDoor.rd
