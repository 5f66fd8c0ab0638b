/- Several texts in one. -/
import Derived.Test.YtmnikcnjdeldeaaDoorVaG
/- Add's whole contract: the sum in its one form. -/
namespace Go.Proofs.YtmnikcnjdeldeaaDoor.rd
open Go.RowKit

theorem less_val (x y : List UInt8) (hl : x.length = y.length) (hx : ∀ c ∈ x, nu.dig c = true) (hy : ∀ c ∈ y, nu.dig c = true) : Op.bytesLess x y = decide (valM x < valM y) := by
  induction x generalizing y with
  | nil =>
    cases y with
    | nil => simp [Op.bytesLess, valM_nil]
    | cons b ys => simp at hl
  | cons a xs ih =>
    cases y with
    | nil => simp at hl
    | cons b ys =>
      have hl' : xs.length = ys.length := by simpa using hl
      have dx : ∀ c ∈ xs, nu.dig c = true := fun c hc => hx c (by simp [hc])
      have dy : ∀ c ∈ ys, nu.dig c = true := fun c hc => hy c (by simp [hc])
      have h0 := ih ys hl' dx dy
      have x0 := valM_nonneg dx
      have x1 := valM_lt dx
      have y0 := valM_nonneg dy
      have y1 := valM_lt dy
      simp only [Op.bytesLess]
      rw [h0, valM_cons, valM_cons, ← hl']
      rw [← hl'] at y1
      have hp : (0 : Int) < 10 ^ xs.length := Int.pow_pos (by omega)
      generalize (10 : Int) ^ xs.length = t at *
      rcases Int.lt_trichotomy (fz a) (fz b) with h | h | h
      · have h1 : a < b := (fz_lt a b).1 h
        have h2 : (fz a + 1) * t ≤ fz b * t := Int.mul_le_mul_of_nonneg_right (by omega) (by omega)
        have h3 : (fz a + 1) * t = fz a * t + t := by grind
        have h4 : fz a * t + valM xs < fz b * t + valM ys := by omega
        simp [h1, h4]
      · have h1 : a = b := by
          have : a.toNat = b.toNat := by unfold fz at h; omega
          exact UInt8.toNat_inj.1 this
        subst h1
        have h2 : ¬ a < a := by rw [UInt8.lt_iff_toNat_lt]; omega
        simp [h2]
      · have h1 : ¬ a < b := fun q => by have := (fz_lt a b).2 q; omega
        have h5 : ¬ a = b := by rintro rfl; omega
        have h2 : (fz b + 1) * t ≤ fz a * t := Int.mul_le_mul_of_nonneg_right (by omega) (by omega)
        have h3 : (fz b + 1) * t = fz b * t + t := by grind
        have h4 : ¬ fz a * t + valM xs < fz b * t + valM ys := by omega
        simp [h1, h4, h5]

/-- What Add and Mul answer. -/
def boundV (r : Dn × Bool) (eX : Value) : Value × Value := if r.2 then (dv r.1, .nilIface) else (dv zed, eX)
theorem bounded_val (n : Bool) (s : ByteArray) (e : Int) (eX : Value) (h : AllDig s) : bounded n s e eX = boundV (tellV n (valB s) e) eX := by
  rw [← form_val n s e h]; rfl
theorem boundV_form (r : Dn × Bool) (eX : Value) : ∃ d ev, boundV r eX = (dv d, ev) := by
  unfold boundV
  split
  · exact ⟨_, _, rfl⟩
  · exact ⟨_, _, rfl⟩

theorem scale (v ex e : Int) (h : e ≤ ex) (he : -9999 ≤ e) : v * 10 ^ (ex - e).toNat * 10 ^ (e + 9999).toNat = v * 10 ^ (ex + 9999).toNat := by
  rw [Int.mul_assoc, ← Int.pow_add]
  congr 2
  omega

/-- The two sizes in one unit. -/
theorem add_parts (p q : Dn) (p0 : -9999 ≤ p.ex) (q0 : -9999 ≤ q.ex) (dp : AllDig p.dg) (dq : AllDig q.dg) :
    ∃ (X Y t : Int), X = valB (spreadB p.dg (aheadOf p q) (behindOf p q)) ∧ Y = valB (spreadB q.dg (aheadOf q p) (behindOf q p)) ∧ 0 ≤ X ∧ 0 ≤ Y ∧ 0 < t ∧ t = 10 ^ (min p.ex q.ex + 9999).toNat ∧
      sR p = (if p.neg then -1 else 1) * (X * t) ∧ sR q = (if q.neg then -1 else 1) * (Y * t) := by
  refine ⟨_, _, 10 ^ (min p.ex q.ex + 9999).toNat, rfl, rfl, valB_nonneg (spread_dig _ _ dp), valB_nonneg (spread_dig _ _ dq), Int.pow_pos (by omega), rfl, ?_, ?_⟩
  · unfold sR
    rw [spread_val]
    unfold behindOf
    rw [scale _ _ _ (by omega) (by omega)]
  · unfold sR
    rw [spread_val]
    unfold behindOf
    rw [show min q.ex p.ex = min p.ex q.ex by omega, scale _ _ _ (by omega) (by omega)]

theorem add_same_val (p q : Dn) (p0 : -9999 ≤ p.ex) (q0 : -9999 ≤ q.ex) (dp : AllDig p.dg) (dq : AllDig q.dg) (h : p.neg = q.neg) :
    tellV p.neg (valB (spreadB p.dg (aheadOf p q) (behindOf p q)) + valB (spreadB q.dg (aheadOf q p) (behindOf q p))) (min p.ex q.ex) = addV p q := by
  obtain ⟨X, Y, t, hX, hY, x0, y0, t0, ht, sp, sq⟩ := add_parts p q p0 q0 dp dq
  rw [← hX, ← hY]
  have e1 : (X + Y) * t = X * t + Y * t := Int.add_mul X Y t
  have h1 := Int.mul_nonneg x0 (Int.le_of_lt t0)
  have h2 := Int.mul_nonneg y0 (Int.le_of_lt t0)
  refine addV_of p q _ _ (by omega) _ (by omega) ?_ ?_
  · rw [← ht, sp, sq, h, e1]
    cases q.neg
    · simp; omega
    · simp; omega
  · rw [sp, sq, h]
    cases q.neg
    · simp; omega
    · simp; omega
theorem add_lt_val (p q : Dn) (p0 : -9999 ≤ p.ex) (q0 : -9999 ≤ q.ex) (dp : AllDig p.dg) (dq : AllDig q.dg) (h : p.neg ≠ q.neg)
    (hlt : valB (spreadB p.dg (aheadOf p q) (behindOf p q)) < valB (spreadB q.dg (aheadOf q p) (behindOf q p))) :
    tellV q.neg (valB (spreadB q.dg (aheadOf q p) (behindOf q p)) - valB (spreadB p.dg (aheadOf p q) (behindOf p q))) (min p.ex q.ex) = addV p q := by
  obtain ⟨X, Y, t, hX, hY, x0, y0, t0, ht, sp, sq⟩ := add_parts p q p0 q0 dp dq
  rw [← hX, ← hY] at hlt ⊢
  have e1 : (Y - X) * t = Y * t - X * t := Int.sub_mul Y X t
  have h1 : X * t < Y * t := Int.mul_lt_mul_of_pos_right hlt t0
  refine addV_of p q _ _ (by omega) _ (by omega) ?_ ?_
  · rw [← ht, sp, sq, e1]
    cases hp : p.neg <;> cases hq : q.neg <;> simp [hp, hq] at h ⊢ <;> omega
  · rw [sp, sq]
    cases hp : p.neg <;> cases hq : q.neg <;> simp [hp, hq] at h ⊢ <;> omega
theorem add_ge_val (p q : Dn) (p0 : -9999 ≤ p.ex) (q0 : -9999 ≤ q.ex) (dp : AllDig p.dg) (dq : AllDig q.dg) (h : p.neg ≠ q.neg)
    (hge : ¬ valB (spreadB p.dg (aheadOf p q) (behindOf p q)) < valB (spreadB q.dg (aheadOf q p) (behindOf q p))) :
    tellV p.neg (valB (spreadB p.dg (aheadOf p q) (behindOf p q)) - valB (spreadB q.dg (aheadOf q p) (behindOf q p))) (min p.ex q.ex) = addV p q := by
  obtain ⟨X, Y, t, hX, hY, x0, y0, t0, ht, sp, sq⟩ := add_parts p q p0 q0 dp dq
  rw [← hX, ← hY] at hge ⊢
  have e1 : (X - Y) * t = X * t - Y * t := Int.sub_mul X Y t
  have h1 : Y * t ≤ X * t := Int.mul_le_mul_of_nonneg_right (by omega) (by omega)
  refine addV_of p q _ _ (by omega) _ (by omega) ?_ ?_
  · rw [← ht, sp, sq, e1]
    cases hp : p.neg <;> cases hq : q.neg <;> simp [hp, hq] at h ⊢ <;> omega
  · rw [sp, sq]
    cases hp : p.neg <;> cases hq : q.neg <;> simp [hp, hq] at h ⊢ <;> omega

end Go.Proofs.YtmnikcnjdeldeaaDoor.rd

/- Mul's contract: the product in its one form. -/
namespace Go.Proofs.YtmnikcnjdeldeaaDoor.rd
open Go.RowKit

theorem keepMu {b0 b1 b2 : Nat} {v0 v1 v2 v3 v4 v5 v6 : Value} {W w1 : World} (hb : Below W.heap.size W w1)
    (h : W.cell? ⟨b0, 0, none⟩ = some v0 ∧ W.cell? ⟨b0, 1, none⟩ = some v1 ∧ W.cell? ⟨b0, 2, none⟩ = some v2 ∧ W.cell? ⟨b1, 0, none⟩ = some v3 ∧ W.cell? ⟨b1, 1, none⟩ = some v4 ∧ W.cell? ⟨b1, 2, none⟩ = some v5 ∧ W.cell? ⟨b2, 0, none⟩ = some v6 ∧ b0 < W.heap.size ∧ b1 < W.heap.size ∧ b2 < W.heap.size) :
    w1.cell? ⟨b0, 0, none⟩ = some v0 ∧ w1.cell? ⟨b0, 1, none⟩ = some v1 ∧ w1.cell? ⟨b0, 2, none⟩ = some v2 ∧ w1.cell? ⟨b1, 0, none⟩ = some v3 ∧ w1.cell? ⟨b1, 1, none⟩ = some v4 ∧ w1.cell? ⟨b1, 2, none⟩ = some v5 ∧ w1.cell? ⟨b2, 0, none⟩ = some v6 ∧ b0 < w1.heap.size ∧ b1 < w1.heap.size ∧ b2 < w1.heap.size := by
  obtain ⟨c0, c1, c2, c3, c4, c5, c6, z0, z1, z2⟩ := h
  exact ⟨keepC hb c0, keepC hb c1, keepC hb c2, keepC hb c3, keepC hb c4, keepC hb c5, keepC hb c6, Nat.lt_of_lt_of_le z0 hb.size, Nat.lt_of_lt_of_le z1 hb.size, Nat.lt_of_lt_of_le z2 hb.size⟩

theorem ret_mul {m : Nat} (w : World) (d : Dn) (ev : Value) (h0 : w.cell? ⟨m, 0, none⟩ = some (.bool d.neg)) (h1 : w.cell? ⟨m, 1, none⟩ = some (.string d.dg)) (h2 : w.cell? ⟨m, 2, none⟩ = some (.int .i64 d.ex)) (tmps : Array Value) (ht : tmps.getD 4 undef = .pointer (some ⟨m, 0, none⟩)) (h3 : tmps.getD 5 undef = ev) :
    (results Tryd.f36 tmps).run Tryd.prog w = .ok (.tuple #[dv d, ev]) w := by
  rw [results_cell_tmp Tryd.results36, ht, h3]
  simp [go_sem, h0, h1, h2, dv]

set_option maxRecDepth 100000 in
set_option maxHeartbeats 3200000 in
theorem mul_any (a b : Dn) (eX : Value) (w : World) (hsa : a.dg.size ≤ 1099511627776) (hsb : b.dg.size ≤ 1099511627776)
    (ha0 : -9223372036854775808 ≤ a.ex) (ha1 : a.ex ≤ 9223372036854775807) (hb0 : -9223372036854775808 ≤ b.ex) (hb1 : b.ex ≤ 9223372036854775807)
    (hg : 0 < w.heap.size) (hE : w.cell? ⟨0, 0, none⟩ = some eX) :
    Calls Tryd.prog 36 #[dv a, dv b] w fun e w' => e = .returned (.tuple #[(boundV (mulV (norm a) (norm b)) eX).1, (boundV (mulV (norm a) (norm b)) eX).2]) ∧ Below w.heap.size w w' := by
  have hW := AddW.start w a b eX hg hE
  have c1 := fun w => norm_any a w (by omega) ha0 ha1
  have c2 := fun w => norm_any b w (by omega) hb0 hb1
  obtain ⟨an, ag, ax⟩ := a
  obtain ⟨bn, bg, bx⟩ := b
  have gp := norm_good ⟨an, ag, ax⟩
  have gq := norm_good ⟨bn, bg, bx⟩
  generalize norm ⟨an, ag, ax⟩ = p at *
  generalize norm ⟨bn, bg, bx⟩ = q at *
  obtain ⟨pn, pg, px⟩ := p
  obtain ⟨qn, qg, qx⟩ := q
  simp only at gp gq hsa hsb
  obtain ⟨gp1, gp2, gp3, gp4⟩ := gp
  obtain ⟨gq1, gq2, gq3, gq4⟩ := gq
  obtain ⟨bd, bev, hbf⟩ := boundV_form (mulV ⟨pn, pg, px⟩ ⟨qn, qg, qx⟩) eX
  obtain ⟨dn, dd, de⟩ := bd
  have P1 := hide (fun w => product_any pg qg w (by omega) (by omega) gp4 gq4)
  have P2 := hide (fun (s : ByteArray) (h1 : s.size = pg.size + qg.size) (h2 : AllDig s) (h3 : valB s = valB pg * valB qg) w (h4 : 0 < w.heap.size) (h5 : w.cell? ⟨0, 0, none⟩ = some eX) =>
    (show Calls Tryd.prog 44 #[.bool (!(pn == qn)), .string s, .int .i64 (IntKind.i64.wrap (px + qx))] w fun e w' => e = .returned (.tuple #[dv ⟨dn, dd, de⟩, bev]) ∧ Below w.heap.size w w' by
      have h := inBounds_any (pn != qn) s (px + qx) eX w (by omega) (by omega) (by omega) h4 h5
      rw [bounded_val (pn != qn) s (px + qx) eX h2, h3] at h
      have e : boundV (tellV (pn != qn) (valB pg * valB qg) (px + qx)) eX = (dv ⟨dn, dd, de⟩, bev) := hbf
      rw [e] at h
      rw [wrap_in (px + qx) (by omega) (by omega)]
      exact h))
  have HF := hide hbf
  simp only [dv] at c1 c2 hW P2 ⊢
  clear hg hE hbf
  have C1 := hide c1
  have C2 := hide c2
  clear c1 c2
  go_enter Tryd.func36, Tryd.ntmps36
  go_wp2_with fail
  go_cut [] from 6 (fun wc => AddW w wc ⟨pn, pg, px⟩ ⟨qn, qg, qx⟩ eX)
  case first =>
    go_region_with (first
      | (go_at_call_of 38 (Value.agg #[.bool an, .string ag, .int .i64 ax]); refine (unhide C1 _).mono ?_; rintro e w1 ⟨rfl, h1⟩; have hW1 := hW.drew.call h1; obtain ⟨x0, x1, x2⟩ := hW1.a.cells; obtain ⟨y0, y1, y2⟩ := hW1.b.cells)
      | (go_at_call_of 38 (Value.agg #[.bool bn, .string bg, .int .i64 bx]); refine (unhide C2 _).mono ?_; rintro e w2 ⟨rfl, h2⟩; have hW2 := hW1.call h2; obtain ⟨X0, X1, X2⟩ := hW2.a.cells; obtain ⟨Y0, Y1, Y2⟩ := hW2.b.cells; obtain ⟨fx0, fx1, fx2⟩ := hW2.a.frees; obtain ⟨fy0, fy1, fy2⟩ := hW2.b.frees))
    all_goals go_wp2_with fail
    all_goals go_meet
    all_goals exact (hW2.set1 ⟨pn, pg, px⟩).set2 ⟨qn, qg, qx⟩
  case rest =>
    clear hW C1 C2 ha0 ha1 hb0 hb1
    have hC := hcut
    clear hcut
    obtain ⟨x0, x1, x2⟩ := hC.a.cells
    obtain ⟨y0, y1, y2⟩ := hC.b.cells
    simp only at x0 x1 x2 y0 y1 y2
    have g1 : 0 < wc.heap.size := cell_lt hC.g
    have e1 := hC.g
    have hlt := hC.lt
    have r0 : wc.cell? ⟨w.heap.size + 1 + 1, 0, none⟩ = some (.bool false) := hC.r.cells.1
    have r1 : wc.cell? ⟨w.heap.size + 1 + 1, 1, none⟩ = some (.string ⟨#[]⟩) := hC.r.cells.2.1
    have r2 : wc.cell? ⟨w.heap.size + 1 + 1, 2, none⟩ = some (.int .i64 0) := hC.r.cells.2.2
    have f0 : wc.frozen? ⟨w.heap.size + 1 + 1, 0, none⟩ = false := hC.r.frees.1
    have f1 : wc.frozen? ⟨w.heap.size + 1 + 1, 1, none⟩ = false := hC.r.frees.2.1
    have f2 : wc.frozen? ⟨w.heap.size + 1 + 1, 2, none⟩ = false := hC.r.frees.2.2
    have n3 : w.heap.size + 1 + 1 ≠ w.heap.size := by omega
    have n4 : w.heap.size ≠ w.heap.size + 1 + 1 := by omega
    have n5 : w.heap.size + 1 + 1 ≠ 0 := by omega
    have n6 : 0 ≠ w.heap.size + 1 + 1 := by omega
    have n7 : w.heap.size + 1 + 1 ≠ w.heap.size + 1 := by omega
    have n8 : w.heap.size + 1 ≠ w.heap.size + 1 + 1 := by omega
    have hbb := hC.below
    have ga : w.heap.size < wc.heap.size := blk_lt hC.a
    have gb : w.heap.size + 1 < wc.heap.size := blk_lt hC.b
    clear hC hlt
    go_wp2_with fail
    go_region_held3 (fun w' => w'.cell? ⟨w.heap.size, 0, none⟩ = some (.bool pn) ∧ w'.cell? ⟨w.heap.size, 1, none⟩ = some (.string pg) ∧ w'.cell? ⟨w.heap.size, 2, none⟩ = some (.int .i64 px) ∧ w'.cell? ⟨w.heap.size + 1, 0, none⟩ = some (.bool qn) ∧ w'.cell? ⟨w.heap.size + 1, 1, none⟩ = some (.string qg) ∧ w'.cell? ⟨w.heap.size + 1, 2, none⟩ = some (.int .i64 qx) ∧ w'.cell? ⟨0, 0, none⟩ = some (eX) ∧ w.heap.size < w'.heap.size ∧ w.heap.size + 1 < w'.heap.size ∧ 0 < w'.heap.size) (((try dsimp only); (repeat' apply And.intro); all_goals first | (go_keep; done) | (simp; omega) | (simp [World.setCell]; omega))) (first
      | (go_at_call 45; refine (unhide P1 _).mono ?_; rintro e w2 ⟨sx, rfl, hz1, hz2, hz3, hb2⟩; have CS := hide (unhide P2 sx hz1 hz2 hz3); obtain ⟨k0, k1, k2, k3, k4, k5, k6, k7, k8, k9⟩ := keepMu (b0 := w.heap.size) (b1 := w.heap.size + 1) (b2 := 0) (v0 := .bool pn) (v1 := .string pg) (v2 := .int .i64 px) (v3 := .bool qn) (v4 := .string qg) (v5 := .int .i64 qx) (v6 := eX) hb2 (by first | assumption | go_keep); have rc0 := keepC (b := w.heap.size + 1 + 1) (o := 0) (v := .bool false) hb2 (by first | assumption | (go_keep; done) | (simp [*, World.cell?_alloc_past]; done)); have rc1 := keepC (b := w.heap.size + 1 + 1) (o := 1) (v := .string ⟨#[]⟩) hb2 (by first | assumption | (go_keep; done) | (simp [*, World.cell?_alloc_past]; done)); have rc2 := keepC (b := w.heap.size + 1 + 1) (o := 2) (v := .int .i64 0) hb2 (by first | assumption | (go_keep; done) | (simp [*, World.cell?_alloc_past]; done)); have rf0 := keepF (b := w.heap.size + 1 + 1) (o := 0) (o' := 0) (v := .bool false) hb2 (by first | assumption | (go_keep; done) | (simp [*, World.cell?_alloc_past]; done)) (by first | assumption | (simp [*, World.frozen?_alloc_past]; done)); have rf1 := keepF (b := w.heap.size + 1 + 1) (o := 0) (o' := 1) (v := .bool false) hb2 (by first | assumption | (go_keep; done) | (simp [*, World.cell?_alloc_past]; done)) (by first | assumption | (simp [*, World.frozen?_alloc_past]; done)); have rf2 := keepF (b := w.heap.size + 1 + 1) (o := 0) (o' := 2) (v := .bool false) hb2 (by first | assumption | (go_keep; done) | (simp [*, World.cell?_alloc_past]; done)) (by first | assumption | (simp [*, World.frozen?_alloc_past]; done)); have HB2 : Hid (Below w.heap.size w w2) := (by refine Below.trans ?_ (hb2.mono (by first | (simp; omega) | omega)); repeat (first | exact hbb | apply Below.drew)); clear hb2 hz1 hz2 hz3)
      | (go_at_call 44; refine (unhide CS _ (by assumption) (by assumption)).mono ?_; rintro e w3 ⟨rfl, hb3⟩; obtain ⟨m0, m1, m2, m3, m4, m5, m6, m7, m8, m9⟩ := keepMu (b0 := w.heap.size) (b1 := w.heap.size + 1) (b2 := 0) (v0 := .bool pn) (v1 := .string pg) (v2 := .int .i64 px) (v3 := .bool qn) (v4 := .string qg) (v5 := .int .i64 qx) (v6 := eX) hb3 (by first | assumption | go_keep); have tc0 := keepC (b := w.heap.size + 1 + 1) (o := 0) (v := .bool false) hb3 (by first | assumption | (go_keep; done) | (simp [*, World.cell?_alloc_past]; done)); have tc1 := keepC (b := w.heap.size + 1 + 1) (o := 1) (v := .string ⟨#[]⟩) hb3 (by first | assumption | (go_keep; done) | (simp [*, World.cell?_alloc_past]; done)); have tc2 := keepC (b := w.heap.size + 1 + 1) (o := 2) (v := .int .i64 0) hb3 (by first | assumption | (go_keep; done) | (simp [*, World.cell?_alloc_past]; done)); have tf0 := keepF (b := w.heap.size + 1 + 1) (o := 0) (o' := 0) (v := .bool false) hb3 (by first | assumption | (go_keep; done) | (simp [*, World.cell?_alloc_past]; done)) (by first | assumption | (simp [*, World.frozen?_alloc_past]; done)); have tf1 := keepF (b := w.heap.size + 1 + 1) (o := 0) (o' := 1) (v := .bool false) hb3 (by first | assumption | (go_keep; done) | (simp [*, World.cell?_alloc_past]; done)) (by first | assumption | (simp [*, World.frozen?_alloc_past]; done)); have tf2 := keepF (b := w.heap.size + 1 + 1) (o := 0) (o' := 2) (v := .bool false) hb3 (by first | assumption | (go_keep; done) | (simp [*, World.cell?_alloc_past]; done)) (by first | assumption | (simp [*, World.frozen?_alloc_past]; done)); have HB3 : Hid (Below w.heap.size w w3) := (by refine Below.trans ?_ (hb3.mono (by first | (simp; omega) | omega)); repeat (first | exact HB2.out | apply Below.drew)); clear hb3))
    all_goals go_wp2
    all_goals refine bodyPost_ret (ret_mul _ ⟨dn, dd, de⟩ bev (by simp [go_sem, *]) (by simp [go_sem, *]) (by simp [go_sem, *]) _ rfl rfl) rfl ⟨by rw [HF.out], ?_⟩
    all_goals exact below3 HB3.out (by omega) _ _ _
end Go.Proofs.YtmnikcnjdeldeaaDoor.rd
