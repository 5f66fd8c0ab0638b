/- Add's contract where both numbers, in their one form, have one sign. -/
import Derived.Test.YteenfgomanhjkaaDoorSp
import Derived.Deep.CutRange
import Derived.Deep.DeepCutAuto
namespace Go.Proofs.YteenfgomanhjkaaDoor.rd
open Go.RowKit

/-- While two numbers are added: the two parameters' blocks, the answer's, the variable's cell; nothing old has turned. -/
structure AddW (w wc : World) (p q : Dn) (eX : Value) : Prop where
  a : DLies wc w.heap.size p
  b : DLies wc (w.heap.size + 1) q
  r : DLies wc (w.heap.size + 2) zed
  below : Below w.heap.size w wc
  g : wc.cell? ⟨1, 0, none⟩ = some eX
  lt : 1 < w.heap.size

theorem AddW.start (w : World) (p q : Dn) (eX : Value) (hg : 1 < w.heap.size) (hE : w.cell? ⟨1, 0, none⟩ = some eX) :
    AddW w (((w.alloc (.cells #[.bool p.neg, .string p.dg, .int .i64 p.ex] 23)).alloc (.cells #[.bool q.neg, .string q.dg, .int .i64 q.ex] 23)).alloc (.cells #[.bool false, .string ⟨#[]⟩, .int .i64 0] 23)) p q eX where
  a := ((dlies_new w p).alloc _).alloc _
  b := by
    have := (dlies_new (w.alloc (.cells #[.bool p.neg, .string p.dg, .int .i64 p.ex] 23)) q).alloc (.cells #[.bool false, .string ⟨#[]⟩, .int .i64 0] 23)
    simpa using this
  r := by
    have := dlies_new ((w.alloc (.cells #[.bool p.neg, .string p.dg, .int .i64 p.ex] 23)).alloc (.cells #[.bool q.neg, .string q.dg, .int .i64 q.ex] 23)) zed
    rw [show ((w.alloc (.cells #[.bool p.neg, .string p.dg, .int .i64 p.ex] 23)).alloc (.cells #[.bool q.neg, .string q.dg, .int .i64 q.ex] 23)).heap.size = w.heap.size + 2 by simp] at this
    exact this
  below := (((Below.refl _ _).alloc (Nat.le_refl _) _).alloc (by simp) _).alloc (by simp; omega) _
  g := by
    rw [World.cell?_alloc_past _ _ _ (by first | (simp; done) | (simp; omega)), World.cell?_alloc_past _ _ _ (by first | (simp; done) | (simp; omega)), World.cell?_alloc_past _ _ _ hg]
    exact hE
  lt := hg

theorem AddW.call {w wc w' : World} {p q : Dn} {eX : Value} (h : AddW w wc p q eX) (hb : Below wc.heap.size wc w') : AddW w w' p q eX where
  a := h.a.below hb (blk_lt h.a)
  b := h.b.below hb (blk_lt h.b)
  r := h.r.below hb (blk_lt h.r)
  below := h.below.trans (hb.mono h.below.size)
  g := keepC hb h.g
  lt := h.lt
theorem AddW.drew {w wc : World} {p q : Dn} {eX : Value} (h : AddW w wc p q eX) : AddW w wc.drew p q eX := ⟨h.a, h.b, h.r, h.below.drew, h.g, h.lt⟩
theorem AddW.drewN {w wc : World} {p q : Dn} {eX : Value} (h : AddW w wc p q eX) (n : Nat) : AddW w (wc.drewN n) p q eX := ⟨h.a, h.b, h.r, h.below.trans ((Upd.drewN w.heap.size wc n).below (Nat.le_refl _)), h.g, h.lt⟩
theorem AddW.set1 {w wc : World} {p q : Dn} {eX : Value} (h : AddW w wc p q eX) (x : Dn) :
    AddW w (((wc.setCell ⟨w.heap.size, 0, none⟩ (.bool x.neg)).setCell ⟨w.heap.size, 1, none⟩ (.string x.dg)).setCell ⟨w.heap.size, 2, none⟩ (.int .i64 x.ex)) x q eX := by
  have hu := (Upd.setCell w.heap.size 0 wc (.bool x.neg)).trans ((Upd.setCell w.heap.size 1 _ (.string x.dg)).trans (Upd.setCell w.heap.size 2 _ (.int .i64 x.ex)))
  have hlt := h.lt
  exact ⟨h.a.set _ _ _, (hu.block _ (by omega)).trans h.b, (hu.block _ (by omega)).trans h.r, below3 h.below (Nat.le_refl _) _ _ _, by rw [World.cell?_of_block (w := wc) (hu.block _ (by show 1 ≠ _; omega))]; exact h.g, h.lt⟩
theorem AddW.set2 {w wc : World} {p q : Dn} {eX : Value} (h : AddW w wc p q eX) (x : Dn) :
    AddW w (((wc.setCell ⟨w.heap.size + 1, 0, none⟩ (.bool x.neg)).setCell ⟨w.heap.size + 1, 1, none⟩ (.string x.dg)).setCell ⟨w.heap.size + 1, 2, none⟩ (.int .i64 x.ex)) p x eX := by
  have hu := (Upd.setCell (w.heap.size + 1) 0 wc (.bool x.neg)).trans ((Upd.setCell (w.heap.size + 1) 1 _ (.string x.dg)).trans (Upd.setCell (w.heap.size + 1) 2 _ (.int .i64 x.ex)))
  have hlt := h.lt
  exact ⟨(hu.block _ (by omega)).trans h.a, h.b.set _ _ _, (hu.block _ (by omega)).trans h.r, below3 h.below (by omega) _ _ _, by rw [World.cell?_of_block (w := wc) (hu.block _ (by show 1 ≠ _; omega))]; exact h.g, h.lt⟩

/-- How many noughts a number gets behind it, and ahead of it. -/
def behindOf (p q : Dn) : Nat := (p.ex - min p.ex q.ex).toNat
def aheadOf (p q : Dn) : Nat := (max (p.dg.size + p.ex) (q.dg.size + q.ex) - min p.ex q.ex - behindOf p q - p.dg.size).toNat
/-- The answer where both have one sign. -/
def addSame (p q : Dn) (eX : Value) : Value × Value :=
  bounded p.neg (sumD (spreadB p.dg (aheadOf p q) (behindOf p q)) (spreadB q.dg (aheadOf q p) (behindOf q p))) (min p.ex q.ex) eX

theorem wrap_in (n : Int) (h0 : -9223372036854775808 ≤ n) (h1 : n ≤ 9223372036854775807) : IntKind.i64.wrap n = n := IntWalk.i64_in n ⟨h0, h1⟩

theorem dig_filter (l : List UInt8) : ∀ c ∈ l.filter nu.dig, nu.dig c = true := fun _ h => (List.mem_filter.1 h).2
theorem mem_dropWhile {l : List UInt8} {f : UInt8 → Bool} {c : UInt8} (h : c ∈ l.dropWhile f) : c ∈ l := (List.dropWhile_suffix f).subset h
/-- What a number in its one form is. -/
theorem oneForm_good (neg : Bool) (s : ByteArray) (ex : Int) (hd : AllDig s) : (oneForm neg s ex).1.dg.size ≤ s.size ∧ -9999 ≤ (oneForm neg s ex).1.ex ∧ (oneForm neg s ex).1.ex ≤ 9999 ∧ AllDig (oneForm neg s ex).1.dg := by
  have l1 := trimL_le s
  have l2 := trimR_le (trimL s)
  have hz : AllDig (zed).dg := fun c hc => by simp [zed] at hc
  have ht : AllDig (trimR (trimL s)) := by
    intro c hc
    have h1 : c ∈ Lib.trimRightB (trimL s).data.toList 48 := by simpa [trimR] using hc
    unfold Lib.trimRightB at h1
    have h2 := mem_dropWhile (List.mem_reverse.1 h1)
    have h3 : c ∈ Lib.trimLeftB s.data.toList 48 := by simpa [trimL] using (List.mem_reverse.1 h2)
    exact hd c (mem_dropWhile h3)
  unfold oneForm
  split
  · exact ⟨by simp [zed], by simp [zed], by simp [zed], hz⟩
  · split
    · exact ⟨by simp [zed], by simp [zed], by simp [zed], hz⟩
    · split
      · exact ⟨by simp [zed], by simp [zed], by simp [zed], hz⟩
      · refine ⟨?_, ?_, ?_, ht⟩
        · show (trimR (trimL s)).size ≤ s.size; omega
        · simp only; omega
        · simp only; omega
theorem digs_dig (s : ByteArray) : AllDig (digs s) := by
  intro c hc
  have : c ∈ s.data.toList.filter nu.dig := by simpa [digs] using hc
  exact dig_filter _ c this
theorem norm_good (d : Dn) : (norm d).dg.size ≤ d.dg.size ∧ -9999 ≤ (norm d).ex ∧ (norm d).ex ≤ 9999 ∧ AllDig (norm d).dg := by
  have h := oneForm_good d.neg (digs d.dg) d.ex (digs_dig d.dg)
  have := digs_le d.dg
  exact ⟨by have := h.1; unfold norm; omega, h.2.1, h.2.2.1, h.2.2.2⟩

theorem zeros_dig (c : Nat) : AllDig (zeros c) := by
  have key : ∀ c, ∀ b ∈ Lib.repeatL [48] c, nu.dig b = true := by
    intro c
    induction c with
    | zero => intro b hb; simp [Lib.repeatL] at hb
    | succ c ih =>
      intro b hb
      simp only [Lib.repeatL, List.cons_append, List.nil_append, List.mem_cons] at hb
      rcases hb with rfl | hb
      · decide
      · exact ih b hb
  intro b hb
  exact key c b (by simpa [zeros] using hb)
theorem cat_dig {x y : ByteArray} (hx : AllDig x) (hy : AllDig y) : AllDig (x ++ y) := by
  intro b hb
  have : b ∈ x.data.toList ++ y.data.toList := by simpa using hb
  rcases List.mem_append.1 this with h | h
  · exact hx b h
  · exact hy b h
theorem spread_dig {g : ByteArray} (a b : Nat) (h : AllDig g) : AllDig (spreadB g a b) := cat_dig (cat_dig (zeros_dig a) h) (zeros_dig b)
theorem spread_size (g : ByteArray) (a b : Nat) : (spreadB g a b).size = a + g.size + b := by
  unfold spreadB; simp [zeros_size]

theorem keepAd {b0 b1 : Nat} {v0 v1 v2 v3 v4 v5 : Value} {W w1 : World} (hb : Below W.heap.size W w1)
    (h : W.cell? ⟨b0, 0, none⟩ = some v0 ∧ W.cell? ⟨b0, 1, none⟩ = some v1 ∧ W.cell? ⟨b0, 2, none⟩ = some v2 ∧ W.cell? ⟨b1, 0, none⟩ = some v3 ∧ W.cell? ⟨b1, 1, none⟩ = some v4 ∧ W.cell? ⟨b1, 2, none⟩ = some v5) :
    w1.cell? ⟨b0, 0, none⟩ = some v0 ∧ w1.cell? ⟨b0, 1, none⟩ = some v1 ∧ w1.cell? ⟨b0, 2, none⟩ = some v2 ∧ w1.cell? ⟨b1, 0, none⟩ = some v3 ∧ w1.cell? ⟨b1, 1, none⟩ = some v4 ∧ w1.cell? ⟨b1, 2, none⟩ = some v5 := by
  obtain ⟨c0, c1, c2, c3, c4, c5⟩ := h
  exact ⟨keepC hb c0, keepC hb c1, keepC hb c2, keepC hb c3, keepC hb c4, keepC hb c5⟩
theorem keepAe {b0 b1 : Nat} {v0 v1 : Value} {W w1 : World} (hb : Below W.heap.size W w1)
    (h : W.cell? ⟨b0, 0, none⟩ = some v0 ∧ W.cell? ⟨b1, 0, none⟩ = some v1 ∧ b0 < W.heap.size ∧ b1 < W.heap.size) :
    w1.cell? ⟨b0, 0, none⟩ = some v0 ∧ w1.cell? ⟨b1, 0, none⟩ = some v1 ∧ b0 < w1.heap.size ∧ b1 < w1.heap.size := by
  obtain ⟨c0, c1, z0, z1⟩ := h
  exact ⟨keepC hb c0, keepC hb c1, Nat.lt_of_lt_of_le z0 hb.size, Nat.lt_of_lt_of_le z1 hb.size⟩

theorem ret_add {m : Nat} (w : World) (d : Dn) (ev : Value) (h0 : w.cell? ⟨m, 0, none⟩ = some (.bool d.neg)) (h1 : w.cell? ⟨m, 1, none⟩ = some (.string d.dg)) (h2 : w.cell? ⟨m, 2, none⟩ = some (.int .i64 d.ex)) (tmps : Array Value) (ht : tmps.getD 4 undef = .pointer (some ⟨m, 0, none⟩)) (h3 : tmps.getD 5 undef = ev) :
    (results Tryd.f8 tmps).run Tryd.prog w = .ok (.tuple #[dv d, ev]) w := by
  rw [results_cell_tmp Tryd.results8, ht, h3]
  simp [go_sem, h0, h1, h2, dv]

set_option maxRecDepth 100000 in
set_option maxHeartbeats 3200000 in
theorem add_same (a b : Dn) (eX : Value) (w : World) (hsa : a.dg.size ≤ 1099511627776) (hsb : b.dg.size ≤ 1099511627776)
    (ha0 : -9223372036854775808 ≤ a.ex) (ha1 : a.ex ≤ 9223372036854775807) (hb0 : -9223372036854775808 ≤ b.ex) (hb1 : b.ex ≤ 9223372036854775807)
    (hg : 1 < w.heap.size) (hE : w.cell? ⟨1, 0, none⟩ = some eX) (hsame : (norm a).neg = (norm b).neg) :
    Calls Tryd.prog 8 #[dv a, dv b] w fun e w' => e = .returned (.tuple #[(addSame (norm a) (norm b) eX).1, (addSame (norm a) (norm b) eX).2]) ∧ Below w.heap.size w w' := by
  have hW := AddW.start w a b eX hg hE
  have c1 := fun w => norm_any a w (by omega) ha0 ha1
  have c2 := fun w => norm_any b w (by omega) hb0 hb1
  obtain ⟨an, ag, ax⟩ := a
  obtain ⟨bn, bg, bx⟩ := b
  have gp := norm_good ⟨an, ag, ax⟩
  have gq := norm_good ⟨bn, bg, bx⟩
  generalize norm ⟨an, ag, ax⟩ = p at *
  generalize norm ⟨bn, bg, bx⟩ = q at *
  obtain ⟨pn, pg, px⟩ := p
  obtain ⟨qn, qg, qx⟩ := q
  simp only at gp gq hsa hsb
  obtain ⟨gp1, gp2, gp3, gp4⟩ := gp
  obtain ⟨gq1, gq2, gq3, gq4⟩ := gq
  simp only [dv] at c1 c2 hW hsame ⊢
  have HSame := hide hsame
  clear hsame hg hE
  have C1 := hide c1
  have C2 := hide c2
  clear c1 c2
  go_enter Tryd.func8, Tryd.ntmps8
  go_wp2_with fail
  go_cut [] from 10 (fun wc => AddW w wc ⟨pn, pg, px⟩ ⟨qn, qg, qx⟩ eX)
  case first =>
    go_region_with (first
      | (go_at_call_of 13 (Value.agg #[.bool an, .string ag, .int .i64 ax]); refine (unhide C1 _).mono ?_; rintro e w1 ⟨rfl, h1⟩; have hW1 := hW.drew.call h1; obtain ⟨x0, x1, x2⟩ := hW1.a.cells; obtain ⟨y0, y1, y2⟩ := hW1.b.cells)
      | (go_at_call_of 13 (Value.agg #[.bool bn, .string bg, .int .i64 bx]); refine (unhide C2 _).mono ?_; rintro e w2 ⟨rfl, h2⟩; have hW2 := hW1.call h2; obtain ⟨X0, X1, X2⟩ := hW2.a.cells; obtain ⟨Y0, Y1, Y2⟩ := hW2.b.cells; obtain ⟨fx0, fx1, fx2⟩ := hW2.a.frees; obtain ⟨fy0, fy1, fy2⟩ := hW2.b.frees))
    all_goals go_wp2_with fail
    all_goals go_meet
    all_goals exact (hW2.set1 ⟨pn, pg, px⟩).set2 ⟨qn, qg, qx⟩
  case rest =>
    clear hW C1 C2 ha0 ha1 hb0 hb1
    obtain ⟨x0, x1, x2⟩ := hcut.a.cells
    obtain ⟨y0, y1, y2⟩ := hcut.b.cells
    simp only at x0 x1 x2 y0 y1 y2
    have T1 := hide (fun w => top_any ⟨pn, pg, px⟩ w (by simp only; omega) (by simp only; omega) (by simp only; omega))
    have T2 := hide (fun w => top_any ⟨qn, qg, qx⟩ w (by simp only; omega) (by simp only; omega) (by simp only; omega))
    simp only [dv] at T1 T2
    have hwr := wrap_in (max ((pg.size : Int) + px) ((qg.size : Int) + qx) - min px qx) (by omega) (by omega)
    have hA := hcut
    clear hcut
    go_wp2_with fail
    go_cut [7] from 10 (fun s7 wd => s7 = .int .i64 (max ((pg.size : Int) + px) ((qg.size : Int) + qx) - min px qx) ∧ AddW w wd ⟨pn, pg, px⟩ ⟨qn, qg, qx⟩ eX)
    case first =>
      go_region_held3 (fun w' => w'.cell? ⟨w.heap.size, 0, none⟩ = some (.bool pn) ∧ w'.cell? ⟨w.heap.size, 1, none⟩ = some (.string pg) ∧ w'.cell? ⟨w.heap.size, 2, none⟩ = some (.int .i64 px) ∧ w'.cell? ⟨w.heap.size + 1, 0, none⟩ = some (.bool qn) ∧ w'.cell? ⟨w.heap.size + 1, 1, none⟩ = some (.string qg) ∧ w'.cell? ⟨w.heap.size + 1, 2, none⟩ = some (.int .i64 qx)) (((try dsimp only); (repeat' apply And.intro); all_goals first | (go_keep; done) | (simp; omega))) (first
        | (go_at_call_of 20 (Value.agg #[.bool pn, .string pg, .int .i64 px]); refine (unhide T1 _).mono ?_; rintro e w1 ⟨rfl, h1⟩; obtain ⟨k0, k1, k2, k3, k4, k5⟩ := keepAd (b0 := w.heap.size) (b1 := w.heap.size + 1) (v0 := .bool pn) (v1 := .string pg) (v2 := .int .i64 px) (v3 := .bool qn) (v4 := .string qg) (v5 := .int .i64 qx) h1 (by first | assumption | go_keep); have hW1 := hA.drew.call h1; clear h1)
        | (go_at_call_of 20 (Value.agg #[.bool qn, .string qg, .int .i64 qx]); refine (unhide T2 _).mono ?_; rintro e w2 ⟨rfl, h2⟩; obtain ⟨m0, m1, m2, m3, m4, m5⟩ := keepAd (b0 := w.heap.size) (b1 := w.heap.size + 1) (v0 := .bool pn) (v1 := .string pg) (v2 := .int .i64 px) (v3 := .bool qn) (v4 := .string qg) (v5 := .int .i64 qx) h2 (by first | assumption | go_keep); have hW2 := hW1.call h2; clear h2))
      all_goals go_wp2_with fail
      all_goals go_meet
      all_goals exact ⟨rfl, hW2⟩
    case rest =>
      clear hA hwr T1 T2 x0 x1 x2 y0 y1 y2
      obtain ⟨rfl, hB⟩ := hcut
      obtain ⟨x0, x1, x2⟩ := hB.a.cells
      obtain ⟨y0, y1, y2⟩ := hB.b.cells
      simp only at x0 x1 x2 y0 y1 y2
      have P1 := fun w => spread_any ⟨pn, pg, px⟩ (aheadOf ⟨pn, pg, px⟩ ⟨qn, qg, qx⟩) (behindOf ⟨pn, pg, px⟩ ⟨qn, qg, qx⟩) (min px qx) (max ((pg.size : Int) + px) ((qg.size : Int) + qx) - min px qx) w (by simp only; omega) (by simp only; omega) (by simp only; omega) (by simp only [behindOf]; omega) (by simp only [behindOf]; omega) (by simp only [aheadOf, behindOf]; omega) (by simp only [aheadOf, behindOf]; omega)
      have P2 := fun w => spread_any ⟨qn, qg, qx⟩ (aheadOf ⟨qn, qg, qx⟩ ⟨pn, pg, px⟩) (behindOf ⟨qn, qg, qx⟩ ⟨pn, pg, px⟩) (min px qx) (max ((pg.size : Int) + px) ((qg.size : Int) + qx) - min px qx) w (by simp only; omega) (by simp only; omega) (by simp only; omega) (by simp only [behindOf]; omega) (by simp only [behindOf]; omega) (by simp only [aheadOf, behindOf]; omega) (by simp only [aheadOf, behindOf]; omega)
      have z1 := spread_size pg (aheadOf ⟨pn, pg, px⟩ ⟨qn, qg, qx⟩) (behindOf ⟨pn, pg, px⟩ ⟨qn, qg, qx⟩)
      have z2 := spread_size qg (aheadOf ⟨qn, qg, qx⟩ ⟨pn, pg, px⟩) (behindOf ⟨qn, qg, qx⟩ ⟨pn, pg, px⟩)
      have zz : (spreadB pg (aheadOf ⟨pn, pg, px⟩ ⟨qn, qg, qx⟩) (behindOf ⟨pn, pg, px⟩ ⟨qn, qg, qx⟩)).size = (spreadB qg (aheadOf ⟨qn, qg, qx⟩ ⟨pn, pg, px⟩) (behindOf ⟨qn, qg, qx⟩ ⟨pn, pg, px⟩)).size := by
        rw [z1, z2]; simp only [aheadOf, behindOf]; omega
      have zl : (spreadB pg (aheadOf ⟨pn, pg, px⟩ ⟨qn, qg, qx⟩) (behindOf ⟨pn, pg, px⟩ ⟨qn, qg, qx⟩)).size ≤ 4398046511104 := by
        rw [z1]; simp only [aheadOf, behindOf]; omega
      have d1 := spread_dig (aheadOf ⟨pn, pg, px⟩ ⟨qn, qg, qx⟩) (behindOf ⟨pn, pg, px⟩ ⟨qn, qg, qx⟩) gp4
      have d2 := spread_dig (aheadOf ⟨qn, qg, qx⟩ ⟨pn, pg, px⟩) (behindOf ⟨qn, qg, qx⟩ ⟨pn, pg, px⟩) gq4
      simp only [dv] at P1 P2
      have HA : Hid (addSame ⟨pn, pg, px⟩ ⟨qn, qg, qx⟩ eX = bounded pn (sumD (spreadB pg (aheadOf ⟨pn, pg, px⟩ ⟨qn, qg, qx⟩) (behindOf ⟨pn, pg, px⟩ ⟨qn, qg, qx⟩)) (spreadB qg (aheadOf ⟨qn, qg, qx⟩ ⟨pn, pg, px⟩) (behindOf ⟨qn, qg, qx⟩ ⟨pn, pg, px⟩))) (min px qx) eX) := rfl
      generalize spreadB pg (aheadOf ⟨pn, pg, px⟩ ⟨qn, qg, qx⟩) (behindOf ⟨pn, pg, px⟩ ⟨qn, qg, qx⟩) = s1 at *
      generalize spreadB qg (aheadOf ⟨qn, qg, qx⟩ ⟨pn, pg, px⟩) (behindOf ⟨qn, qg, qx⟩ ⟨pn, pg, px⟩) = s2 at *
      have Q1 := hide P1
      have Q2 := hide P2
      clear P1 P2 z1 z2
      have ZZ := hide zz
      clear zz
      go_wp2_with fail
      go_cut [8, 9] from 10 (fun s8 s9 we => s8 = .string s1 ∧ s9 = .string s2 ∧ AddW w we ⟨pn, pg, px⟩ ⟨qn, qg, qx⟩ eX)
      case first =>
        go_region_held3 (fun w' => w'.cell? ⟨w.heap.size, 0, none⟩ = some (.bool pn) ∧ w'.cell? ⟨w.heap.size, 1, none⟩ = some (.string pg) ∧ w'.cell? ⟨w.heap.size, 2, none⟩ = some (.int .i64 px) ∧ w'.cell? ⟨w.heap.size + 1, 0, none⟩ = some (.bool qn) ∧ w'.cell? ⟨w.heap.size + 1, 1, none⟩ = some (.string qg) ∧ w'.cell? ⟨w.heap.size + 1, 2, none⟩ = some (.int .i64 qx)) (((try dsimp only); (repeat' apply And.intro); all_goals first | (go_keep; done) | (simp; omega))) (first
          | (go_at_call_of 21 (Value.agg #[.bool pn, .string pg, .int .i64 px]); refine (unhide Q1 _).mono ?_; rintro e w1 ⟨rfl, h1⟩; obtain ⟨k0, k1, k2, k3, k4, k5⟩ := keepAd (b0 := w.heap.size) (b1 := w.heap.size + 1) (v0 := .bool pn) (v1 := .string pg) (v2 := .int .i64 px) (v3 := .bool qn) (v4 := .string qg) (v5 := .int .i64 qx) h1 (by first | assumption | go_keep); have hW1 := hB.drew.call h1; clear h1)
          | (go_at_call_of 21 (Value.agg #[.bool qn, .string qg, .int .i64 qx]); refine (unhide Q2 _).mono ?_; rintro e w2 ⟨rfl, h2⟩; obtain ⟨m0, m1, m2, m3, m4, m5⟩ := keepAd (b0 := w.heap.size) (b1 := w.heap.size + 1) (v0 := .bool pn) (v1 := .string pg) (v2 := .int .i64 px) (v3 := .bool qn) (v4 := .string qg) (v5 := .int .i64 qx) h2 (by first | assumption | go_keep); have hW2 := hW1.call h2; clear h2))
        all_goals go_wp2_with fail
        all_goals go_meet
        all_goals exact ⟨rfl, rfl, hW2⟩
      case rest =>
        clear hB Q1 Q2 x0 x1 x2 y0 y1 y2
        obtain ⟨rfl, rfl, hC⟩ := hcut
        obtain ⟨x0, x1, x2⟩ := hC.a.cells
        obtain ⟨y0, y1, y2⟩ := hC.b.cells
        have hEq : pn = qn := unhide HSame
        clear HSame
        subst hEq
        have hsz := unhide ZZ
        have c1 := fun w => sum_any s1 s2 w hsz (by omega) d1 d2
        have hsd : (sumD s1 s2).size ≤ 140737488351232 := by
          have e : (sumD s1 s2).size = (sumL s1.data.toList s2.data.toList).1.length + 1 := by unfold sumD; exact List.size_toArray
          rw [e, sumL_len _ _ (by simpa using hsz)]
          have : s1.data.toList.length = s1.size := by simp
          omega
        have c2 := fun w (h1 : 1 < w.heap.size) (h2 : w.cell? ⟨1, 0, none⟩ = some eX) => inBounds_any pn (sumD s1 s2) (min px qx) eX w hsd (by omega) (by omega) h1 h2
        obtain ⟨bd, bev, hbf⟩ := bounded_form pn (sumD s1 s2) (min px qx) eX
        rw [hbf] at c2
        have HF : Hid (addSame ⟨pn, pg, px⟩ ⟨pn, qg, qx⟩ eX = (dv bd, bev)) := by
          show addSame _ _ _ = _
          rw [HA.out, hbf]
        clear hbf HA hsz hsd ZZ
        obtain ⟨dn, dd, de⟩ := bd
        generalize sumD s1 s2 = sd at *
        simp only [dv] at c2
        have C1 := hide c1
        have C2 := hide c2
        clear c1 c2
        have g1 : 1 < wc.heap.size := cell_lt hC.g
        have e1 := hC.g
        have hlt := hC.lt
        have r0 : wc.cell? ⟨w.heap.size + 1 + 1, 0, none⟩ = some (.bool false) := hC.r.cells.1
        have r1 : wc.cell? ⟨w.heap.size + 1 + 1, 1, none⟩ = some (.string ⟨#[]⟩) := hC.r.cells.2.1
        have r2 : wc.cell? ⟨w.heap.size + 1 + 1, 2, none⟩ = some (.int .i64 0) := hC.r.cells.2.2
        have f0 : wc.frozen? ⟨w.heap.size + 1 + 1, 0, none⟩ = false := hC.r.frees.1
        have f1 : wc.frozen? ⟨w.heap.size + 1 + 1, 1, none⟩ = false := hC.r.frees.2.1
        have f2 : wc.frozen? ⟨w.heap.size + 1 + 1, 2, none⟩ = false := hC.r.frees.2.2
        have n3 : w.heap.size + 1 + 1 ≠ w.heap.size := by omega
        have n4 : w.heap.size ≠ w.heap.size + 1 + 1 := by omega
        have n5 : w.heap.size + 1 + 1 ≠ 1 := by omega
        have n6 : 1 ≠ w.heap.size + 1 + 1 := by omega
        have hbb := hC.below
        have ga : w.heap.size < wc.heap.size := blk_lt hC.a
        clear hC hlt
        simp only at x0 x1 x2 y0 y1 y2
        go_wp2_with fail
        go_region_held3 (fun w' => w'.cell? ⟨w.heap.size, 0, none⟩ = some (.bool pn) ∧ w'.cell? ⟨1, 0, none⟩ = some (eX) ∧ w.heap.size < w'.heap.size ∧ 1 < w'.heap.size) (((try dsimp only); (repeat' apply And.intro); all_goals first | (go_keep; done) | (simp; omega) | (simp [World.setCell]; omega))) (first
          | (go_at_call 22; refine (unhide C1 _).mono ?_; rintro e w2 ⟨rfl, hb2⟩; obtain ⟨k0, k1, k2, k3⟩ := keepAe (b0 := w.heap.size) (b1 := 1) (v0 := .bool pn) (v1 := eX) hb2 (by first | assumption | go_keep); have rc0 := keepC (b := w.heap.size + 1 + 1) (o := 0) (v := .bool false) hb2 (by first | assumption | (go_keep; done) | (simp [*, World.cell?_alloc_past]; done)); have rc1 := keepC (b := w.heap.size + 1 + 1) (o := 1) (v := .string ⟨#[]⟩) hb2 (by first | assumption | (go_keep; done) | (simp [*, World.cell?_alloc_past]; done)); have rc2 := keepC (b := w.heap.size + 1 + 1) (o := 2) (v := .int .i64 0) hb2 (by first | assumption | (go_keep; done) | (simp [*, World.cell?_alloc_past]; done)); have rf0 := keepF (b := w.heap.size + 1 + 1) (o := 0) (o' := 0) (v := .bool false) hb2 (by first | assumption | (go_keep; done) | (simp [*, World.cell?_alloc_past]; done)) (by first | assumption | (simp [*, World.frozen?_alloc_past]; done)); have rf1 := keepF (b := w.heap.size + 1 + 1) (o := 0) (o' := 1) (v := .bool false) hb2 (by first | assumption | (go_keep; done) | (simp [*, World.cell?_alloc_past]; done)) (by first | assumption | (simp [*, World.frozen?_alloc_past]; done)); have rf2 := keepF (b := w.heap.size + 1 + 1) (o := 0) (o' := 2) (v := .bool false) hb2 (by first | assumption | (go_keep; done) | (simp [*, World.cell?_alloc_past]; done)) (by first | assumption | (simp [*, World.frozen?_alloc_past]; done)); have HB2 : Hid (Below w.heap.size w w2) := (by refine Below.trans ?_ (hb2.mono (by first | (simp; omega) | omega)); repeat (first | exact hbb | apply Below.drew)); clear hb2)
          | (go_at_call 18; refine (unhide C2 _ (by assumption) (by assumption)).mono ?_; rintro e w3 ⟨rfl, hb3⟩; obtain ⟨m0, m1, m2, m3⟩ := keepAe (b0 := w.heap.size) (b1 := 1) (v0 := .bool pn) (v1 := eX) hb3 (by first | assumption | go_keep); have tc0 := keepC (b := w.heap.size + 1 + 1) (o := 0) (v := .bool false) hb3 (by first | assumption | (go_keep; done) | (simp [*, World.cell?_alloc_past]; done)); have tc1 := keepC (b := w.heap.size + 1 + 1) (o := 1) (v := .string ⟨#[]⟩) hb3 (by first | assumption | (go_keep; done) | (simp [*, World.cell?_alloc_past]; done)); have tc2 := keepC (b := w.heap.size + 1 + 1) (o := 2) (v := .int .i64 0) hb3 (by first | assumption | (go_keep; done) | (simp [*, World.cell?_alloc_past]; done)); have tf0 := keepF (b := w.heap.size + 1 + 1) (o := 0) (o' := 0) (v := .bool false) hb3 (by first | assumption | (go_keep; done) | (simp [*, World.cell?_alloc_past]; done)) (by first | assumption | (simp [*, World.frozen?_alloc_past]; done)); have tf1 := keepF (b := w.heap.size + 1 + 1) (o := 0) (o' := 1) (v := .bool false) hb3 (by first | assumption | (go_keep; done) | (simp [*, World.cell?_alloc_past]; done)) (by first | assumption | (simp [*, World.frozen?_alloc_past]; done)); have tf2 := keepF (b := w.heap.size + 1 + 1) (o := 0) (o' := 2) (v := .bool false) hb3 (by first | assumption | (go_keep; done) | (simp [*, World.cell?_alloc_past]; done)) (by first | assumption | (simp [*, World.frozen?_alloc_past]; done)); have HB3 : Hid (Below w.heap.size w w3) := (by refine Below.trans ?_ (hb3.mono (by first | (simp; omega) | omega)); repeat (first | exact HB2.out | apply Below.drew)); clear hb3))
        all_goals go_wp2
        all_goals refine bodyPost_ret (ret_add _ ⟨dn, dd, de⟩ bev (by simp [go_sem, *]) (by simp [go_sem, *]) (by simp [go_sem, *]) _ rfl rfl) rfl ⟨by rw [HF.out], ?_⟩
        all_goals exact below3 HB3.out (by omega) _ _ _
end Go.Proofs.YteenfgomanhjkaaDoor.rd
