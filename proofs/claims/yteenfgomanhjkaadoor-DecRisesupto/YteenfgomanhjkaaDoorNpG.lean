/- Several texts in one. -/
import Derived.Test.YteenfgomanhjkaaDoorNu
import Derived.Lib.Strings
import Derived.Test.YteenfgomanhjkaaDoorIb
/- What a numeral's parts are: their lengths, and that a power is digits. -/
namespace Go.Proofs.YteenfgomanhjkaaDoor.nu

theorem ext_size (s : ByteArray) (i j : Nat) : (s.extract i j).size ≤ s.size := by
  have : (s.extract i j).size = min j s.size - i := by simp
  omega

theorem ext_list (s : ByteArray) (i j : Nat) : (s.extract i j).data.toList = (s.data.toList.drop i).take (j - i) := by
  exact Lib.extract_data s i j

/-- The parts of a numeral. -/
structure Good (s : ByteArray) (x : Num) : Prop where
  wh : x.wh.size ≤ s.size
  fr : x.fr.size ≤ s.size
  pw : x.pw.size ≤ s.size
  dg : ∀ c ∈ x.pw.data.toList, dig c = true

theorem pw_list (s : ByteArray) (i : Nat) : (s.extract i (i + nd s i)).data.toList = (s.data.toList.drop i).takeWhile dig := by
  rw [ext_list, Nat.add_sub_cancel_left]
  exact (List.prefix_iff_eq_take.1 (List.takeWhile_prefix dig)).symm

theorem pwFirst_good (s : ByteArray) (ng : Bool) (i : Nat) (p : Bool × ByteArray) (h : pwFirst s ng i = some p) : p.2.size ≤ s.size ∧ ∀ c ∈ p.2.data.toList, dig c = true := by
  unfold pwFirst at h
  rcases Nat.lt_or_ge i s.size with hi | hi
  · rw [at_some s i hi] at h
    simp only at h
    by_cases hd : dig s[i] = true
    · rw [if_pos hd] at h
      unfold pwRest at h
      have e : i + 1 + nd s (i + 1) = i + nd s i := by rw [nd_yes s i hi hd]; omega
      rw [e] at h
      by_cases hz : i + nd s i = s.size
      · rw [if_pos hz] at h
        cases h
        refine ⟨ext_size _ _ _, fun c hc => ?_⟩
        rw [pw_list] at hc
        exact (List.all_takeWhile (p := dig) (l := s.data.toList.drop i) |> List.all_eq_true.1) c hc
      · rw [if_neg hz] at h; cases h
    · rw [if_neg hd] at h; cases h
  · have : at_ s i = none := by
      unfold at_; apply List.getElem?_eq_none; simpa using hi
    rw [this] at h; cases h

theorem power_good (s : ByteArray) (i : Nat) (p : Bool × ByteArray) (h : power s i = some p) : p.2.size ≤ s.size ∧ ∀ c ∈ p.2.data.toList, dig c = true := by
  unfold power at h
  cases hx : at_ s i with
  | none => rw [hx] at h; cases h
  | some c =>
    rw [hx] at h
    simp only at h
    split at h
    · exact pwFirst_good _ _ _ _ h
    · split at h
      · exact pwFirst_good _ _ _ _ h
      · exact pwFirst_good _ _ _ _ h

theorem measured_good (s : ByteArray) (k : Nat) (neg : Bool) (wh fr : ByteArray) (x : Num) (hw : wh.size ≤ s.size) (hf : fr.size ≤ s.size) (h : measured s k neg wh fr = some x) : Good s x := by
  unfold measured at h
  cases hx : at_ s k with
  | none => rw [hx] at h; cases h; exact ⟨hw, hf, by simp, fun c hc => by simp at hc⟩
  | some c =>
    rw [hx] at h
    simp only at h
    split at h
    · cases hp : power s (k + 1) with
      | none => rw [hp] at h; cases h
      | some p =>
        rw [hp] at h
        cases h
        have := power_good s _ _ hp
        exact ⟨hw, hf, this.1, this.2⟩
    · cases h

theorem point_good (s : ByteArray) (k : Nat) (neg : Bool) (wh : ByteArray) (x : Num) (hw : wh.size ≤ s.size) (h : point s k neg wh = some x) : Good s x := by
  unfold point at h
  cases hx : at_ s k with
  | none => rw [hx] at h; cases h
  | some c =>
    rw [hx] at h
    simp only at h
    split at h
    · exact measured_good s _ neg wh _ x hw (ext_size _ _ _) h
    · cases h

theorem counted_good (s : ByteArray) (i k : Nat) (neg : Bool) (x : Num) (h : counted s i k neg = some x) : Good s x := by
  unfold counted at h
  split at h
  · exact point_good s _ neg _ x (ext_size _ _ _) h
  · exact measured_good s _ neg _ _ x (ext_size _ _ _) (by simp) h

theorem first_good (s : ByteArray) (k : Nat) (neg : Bool) (x : Num) (h : first s k neg = some x) : Good s x := by
  unfold first at h
  cases hx : at_ s k with
  | none => rw [hx] at h; cases h
  | some c =>
    rw [hx] at h
    simp only at h
    split at h
    · exact counted_good s _ _ neg x h
    · split at h
      · exact counted_good s _ _ neg x h
      · cases h

theorem numeral_good (s : ByteArray) (x : Num) (h : numeral s = some x) : Good s x := by
  unfold numeral at h
  split at h
  · exact first_good s _ _ x h
  · exact first_good s _ _ x h
end Go.Proofs.YteenfgomanhjkaaDoor.nu

/- Parse's contract. -/
namespace Go.Proofs.YteenfgomanhjkaaDoor.rd
open Go.RowKit

/-- What Parse answers. -/
def parsed (s : ByteArray) (eN eX : Value) : Value × Value :=
  match nu.numeral s with
  | none => (dv zed, eN)
  | some x => bounded x.neg (x.wh ++ x.fr) (expo x) eX

theorem ret_parse {m : Nat} (w : World) (d : Dn) (ev : Value) (h0 : w.cell? ⟨m, 0, none⟩ = some (.bool d.neg)) (h1 : w.cell? ⟨m, 1, none⟩ = some (.string d.dg)) (h2 : w.cell? ⟨m, 2, none⟩ = some (.int .i64 d.ex)) (tmps : Array Value) (ht : tmps.getD 2 undef = .pointer (some ⟨m, 0, none⟩)) (h3 : tmps.getD 3 undef = ev) :
    (results Tryd.f7 tmps).run Tryd.prog w = .ok (.tuple #[dv d, ev]) w := by
  rw [results_cell_tmp Tryd.results7, ht, h3]
  simp [go_sem, h0, h1, h2, dv]

theorem ret_parse2 {m : Nat} (w : World) (d : Dn) (ev : Value) (h : DLies w m d) (tmps : Array Value) (h2 : tmps.getD 2 undef = .pointer (some ⟨m, 0, none⟩)) (h3 : tmps.getD 3 undef = ev) :
    (results Tryd.f7 tmps).run Tryd.prog w = .ok (.tuple #[dv d, ev]) w := ret_parse w d ev h.cells.1 h.cells.2.1 h.cells.2.2 tmps h2 h3

theorem lies_new (w : World) (x : nu.Num) : Lies (w.alloc (.cells #[.bool x.neg, .string x.wh, .string x.fr, .bool x.pn, .string x.pw] 40)) w.heap.size x := by
  show (w.heap.push _)[w.heap.size]? = _
  rw [Array.getElem?_push_size]

theorem keepPa {b0 b1 b2 : Nat} {v0 v1 v2 v3 v4 v5 : Value} {W w1 : World} (hb : Below W.heap.size W w1)
    (h : W.cell? ⟨b0, 0, none⟩ = some v0 ∧ W.cell? ⟨b0, 1, none⟩ = some v1 ∧ W.cell? ⟨b0, 2, none⟩ = some v2 ∧ W.cell? ⟨b0, 3, none⟩ = some v3 ∧ W.cell? ⟨b0, 4, none⟩ = some v4 ∧ W.cell? ⟨b1, 0, none⟩ = some v5 ∧ b0 < W.heap.size ∧ b2 < W.heap.size ∧ b1 < W.heap.size) :
    w1.cell? ⟨b0, 0, none⟩ = some v0 ∧ w1.cell? ⟨b0, 1, none⟩ = some v1 ∧ w1.cell? ⟨b0, 2, none⟩ = some v2 ∧ w1.cell? ⟨b0, 3, none⟩ = some v3 ∧ w1.cell? ⟨b0, 4, none⟩ = some v4 ∧ w1.cell? ⟨b1, 0, none⟩ = some v5 ∧ b0 < w1.heap.size ∧ b2 < w1.heap.size ∧ b1 < w1.heap.size := by
  obtain ⟨c0, c1, c2, c3, c4, c5, z0, z1, z2⟩ := h
  exact ⟨keepC hb c0, keepC hb c1, keepC hb c2, keepC hb c3, keepC hb c4, keepC hb c5, Nat.lt_of_lt_of_le z0 hb.size, Nat.lt_of_lt_of_le z1 hb.size, Nat.lt_of_lt_of_le z2 hb.size⟩

/-- bounded, told in full: a number and an error. -/
theorem bounded_form (neg : Bool) (s : ByteArray) (ex : Int) (eX : Value) : ∃ d ev, bounded neg s ex eX = (dv d, ev) := by
  unfold bounded; split
  · exact ⟨_, _, rfl⟩
  · exact ⟨_, _, rfl⟩

set_option maxRecDepth 100000 in
set_option maxHeartbeats 1600000 in
theorem parse_any (s : ByteArray) (eN eX : Value) (w : World) (hs : s.size ≤ 1099511627776)
    (hg0 : 0 < w.heap.size) (hE0 : w.cell? ⟨0, 0, none⟩ = some eN)
    (hg1 : 1 < w.heap.size) (hE1 : w.cell? ⟨1, 0, none⟩ = some eX) :
    Calls Tryd.prog 7 #[.string s] w fun e w' => e = .returned (.tuple #[(parsed s eN eX).1, (parsed s eN eX).2]) ∧ Below w.heap.size w w' := by
  have HP : Hid (parsed s eN eX = parsed s eN eX) := rfl
  generalize hr : parsed s eN eX = r
  have HR := hide hr
  clear hr HP
  cases hnum : nu.numeral s with
  | none =>
    have hr : r = (dv zed, eN) := by rw [← HR.out]; unfold parsed; rw [hnum]
    subst hr
    have HN := hide hnum
    clear hnum HR
    go_enter Tryd.func7, Tryd.ntmps7
    go_wp2_with fail
    refine (numeral_any _ s (by omega)).mono ?_
    rintro e w1 ⟨x, ok, rfl, hb1, hy, hn⟩
    obtain rfl : ok = false := by
      cases ok with
      | false => rfl
      | true => rw [unhide HN] at hy; cases hy rfl
    have hz1 : w.heap.size < w1.heap.size := by have := hb1.size; simp at this; omega
    have g0 : 0 < w1.heap.size := by omega
    have l1 : DLies w1 w.heap.size zed := (dlies_new w zed).below hb1 (by simp)
    have e0 : w1.cell? ⟨0, 0, none⟩ = some eN := by
      rw [hb1.cell (by first | (simp; done) | (simp; omega))]
      simpa [World.cell?_alloc_past, hg0] using hE0
    have hbb : Below w.heap.size w w1 := ((Below.refl _ _).alloc (Nat.le_refl _) _).trans (hb1.mono (by simp))
    obtain ⟨q0, q1, q2⟩ := l1.cells
    obtain ⟨f0, f1, f2⟩ := l1.frees
    clear hy hn hb1 hE0 hE1
    obtain ⟨a, b, c, d, e⟩ := x
    simp only
    go_wp2_with fail
    go_region
    all_goals go_wp2
    exact bodyPost_ret (ret_parse2 _ zed eN ((l1.set false ⟨#[]⟩ 0).alloc _).drew _ rfl rfl) rfl ⟨rfl, (below3a hbb (Nat.le_refl _) (by omega) _ _ _ _).drew⟩
  | some x =>
    have hgood := nu.numeral_good s x hnum
    have hp : r = bounded x.neg (x.wh ++ x.fr) (expo x) eX := by rw [← HR.out]; unfold parsed; rw [hnum]
    have hbd := psize_bd x.pw.data.toList hgood.dg
    have hexb : -10995116277770 - 1099511627776 ≤ expo x ∧ expo x ≤ 10995116277770 := by
      have := hgood.fr
      unfold expo
      split <;> omega
    have c1 := fun w => exponent_any x w hgood.dg (by have := hgood.pw; omega) (by have := hgood.fr; omega)
    have c2 := fun w (h1 : 1 < w.heap.size) (h2 : w.cell? ⟨1, 0, none⟩ = some eX) => inBounds_any x.neg (x.wh ++ x.fr) (expo x) eX w (by have := hgood.wh; have := hgood.fr; simp; omega) (by omega) (by omega) h1 h2
    have hsum : x.wh.size + x.fr.size ≤ 9223372036854775807 := by have := hgood.wh; have := hgood.fr; omega
    obtain ⟨bd, bev, hbf⟩ := bounded_form x.neg (x.wh ++ x.fr) (expo x) eX
    rw [hbf] at c2 hp
    subst hp
    have HN := hide hnum
    clear hbf hgood hbd HR hnum
    obtain ⟨a, b, c, d, e⟩ := x
    obtain ⟨dn, dd, de⟩ := bd
    simp only [dv] at c1 c2 hsum ⊢
    have HX : Hid (expo ⟨a, b, c, d, e⟩ = expo ⟨a, b, c, d, e⟩) := rfl
    generalize expo ⟨a, b, c, d, e⟩ = ex at *
    have C1 := hide c1
    have C2 := hide c2
    clear c1 c2 HX
    go_enter Tryd.func7, Tryd.ntmps7
    go_wp2_with fail
    refine (numeral_any _ s (by omega)).mono ?_
    rintro e' w1 ⟨x, ok, rfl, hb1, hy, hn⟩
    obtain rfl : ok = true := by
      cases ok with
      | true => rfl
      | false => rw [unhide HN] at hn; cases hn rfl
    obtain rfl : x = ⟨a, b, c, d, e⟩ := by
      rw [unhide HN] at hy
      exact (Option.some.inj (hy rfl)).symm
    have hz1 : w.heap.size < w1.heap.size := by have := hb1.size; simp at this; omega
    have g1 : 1 < w1.heap.size := by omega
    have l1 : DLies w1 w.heap.size zed := (dlies_new w zed).below hb1 (by simp)
    have e1 : w1.cell? ⟨1, 0, none⟩ = some eX := by
      rw [hb1.cell (by first | (simp; done) | (simp; omega))]
      simpa [World.cell?_alloc_past, hg1] using hE1
    have hbb : Below w.heap.size w w1 := ((Below.refl _ _).alloc (Nat.le_refl _) _).trans (hb1.mono (by simp))
    have q0 : w1.cell? ⟨w.heap.size, 0, none⟩ = some (.bool false) := l1.cells.1
    have q1 : w1.cell? ⟨w.heap.size, 1, none⟩ = some (.string ⟨#[]⟩) := l1.cells.2.1
    have q2 : w1.cell? ⟨w.heap.size, 2, none⟩ = some (.int .i64 0) := l1.cells.2.2
    obtain ⟨f0, f1, f2⟩ := l1.frees
    clear hy hn hb1 hE0 hE1
    simp only
    have hcat : ∀ u : World, (Op.stringOp .add b c).run Tryd.prog u = .ok (.string (b ++ c)) u := fun u => run_string_add_sum u b c hsum
    have n1 : w1.heap.size ≠ w.heap.size := by omega
    have n3 : w.heap.size ≠ 1 := by omega
    have n4 : 1 ≠ w.heap.size := by omega
    have n2 : w.heap.size ≠ w1.heap.size := by omega
    go_wp2_with fail
    go_region_held3 (fun w' => w'.cell? ⟨w1.heap.size, 0, none⟩ = some (.bool a) ∧ w'.cell? ⟨w1.heap.size, 1, none⟩ = some (.string b) ∧ w'.cell? ⟨w1.heap.size, 2, none⟩ = some (.string c) ∧ w'.cell? ⟨w1.heap.size, 3, none⟩ = some (.bool d) ∧ w'.cell? ⟨w1.heap.size, 4, none⟩ = some (.string e) ∧ w'.cell? ⟨1, 0, none⟩ = some (eX) ∧ w1.heap.size < w'.heap.size ∧ w.heap.size < w'.heap.size ∧ 1 < w'.heap.size) (((try dsimp only); (repeat' apply And.intro); all_goals first | (go_keep; done) | (simp; omega) | (simp [World.setCell]; omega))) (first
      | (go_at_call 19; refine (unhide C1 _).mono ?_; rintro e w2 ⟨rfl, hb2⟩; obtain ⟨k0, k1, k2, k3, k4, k5, k6, k7, k8⟩ := keepPa (b0 := w1.heap.size) (b1 := 1) (b2 := w.heap.size) (v0 := .bool a) (v1 := .string b) (v2 := .string c) (v3 := .bool d) (v4 := .string e) (v5 := eX) hb2 (by first | assumption | go_keep); have rc0 := keepC (b := w.heap.size) (o := 0) (v := .bool false) hb2 (by first | assumption | (go_keep; done) | (simp [*, World.cell?_alloc_past]; done)); have rc1 := keepC (b := w.heap.size) (o := 1) (v := .string ⟨#[]⟩) hb2 (by first | assumption | (go_keep; done) | (simp [*, World.cell?_alloc_past]; done)); have rc2 := keepC (b := w.heap.size) (o := 2) (v := .int .i64 0) hb2 (by first | assumption | (go_keep; done) | (simp [*, World.cell?_alloc_past]; done)); have rf0 := keepF (b := w.heap.size) (o := 0) (o' := 0) (v := .bool false) hb2 (by first | assumption | (go_keep; done) | (simp [*, World.cell?_alloc_past]; done)) (by first | assumption | (simp [*, World.frozen?_alloc_past]; done)); have rf1 := keepF (b := w.heap.size) (o := 0) (o' := 1) (v := .bool false) hb2 (by first | assumption | (go_keep; done) | (simp [*, World.cell?_alloc_past]; done)) (by first | assumption | (simp [*, World.frozen?_alloc_past]; done)); have rf2 := keepF (b := w.heap.size) (o := 0) (o' := 2) (v := .bool false) hb2 (by first | assumption | (go_keep; done) | (simp [*, World.cell?_alloc_past]; done)) (by first | assumption | (simp [*, World.frozen?_alloc_past]; done)); have HB2 : Hid (Below w.heap.size w w2) := (by refine Below.trans ?_ (hb2.mono (by first | (simp; omega) | simp | omega)); repeat (first | exact hbb | apply Below.drew | refine Below.alloc ?_ (by first | (simp; omega) | simp | omega) _)); clear hb2)
      | (go_at_call 18; refine (unhide C2 _ (by assumption) (by assumption)).mono ?_; rintro e w3 ⟨rfl, hb3⟩; obtain ⟨m0, m1, m2, m3, m4, m5, m6, m7, m8⟩ := keepPa (b0 := w1.heap.size) (b1 := 1) (b2 := w.heap.size) (v0 := .bool a) (v1 := .string b) (v2 := .string c) (v3 := .bool d) (v4 := .string e) (v5 := eX) hb3 (by first | assumption | go_keep); have tc0 := keepC (b := w.heap.size) (o := 0) (v := .bool false) hb3 (by first | assumption | (go_keep; done) | (simp [*, World.cell?_alloc_past]; done)); have tc1 := keepC (b := w.heap.size) (o := 1) (v := .string ⟨#[]⟩) hb3 (by first | assumption | (go_keep; done) | (simp [*, World.cell?_alloc_past]; done)); have tc2 := keepC (b := w.heap.size) (o := 2) (v := .int .i64 0) hb3 (by first | assumption | (go_keep; done) | (simp [*, World.cell?_alloc_past]; done)); have tf0 := keepF (b := w.heap.size) (o := 0) (o' := 0) (v := .bool false) hb3 (by first | assumption | (go_keep; done) | (simp [*, World.cell?_alloc_past]; done)) (by first | assumption | (simp [*, World.frozen?_alloc_past]; done)); have tf1 := keepF (b := w.heap.size) (o := 0) (o' := 1) (v := .bool false) hb3 (by first | assumption | (go_keep; done) | (simp [*, World.cell?_alloc_past]; done)) (by first | assumption | (simp [*, World.frozen?_alloc_past]; done)); have tf2 := keepF (b := w.heap.size) (o := 0) (o' := 2) (v := .bool false) hb3 (by first | assumption | (go_keep; done) | (simp [*, World.cell?_alloc_past]; done)) (by first | assumption | (simp [*, World.frozen?_alloc_past]; done)); have HB3 : Hid (Below w.heap.size w w3) := (by refine Below.trans ?_ (hb3.mono (by first | (simp; omega) | simp | omega)); repeat (first | exact HB2.out | apply Below.drew | refine Below.alloc ?_ (by first | (simp; omega) | simp | omega) _)); clear hb3))
    all_goals go_wp2
    all_goals refine bodyPost_ret (ret_parse _ ⟨dn, dd, de⟩ bev (by simp [go_sem, *]) (by simp [go_sem, *]) (by simp [go_sem, *]) _ rfl rfl) rfl ⟨rfl, ?_⟩
    all_goals exact below3 HB3.out (Nat.le_refl _) _ _ _
end Go.Proofs.YteenfgomanhjkaaDoor.rd
