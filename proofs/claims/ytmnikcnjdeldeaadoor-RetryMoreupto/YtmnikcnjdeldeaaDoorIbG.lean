/- Several texts in one. -/
import Derived.Test.YtmnikcnjdeldeaaDoorOdG
import Derived.Deep.RegionWith
import Derived.Deep.RegionHeld3
import Derived.Test.YtmnikcnjdeldeaaDoorRdG
import Derived.Lib.Strings
/- inBounds' and Norm's contracts. -/
namespace Go.Proofs.YtmnikcnjdeldeaaDoor.rd
open Go.RowKit

/-- What inBounds answers: the number and no error, or nought and the error that the variable holds. -/
def bounded (neg : Bool) (s : ByteArray) (ex : Int) (eX : Value) : Value × Value :=
  if (oneForm neg s ex).2 then (dv (oneForm neg s ex).1, .nilIface) else (dv zed, eX)

theorem ret_inBounds {m : Nat} (w : World) (d : Dn) (ev : Value) (h : DLies w m d) (tmps : Array Value) (h2 : tmps.getD 6 undef = .pointer (some ⟨m, 0, none⟩)) (h3 : tmps.getD 7 undef = ev) :
    (results Tryd.f44 tmps).run Tryd.prog w = .ok (.tuple #[dv d, ev]) w := by
  obtain ⟨q0, q1, q2⟩ := h.cells
  rw [results_cell_tmp Tryd.results44, h2, h3]
  simp [go_sem, q0, q1, q2, dv]

set_option maxRecDepth 100000 in
set_option maxHeartbeats 800000 in
theorem inBounds_any (neg : Bool) (s : ByteArray) (ex : Int) (eX : Value) (w : World) (hs : s.size ≤ 140737488351232) (h0 : -9223372036854775808 ≤ ex) (h1 : ex ≤ 9223372036854775807)
    (hg : 0 < w.heap.size) (hE : w.cell? ⟨0, 0, none⟩ = some eX) :
    Calls Tryd.prog 44 #[.bool neg, .string s, .int .i64 ex] w fun e w' => e = .returned (.tuple #[(bounded neg s ex eX).1, (bounded neg s ex eX).2]) ∧ Below w.heap.size w w' := by
  have c := fun w => oneForm_any neg s ex w hs h0 h1
  have HB : Hid (bounded neg s ex eX = if (oneForm neg s ex).2 then (dv (oneForm neg s ex).1, .nilIface) else (dv zed, eX)) := rfl
  generalize bounded neg s ex eX = r at HB ⊢
  generalize oneForm neg s ex = o at *
  obtain ⟨d, ok⟩ := o
  have C := hide c
  clear c
  go_enter Tryd.func44, Tryd.ntmps44
  go_wp2_with fail
  refine (unhide C _).mono ?_
  rintro e w1 ⟨rfl, hb1⟩
  have hz1 : w.heap.size < w1.heap.size := by have := hb1.size; simp at this; omega
  have l1 : DLies w1 w.heap.size zed := (dlies_new w zed).below hb1 (by simp)
  have hE1 : w1.cell? ⟨0, 0, none⟩ = some eX := by
    rw [hb1.cell (by simp <;> omega)]
    simpa [World.cell?_alloc_past, hg] using hE
  have hg1 : 0 < w1.heap.size := by omega
  have hbb : Below w.heap.size w w1 := ((Below.refl _ _).alloc (Nat.le_refl _) _).trans (hb1.mono (by simp))
  obtain ⟨q0, q1, q2⟩ := l1.cells
  obtain ⟨f0, f1, f2⟩ := l1.frees
  obtain ⟨dn, dd, de⟩ := d
  simp only [dv]
  cases ok
  · have hr : r = (dv zed, eX) := by rw [HB.out]; rfl
    subst hr
    clear HB
    go_wp2_with fail
    go_region
    all_goals go_wp2
    exact bodyPost_ret (ret_inBounds _ zed eX ((l1.set false ⟨#[]⟩ 0).alloc _).drew _ rfl rfl) rfl ⟨rfl, (below3a hbb (Nat.le_refl _) (by omega) _ _ _ _).drew⟩
  · have hr : r = (dv ⟨dn, dd, de⟩, .nilIface) := by rw [HB.out]; rfl
    subst hr
    clear HB
    go_wp2
    exact bodyPost_ret (ret_inBounds _ ⟨dn, dd, de⟩ .nilIface ((l1.set dn dd de).alloc _) _ rfl rfl) rfl ⟨rfl, below3a hbb (Nat.le_refl _) (by omega) _ _ _ _⟩

/-- The number in its one form. -/
def norm (d : Dn) : Dn := (oneForm d.neg (digs d.dg) d.ex).1

theorem digs_le (s : ByteArray) : (digs s).size ≤ s.size := by
  have h : (s.data.toList.filter nu.dig).length ≤ s.data.toList.length := List.length_filter_le _ _
  have e1 : (digs s).size = (s.data.toList.filter nu.dig).length := by unfold digs; exact List.size_toArray
  have e2 : s.data.toList.length = s.size := by rw [Array.length_toList]; rfl
  omega

/-- Six cells and three marks that lie below a call stay as they are. -/
theorem keepS {b c : Nat} {v0 v1 v2 u0 u1 u2 : Value} {W w1 : World} (hb : Below W.heap.size W w1)
    (h : W.cell? ⟨b, 0, none⟩ = some v0 ∧ W.cell? ⟨b, 1, none⟩ = some v1 ∧ W.cell? ⟨b, 2, none⟩ = some v2 ∧ W.cell? ⟨c, 0, none⟩ = some u0 ∧ W.cell? ⟨c, 1, none⟩ = some u1 ∧ W.cell? ⟨c, 2, none⟩ = some u2 ∧
      W.frozen? ⟨c, 0, none⟩ = false ∧ W.frozen? ⟨c, 1, none⟩ = false ∧ W.frozen? ⟨c, 2, none⟩ = false ∧ b < W.heap.size ∧ c < W.heap.size) :
    w1.cell? ⟨b, 0, none⟩ = some v0 ∧ w1.cell? ⟨b, 1, none⟩ = some v1 ∧ w1.cell? ⟨b, 2, none⟩ = some v2 ∧ w1.cell? ⟨c, 0, none⟩ = some u0 ∧ w1.cell? ⟨c, 1, none⟩ = some u1 ∧ w1.cell? ⟨c, 2, none⟩ = some u2 ∧
      w1.frozen? ⟨c, 0, none⟩ = false ∧ w1.frozen? ⟨c, 1, none⟩ = false ∧ w1.frozen? ⟨c, 2, none⟩ = false ∧ b < w1.heap.size ∧ c < w1.heap.size := by
  obtain ⟨h0, h1, h2, g0, g1, g2, f0, f1, f2, lb, lc⟩ := h
  have hs := hb.size
  have ec : ∀ m o, m < W.heap.size → w1.cell? ⟨m, o, none⟩ = W.cell? ⟨m, o, none⟩ := fun m o hm => hb.cell (p := ⟨m, o, none⟩) hm
  have ef : ∀ m o, m < W.heap.size → w1.frozen? ⟨m, o, none⟩ = W.frozen? ⟨m, o, none⟩ := fun m o hm => hb.frozen (p := ⟨m, o, none⟩) hm
  rw [ec b 0 lb, ec b 1 lb, ec b 2 lb, ec c 0 lc, ec c 1 lc, ec c 2 lc, ef c 0 lc, ef c 1 lc, ef c 2 lc]
  exact ⟨h0, h1, h2, g0, g1, g2, f0, f1, f2, by omega, by omega⟩

theorem ret_norm {m : Nat} (w : World) (d : Dn) (h0 : w.cell? ⟨m, 0, none⟩ = some (.bool d.neg)) (h1 : w.cell? ⟨m, 1, none⟩ = some (.string d.dg)) (h2 : w.cell? ⟨m, 2, none⟩ = some (.int .i64 d.ex)) (tmps : Array Value) (ht : tmps[2]?.getD undef = .pointer (some ⟨m, 0, none⟩)) :
    (results Tryd.f38 tmps).run Tryd.prog w = .ok (dv d) w := by
  simp [results, Tryd.results38, ht, go_sem, h0, h1, h2, dv]

set_option maxRecDepth 100000 in
set_option maxHeartbeats 800000 in
theorem norm_any (d : Dn) (w : World) (hs : d.dg.size ≤ 140737488351232) (h0 : -9223372036854775808 ≤ d.ex) (h1 : d.ex ≤ 9223372036854775807) :
    Calls Tryd.prog 38 #[dv d] w fun e w' => e = .returned (dv (norm d)) ∧ Below w.heap.size w w' := by
  obtain ⟨n, g, x⟩ := d
  simp only at hs h0 h1
  have hl := digs_le g
  have c2 := fun w => oneForm_any n (digs g) x w (by omega) h0 h1
  have HB : Hid (norm ⟨n, g, x⟩ = (oneForm n (digs g) x).1) := rfl
  generalize norm ⟨n, g, x⟩ = r at HB ⊢
  have c1 := fun w => onlyDigits_any g w hs
  generalize digs g = dg at *
  generalize oneForm n dg x = o at *
  obtain ⟨r', ok⟩ := o
  obtain rfl : r = r' := HB
  obtain ⟨rn, rg, rx⟩ := r
  simp only [dv] at c2 ⊢
  have C1 := hide c1
  have C2 := hide c2
  clear c1 c2
  have n3 : w.heap.size + 1 + 1 ≠ w.heap.size := by omega
  have n4 : w.heap.size ≠ w.heap.size + 1 + 1 := by omega
  have n5 : w.heap.size + 1 + 1 ≠ w.heap.size + 1 := by omega
  have n6 : w.heap.size + 1 ≠ w.heap.size + 1 + 1 := by omega
  go_enter Tryd.func38, Tryd.ntmps38
  go_wp2_with fail
  go_region_held3 (fun w' => w'.cell? ⟨w.heap.size, 0, none⟩ = some (.bool n) ∧ w'.cell? ⟨w.heap.size, 1, none⟩ = some (.string g) ∧ w'.cell? ⟨w.heap.size, 2, none⟩ = some (.int .i64 x) ∧ w'.cell? ⟨w.heap.size + 1, 0, none⟩ = some (.bool false) ∧ w'.cell? ⟨w.heap.size + 1, 1, none⟩ = some (.string ⟨#[]⟩) ∧ w'.cell? ⟨w.heap.size + 1, 2, none⟩ = some (.int .i64 0) ∧ w'.frozen? ⟨w.heap.size + 1, 0, none⟩ = false ∧ w'.frozen? ⟨w.heap.size + 1, 1, none⟩ = false ∧ w'.frozen? ⟨w.heap.size + 1, 2, none⟩ = false ∧ w.heap.size < w'.heap.size ∧ w.heap.size + 1 < w'.heap.size) (((try dsimp only); (repeat' apply And.intro); all_goals first | (go_keep; done) | (simp [*, World.frozen?_alloc_past]; done) | (simp; omega) | (simp [World.setCell]; omega))) (first
    | (go_at_call 49; refine (unhide C1 _).mono ?_; rintro e w1 ⟨rfl, hb1⟩; obtain ⟨k0, k1, k2, k3, k4, k5, k6, k7, k8, k9, k10⟩ := keepS (v0 := .bool n) (v1 := .string g) (v2 := .int .i64 x) (u0 := .bool false) (u1 := .string ⟨#[]⟩) (u2 := .int .i64 0) (b := w.heap.size) (c := w.heap.size + 1) hb1 (by first | assumption | go_keep); obtain ⟨bc1, bf1⟩ := bcell hb1; have hs1 := hb1.size; have HB1 : Hid (Below w.heap.size w w1) := (by refine Below.trans ?_ (hb1.mono (by first | (simp; omega) | simp | omega)); repeat (first | exact Below.refl _ _ | apply Below.drew | refine Below.alloc ?_ (by first | (simp; omega) | simp | omega) _)); clear hb1; simp only [heap_drew, World.size_alloc, Nat.add_one_le_iff] at hs1 bc1 bf1; have n1 : w1.heap.size ≠ w.heap.size := (by omega); have n1' : w.heap.size ≠ w1.heap.size := (by omega); have n7 : w1.heap.size ≠ w.heap.size + 1 := (by omega); have n7' : w.heap.size + 1 ≠ w1.heap.size := (by omega))
    | (go_at_call 48; refine (unhide C2 _).mono ?_; rintro e w2 ⟨rfl, hb2⟩; obtain ⟨m0, m1, m2, m3, m4, m5, m6, m7, m8, m9, m10⟩ := keepS (v0 := .bool n) (v1 := .string g) (v2 := .int .i64 x) (u0 := .bool false) (u1 := .string ⟨#[]⟩) (u2 := .int .i64 0) (b := w.heap.size) (c := w.heap.size + 1) hb2 (by first | assumption | go_keep); obtain ⟨bc2, bf2⟩ := bcell hb2; have hs2 := hb2.size; have HB2 : Hid (Below w.heap.size w w2) := (by refine Below.trans ?_ (hb2.mono (by first | (simp; omega) | simp | omega)); repeat (first | exact HB1.out | apply Below.drew | refine Below.alloc ?_ (by first | (simp; omega) | simp | omega) _)); clear hb2; (try simp only [World.size_alloc] at hs2 bc2 bf2); have n2 : w2.heap.size ≠ w.heap.size := (by omega); have n2' : w.heap.size ≠ w2.heap.size := (by omega)))
  all_goals go_wp2
  all_goals refine bodyPost_ret (ret_norm _ ⟨rn, rg, rx⟩ (by simp [go_sem, *]) (by simp [go_sem, *]) (by simp [go_sem, *]) _ rfl) rfl ⟨rfl, ?_⟩
  · exact below3a HB2.out (by omega) (by omega) _ _ _ _
  · exact below3 (below3 HB2.out (by omega) _ _ _) (by omega) _ _ _
  · exact below3 (below3 HB2.out (by omega) _ _ _) (by omega) _ _ _
end Go.Proofs.YtmnikcnjdeldeaaDoor.rd

/- What a numeral's parts are: their lengths, and that a power is digits. -/
namespace Go.Proofs.YtmnikcnjdeldeaaDoor.nu

theorem ext_size (s : ByteArray) (i j : Nat) : (s.extract i j).size ≤ s.size := by
  have : (s.extract i j).size = min j s.size - i := by simp
  omega

theorem ext_list (s : ByteArray) (i j : Nat) : (s.extract i j).data.toList = (s.data.toList.drop i).take (j - i) := by
  exact Lib.extract_data s i j

/-- The parts of a numeral. -/
structure Good (s : ByteArray) (x : Num) : Prop where
  wh : x.wh.size ≤ s.size
  fr : x.fr.size ≤ s.size
  pw : x.pw.size ≤ s.size
  dg : ∀ c ∈ x.pw.data.toList, dig c = true

theorem pw_list (s : ByteArray) (i : Nat) : (s.extract i (i + nd s i)).data.toList = (s.data.toList.drop i).takeWhile dig := by
  rw [ext_list, Nat.add_sub_cancel_left]
  exact (List.prefix_iff_eq_take.1 (List.takeWhile_prefix dig)).symm

theorem pwFirst_good (s : ByteArray) (ng : Bool) (i : Nat) (p : Bool × ByteArray) (h : pwFirst s ng i = some p) : p.2.size ≤ s.size ∧ ∀ c ∈ p.2.data.toList, dig c = true := by
  unfold pwFirst at h
  rcases Nat.lt_or_ge i s.size with hi | hi
  · rw [at_some s i hi] at h
    simp only at h
    by_cases hd : dig s[i] = true
    · rw [if_pos hd] at h
      unfold pwRest at h
      have e : i + 1 + nd s (i + 1) = i + nd s i := by rw [nd_yes s i hi hd]; omega
      rw [e] at h
      by_cases hz : i + nd s i = s.size
      · rw [if_pos hz] at h
        cases h
        refine ⟨ext_size _ _ _, fun c hc => ?_⟩
        rw [pw_list] at hc
        exact (List.all_takeWhile (p := dig) (l := s.data.toList.drop i) |> List.all_eq_true.1) c hc
      · rw [if_neg hz] at h; cases h
    · rw [if_neg hd] at h; cases h
  · have : at_ s i = none := by
      unfold at_; apply List.getElem?_eq_none; simpa using hi
    rw [this] at h; cases h

theorem power_good (s : ByteArray) (i : Nat) (p : Bool × ByteArray) (h : power s i = some p) : p.2.size ≤ s.size ∧ ∀ c ∈ p.2.data.toList, dig c = true := by
  unfold power at h
  cases hx : at_ s i with
  | none => rw [hx] at h; cases h
  | some c =>
    rw [hx] at h
    simp only at h
    split at h
    · exact pwFirst_good _ _ _ _ h
    · split at h
      · exact pwFirst_good _ _ _ _ h
      · exact pwFirst_good _ _ _ _ h

theorem measured_good (s : ByteArray) (k : Nat) (neg : Bool) (wh fr : ByteArray) (x : Num) (hw : wh.size ≤ s.size) (hf : fr.size ≤ s.size) (h : measured s k neg wh fr = some x) : Good s x := by
  unfold measured at h
  cases hx : at_ s k with
  | none => rw [hx] at h; cases h; exact ⟨hw, hf, by simp, fun c hc => by simp at hc⟩
  | some c =>
    rw [hx] at h
    simp only at h
    split at h
    · cases hp : power s (k + 1) with
      | none => rw [hp] at h; cases h
      | some p =>
        rw [hp] at h
        cases h
        have := power_good s _ _ hp
        exact ⟨hw, hf, this.1, this.2⟩
    · cases h

theorem point_good (s : ByteArray) (k : Nat) (neg : Bool) (wh : ByteArray) (x : Num) (hw : wh.size ≤ s.size) (h : point s k neg wh = some x) : Good s x := by
  unfold point at h
  cases hx : at_ s k with
  | none => rw [hx] at h; cases h
  | some c =>
    rw [hx] at h
    simp only at h
    split at h
    · exact measured_good s _ neg wh _ x hw (ext_size _ _ _) h
    · cases h

theorem counted_good (s : ByteArray) (i k : Nat) (neg : Bool) (x : Num) (h : counted s i k neg = some x) : Good s x := by
  unfold counted at h
  split at h
  · exact point_good s _ neg _ x (ext_size _ _ _) h
  · exact measured_good s _ neg _ _ x (ext_size _ _ _) (by simp) h

theorem first_good (s : ByteArray) (k : Nat) (neg : Bool) (x : Num) (h : first s k neg = some x) : Good s x := by
  unfold first at h
  cases hx : at_ s k with
  | none => rw [hx] at h; cases h
  | some c =>
    rw [hx] at h
    simp only at h
    split at h
    · exact counted_good s _ _ neg x h
    · split at h
      · exact counted_good s _ _ neg x h
      · cases h

theorem numeral_good (s : ByteArray) (x : Num) (h : numeral s = some x) : Good s x := by
  unfold numeral at h
  split at h
  · exact first_good s _ _ x h
  · exact first_good s _ _ x h
end Go.Proofs.YtmnikcnjdeldeaaDoor.nu

/- Parse's contract. -/
namespace Go.Proofs.YtmnikcnjdeldeaaDoor.rd
open Go.RowKit

/-- What Parse answers. -/
def parsed (s : ByteArray) (eN eX : Value) : Value × Value :=
  match nu.numeral s with
  | none => (dv zed, eN)
  | some x => bounded x.neg (x.wh ++ x.fr) (expo x) eX

theorem keepPa {b0 b1 b2 : Nat} {v0 v1 v2 v3 v4 v5 : Value} {W w1 : World} (hb : Below W.heap.size W w1)
    (h : W.cell? ⟨b0, 0, none⟩ = some v0 ∧ W.cell? ⟨b0, 1, none⟩ = some v1 ∧ W.cell? ⟨b0, 2, none⟩ = some v2 ∧ W.cell? ⟨b0, 3, none⟩ = some v3 ∧ W.cell? ⟨b0, 4, none⟩ = some v4 ∧ W.cell? ⟨b1, 0, none⟩ = some v5 ∧ b0 < W.heap.size ∧ b2 < W.heap.size ∧ b1 < W.heap.size) :
    w1.cell? ⟨b0, 0, none⟩ = some v0 ∧ w1.cell? ⟨b0, 1, none⟩ = some v1 ∧ w1.cell? ⟨b0, 2, none⟩ = some v2 ∧ w1.cell? ⟨b0, 3, none⟩ = some v3 ∧ w1.cell? ⟨b0, 4, none⟩ = some v4 ∧ w1.cell? ⟨b1, 0, none⟩ = some v5 ∧ b0 < w1.heap.size ∧ b2 < w1.heap.size ∧ b1 < w1.heap.size := by
  obtain ⟨c0, c1, c2, c3, c4, c5, z0, z1, z2⟩ := h
  exact ⟨keepC hb c0, keepC hb c1, keepC hb c2, keepC hb c3, keepC hb c4, keepC hb c5, Nat.lt_of_lt_of_le z0 hb.size, Nat.lt_of_lt_of_le z1 hb.size, Nat.lt_of_lt_of_le z2 hb.size⟩

/-- bounded, told in full: a number and an error. -/
theorem bounded_form (neg : Bool) (s : ByteArray) (ex : Int) (eX : Value) : ∃ d ev, bounded neg s ex eX = (dv d, ev) := by
  unfold bounded; split
  · exact ⟨_, _, rfl⟩
  · exact ⟨_, _, rfl⟩

end Go.Proofs.YtmnikcnjdeldeaaDoor.rd
