/- Several texts in one. -/
import Derived.Test.YtmnikcnjdeldeaaDoorMrG
import Derived.Test.YtmnikcnjdeldeaaDoorRows
import Derived.Deep.Slices
import Derived.Deep.Strs
import Derived.OpenShut
import Derived.Test.YtmnikcnjdeldeaaDoorXmG
/- Arguments opened: what a reading says of the memory, and what its bulk bounds. -/
namespace Go.Proofs.YtmnikcnjdeldeaaDoor.mm
open Go.RowKit

theorem bulk_pos {H : Type} : ∀ d : DataW H, 1 ≤ Rows.uptoBulk d
  | .lit l => by cases l <;> simp [Rows.uptoBulk]
  | .nil => by simp [Rows.uptoBulk]
  | .ptr _ => by simp [Rows.uptoBulk]
  | .slice _ _ => by simp [Rows.uptoBulk]
  | .agg _ => by simp [Rows.uptoBulk]
  | .iface _ _ => by simp [Rows.uptoBulk]
  | .map _ => by simp [Rows.uptoBulk]
  | .held _ => by simp [Rows.uptoBulk]
theorem bulk_mem {H : Type} {d : DataW H} : ∀ {l : List (DataW H)}, d ∈ l → Rows.uptoBulk d ≤ Rows.uptoBulkAll l
  | [], h => by cases h
  | x :: r, h => by
    rw [Rows.uptoBulkAll]
    rcases List.mem_cons.mp h with e | e
    · subst e; omega
    · have := bulk_mem e; omega
theorem bulk_len {H : Type} : ∀ l : List (DataW H), l.length ≤ Rows.uptoBulkAll l
  | [] => by simp
  | x :: r => by
    rw [Rows.uptoBulkAll, List.length_cons]
    have := bulk_pos x
    have := bulk_len r
    omega
theorem bulk_slice {H : Type} (e s : List (DataW H)) : e.length ≤ Rows.uptoBulk (.slice e s) ∧ ∀ d ∈ e, Rows.uptoBulk d ≤ Rows.uptoBulk (.slice e s) := by
  rw [Rows.uptoBulk]
  have := bulk_len e
  exact ⟨by omega, fun d hd => by have := bulk_mem hd; omega⟩
theorem bulk_agg {H : Type} (e : List (DataW H)) : ∀ d ∈ e, Rows.uptoBulk d ≤ Rows.uptoBulk (.agg e) := fun d hd => by
  rw [Rows.uptoBulk]
  have := bulk_mem hd
  omega
theorem bulk_str {H : Type} (s : ByteArray) : s.size ≤ Rows.uptoBulk (.lit (.string s.data.toList) : DataW H) := by
  rw [Rows.uptoBulk]
  have : s.data.toList.length = s.size := by rw [Array.length_toList]; rfl
  omega

section
variable {H : Type} {enc : TypeId × Value → H} {P : Program} {W : World} {fuel : Nat} {cs : List Value} {x : DataW H × List MemPlace}
/-- A slice, opened: its cells row by row, and each element's reading. -/
theorem slice_of {t e : TypeId} (ht : P.underlying t = some (.slice e)) (h : DataW.trod enc P W 0 (fun _ => true) true fuel t cs = some x) :
    ∃ oa len c, cs = [.slice oa len c] ∧ len ≤ c ∧ c ≤ maxLen ∧ (oa = none → len = 0 ∧ c = 0) ∧ len ≤ Rows.uptoBulk x.1 ∧
      ∀ a, oa = some a → ∀ i, i < len → ∃ cs' n d pl, W.cells? 0 (a.add (i * P.cellsOf e)) (P.cellsOf e) = some cs' ∧ DataW.trod enc P W 0 (fun _ => true) true n e cs' = some (d, pl) ∧ Rows.uptoBulk d ≤ Rows.uptoBulk x.1 := by
  rcases Go.Deep.open_slice ht h with ⟨rfl, rfl⟩ | ⟨a, len, cap, m, n, D, Pl, rfl, _, hl, hm, hmm, rfl, hx⟩
  · exact ⟨none, 0, 0, rfl, by omega, by unfold maxLen; omega, fun _ => ⟨rfl, rfl⟩, Nat.zero_le _, fun a ha => by cases ha⟩
  · have hb := bulk_slice ((List.range len).map D) ((List.range (m - len)).map fun j => D (len + j))
    simp only [if_true] at hmm
    refine ⟨some a, len, cap, rfl, hl, hm, (fun q => by cases q), ?_, fun a' ha i hi => ?_⟩
    · have := hb.1
      rwa [List.length_map, List.length_range] at this
    · cases ha
      obtain ⟨cs', h1, h2⟩ := hx i (by omega)
      exact ⟨cs', n, D i, Pl i, h1, h2, hb.2 _ (List.mem_map.mpr ⟨i, List.mem_range.mpr hi, rfl⟩)⟩
/-- .. of one cell each. -/
theorem slice1_of {t e : TypeId} (ht : P.underlying t = some (.slice e)) (hc : P.cellsOf e = 1) (h : DataW.trod enc P W 0 (fun _ => true) true fuel t cs = some x) (Q : Value → Prop)
    (hQ : ∀ n v d pl, DataW.trod enc P W 0 (fun _ => true) true n e [v] = some (d, pl) → Rows.uptoBulk d ≤ Rows.uptoBulk x.1 → Q v) :
    ∃ v xs, cs = [v] ∧ SV W v xs.length 1 xs ∧ xs.length ≤ Rows.uptoBulk x.1 ∧ ∀ y ∈ xs, Q y := by
  obtain ⟨oa, len, c, rfl, h1, h2, h3, h4, h5⟩ := slice_of ht h
  cases oa with
  | none =>
    obtain ⟨rfl, rfl⟩ := h3 rfl
    exact ⟨_, [], rfl, ⟨rfl, none, 0, rfl, by simp, by unfold maxLen; omega, fun _ => ⟨rfl, rfl⟩, fun a ha => by cases ha⟩, Nat.zero_le _, fun y hy => by cases hy⟩
  | some a =>
    rw [hc] at h5
    have each : ∀ i, i < len → ∃ v, W.cell? (a.add i) = some v ∧ Q v := fun i hi => by
      obtain ⟨cs', n, d, pl, q1, q2, q3⟩ := h5 a rfl i hi
      rw [Nat.mul_one] at q1
      obtain ⟨_, hlen, _⟩ := World.cells?_some q1
      match cs', hlen with
      | [v], _ => exact ⟨v, by have := (World.cells?_some q1).2.2 0 (by omega); simpa [Addr.add] using this, hQ n v d pl q2 q3⟩
    obtain ⟨f, hf⟩ := Go.Deep.choose_lt each
    have hl : ((List.range len).map f).length = len := by simp
    refine ⟨_, (List.range len).map f, rfl, ⟨by simp, some a, c, by rw [hl], by omega, h2, (fun q => by cases q), fun a' ha j u hu => ?_⟩, by omega, fun y hy => ?_⟩
    · cases ha
      rw [List.getElem?_map] at hu
      cases hj : (List.range len)[j]? with
      | none => rw [hj] at hu; cases hu
      | some i =>
        rw [hj] at hu
        obtain ⟨hjl, e⟩ := List.getElem?_eq_some_iff.mp hj
        rw [List.length_range] at hjl
        simp only [List.getElem_range] at e
        subst e
        cases hu
        exact (hf j hjl).1
    · obtain ⟨i, hi, rfl⟩ := List.mem_map.mp hy
      exact (hf i (List.mem_range.mp hi)).2
theorem strs_of {t e : TypeId} (ht : P.underlying t = some (.slice e)) (he : P.underlying e = some .string) (hc : P.cellsOf e = 1) (h : DataW.trod enc P W 0 (fun _ => true) true fuel t cs = some x) :
    ∃ (v : Value) (l : List ByteArray), cs = [v] ∧ SV W v l.length 1 (l.map Value.string) ∧ l.length ≤ Rows.uptoBulk x.1 ∧ ∀ s ∈ l, s.size ≤ Rows.uptoBulk x.1 := by
  obtain ⟨v, xs, rfl, h1, h2, h3⟩ := slice1_of ht hc h (fun v => ∃ s : ByteArray, v = .string s ∧ s.size ≤ Rows.uptoBulk x.1) (fun n v d pl q1 q2 => by
    obtain ⟨s, e1, e2, _⟩ := DataW.trod_string he q1
    simp only [List.cons.injEq, and_true] at e1
    simp only [Prod.mk.injEq] at e2
    refine ⟨s, e1, ?_⟩
    rw [e2.1] at q2
    have := bulk_str (H := H) s
    omega)
  obtain ⟨l, hl1, hl2⟩ : ∃ l : List ByteArray, xs = l.map Value.string ∧ ∀ s ∈ l, s.size ≤ Rows.uptoBulk x.1 := by
    clear h1 h2
    induction xs with
    | nil => exact ⟨[], rfl, fun s hs => by cases hs⟩
    | cons y r ih =>
      obtain ⟨s, rfl, hs⟩ := h3 y (List.mem_cons_self ..)
      obtain ⟨l, rfl, hl⟩ := ih (fun z hz => h3 z (List.mem_cons_of_mem _ hz))
      exact ⟨s :: l, rfl, fun z hz => (List.mem_cons.mp hz).elim (fun e => e ▸ hs) (hl z)⟩
  subst hl1
  rw [List.length_map] at h1 h2
  exact ⟨v, l, rfl, h1, h2, hl2⟩
theorem ints_of {t e : TypeId} (ht : P.underlying t = some (.slice e)) (he : P.underlying e = some (.int .i64)) (hc : P.cellsOf e = 1) (h : DataW.trod enc P W 0 (fun _ => true) true fuel t cs = some x) :
    ∃ (v : Value) (l : List Int), cs = [v] ∧ SV W v l.length 1 (l.map (Value.int .i64 ·)) ∧ l.length ≤ Rows.uptoBulk x.1 ∧ ∀ n ∈ l, -9223372036854775808 ≤ n ∧ n ≤ 9223372036854775807 := by
  obtain ⟨v, xs, rfl, h1, h2, h3⟩ := slice1_of ht hc h (fun v => ∃ n : Int, v = .int .i64 n ∧ -9223372036854775808 ≤ n ∧ n ≤ 9223372036854775807) (fun n v d pl q1 _ => by
    obtain ⟨s, e1, _, hw⟩ := DataW.trod_int he q1
    simp only [List.cons.injEq, and_true] at e1
    exact ⟨s, e1, bounds_i64 hw⟩)
  obtain ⟨l, hl1, hl2⟩ : ∃ l : List Int, xs = l.map (Value.int .i64 ·) ∧ ∀ s ∈ l, -9223372036854775808 ≤ s ∧ s ≤ 9223372036854775807 := by
    clear h1 h2
    induction xs with
    | nil => exact ⟨[], rfl, fun s hs => by cases hs⟩
    | cons y r ih =>
      obtain ⟨s, rfl, hs⟩ := h3 y (List.mem_cons_self ..)
      obtain ⟨l, rfl, hl⟩ := ih (fun z hz => h3 z (List.mem_cons_of_mem _ hz))
      exact ⟨s :: l, rfl, fun z hz => (List.mem_cons.mp hz).elim (fun e => e ▸ hs) (hl z)⟩
  subst hl1
  rw [List.length_map] at h1 h2
  exact ⟨v, l, rfl, h1, h2, hl2⟩
end
end Go.Proofs.YtmnikcnjdeldeaaDoor.mm

/- Arguments opened: retriers, catchers. -/
namespace Go.Proofs.YtmnikcnjdeldeaaDoor.rt
open Go.RowKit Go.Joins mm

theorem cellsStr : Tryd.prog.cellsOf 9 = 1 := by kernel_rfl
theorem cellsInt : Tryd.prog.cellsOf 3 = 1 := by kernel_rfl
theorem cellsBool : Tryd.prog.cellsOf 4 = 1 := by kernel_rfl
theorem cellsSS : Tryd.prog.cellsOf 22 = 1 := by kernel_rfl
theorem cellsSt : Tryd.prog.cellsOf 33 = 1 := by kernel_rfl
theorem cellsDec : Tryd.prog.cellsOf 47 = 3 := by kernel_rfl
theorem cellsPath : Tryd.prog.cellsOf 35 = 4 := by kernel_rfl
theorem cellsR : Tryd.prog.cellsOf 49 = 7 := by kernel_rfl
theorem cellsC : Tryd.prog.cellsOf 37 = 6 := by kernel_rfl

theorem len3 {α : Type} : ∀ (l : List α), l.length = 3 → ∃ a b c, l = [a, b, c]
  | [a, b, c], _ => ⟨a, b, c, rfl⟩
theorem len4 {α : Type} : ∀ (l : List α), l.length = 4 → ∃ a b c d, l = [a, b, c, d]
  | [a, b, c, d], _ => ⟨a, b, c, d, rfl⟩
theorem len5 {α : Type} : ∀ (l : List α), l.length = 5 → ∃ a b c d e, l = [a, b, c, d, e]
  | [a, b, c, d, e], _ => ⟨a, b, c, d, e, rfl⟩
theorem len6 {α : Type} : ∀ (l : List α), l.length = 6 → ∃ a b c d e f, l = [a, b, c, d, e, f]
  | [a, b, c, d, e, f], _ => ⟨a, b, c, d, e, f, rfl⟩
theorem len7 {α : Type} : ∀ (l : List α), l.length = 7 → ∃ a b c d e f g, l = [a, b, c, d, e, f, g]
  | [a, b, c, d, e, f, g], _ => ⟨a, b, c, d, e, f, g, rfl⟩

section
variable {H : Type} {enc : TypeId × Value → H} {W : World} {fuel : Nat} {cs : List Value} {x : DataW H × List MemPlace}
theorem retr_of (h : DataW.trod enc Tryd.prog W 0 (fun _ => true) true fuel 49 cs = some x) :
    ∃ (ev : Value) (r : Rtr), cs = [ev, .int .i64 r.iv, .int .i64 r.most, .bool r.neg, .string r.digs, .int .i64 r.ex, .int .i64 r.md] ∧ SS W ev r.errs ∧
      (Oki r.iv ∧ Oki r.most ∧ Oki r.ex ∧ Oki r.md) ∧ r.digs.size ≤ Rows.uptoBulk x.1 ∧ r.errs.length ≤ Rows.uptoBulk x.1 ∧ ∀ s ∈ r.errs, s.size ≤ Rows.uptoBulk x.1 := by
  obtain ⟨xs, n, _, rfl, hl, hlen, hf⟩ := DataW.trod_struct Tryd.underlying49 h
  rw [cellsR] at hl
  obtain ⟨c0, c1, c2, c3, c4, c5, c6, rfl⟩ := len7 cs hl
  obtain ⟨y0, y1, y2, y3, y4, rfl⟩ := len5 xs hlen
  exact (by
      have p0 : DataW.trod enc Tryd.prog W 0 (fun _ => true) true n 22 (([c0, c1, c2, c3, c4, c5, c6].drop 0).take (Tryd.prog.cellsOf 22)) = some y0 := hf 0 _ rfl
      rw [cellsSS] at p0
      have g0 : DataW.trod enc Tryd.prog W 0 (fun _ => true) true n 22 [c0] = some y0 := p0
      have p1 : DataW.trod enc Tryd.prog W 0 (fun _ => true) true n 3 (([c0, c1, c2, c3, c4, c5, c6].drop 1).take (Tryd.prog.cellsOf 3)) = some y1 := hf 1 _ rfl
      rw [cellsInt] at p1
      have g1 : DataW.trod enc Tryd.prog W 0 (fun _ => true) true n 3 [c1] = some y1 := p1
      have p2 : DataW.trod enc Tryd.prog W 0 (fun _ => true) true n 3 (([c0, c1, c2, c3, c4, c5, c6].drop 2).take (Tryd.prog.cellsOf 3)) = some y2 := hf 2 _ rfl
      rw [cellsInt] at p2
      have g2 : DataW.trod enc Tryd.prog W 0 (fun _ => true) true n 3 [c2] = some y2 := p2
      have p3 : DataW.trod enc Tryd.prog W 0 (fun _ => true) true n 47 (([c0, c1, c2, c3, c4, c5, c6].drop 3).take (Tryd.prog.cellsOf 47)) = some y3 := hf 3 _ rfl
      rw [cellsDec] at p3
      have g3 : DataW.trod enc Tryd.prog W 0 (fun _ => true) true n 47 [c3, c4, c5] = some y3 := p3
      have p4 : DataW.trod enc Tryd.prog W 0 (fun _ => true) true n 3 (([c0, c1, c2, c3, c4, c5, c6].drop 6).take (Tryd.prog.cellsOf 3)) = some y4 := hf 4 _ rfl
      rw [cellsInt] at p4
      have g4 : DataW.trod enc Tryd.prog W 0 (fun _ => true) true n 3 [c6] = some y4 := p4
      obtain ⟨ev, l, e0, s0, b0, b1⟩ := strs_of Tryd.underlying22 Tryd.underlying9 cellsStr g0
      obtain ⟨i1, e1, _, w1⟩ := DataW.trod_int Tryd.underlying3 g1
      obtain ⟨i2, e2, _, w2⟩ := DataW.trod_int Tryd.underlying3 g2
      obtain ⟨i4, e4, _, w4⟩ := DataW.trod_int Tryd.underlying3 g4
      obtain ⟨z0, z1, z2, m, e3, _, u0, u1, u2⟩ := Go.Deep.trod_struct3 Tryd.underlying47 g3
      have v0 : DataW.trod enc Tryd.prog W 0 (fun _ => true) true m 4 (([c3, c4, c5].drop 0).take (Tryd.prog.cellsOf 4)) = some z0 := u0
      have v1 : DataW.trod enc Tryd.prog W 0 (fun _ => true) true m 9 (([c3, c4, c5].drop 1).take (Tryd.prog.cellsOf 9)) = some z1 := u1
      have v2 : DataW.trod enc Tryd.prog W 0 (fun _ => true) true m 3 (([c3, c4, c5].drop 2).take (Tryd.prog.cellsOf 3)) = some z2 := u2
      rw [cellsBool] at v0
      rw [cellsStr] at v1
      rw [cellsInt] at v2
      have k0 : DataW.trod enc Tryd.prog W 0 (fun _ => true) true m 4 [c3] = some z0 := v0
      have k1 : DataW.trod enc Tryd.prog W 0 (fun _ => true) true m 9 [c4] = some z1 := v1
      have k2 : DataW.trod enc Tryd.prog W 0 (fun _ => true) true m 3 [c5] = some z2 := v2
      obtain ⟨bn, q0, _⟩ := DataW.trod_bool Tryd.underlying4 k0
      obtain ⟨ds, q1, q1', _⟩ := DataW.trod_string Tryd.underlying9 k1
      obtain ⟨ie, q2, _, w5⟩ := DataW.trod_int Tryd.underlying3 k2
      simp only [List.cons.injEq, and_true] at e0 e1 e2 e4 q0 q1 q2
      subst e0 e1 e2 e4 q0 q1 q2
      have m0 := bulk_agg [y0.1, y1.1, y2.1, y3.1, y4.1] y0.1 (by simp)
      have m3 := bulk_agg [y0.1, y1.1, y2.1, y3.1, y4.1] y3.1 (by simp)
      have m4 : Rows.uptoBulk z1.1 ≤ Rows.uptoBulk y3.1 := by rw [e3]; exact bulk_agg [z0.1, z1.1, z2.1] z1.1 (by simp)
      have m5 : ds.size ≤ Rows.uptoBulk z1.1 := by rw [q1']; exact bulk_str ds
      refine ⟨c0, ⟨l, i1, i2, bn, ds, ie, i4⟩, rfl, s0, ⟨bounds_i64 w1, bounds_i64 w2, bounds_i64 w5, bounds_i64 w4⟩, ?_, ?_, fun s hs => ?_⟩
      · show ds.size ≤ Rows.uptoBulk (.agg [y0.1, y1.1, y2.1, y3.1, y4.1]); omega
      · show l.length ≤ Rows.uptoBulk (.agg [y0.1, y1.1, y2.1, y3.1, y4.1]); omega
      · have := b1 s hs
        show s.size ≤ Rows.uptoBulk (.agg [y0.1, y1.1, y2.1, y3.1, y4.1]); omega)
theorem catc_of (h : DataW.trod enc Tryd.prog W 0 (fun _ => true) true fuel 37 cs = some x) :
    ∃ (ev : Value) (r : Ctr), cs = [ev, .bool r.b1, .bool r.b2, .bool r.b3, .slice r.oa r.n r.c, .string r.next] ∧ SS W ev r.errs ∧
      r.errs.length ≤ Rows.uptoBulk x.1 ∧ ∀ s ∈ r.errs, s.size ≤ Rows.uptoBulk x.1 := by
  obtain ⟨xs, n, _, rfl, hl, hlen, hf⟩ := DataW.trod_struct Tryd.underlying37 h
  rw [cellsC] at hl
  obtain ⟨c0, c1, c2, c3, c4, c5, rfl⟩ := len6 cs hl
  obtain ⟨y0, y1, y2, rfl⟩ := len3 xs hlen
  exact (by
      have p0 : DataW.trod enc Tryd.prog W 0 (fun _ => true) true n 22 (([c0, c1, c2, c3, c4, c5].drop 0).take (Tryd.prog.cellsOf 22)) = some y0 := hf 0 _ rfl
      rw [cellsSS] at p0
      have g0 : DataW.trod enc Tryd.prog W 0 (fun _ => true) true n 22 [c0] = some y0 := p0
      have p1 : DataW.trod enc Tryd.prog W 0 (fun _ => true) true n 35 (([c0, c1, c2, c3, c4, c5].drop 1).take (Tryd.prog.cellsOf 35)) = some y1 := hf 1 _ rfl
      rw [cellsPath] at p1
      have g1 : DataW.trod enc Tryd.prog W 0 (fun _ => true) true n 35 [c1, c2, c3, c4] = some y1 := p1
      have p2 : DataW.trod enc Tryd.prog W 0 (fun _ => true) true n 9 (([c0, c1, c2, c3, c4, c5].drop 5).take (Tryd.prog.cellsOf 9)) = some y2 := hf 2 _ rfl
      rw [cellsStr] at p2
      have g2 : DataW.trod enc Tryd.prog W 0 (fun _ => true) true n 9 [c5] = some y2 := p2
      obtain ⟨ev, l, e0, s0, b0, b1⟩ := strs_of Tryd.underlying22 Tryd.underlying9 cellsStr g0
      obtain ⟨ds, q5, _, _⟩ := DataW.trod_string Tryd.underlying9 g2
      obtain ⟨zs, m, _, e3, _, hzl, hz⟩ := DataW.trod_struct Tryd.underlying35 g1
      obtain ⟨z0, z1, z2, z3, rfl⟩ := len4 zs hzl
      exact (by
        have p0u : DataW.trod enc Tryd.prog W 0 (fun _ => true) true m 4 (([c1, c2, c3, c4].drop 0).take (Tryd.prog.cellsOf 4)) = some z0 := hz 0 _ rfl
        rw [cellsBool] at p0u
        have k0 : DataW.trod enc Tryd.prog W 0 (fun _ => true) true m 4 [c1] = some z0 := p0u
        have p1u : DataW.trod enc Tryd.prog W 0 (fun _ => true) true m 4 (([c1, c2, c3, c4].drop 1).take (Tryd.prog.cellsOf 4)) = some z1 := hz 1 _ rfl
        rw [cellsBool] at p1u
        have k1 : DataW.trod enc Tryd.prog W 0 (fun _ => true) true m 4 [c2] = some z1 := p1u
        have p2u : DataW.trod enc Tryd.prog W 0 (fun _ => true) true m 4 (([c1, c2, c3, c4].drop 2).take (Tryd.prog.cellsOf 4)) = some z2 := hz 2 _ rfl
        rw [cellsBool] at p2u
        have k2 : DataW.trod enc Tryd.prog W 0 (fun _ => true) true m 4 [c3] = some z2 := p2u
        have p3u : DataW.trod enc Tryd.prog W 0 (fun _ => true) true m 33 (([c1, c2, c3, c4].drop 3).take (Tryd.prog.cellsOf 33)) = some z3 := hz 3 _ rfl
        rw [cellsSt] at p3u
        have k3 : DataW.trod enc Tryd.prog W 0 (fun _ => true) true m 33 [c4] = some z3 := p3u
        obtain ⟨x1, q1, _⟩ := DataW.trod_bool Tryd.underlying4 k0
        obtain ⟨x2, q2, _⟩ := DataW.trod_bool Tryd.underlying4 k1
        obtain ⟨x3, q3, _⟩ := DataW.trod_bool Tryd.underlying4 k2
        obtain ⟨so, sn, sc, q4, _⟩ := slice_of Tryd.underlying33 k3
        simp only [List.cons.injEq, and_true] at e0 q1 q2 q3 q4 q5
        subst e0 q1 q2 q3 q4 q5
        have m0 := bulk_agg [y0.1, y1.1, y2.1] y0.1 (by simp)
        refine ⟨c0, ⟨l, x1, x2, x3, so, sn, sc, ds⟩, rfl, s0, ?_, fun s hs => ?_⟩
        · show l.length ≤ Rows.uptoBulk (.agg [y0.1, y1.1, y2.1]); omega
        · have := b1 s hs
          show s.size ≤ Rows.uptoBulk (.agg [y0.1, y1.1, y2.1]); omega))
end
end Go.Proofs.YtmnikcnjdeldeaaDoor.rt

/- Arguments opened: lists of retriers, of catchers. -/
namespace Go.Proofs.YtmnikcnjdeldeaaDoor.rt
open Go.RowKit Go.Joins mm

/-- What the bulk B says of a retrier. -/
structure RB (B : Nat) (r : Rtr) : Prop where
  ok : Oki r.iv ∧ Oki r.most ∧ Oki r.ex ∧ Oki r.md
  digs : r.digs.size ≤ B
  len : r.errs.length ≤ B
  each : ∀ s ∈ r.errs, s.size ≤ B
structure CB (B : Nat) (r : Ctr) : Prop where
  len : r.errs.length ≤ B
  each : ∀ s ∈ r.errs, s.size ≤ B
theorem RB.mono {B C : Nat} {r : Rtr} (h : RB B r) (hB : B ≤ C) : RB C r := ⟨h.ok, by have := h.digs; omega, by have := h.len; omega, fun s hs => by have := h.each s hs; omega⟩
theorem CB.mono {B C : Nat} {r : Ctr} (h : CB B r) (hB : B ≤ C) : CB C r := ⟨by have := h.len; omega, fun s hs => by have := h.each s hs; omega⟩
theorem nth_map {α : Type} {f : Nat → α} {n j : Nat} {r : α} (h : ((List.range n).map f)[j]? = some r) : j < n ∧ r = f j := by
  rw [List.getElem?_map] at h
  cases hj : (List.range n)[j]? with
  | none => rw [hj] at h; cases h
  | some i =>
    rw [hj] at h
    obtain ⟨hjl, e⟩ := List.getElem?_eq_some_iff.mp hj
    rw [List.length_range] at hjl
    simp only [List.getElem_range] at e
    subst e
    exact ⟨hjl, by simpa using h.symm⟩
section
variable {H : Type} {enc : TypeId × Value → H} {W : World} {fuel : Nat} {cs : List Value} {x : DataW H × List MemPlace}
theorem rl_of (h : DataW.trod enc Tryd.prog W 0 (fun _ => true) true fuel 41 cs = some x) :
    ∃ (v : Value) (l : List Rtr), cs = [v] ∧ RL W v l ∧ l.length ≤ Rows.uptoBulk x.1 ∧ ∀ r ∈ l, RB (Rows.uptoBulk x.1) r := by
  obtain ⟨oa, len, c, rfl, h1, h2, h3, h4, h5⟩ := slice_of Tryd.underlying41 h
  cases oa with
  | none =>
    obtain ⟨rfl, rfl⟩ := h3 rfl
    exact ⟨_, [], rfl, ⟨none, 0, rfl, by simp, by unfold maxLen; omega, fun _ => ⟨rfl, rfl⟩, fun a ha => by cases ha⟩, Nat.zero_le _, fun y hy => by cases hy⟩
  | some a =>
    rw [cellsR] at h5
    have each : ∀ i, i < len → ∃ r : Rtr, RC W (a.add (i * 7)) r ∧ RB (Rows.uptoBulk x.1) r := fun i hi => by
      obtain ⟨cs', n, d, pl, q1, q2, q3⟩ := h5 a rfl i hi
      obtain ⟨ev, r, e, hss, ho, hd, hl, hs⟩ := retr_of q2
      have hc := (World.cells?_some q1).2.2
      subst e
      refine ⟨r, ⟨⟨ev, by simpa [Addr.add] using hc 0 (by omega), hss⟩, hc 1 (by omega), hc 2 (by omega), hc 3 (by omega), hc 4 (by omega), hc 5 (by omega), hc 6 (by omega)⟩, ⟨ho, by simp only at hd; omega, by simp only at hl; omega, fun s hs' => by have := hs s hs'; simp only at this; omega⟩⟩
    haveI : Inhabited Rtr := ⟨⟨[], 0, 0, false, .empty, 0, 0⟩⟩
    obtain ⟨f, hf⟩ := Go.Deep.choose_lt each
    have hl : ((List.range len).map f).length = len := by simp
    refine ⟨_, (List.range len).map f, rfl, ⟨some a, c, by rw [hl], by omega, h2, (fun q => by cases q), fun a' ha j r hr => ?_⟩, by omega, fun y hy => ?_⟩
    · cases ha
      obtain ⟨hj, rfl⟩ := nth_map hr
      exact (hf j hj).1
    · obtain ⟨i, hi, rfl⟩ := List.mem_map.mp hy
      exact (hf i (List.mem_range.mp hi)).2
theorem clist_of (h : DataW.trod enc Tryd.prog W 0 (fun _ => true) true fuel 31 cs = some x) :
    ∃ (v : Value) (l : List Ctr), cs = [v] ∧ CL W v l ∧ l.length ≤ Rows.uptoBulk x.1 ∧ ∀ r ∈ l, CB (Rows.uptoBulk x.1) r := by
  obtain ⟨oa, len, c, rfl, h1, h2, h3, h4, h5⟩ := slice_of Tryd.underlying31 h
  cases oa with
  | none =>
    obtain ⟨rfl, rfl⟩ := h3 rfl
    exact ⟨_, [], rfl, ⟨none, 0, rfl, by simp, by unfold maxLen; omega, fun _ => ⟨rfl, rfl⟩, fun a ha => by cases ha⟩, Nat.zero_le _, fun y hy => by cases hy⟩
  | some a =>
    rw [cellsC] at h5
    have each : ∀ i, i < len → ∃ r : Ctr, CC W (a.add (i * 6)) r ∧ CB (Rows.uptoBulk x.1) r := fun i hi => by
      obtain ⟨cs', n, d, pl, q1, q2, q3⟩ := h5 a rfl i hi
      obtain ⟨ev, r, e, hss, hl, hs⟩ := catc_of q2
      have hc := (World.cells?_some q1).2.2
      subst e
      refine ⟨r, ⟨⟨ev, by simpa [Addr.add] using hc 0 (by omega), hss⟩, hc 1 (by omega), hc 2 (by omega), hc 3 (by omega), hc 4 (by omega), hc 5 (by omega)⟩, ⟨by simp only at hl; omega, fun s hs' => by have := hs s hs'; simp only at this; omega⟩⟩
    haveI : Inhabited Ctr := ⟨⟨[], false, false, false, none, 0, 0, .empty⟩⟩
    obtain ⟨f, hf⟩ := Go.Deep.choose_lt each
    have hl : ((List.range len).map f).length = len := by simp
    refine ⟨_, (List.range len).map f, rfl, ⟨some a, c, by rw [hl], by omega, h2, (fun q => by cases q), fun a' ha j r hr => ?_⟩, by omega, fun y hy => ?_⟩
    · cases ha
      obtain ⟨hj, rfl⟩ := nth_map hr
      exact (hf j hj).1
    · obtain ⟨i, hi, rfl⟩ := List.mem_map.mp hy
      exact (hf i (List.mem_range.mp hi)).2
end
end Go.Proofs.YtmnikcnjdeldeaaDoor.rt
