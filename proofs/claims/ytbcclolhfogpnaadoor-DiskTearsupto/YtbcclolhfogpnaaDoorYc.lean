/- The laws' steps: pick, does. -/
import Derived.Test.YtbcclolhfogpnaaDoorYb
namespace Go.Proofs.YtbcclolhfogpnaaDoor.dk
open Go.RowKit Go.Joins mm

/-- Which of n things a raw number speaks of. -/
def pk (c n : Int) : Int := (if c < 0 then -(c + 1) else c) % n
theorem pk_in (c n : Int) (h : 0 < n) : 0 ≤ pk c n ∧ pk c n < n := by
  unfold pk
  exact ⟨Int.emod_nonneg _ (by omega), Int.emod_lt_of_pos _ h⟩
set_option maxRecDepth 100000 in
set_option maxHeartbeats 1600000 in
theorem pick_any (c n : Int) (w : World) (h0 : -9223372036854775808 ≤ c) (h1 : c ≤ 9223372036854775807) (h2 : 0 < n) (h3 : n ≤ 9223372036854775807) :
    Calls Tryd.prog 14 #[.int .i64 c, .int .i64 n] w fun e w' => e = .returned (.int .i64 (pk c n)) ∧ w' = w := by
  have hn : (n == 0) = false := by rw [beq_eq_false_iff_ne]; omega
  have hn0 : n ≠ 0 := by omega
  by_cases hc : c < 0
  · have HP : Hid (pk c n = (-(c + 1)) % n) := by show _ = _; unfold pk; rw [if_pos hc]
    have w1 : IntKind.i64.wrap (c + 1) = c + 1 := IntWalk.i64_in _ ⟨by omega, by omega⟩
    have w2 : IntKind.i64.wrap (-(c + 1)) = -(c + 1) := IntWalk.i64_in _ ⟨by omega, by omega⟩
    have p1 : 0 ≤ -(c + 1) := by omega
    have hr : Int.tmod (-(c + 1)) n = (-(c + 1)) % n := Int.tmod_eq_emod_of_nonneg p1
    have hb := Int.emod_lt_of_pos (-(c + 1)) h2
    have hb0 := Int.emod_nonneg (-(c + 1)) hn0
    generalize pk c n = r at *
    go_enter Tryd.func14, Tryd.ntmps14
    go_wp2
    go_ret
    refine ⟨?_, rfl⟩
    rw [unhide HP]
    rfl
  · have HP : Hid (pk c n = c % n) := by show _ = _; unfold pk; rw [if_neg hc]
    have p1 : 0 ≤ c := by omega
    have hc' : decide (c < 0) = false := decide_eq_false hc
    have hr : Int.tmod c n = c % n := Int.tmod_eq_emod_of_nonneg p1
    have hb := Int.emod_lt_of_pos c h2
    have hb0 := Int.emod_nonneg c hn0
    generalize pk c n = r at *
    go_enter Tryd.func14, Tryd.ntmps14
    go_wp2
    go_ret
    refine ⟨?_, rfl⟩
    rw [unhide HP]
    rfl

/-- A step of a script. -/
structure Op where
  kind : Int
  other : Bool
  data : List UInt8
  n : Int
  at_ : Int
  turn : Nat
/-- What a step is bounded by. -/
structure OB (B : Nat) (o : Op) : Prop where
  kind : -9223372036854775808 ≤ o.kind ∧ o.kind ≤ 9223372036854775807
  n : -9223372036854775808 ≤ o.n ∧ o.n ≤ 9223372036854775807
  at_ : -9223372036854775808 ≤ o.at_ ∧ o.at_ ≤ 9223372036854775807
  turn : o.turn < 4294967296
  data : o.data.length ≤ B
theorem OB.mono {B C : Nat} {o : Op} (h : OB B o) (hB : B ≤ C) : OB C o := ⟨h.kind, h.n, h.at_, h.turn, by have := h.data; omega⟩
/-- What a step does to a disk; the error. -/
def sDo (s : St) (k : Int) (o : Op) : St × Nat :=
  if k = 0 then sApp s o.data else if k = 1 then sSyn s else if k = 2 then sCut s o.n else if k = 3 then (sArm s o.n, 0) else if k = 4 then (sCrash s o.n o.at_ o.turn, 0) else (s, 0)
theorem wf_do {s : St} (h : Wf s) (k : Int) (o : Op) : Wf (sDo s k o).1 := by
  unfold sDo
  split
  · exact wf_app h _
  · split
    · exact wf_syn h
    · split
      · exact wf_cut h _
      · split
        · exact wf_arm h _
        · split
          · exact wf_crash _ _ _ _
          · exact h
theorem do_len {s : St} (h : Wf s) (k : Int) (o : Op) : (sDo s k o).1.file.length ≤ s.file.length + o.data.length := by
  unfold sDo
  split
  · unfold sApp
    split
    · simp
    · split <;> simp
  · split
    · unfold sSyn
      split
      · simp
      · split <;> simp
    · split
      · unfold sCut
        split
        · simp
        · split
          · simp
          · split
            · simp
            · simp only [List.length_take]; omega
      · split
        · show s.file.length ≤ _; omega
        · split
          · have := crash_len h o.n o.at_ o.turn
            show (sCrash s o.n o.at_ o.turn).file.length ≤ _
            omega
          · simp
/-- A step, by value, its data at ev. -/
def opv (ev : Value) (o : Op) : Value := .agg #[.int .i64 o.kind, .bool o.other, ev, .int .i64 o.n, .int .i64 o.at_, .int .u32 (o.turn : Int)]

set_option maxRecDepth 100000 in
set_option maxHeartbeats 3200000 in
theorem does_any {a b : Addr} {G : World → Prop} {D : World → Addr → Bl → St → Prop} (K : DiskOK a b G D) (w : World) (p : Addr) (F : Bl) (s : St) (o : Op) (ev : Value) (hG : G w) (h : D w p F s) (hv : BY w ev o.data) (ho : OB 2000000 o) (hl : s.file.length + o.data.length ≤ 70000000000000) :
    Calls Tryd.prog 12 #[.pointer (some p), opv ev o] w fun e w' => ∃ F', e = .returned (er a b (sDo s (pk o.kind 6) o).2) ∧ D w' p F' (sDo s (pk o.kind 6) o).1 ∧ Mv F F' w w' := by
  have HK := hide K
  have HL := hide hl
  obtain ⟨hk, hn, ha, ht, _⟩ := ho
  have HN := hide hn
  have HA := hide ha
  have HT := hide ht
  have hpk := pk_in o.kind 6 (by decide)
  obtain ⟨oe, ce, rfl, _, _⟩ := hv.form
  have al := (Below.refl w.heap.size w).alloc (Nat.le_refl _) (.cells #[.int .i64 o.kind, .bool o.other, .slice oe o.data.length ce, .int .i64 o.n, .int .i64 o.at_, .int .u32 (o.turn : Int)] 36)
  have HG := hide (K.keep _ _ hG al)
  have A1 := hide (K.dkeep w _ p F s h (fun k hk => al.block k (K.dlt w p F s h k hk)))
  have V1 := hide (hv.keep al)
  have M1 := hide (Mv.quiet F al)
  have C1 := hide (pick_any o.kind 6 (w.alloc (.cells #[.int .i64 o.kind, .bool o.other, .slice oe o.data.length ce, .int .i64 o.n, .int .i64 o.at_, .int .u32 (o.turn : Int)] 36)) hk.1 hk.2 (by decide) (by decide))
  unfold opv
  generalize hkk : pk o.kind 6 = k at *
  clear hkk hk hn ha ht K hG h hv hl al
  have hcase : k = 0 ∨ k = 1 ∨ k = 2 ∨ k = 3 ∨ k = 4 ∨ k = 5 := by omega
  clear hpk
  rcases hcase with rfl | rfl | rfl | rfl | rfl | rfl
  · go_enter Tryd.func12, Tryd.ntmps12
    go_wp2_with fail
    refine (unhide C1).mono ?_
    rintro e w1 ⟨rfl, hw⟩
    obtain rfl := hw.symm
    have C2 := hide ((unhide HK).append _ p F s _ o.data (unhide HG) (unhide A1) (unhide V1) (unhide HL))
    clear C1 A1 V1
    go_wp2_with fail
    refine (unhide C2).mono ?_
    rintro e w2 ⟨F', rfl, h2, m2⟩
    have H2 := hide h2
    have M2 := hide ((unhide M1).trans m2)
    clear C2 h2 m2 M1
    go_wp2
    go_ret
    exact ⟨F', rfl, unhide H2, unhide M2⟩
  · go_enter Tryd.func12, Tryd.ntmps12
    go_wp2_with fail
    refine (unhide C1).mono ?_
    rintro e w1 ⟨rfl, hw⟩
    obtain rfl := hw.symm
    have C2 := hide ((unhide HK).sync _ p F s (unhide HG) (unhide A1))
    clear C1 A1 V1
    go_wp2_with fail
    refine (unhide C2).mono ?_
    rintro e w2 ⟨F', rfl, h2, m2⟩
    have H2 := hide h2
    have M2 := hide ((unhide M1).trans m2)
    clear C2 h2 m2 M1
    go_wp2
    go_ret
    exact ⟨F', rfl, unhide H2, unhide M2⟩
  · go_enter Tryd.func12, Tryd.ntmps12
    go_wp2_with fail
    refine (unhide C1).mono ?_
    rintro e w1 ⟨rfl, hw⟩
    obtain rfl := hw.symm
    have C2 := hide ((unhide HK).cut _ p F s o.n (unhide HG) (unhide A1) (unhide HN).1 (unhide HN).2)
    clear C1 A1 V1
    go_wp2_with fail
    refine (unhide C2).mono ?_
    rintro e w2 ⟨F', rfl, h2, m2⟩
    have H2 := hide h2
    have M2 := hide ((unhide M1).trans m2)
    clear C2 h2 m2 M1
    go_wp2
    go_ret
    exact ⟨F', rfl, unhide H2, unhide M2⟩
  · go_enter Tryd.func12, Tryd.ntmps12
    go_wp2_with fail
    refine (unhide C1).mono ?_
    rintro e w1 ⟨rfl, hw⟩
    obtain rfl := hw.symm
    have C2 := hide ((unhide HK).arm _ p F s o.n (unhide HG) (unhide A1) (unhide HN).1 (unhide HN).2)
    clear C1 A1 V1
    go_wp2_with fail
    refine (unhide C2).mono ?_
    rintro e w2 ⟨F', rfl, h2, m2⟩
    have H2 := hide h2
    have M2 := hide ((unhide M1).trans m2)
    clear C2 h2 m2 M1
    go_wp2
    go_ret
    exact ⟨F', rfl, unhide H2, unhide M2⟩
  · go_enter Tryd.func12, Tryd.ntmps12
    go_wp2_with fail
    refine (unhide C1).mono ?_
    rintro e w1 ⟨rfl, hw⟩
    obtain rfl := hw.symm
    have C2 := hide ((unhide HK).crash _ p F s o.n o.at_ o.turn (unhide HG) (unhide A1) (by have := unhide HL; omega) (unhide HN).1 (unhide HN).2 (unhide HA).1 (unhide HA).2 (unhide HT))
    clear C1 A1 V1
    go_wp2_with fail
    refine (unhide C2).mono ?_
    rintro e w2 ⟨F', rfl, h2, m2⟩
    have H2 := hide h2
    have M2 := hide ((unhide M1).trans m2)
    clear C2 h2 m2 M1
    go_wp2
    go_ret
    exact ⟨F', rfl, unhide H2, unhide M2⟩
  · go_enter Tryd.func12, Tryd.ntmps12
    go_wp2_with fail
    refine (unhide C1).mono ?_
    rintro e w1 ⟨rfl, hw⟩
    obtain rfl := hw.symm
    clear C1 V1
    go_wp2
    go_ret
    exact ⟨F, rfl, unhide A1, unhide M1⟩

/-- A step's cells from a place on. -/
structure CO (w : World) (a : Addr) (o : Op) : Prop where
  c0 : w.cell? a = some (.int .i64 o.kind)
  c1 : w.cell? (a.add 1) = some (.bool o.other)
  c2 : ∃ ev, w.cell? (a.add 2) = some ev ∧ BY w ev o.data
  c3 : w.cell? (a.add 3) = some (.int .i64 o.n)
  c4 : w.cell? (a.add 4) = some (.int .i64 o.at_)
  c5 : w.cell? (a.add 5) = some (.int .u32 (o.turn : Int))
theorem CO.keep {w w' : World} {a : Addr} {o : Op} (h : CO w a o) (hb : Below w.heap.size w w') : CO w' a o := by
  have k : ∀ (p : Addr) (v : Value), w.cell? p = some v → w'.cell? p = some v := fun p v hp => by rw [hb.cell (cell_lt hp)]; exact hp
  obtain ⟨ev, e1, e2⟩ := h.c2
  exact ⟨k _ _ h.c0, k _ _ h.c1, ⟨ev, k _ _ e1, e2.keep hb⟩, k _ _ h.c3, k _ _ h.c4, k _ _ h.c5⟩
/-- A script in memory. -/
def OPS (w : World) (v : Value) (l : List Op) : Prop :=
  ∃ oa c, v = .slice oa l.length c ∧ l.length ≤ c ∧ c ≤ maxLen ∧ (oa = none → l = [] ∧ c = 0) ∧ ∀ a, oa = some a → ∀ (j : Nat) (o : Op), l[j]? = some o → CO w (a.add (j * 6)) o
theorem OPS.keep {w w' : World} {v : Value} {l : List Op} (h : OPS w v l) (hb : Below w.heap.size w w') : OPS w' v l := by
  obtain ⟨oa, c, e, h1, h2, h3, h4⟩ := h
  exact ⟨oa, c, e, h1, h2, h3, fun a ha j r hr => (h4 a ha j r hr).keep hb⟩
theorem OPS.form {w : World} {v : Value} {l : List Op} (h : OPS w v l) : ∃ oa c, v = .slice oa l.length c ∧ l.length ≤ c ∧ c ≤ maxLen := by
  obtain ⟨oa, c, e, h1, h2, _⟩ := h
  exact ⟨oa, c, e, h1, h2⟩
theorem OPS.at {w : World} {v : Value} {l : List Op} (h : OPS w v l) (hl : 0 < l.length) : ∃ a c, v = .slice (some a) l.length c ∧ l.length ≤ c ∧ c ≤ maxLen ∧ ∀ (j : Nat) (o : Op), l[j]? = some o → CO w (a.add (j * 6)) o := by
  obtain ⟨oa, c, rfl, h1, h2, h3, h4⟩ := h
  cases oa with
  | none => have := (h3 rfl).1; subst this; simp at hl
  | some a => exact ⟨a, c, rfl, h1, h2, h4 a rfl⟩
theorem cellsOp : Tryd.prog.cellsOf 36 = 6 := by kernel_rfl
theorem cellsI : Tryd.prog.cellsOf 3 = 1 := by kernel_rfl
theorem cellsB : Tryd.prog.cellsOf 4 = 1 := by kernel_rfl
theorem cellsBy : Tryd.prog.cellsOf 27 = 1 := by kernel_rfl
theorem cellsU : Tryd.prog.cellsOf 5 = 1 := by kernel_rfl
theorem cells32 : Tryd.prog.cellsOf 34 = 1 := by kernel_rfl
theorem len6 {α : Type} : ∀ (l : List α), l.length = 6 → ∃ a b c d e f, l = [a, b, c, d, e, f]
  | [a, b, c, d, e, f], _ => ⟨a, b, c, d, e, f, rfl⟩
theorem one_le_sum {f : Nat → Nat} : ∀ (l : List Nat) (i : Nat), i ∈ l → f i ≤ (l.map f).sum
  | [], i, h => by cases h
  | x :: r, i, h => by
    simp only [List.map_cons, List.sum_cons]
    rcases List.mem_cons.mp h with e | e
    · subst e; omega
    · have := one_le_sum (f := f) r i e; omega
section
variable {H : Type} {enc : TypeId × Value → H} {W : World} {fuel : Nat} {cs : List Value} {x : DataW H × List MemPlace}
theorem op_of (h : DataW.trod enc Tryd.prog W 0 (fun _ => true) true fuel 36 cs = some x) :
    ∃ (ev : Value) (o : Op), cs = [.int .i64 o.kind, .bool o.other, ev, .int .i64 o.n, .int .i64 o.at_, .int .u32 (o.turn : Int)] ∧ BY W ev o.data ∧ OB (Rows.uptoBulk x.1) o := by
  obtain ⟨xs, n, _, rfl, hl, hlen, hf⟩ := DataW.trod_struct Tryd.underlying36 h
  rw [cellsOp] at hl
  obtain ⟨c0, c1, c2, c3, c4, c5, rfl⟩ := len6 cs hl
  obtain ⟨y0, y1, y2, y3, y4, y5, rfl⟩ := len6 xs hlen
  have p0 : DataW.trod enc Tryd.prog W 0 (fun _ => true) true n 3 (([c0, c1, c2, c3, c4, c5].drop 0).take (Tryd.prog.cellsOf 3)) = some y0 := hf 0 _ rfl
  rw [cellsI] at p0
  have g0 : DataW.trod enc Tryd.prog W 0 (fun _ => true) true n 3 [c0] = some y0 := p0
  have p1 : DataW.trod enc Tryd.prog W 0 (fun _ => true) true n 4 (([c0, c1, c2, c3, c4, c5].drop 1).take (Tryd.prog.cellsOf 4)) = some y1 := hf 1 _ rfl
  rw [cellsB] at p1
  have g1 : DataW.trod enc Tryd.prog W 0 (fun _ => true) true n 4 [c1] = some y1 := p1
  have p2 : DataW.trod enc Tryd.prog W 0 (fun _ => true) true n 27 (([c0, c1, c2, c3, c4, c5].drop 2).take (Tryd.prog.cellsOf 27)) = some y2 := hf 2 _ rfl
  rw [cellsBy] at p2
  have g2 : DataW.trod enc Tryd.prog W 0 (fun _ => true) true n 27 [c2] = some y2 := p2
  have p3 : DataW.trod enc Tryd.prog W 0 (fun _ => true) true n 3 (([c0, c1, c2, c3, c4, c5].drop 3).take (Tryd.prog.cellsOf 3)) = some y3 := hf 3 _ rfl
  rw [cellsI] at p3
  have g3 : DataW.trod enc Tryd.prog W 0 (fun _ => true) true n 3 [c3] = some y3 := p3
  have p4 : DataW.trod enc Tryd.prog W 0 (fun _ => true) true n 3 (([c0, c1, c2, c3, c4, c5].drop 4).take (Tryd.prog.cellsOf 3)) = some y4 := hf 4 _ rfl
  rw [cellsI] at p4
  have g4 : DataW.trod enc Tryd.prog W 0 (fun _ => true) true n 3 [c4] = some y4 := p4
  have p5 : DataW.trod enc Tryd.prog W 0 (fun _ => true) true n 34 (([c0, c1, c2, c3, c4, c5].drop 5).take (Tryd.prog.cellsOf 34)) = some y5 := hf 5 _ rfl
  rw [cells32] at p5
  have g5 : DataW.trod enc Tryd.prog W 0 (fun _ => true) true n 34 [c5] = some y5 := p5
  obtain ⟨i0, e0, _, w0⟩ := DataW.trod_int Tryd.underlying3 g0
  obtain ⟨b1, e1, _⟩ := DataW.trod_bool Tryd.underlying4 g1
  obtain ⟨ev, l, e2, s2, m2⟩ := bytes_of Tryd.underlying27 Tryd.underlying5 cellsU g2
  obtain ⟨i3, e3, _, w3⟩ := DataW.trod_int Tryd.underlying3 g3
  obtain ⟨i4, e4, _, w4⟩ := DataW.trod_int Tryd.underlying3 g4
  obtain ⟨i5, e5, _, w5⟩ := DataW.trod_int Tryd.underlying34 g5
  simp only [List.cons.injEq, and_true] at e0 e1 e2 e3 e4 e5
  subst e0 e1 e2 e3 e4 e5
  have h5 := bounds_u32 w5
  have m0 := bulk_agg [y0.1, y1.1, y2.1, y3.1, y4.1, y5.1] y2.1 (by simp)
  refine ⟨c2, ⟨i0, b1, l, i3, i4, i5.toNat⟩, ?_, s2, ⟨bounds_i64 w0, bounds_i64 w3, bounds_i64 w4, ?_, ?_⟩⟩
  · have : ((i5.toNat : Nat) : Int) = i5 := by omega
    simp only [this]
  · show i5.toNat < 4294967296; omega
  · show l.length ≤ Rows.uptoBulk (.agg [y0.1, y1.1, y2.1, y3.1, y4.1, y5.1]); omega
/-- What the steps' bytes are together. -/
def tot (l : List Op) : Nat := (l.map (fun o => o.data.length)).sum
theorem ops_of (h : DataW.trod enc Tryd.prog W 0 (fun _ => true) true fuel 22 cs = some x) :
    ∃ (v : Value) (l : List Op), cs = [v] ∧ OPS W v l ∧ l.length ≤ Rows.uptoBulk x.1 ∧ (∀ o ∈ l, OB (Rows.uptoBulk x.1) o) ∧ tot l ≤ Rows.uptoBulk x.1 := by
  obtain ⟨oa, len, c, rfl, h1, h2, h3, h4, dd, hsum, h5⟩ := slice_sum Tryd.underlying22 h
  cases oa with
  | none =>
    obtain ⟨rfl, rfl⟩ := h3 rfl
    exact ⟨_, [], rfl, ⟨none, 0, rfl, by simp, by unfold maxLen; omega, fun _ => ⟨rfl, rfl⟩, fun a ha => by cases ha⟩, Nat.zero_le _, (fun y hy => by cases hy), Nat.zero_le _⟩
  | some a =>
    rw [cellsOp] at h5
    have hone : ∀ i, i < len → Rows.uptoBulk (dd i) ≤ Rows.uptoBulk x.1 := fun i hi => by
      have : Rows.uptoBulk (dd i) ≤ ((List.range len).map (fun i => Rows.uptoBulk (dd i))).sum := one_le_sum (f := fun i => Rows.uptoBulk (dd i)) _ i (List.mem_range.mpr hi)
      omega
    have each : ∀ i, i < len → ∃ o : Op, CO W (a.add (i * 6)) o ∧ OB (Rows.uptoBulk (dd i)) o := fun i hi => by
      obtain ⟨cs', n, pl, q1, q2⟩ := h5 a rfl i hi
      obtain ⟨ev, o, e, hby, ho⟩ := op_of q2
      have hc := (World.cells?_some q1).2.2
      subst e
      exact ⟨o, ⟨by simpa [Addr.add] using hc 0 (by omega), hc 1 (by omega), ⟨ev, hc 2 (by omega), hby⟩, hc 3 (by omega), hc 4 (by omega), hc 5 (by omega)⟩, ho⟩
    haveI : Inhabited Op := ⟨⟨0, false, [], 0, 0, 0⟩⟩
    obtain ⟨f, hf⟩ := Go.Deep.choose_lt each
    have hl : ((List.range len).map f).length = len := by simp
    refine ⟨_, (List.range len).map f, rfl, ⟨some a, c, by rw [hl], by omega, h2, (fun q => by cases q), fun a' ha j r hr => ?_⟩, by omega, (fun y hy => ?_), ?_⟩
    · cases ha
      rw [List.getElem?_map] at hr
      cases hj : (List.range len)[j]? with
      | none => rw [hj] at hr; cases hr
      | some i =>
        rw [hj] at hr
        obtain ⟨hjl, e⟩ := List.getElem?_eq_some_iff.mp hj
        rw [List.length_range] at hjl
        simp only [List.getElem_range] at e
        subst e
        cases hr
        exact (hf j hjl).1
    · obtain ⟨i, hi, rfl⟩ := List.mem_map.mp hy
      exact (hf i (List.mem_range.mp hi)).2.mono (hone i (List.mem_range.mp hi))
    · unfold tot
      rw [List.map_map]
      exact Nat.le_trans (sum_le _ (fun i hi => (hf i (List.mem_range.mp hi)).2.data)) hsum
end
end Go.Proofs.YtbcclolhfogpnaaDoor.dk
