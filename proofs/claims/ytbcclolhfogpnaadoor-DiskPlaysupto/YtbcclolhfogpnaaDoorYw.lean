/- DiskPlays: one step, of both. -/
import Derived.Test.YtbcclolhfogpnaaDoorYv
import Derived.Deep.RegionHeld3
namespace Go.Proofs.YtbcclolhfogpnaaDoor.dk
open Go.RowKit mm

/-- What step leaves. -/
def SP (D : World → Addr → Bl → St → Prop) (w0 : World) (p r : Addr) (go : Nat) (F Fr Fo : Bl) (s : St) (n : Nat) (w : World) (e : Ending) (w' : World) : Prop :=
  e = .returned (.bool true) ∧ ∃ F' Fr' Fo', PS D w' w0.heap.size p r go F' Fr' Fo' s s n ∧ MM F Fr Fo F' Fr' Fo' w w'
theorem wf_er (s : St) (l : List UInt8) : (sApp s l).2 ≤ 2 := by unfold sApp; split <;> (try split) <;> simp
theorem wf_er2 (s : St) : (sSyn s).2 ≤ 2 := by unfold sSyn; split <;> (try split) <;> simp
theorem wf_er3 (s : St) (n : Int) : (sCut s n).2 ≤ 2 := by
  unfold sCut
  split
  · simp
  · split
    · simp
    · split <;> simp
theorem ev_lt {w : World} {v : Value} {l : List UInt8} (h : BY w v l) (hl : l ≠ []) : ∀ k, v.ownBlock = some k → k < w.heap.size := fun k hk => by
  obtain ⟨a, c, rfl, _, _, hc⟩ := h.at (by cases l with | nil => exact absurd rfl hl | cons x r => simp)
  simp only [Value.ownBlock, Option.some.injEq] at hk
  subst hk
  cases l with
  | nil => exact absurd rfl hl
  | cons x r =>
    have := cell_lt (hc 0 x rfl)
    simpa [Addr.add] using this
theorem MM.upd {F Fr Fo F' Fr' Fo' : Bl} {w w' w'' : World} {g : Nat} (h : MM F Fr Fo F' Fr' Fo' w w') (hu : Upd g w' w'') (hg : w.heap.size ≤ g) : MM F Fr Fo F' Fr' Fo' w w'' :=
  ⟨hu.os.trans h.os, hu.tape.trans h.tape, hu.output.trans h.output, by rw [hu.size]; exact h.size, fun k hk n1 n2 n3 => (hu.block k (by omega)).trans (h.block k hk n1 n2 n3), h.sf, h.sr, h.so⟩
theorem below_upd {w0 w w' : World} {B g : Nat} (h : Below B w0 w) (hu : Upd g w w') (hg : B ≤ g) : Below B w0 w' :=
  ⟨hu.os.trans h.os, hu.tape.trans h.tape, hu.output.trans h.output, by rw [hu.size]; exact h.size, fun k hk => (hu.block k (by omega)).trans (h.block k hk)⟩
theorem lent_by {w : World} {B g : Nat} {l : List UInt8} (h : OY w B (.slice (some ⟨g, 0, none⟩) (l.length + 8) (l.length + 8)) (l ++ eight)) : BY w (.slice (some ⟨g, 0, none⟩) l.length (l.length + 8)) l := by
  have hc := fun k x hk => oy_cell h k x hk
  obtain ⟨_, ⟨q, _⟩ | ⟨g', cap, cur, q, _, _, _, hm, _⟩⟩ := h
  · cases q
  · simp only [Value.slice.injEq] at q
    refine ⟨by simp, _, _, rfl, by omega, by omega, (fun q => by cases q), fun a ha j u hu => ?_⟩
    cases ha
    rw [List.getElem?_map] at hu
    obtain ⟨x, hx, rfl⟩ := Option.map_eq_some_iff.mp hu
    rw [add0]
    obtain ⟨hj, _⟩ := List.getElem?_eq_some_iff.mp hx
    exact hc j x (by rw [List.getElem?_append_left hj]; exact hx)

theorem takes_ps {a b : Addr} {G : World → Prop} {D : World → Addr → Bl → St → Prop} (K : DiskOK a b G D) {u u4 : World} {B : Nat} {p r : Addr} {go : Nat} {F Fr Fo : Bl} {s t : St} {n : Nat} (h : PS D u B p r go F Fr Fo s t n) (bb : Below u.heap.size u u4) (bv fv : Value) (ob : OY u4 u.heap.size bv t.file) (hf : u4.cell? r = some fv) (hn : n ≤ 1000000000) (hl : t.file.length ≤ 70000000000000) :
    Calls Tryd.prog 10 #[.pointer (some ⟨go, 0, none⟩), bv, fv] u4 fun e w' => e = .returned (.bool true) ∧ ∃ Fo', PS D w' B p r go F Fr Fo' s t (n + 2) ∧ MM F Fr Fo F Fr Fo' u w' ∧ w'.cell? r = some fv := by
  have h4 := PS.quiet K h bb
  have hB := PS.size h
  have s4 := bb.size
  obtain ⟨lv, es, hv, hl', how, hFo, hes, hhl⟩ := h4.ow
  obtain ⟨g, v, rfl, r4, hy, hne, hF, _, _⟩ := h4.rd
  have hfv : fv = v := by
    have := r4.c0
    rw [this] at hf
    exact (Option.some.inj hf).symm
  subst hfv
  have olt : ∀ k, OF go lv es hv k → k < u.heap.size := fun k hk => PS.olt h k ((hFo k).mpr hk)
  have bge : ∀ k, bv.ownBlock = some k → u.heap.size ≤ k ∧ k < u4.heap.size := fun k hk => row_lt ob k hk
  have C := takes_any B go lv hv bv fv es hl' t.file u4 how (row_mono ob hB) (OY.by hy) (fun k hk q => by have := olt k q; have := (bge k hk).1; omega) (fun _ k q z => h4.j3 k ((hF k).mpr (Or.inr z)) ((hFo k).mpr q)) (by omega) (by omega) hhl
  refine C.mono ?_
  rintro e w' ⟨rfl, lv', es', hlen, how', ⟨w1, w2, w3, w4⟩, hblk, hsub⟩
  have same : ∀ k, k < u4.heap.size → ¬ Fo k → w'.heap[k]? = u4.heap[k]? := fun k hk hn => hblk k hk (fun q => hn ((hFo k).mpr q))
  have sub2 : ∀ k, OF go lv' es' bv k → Fo k ∨ u.heap.size ≤ k := fun k hk => by
    rcases hsub k hk with q | q | q
    · exact Or.inl ((hFo k).mpr q)
    · exact Or.inr (bge k q).1
    · exact Or.inr (by omega)
  have hcell : w'.cell? ⟨g, 0, none⟩ = some fv := by
    rw [World.cell?_of_block (w := u4) (same g (h4.rd.lt g ((hF g).mpr (Or.inl rfl))) (h4.j3 g ((hF g).mpr (Or.inl rfl))))]
    exact r4.c0
  refine ⟨rfl, OF go lv' es' bv, ⟨K.dkeep u4 w' p F s h4.d (fun k q => same k (K.dlt u4 p F s h4.d k q) (h4.j2 k q)), h4.rd.keep (fun k q => same k (h4.rd.lt k q) (h4.j3 k q)), ⟨lv', es', bv, t.file, how', fun _ => Iff.rfl, by omega, hl⟩, h4.j1, fun k q z => ?_, fun k q z => ?_, fun k q => ?_⟩, ?_, hcell⟩
  · rcases sub2 k z with y | y
    · exact h4.j2 k q y
    · have := K.dlt u p F s h.d k q; omega
  · rcases sub2 k z with y | y
    · exact h4.j3 k q y
    · have := h.rd.lt k q; omega
  · rcases q with q | q | q
    · exact h.ge k (Or.inl q)
    · exact h.ge k (Or.inr (Or.inl q))
    · rcases sub2 k q with y | y
      · exact h.ge k (Or.inr (Or.inr y))
      · omega
  · refine ⟨w1.trans bb.os, w2.trans bb.tape, w3.trans bb.output, by omega, fun k hk _ _ n3 => (same k (by omega) n3).trans (bb.block k hk), fun _ q => Or.inl q, fun _ q => Or.inl q, sub2⟩

set_option maxRecDepth 100000 in
set_option maxHeartbeats 3200000 in
theorem step_any {a b : Addr} {G : World → Prop} {D : World → Addr → Bl → St → Prop} (K : DiskOK a b G D) (w0 w : World) (p r : Addr) (go : Nat) (F Fr Fo : Bl) (s : St) (n : Nat) (o : Op) (ev : Value) (hG : G w0) (hb0 : Below w0.heap.size w0 w)
    (h : PS D w w0.heap.size p r go F Fr Fo s s n) (hv : BY w0 ev o.data) (ho : OB 2000000 o) (hl : s.file.length + o.data.length ≤ 70000000000000) (hn : n ≤ 1000000000) :
    Calls Tryd.prog 9 #[.pointer (some p), .pointer (some r), opv ev o, .pointer (some ⟨go, 0, none⟩)] w (SP D w0 p r go F Fr Fo (sDo s (pk o.kind 6) o).1 (n + 2) w) := by
  have HK := hide K
  have HL := hide hl
  obtain ⟨hk, hn', ha, ht, _⟩ := ho
  have HN := hide hn'
  have HA := hide ha
  have HT := hide ht
  have HG := hide hG
  have HV := hide hv
  have hpk := pk_in o.kind 6 (by decide)
  obtain ⟨oe, ce, rfl, _, _⟩ := hv.form
  have al := (Below.refl w.heap.size w).alloc (Nat.le_refl _) (.cells #[.int .i64 o.kind, .bool o.other, .slice oe o.data.length ce, .int .i64 o.n, .int .i64 o.at_, .int .u32 (o.turn : Int)] 36)
  have P1 := hide (PS.quiet K h al)
  have M1 := hide (MM.quiet F Fr Fo al)
  have L1 := hide (PS.below h (MM.quiet F Fr Fo al) hb0)
  have C1 := hide (pick_any o.kind 6 (w.alloc (.cells #[.int .i64 o.kind, .bool o.other, .slice oe o.data.length ce, .int .i64 o.n, .int .i64 o.at_, .int .u32 (o.turn : Int)] 36)) hk.1 hk.2 (by decide) (by decide))
  have hbx : Hid ((w.alloc (.cells #[.int .i64 o.kind, .bool o.other, .slice oe o.data.length ce, .int .i64 o.n, .int .i64 o.at_, .int .u32 (o.turn : Int)] 36)).heap[w.heap.size]? = some (.cells #[.int .i64 o.kind, .bool o.other, .slice oe o.data.length ce, .int .i64 o.n, .int .i64 o.at_, .int .u32 (o.turn : Int)] 36 (0, 0))) := heap_alloc_new w _
  have HNB := hide (show ¬ (F w.heap.size ∨ Fr w.heap.size ∨ Fo w.heap.size) from fun q => by have := PS.lt K h _ q; omega)
  have HSZ := hide (show w.heap.size < (w.alloc (.cells #[.int .i64 o.kind, .bool o.other, .slice oe o.data.length ce, .int .i64 o.n, .int .i64 o.at_, .int .u32 (o.turn : Int)] 36)).heap.size by rw [World.size_alloc]; omega)
  unfold opv
  generalize hkk : pk o.kind 6 = k at *
  have HND := hide (And.intro hn hb0.size)
  clear hkk hk hn' ha ht K hG h hv hl al hb0 hn
  have hcase : k = 0 ∨ k = 1 ∨ k = 2 ∨ k = 3 ∨ k = 4 ∨ k = 5 := by omega
  clear hpk
  rcases hcase with rfl | rfl | rfl | rfl | rfl | rfl
  · have es : sDo s 0 o = sApp s o.data := rfl
    rw [es]
    go_enter Tryd.func9, Tryd.ntmps9
    go_wp2_with fail
    refine (unhide C1).mono ?_
    rintro e w1 ⟨rfl, hw⟩
    obtain rfl := hw.symm
    clear C1
    generalize w.alloc (.cells #[.int .i64 o.kind, .bool o.other, .slice oe o.data.length ce, .int .i64 o.n, .int .i64 o.at_, .int .u32 (o.turn : Int)] 36) = w1 at *
    have x2 : w1.cell? ⟨w.heap.size, 2, none⟩ = some (.slice oe o.data.length ce) := by rw [blk_cell (unhide hbx)]; rfl
    have C2 := hide (lent_any o.data _ w1 ((unhide HV).keep (unhide L1)) (by have := unhide HL; omega))
    go_wp2_with fail
    refine (unhide C2).mono ?_
    rintro e w2 ⟨rfl, o2, b2⟩
    have O2 := hide o2
    have P2 := hide (PS.quiet (unhide HK) (unhide P1) b2)
    have M2 := hide ((unhide M1).trans (MM.quiet F Fr Fo b2))
    have L2 := hide (PS.below (unhide P1) (MM.quiet F Fr Fo b2) (unhide L1))
    have bx2 := hide (show w2.heap[w.heap.size]? = _ from (b2.block _ (unhide HSZ)).trans (unhide hbx))
    have sz2 := b2.size
    have SZ2 := hide (row_lt o2 w1.heap.size rfl).2
    clear C2 o2 b2 x2
    have C3 := hide ((unhide HK).append w2 p F s _ o.data ((unhide HK).keep _ _ (unhide HG) (unhide L2)) (unhide P2).d (lent_by (unhide O2)) (unhide HL))
    go_wp2_with fail
    refine (unhide C3).mono ?_
    rintro e w3 ⟨F', rfl, h3, m3⟩
    have P3 := hide (PS.ofF (unhide P2) h3 m3)
    have M3 := hide ((unhide M2).trans (MM.ofF Fr Fo m3))
    have L3 := hide (PS.below (unhide P2) (MM.ofF Fr Fo m3) (unhide L2))
    have bx3 := hide (show w3.heap[w.heap.size]? = _ from (m3.block _ (Nat.lt_of_lt_of_le (unhide HSZ) sz2) (fun q => unhide HNB (Or.inl q))).trans (unhide bx2))
    have O3 := hide (row_keep (unhide O2) (fun q hq => m3.block q (row_lt (unhide O2) q hq).2 (fun z => by
      have z1 := (row_lt (unhide O2) q hq).1
      have z2 := PS.lt (unhide HK) (unhide P1) q (Or.inl z)
      omega)))
    have HNG := hide (show ¬ (F' w1.heap.size ∨ Fr w1.heap.size ∨ Fo w1.heap.size) from fun q => by
      have s2 := unhide SZ2
      rcases q with q | q
      · rcases m3.sub _ q with z | z
        · have := PS.lt (unhide HK) (unhide P1) _ (Or.inl z); omega
        · omega
      · have := PS.lt (unhide HK) (unhide P1) _ (Or.inr q); omega)
    clear C3 h3 m3 sz2
    have C4 := hide (code_any a b _ (wf_er s o.data) w3 ((unhide HK).sent w3 ((unhide HK).keep _ _ (unhide HG) (unhide L3))))
    go_wp2_with fail
    refine (unhide C4).mono ?_
    rintro e w4 ⟨rfl, hw⟩
    obtain rfl := hw.symm
    clear C4
    have y2 : w3.cell? ⟨w.heap.size, 2, none⟩ = some (.slice oe o.data.length ce) := by rw [blk_cell (unhide bx3)]; rfl
    have HGE := hide (show w0.heap.size ≤ w1.heap.size from (unhide L1).size)
    have C5 := hide (back_any o.data w1.heap.size w1.heap.size _ w3 (unhide O3) ((unhide HV).keep (unhide L3)) (fun q z => by have := ev_lt (unhide HV) q _ z; have := unhide HGE; omega) (by have := unhide HL; omega))
    go_wp2_with fail
    refine (unhide C5).mono ?_
    rintro e w5 ⟨rfl, u5⟩
    have P5 := hide (PS.upd (unhide HK) (unhide P3) u5 (unhide HNG))
    have M5 := hide (MM.upd (unhide M3) u5 (Nat.le_of_lt (unhide HSZ)))
    have L5 := hide (below_upd (unhide L3) u5 (unhide HGE))
    have bx5 := hide (show w5.heap[w.heap.size]? = _ from (u5.block _ (Nat.ne_of_lt (unhide HSZ))).trans (unhide bx3))
    clear C5 u5 y2
    have z2 : w5.cell? ⟨w.heap.size, 2, none⟩ = some (.slice oe o.data.length ce) := by rw [blk_cell (unhide bx5)]; rfl
    have C6 := hide (rapp_any w5 r Fr s _ o.data (unhide P5).rd ((unhide HV).keep (unhide L5)) (fun q k hk z => by have := ev_lt (unhide HV) q _ z; have := (unhide P1).ge k (Or.inr (Or.inl hk)); omega) (unhide HL))
    go_wp2_with fail
    refine (unhide C6).mono ?_
    rintro e w6 ⟨Fr', rfl, h6, m6⟩
    have P6 := hide (PS.ofR (unhide HK) (unhide P5) h6 m6)
    have M6 := hide ((unhide M5).trans (MM.ofR F' Fo m6))
    clear C6 h6 m6 z2
    go_wp2
    go_ret
    exact ⟨by simp, F', Fr', Fo, PS.more (unhide P6) (Nat.le_add_right _ _), unhide M6⟩
  · have es : sDo s 1 o = sSyn s := rfl
    rw [es]
    go_enter Tryd.func9, Tryd.ntmps9
    go_wp2_with fail
    refine (unhide C1).mono ?_
    rintro e w1 ⟨rfl, hw⟩
    obtain rfl := hw.symm
    clear C1
    generalize w.alloc (.cells #[.int .i64 o.kind, .bool o.other, .slice oe o.data.length ce, .int .i64 o.n, .int .i64 o.at_, .int .u32 (o.turn : Int)] 36) = w1 at *
    have GW := hide ((unhide HK).keep _ _ (unhide HG) (unhide L1))
    have C2 := hide ((unhide HK).sync w1 p F s (unhide GW) (unhide P1).d)
    have x3 : w1.cell? ⟨w.heap.size, 3, none⟩ = some (.int .i64 o.n) := by rw [blk_cell (unhide hbx)]; rfl
    have x4 : w1.cell? ⟨w.heap.size, 4, none⟩ = some (.int .i64 o.at_) := by rw [blk_cell (unhide hbx)]; rfl
    have x5 : w1.cell? ⟨w.heap.size, 5, none⟩ = some (.int .u32 (o.turn : Int)) := by rw [blk_cell (unhide hbx)]; rfl
    go_wp2_with fail
    refine (unhide C2).mono ?_
    rintro e w2 ⟨F', rfl, h2, m2⟩
    have P2 := hide (PS.ofF (unhide P1) h2 m2)
    have M2 := hide ((unhide M1).trans (MM.ofF Fr Fo m2))
    have L2 := hide (PS.below (unhide P1) (MM.ofF Fr Fo m2) (unhide L1))
    have bx2 := hide (show w2.heap[w.heap.size]? = _ from (m2.block _ (unhide HSZ) (fun q => unhide HNB (Or.inl q))).trans (unhide hbx))
    clear C2 h2 m2 GW x3 x4 x5
    have y3 : w2.cell? ⟨w.heap.size, 3, none⟩ = some (.int .i64 o.n) := by rw [blk_cell (unhide bx2)]; rfl
    have y4 : w2.cell? ⟨w.heap.size, 4, none⟩ = some (.int .i64 o.at_) := by rw [blk_cell (unhide bx2)]; rfl
    have y5 : w2.cell? ⟨w.heap.size, 5, none⟩ = some (.int .u32 (o.turn : Int)) := by rw [blk_cell (unhide bx2)]; rfl
    have C3 := hide (code_any a b ((sSyn s).2) (wf_er2 s) w2 ((unhide HK).sent w2 ((unhide HK).keep _ _ (unhide HG) (unhide L2))))
    go_wp2_with fail
    refine (unhide C3).mono ?_
    rintro e w3 ⟨rfl, hw⟩
    obtain rfl := hw.symm
    clear C3
    have C4 := hide (rsync_any w2 r Fr s (unhide P2).rd)
    go_wp2_with fail
    refine (unhide C4).mono ?_
    rintro e w4 ⟨Fr', rfl, h4, m4⟩
    have P4 := hide (PS.ofR (unhide HK) (unhide P2) h4 m4)
    have M4 := hide ((unhide M2).trans (MM.ofR F' Fo m4))
    clear C4 h4 m4 y3 y4 y5
    go_wp2
    go_ret
    exact ⟨by simp, F', Fr', Fo, PS.more (unhide P4) (Nat.le_add_right _ _), unhide M4⟩
  · have es : sDo s 2 o = sCut s o.n := rfl
    rw [es]
    go_enter Tryd.func9, Tryd.ntmps9
    go_wp2_with fail
    refine (unhide C1).mono ?_
    rintro e w1 ⟨rfl, hw⟩
    obtain rfl := hw.symm
    clear C1
    generalize w.alloc (.cells #[.int .i64 o.kind, .bool o.other, .slice oe o.data.length ce, .int .i64 o.n, .int .i64 o.at_, .int .u32 (o.turn : Int)] 36) = w1 at *
    have GW := hide ((unhide HK).keep _ _ (unhide HG) (unhide L1))
    have C2 := hide ((unhide HK).cut w1 p F s o.n (unhide GW) (unhide P1).d (unhide HN).1 (unhide HN).2)
    have x3 : w1.cell? ⟨w.heap.size, 3, none⟩ = some (.int .i64 o.n) := by rw [blk_cell (unhide hbx)]; rfl
    have x4 : w1.cell? ⟨w.heap.size, 4, none⟩ = some (.int .i64 o.at_) := by rw [blk_cell (unhide hbx)]; rfl
    have x5 : w1.cell? ⟨w.heap.size, 5, none⟩ = some (.int .u32 (o.turn : Int)) := by rw [blk_cell (unhide hbx)]; rfl
    go_wp2_with fail
    refine (unhide C2).mono ?_
    rintro e w2 ⟨F', rfl, h2, m2⟩
    have P2 := hide (PS.ofF (unhide P1) h2 m2)
    have M2 := hide ((unhide M1).trans (MM.ofF Fr Fo m2))
    have L2 := hide (PS.below (unhide P1) (MM.ofF Fr Fo m2) (unhide L1))
    have bx2 := hide (show w2.heap[w.heap.size]? = _ from (m2.block _ (unhide HSZ) (fun q => unhide HNB (Or.inl q))).trans (unhide hbx))
    clear C2 h2 m2 GW x3 x4 x5
    have y3 : w2.cell? ⟨w.heap.size, 3, none⟩ = some (.int .i64 o.n) := by rw [blk_cell (unhide bx2)]; rfl
    have y4 : w2.cell? ⟨w.heap.size, 4, none⟩ = some (.int .i64 o.at_) := by rw [blk_cell (unhide bx2)]; rfl
    have y5 : w2.cell? ⟨w.heap.size, 5, none⟩ = some (.int .u32 (o.turn : Int)) := by rw [blk_cell (unhide bx2)]; rfl
    have C3 := hide (code_any a b ((sCut s o.n).2) (wf_er3 s o.n) w2 ((unhide HK).sent w2 ((unhide HK).keep _ _ (unhide HG) (unhide L2))))
    go_wp2_with fail
    refine (unhide C3).mono ?_
    rintro e w3 ⟨rfl, hw⟩
    obtain rfl := hw.symm
    clear C3
    have C4 := hide (rcut_any w2 r Fr s o.n (unhide P2).rd (unhide HN).1 (unhide HN).2)
    go_wp2_with fail
    refine (unhide C4).mono ?_
    rintro e w4 ⟨Fr', rfl, h4, m4⟩
    have P4 := hide (PS.ofR (unhide HK) (unhide P2) h4 m4)
    have M4 := hide ((unhide M2).trans (MM.ofR F' Fo m4))
    clear C4 h4 m4 y3 y4 y5
    go_wp2
    go_ret
    exact ⟨by simp, F', Fr', Fo, PS.more (unhide P4) (Nat.le_add_right _ _), unhide M4⟩
  · have es : sDo s 3 o = (sArm s o.n, 0) := rfl
    rw [es]
    go_enter Tryd.func9, Tryd.ntmps9
    go_wp2_with fail
    refine (unhide C1).mono ?_
    rintro e w1 ⟨rfl, hw⟩
    obtain rfl := hw.symm
    clear C1
    generalize w.alloc (.cells #[.int .i64 o.kind, .bool o.other, .slice oe o.data.length ce, .int .i64 o.n, .int .i64 o.at_, .int .u32 (o.turn : Int)] 36) = w1 at *
    have GW := hide ((unhide HK).keep _ _ (unhide HG) (unhide L1))
    have C2 := hide ((unhide HK).arm w1 p F s o.n (unhide GW) (unhide P1).d (unhide HN).1 (unhide HN).2)
    have x3 : w1.cell? ⟨w.heap.size, 3, none⟩ = some (.int .i64 o.n) := by rw [blk_cell (unhide hbx)]; rfl
    have x4 : w1.cell? ⟨w.heap.size, 4, none⟩ = some (.int .i64 o.at_) := by rw [blk_cell (unhide hbx)]; rfl
    have x5 : w1.cell? ⟨w.heap.size, 5, none⟩ = some (.int .u32 (o.turn : Int)) := by rw [blk_cell (unhide hbx)]; rfl
    go_wp2_with fail
    refine (unhide C2).mono ?_
    rintro e w2 ⟨F', rfl, h2, m2⟩
    have P2 := hide (PS.ofF (unhide P1) h2 m2)
    have M2 := hide ((unhide M1).trans (MM.ofF Fr Fo m2))
    have L2 := hide (PS.below (unhide P1) (MM.ofF Fr Fo m2) (unhide L1))
    have bx2 := hide (show w2.heap[w.heap.size]? = _ from (m2.block _ (unhide HSZ) (fun q => unhide HNB (Or.inl q))).trans (unhide hbx))
    clear C2 h2 m2 GW x3 x4 x5
    have y3 : w2.cell? ⟨w.heap.size, 3, none⟩ = some (.int .i64 o.n) := by rw [blk_cell (unhide bx2)]; rfl
    have y4 : w2.cell? ⟨w.heap.size, 4, none⟩ = some (.int .i64 o.at_) := by rw [blk_cell (unhide bx2)]; rfl
    have y5 : w2.cell? ⟨w.heap.size, 5, none⟩ = some (.int .u32 (o.turn : Int)) := by rw [blk_cell (unhide bx2)]; rfl
    have C4 := hide (rarm_any w2 r Fr s o.n (unhide P2).rd (unhide HN).1 (unhide HN).2)
    go_wp2_with fail
    refine (unhide C4).mono ?_
    rintro e w4 ⟨Fr', rfl, h4, m4⟩
    have P4 := hide (PS.ofR (unhide HK) (unhide P2) h4 m4)
    have M4 := hide ((unhide M2).trans (MM.ofR F' Fo m4))
    clear C4 h4 m4 y3 y4 y5
    go_wp2
    go_ret
    exact ⟨rfl, F', Fr', Fo, PS.more (unhide P4) (Nat.le_add_right _ _), unhide M4⟩
  · have es : sDo s 4 o = (sCrash s o.n o.at_ o.turn, 0) := rfl
    rw [es]
    go_enter Tryd.func9, Tryd.ntmps9
    go_wp2_with fail
    refine (unhide C1).mono ?_
    rintro e w1 ⟨rfl, hw⟩
    obtain rfl := hw.symm
    clear C1
    generalize w.alloc (.cells #[.int .i64 o.kind, .bool o.other, .slice oe o.data.length ce, .int .i64 o.n, .int .i64 o.at_, .int .u32 (o.turn : Int)] 36) = w1 at *
    have GW := hide ((unhide HK).keep _ _ (unhide HG) (unhide L1))
    have C2 := hide ((unhide HK).crash w1 p F s o.n o.at_ o.turn (unhide GW) (unhide P1).d (by have := unhide HL; omega) (unhide HN).1 (unhide HN).2 (unhide HA).1 (unhide HA).2 (unhide HT))
    have x3 : w1.cell? ⟨w.heap.size, 3, none⟩ = some (.int .i64 o.n) := by rw [blk_cell (unhide hbx)]; rfl
    have x4 : w1.cell? ⟨w.heap.size, 4, none⟩ = some (.int .i64 o.at_) := by rw [blk_cell (unhide hbx)]; rfl
    have x5 : w1.cell? ⟨w.heap.size, 5, none⟩ = some (.int .u32 (o.turn : Int)) := by rw [blk_cell (unhide hbx)]; rfl
    go_wp2_with fail
    refine (unhide C2).mono ?_
    rintro e w2 ⟨F', rfl, h2, m2⟩
    have P2 := hide (PS.ofF (unhide P1) h2 m2)
    have M2 := hide ((unhide M1).trans (MM.ofF Fr Fo m2))
    have L2 := hide (PS.below (unhide P1) (MM.ofF Fr Fo m2) (unhide L1))
    have bx2 := hide (show w2.heap[w.heap.size]? = _ from (m2.block _ (unhide HSZ) (fun q => unhide HNB (Or.inl q))).trans (unhide hbx))
    clear C2 h2 m2 GW x3 x4 x5
    have y3 : w2.cell? ⟨w.heap.size, 3, none⟩ = some (.int .i64 o.n) := by rw [blk_cell (unhide bx2)]; rfl
    have y4 : w2.cell? ⟨w.heap.size, 4, none⟩ = some (.int .i64 o.at_) := by rw [blk_cell (unhide bx2)]; rfl
    have y5 : w2.cell? ⟨w.heap.size, 5, none⟩ = some (.int .u32 (o.turn : Int)) := by rw [blk_cell (unhide bx2)]; rfl
    have C4 := hide (rcrash_any w2 r Fr s o.n o.at_ o.turn (unhide P2).rd (by have := unhide HL; omega) (unhide HN).1 (unhide HN).2 (unhide HA).1 (unhide HA).2 (unhide HT))
    go_wp2_with fail
    refine (unhide C4).mono ?_
    rintro e w4 ⟨Fr', rfl, h4, m4⟩
    have P4 := hide (PS.ofR (unhide HK) (unhide P2) h4 m4)
    have M4 := hide ((unhide M2).trans (MM.ofR F' Fo m4))
    clear C4 h4 m4 y3 y4 y5
    go_wp2
    go_ret
    exact ⟨rfl, F', Fr', Fo, PS.more (unhide P4) (Nat.le_add_right _ _), unhide M4⟩
  · have es : sDo s 5 o = (s, 0) := rfl
    rw [es]
    obtain ⟨gr, vr, hr, r4, _⟩ := (unhide P1).rd
    subst hr
    clear r4
    go_enter Tryd.func9, Tryd.ntmps9
    go_wp2_with fail
    refine (unhide C1).mono ?_
    rintro e w1 ⟨rfl, hw⟩
    obtain rfl := hw.symm
    clear C1
    generalize w.alloc (.cells #[.int .i64 o.kind, .bool o.other, .slice oe o.data.length ce, .int .i64 o.n, .int .i64 o.at_, .int .u32 (o.turn : Int)] 36) = w1 at *
    have C2 := hide ((unhide HK).synced w1 p F s ((unhide HK).keep _ _ (unhide HG) (unhide L1)) (unhide P1).d)
    go_wp2_with fail
    refine (unhide C2).mono ?_
    rintro e w2 ⟨rfl, b2⟩
    have P2 := hide (PS.quiet (unhide HK) (unhide P1) b2)
    have M2 := hide ((unhide M1).trans (MM.quiet F Fr Fo b2))
    have L2 := hide (PS.below (unhide P1) (MM.quiet F Fr Fo b2) (unhide L1))
    clear C2 b2
    have C3 := hide ((unhide HK).up w2 p F s ((unhide HK).keep _ _ (unhide HG) (unhide L2)) (unhide P2).d)
    go_wp2_with fail
    refine (unhide C3).mono ?_
    rintro e w3 ⟨rfl, b3⟩
    have b3' := b3.drew
    have P3 := hide (PS.quiet (unhide HK) (unhide P2) b3')
    have M3 := hide ((unhide M2).trans (MM.quiet F Fr Fo b3'))
    have L3 := hide (PS.below (unhide P2) (MM.quiet F Fr Fo b3') (unhide L2))
    clear C3 b3 b3' P1 P2 M1 M2 L1 L2 hbx HNB HSZ HN HA HT
    have C4 := hide ((unhide HK).bytes w3.drew p F s ((unhide HK).keep _ _ (unhide HG) (unhide L3)) (unhide P3).d (by have := unhide HL; omega))
    obtain ⟨g', v0, hg', r40, hy0, _, _, _⟩ := (unhide P3).rd
    cases hg'
    obtain ⟨of, cf, rfl, _, _⟩ := (OY.by hy0).form
    have q0 : w3.drew.cell? ⟨gr, 0, none⟩ = some (.slice of s.file.length cf) := r40.c0
    have HNN := hide (And.intro (unhide HND).1 (show s.file.length ≤ 70000000000000 by have := unhide HL; omega))
    clear r40 hy0 HL
    go_upto_region 26 with fail
    go_cut [19] (fun s19 wx => s19 = .bool true ∧ ∃ Fo', PS D wx w0.heap.size p ⟨gr, 0, none⟩ go F Fr Fo' s s (n + 2) ∧ MM F Fr Fo F Fr Fo' w3.drew wx)
    case first =>
      go_region_held3 (fun w' => w'.cell? ⟨gr, 0, none⟩ = some (.slice of s.file.length cf)) (first | assumption | (go_keep; done)) (first
        | (go_at_call 11; refine (unhide C4).mono ?_; rintro e u4 ⟨bv, rfl, ob, bb⟩; obtain ⟨obo, obc, rfl, _, _⟩ := (OY.by ob).form; have q4 : u4.cell? ⟨gr, 0, none⟩ = some (.slice of s.file.length cf) := (by rw [bb.cell (cell_lt q0)]; exact q0); have T4 := hide (takes_ps (unhide HK) (unhide P3) bb _ _ ob q4 (unhide HNN).1 (unhide HNN).2); clear ob bb)
        | (go_at_call 10; refine (unhide T4).mono ?_; rintro e u5 ⟨rfl, Fo', ps5, mm5, q5⟩; have PS5 := hide ps5; have MM5 := hide mm5; clear ps5 mm5))
      all_goals go_wp2_with fail
      all_goals go_meet
      all_goals exact ⟨rfl, Fo', unhide PS5, unhide MM5⟩
    case rest =>
      obtain ⟨rfl, Fo', ps5, mm5⟩ := hcut
      obtain ⟨g6, v6, hg6, r46, _⟩ := ps5.rd
      cases hg6
      have z1 := r46.c1
      have z2 := r46.c2
      have PS5 := hide ps5
      have MM5 := hide ((unhide M3).trans mm5)
      clear ps5 mm5 r46 q0
      go_wp2
      go_ret
      exact ⟨by simp, F, Fr, Fo', unhide PS5, unhide MM5⟩
end Go.Proofs.YtbcclolhfogpnaaDoor.dk
