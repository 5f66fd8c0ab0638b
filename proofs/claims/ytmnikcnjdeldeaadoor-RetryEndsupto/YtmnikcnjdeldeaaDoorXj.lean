/- RetryCatches, over the calls' contracts. -/
import Derived.Test.YtmnikcnjdeldeaaDoorXi
import Derived.Deep.MidRow
namespace Go.Proofs.YtmnikcnjdeldeaaDoor.rt
open Go.RowKit Go.Joins mm

theorem flat_at {α β : Type} (f : α → List β) (s : Nat) : ∀ (l : List α), (∀ x ∈ l, (f x).length = s) → ∀ (j : Nat) (x : α), l[j]? = some x → ∀ i, i < s → (l.flatMap f)[j * s + i]? = (f x)[i]?
  | [], _, j, x, h, _, _ => by simp at h
  | y :: t, hl, 0, x, h, i, hi => by
    simp only [List.getElem?_cons_zero, Option.some.injEq] at h
    subst h
    rw [List.flatMap_cons, Nat.zero_mul, Nat.zero_add, List.getElem?_append_left (by rw [hl _ (List.mem_cons_self ..)]; exact hi)]
  | y :: t, hl, j + 1, x, h, i, hi => by
    rw [List.getElem?_cons_succ] at h
    have e := hl y (List.mem_cons_self ..)
    have m : (j + 1) * s = j * s + s := Nat.succ_mul j s
    rw [List.flatMap_cons, List.getElem?_append_right (by omega), e, show (j + 1) * s + i - s = j * s + i by omega]
    exact flat_at f s t (fun z hz => hl z (List.mem_cons_of_mem _ hz)) j x h i hi
theorem flat_len {α β : Type} (f : α → List β) (s : Nat) : ∀ (l : List α), (∀ x ∈ l, (f x).length = s) → (l.flatMap f).length = l.length * s
  | [], _ => by simp
  | y :: t, hl => by
    rw [List.flatMap_cons, List.length_append, hl y (List.mem_cons_self ..), flat_len f s t (fun z hz => hl z (List.mem_cons_of_mem _ hz)), List.length_cons, Nat.succ_mul]
    omega
theorem infoC : (Tryd.prog.info? 37).map (fun i => (i.zero, i.size, i.bytes)) = some (some (.agg #[.slice none 0 0, .bool false, .bool false, .bool false, .slice none 0 0, .string .empty]), 6, 72) := by kernel_rfl
/-- A catcher's cells, its names lent anew. -/
def cel (x : Nat × Nat × Ctr) : List Value := [.slice (some ⟨x.1, 0, none⟩) x.2.2.errs.length x.2.1, .bool x.2.2.b1, .bool x.2.2.b2, .bool x.2.2.b3, .slice x.2.2.oa x.2.2.n x.2.2.c, .string x.2.2.next]
theorem cel_len (ps : List (Nat × Nat × Ctr)) : ∀ x ∈ ps, (cel x).length = 6 := fun _ _ => rfl
/-- Catchers in a row of the call's own, their names lent anew. -/
structure OwnC (w : World) (B : Nat) (ov : Value) (ps : List (Nat × Nat × Ctr)) : Prop where
  row : w.ownsRow B 37 6 ov ps.length (ps.flatMap cel)
  os : ∀ x ∈ ps, OS w B (.slice (some ⟨x.1, 0, none⟩) (x.2.2.errs.length + 2) x.2.1) (x.2.2.errs ++ [hash, hash]) ∧ ov.ownBlock ≠ some x.1 ∧ x.2.2.errs.length + 2 ≤ x.2.1
theorem OwnC.keep {w w' : World} {B C : Nat} {ov : Value} {ps : List (Nat × Nat × Ctr)} (h : OwnC w B ov ps) (hb : Below C w w') (hC : w.heap.size ≤ C) : OwnC w' B ov ps :=
  ⟨row_below h.row hb hC, fun x hx => ⟨row_below (h.os x hx).1 hb hC, (h.os x hx).2⟩⟩
theorem OwnC.cl {w : World} {B : Nat} {ov : Value} {ps : List (Nat × Nat × Ctr)} (h : OwnC w B ov ps) : CL w ov (ps.map (·.2.2)) := by
  obtain ⟨_, oa, c, rfl, h1, h2, h3, h4⟩ := own_sv h.row
  refine ⟨oa, c, by rw [List.length_map], by rw [List.length_map]; exact h1, h2, fun q => ⟨by rw [List.eq_nil_of_length_eq_zero (h3 q).1]; rfl, (h3 q).2⟩, fun a ha j r hr => ?_⟩
  rw [List.getElem?_map] at hr
  cases hx : ps[j]? with
  | none => rw [hx] at hr; cases hr
  | some x =>
    rw [hx] at hr
    cases hr
    have e : ∀ i u, i < 6 → (cel x)[i]? = some u → w.cell? ((a.add (j * 6)).add i) = some u := fun i u hi hu => by
      rw [mm.add_add]
      exact h4 a ha _ _ (by rw [flat_at cel 6 ps (cel_len ps) j x hx i hi]; exact hu)
    have e0 := e 0 _ (by omega) rfl
    have z : (a.add (j * 6)).add 0 = a.add (j * 6) := by rw [mm.add_add, Nat.add_zero]
    rw [z] at e0
    exact ⟨⟨_, e0, (h.os x (List.mem_of_getElem? hx)).1.head rfl⟩, e 1 _ (by omega) rfl, e 2 _ (by omega) rfl, e 3 _ (by omega) rfl, e 4 _ (by omega) rfl, e 5 _ (by omega) rfl⟩

theorem OwnC.nth {w : World} {B n c : Nat} {a : Addr} {ps : List (Nat × Nat × Ctr)} (h : OwnC w B (.slice (some a) n c) ps) (k : Nat) (x : Nat × Nat × Ctr) (hx : ps[k]? = some x) : w.cell? (a.add (k * 6)) = some (.slice (some ⟨x.1, 0, none⟩) x.2.2.errs.length x.2.1) := by
  obtain ⟨_, oa, c', e, h1, h2, h3, h4⟩ := own_sv h.row
  simp only [Value.slice.injEq] at e
  obtain ⟨rfl, _, _⟩ := e
  have := h4 a rfl (k * 6 + 0) _ (by rw [flat_at cel 6 ps (cel_len ps) k x hx 0 (by omega)]; rfl)
  rwa [Nat.add_zero] at this
def celC (ev : Value) (r : Ctr) : List Value := [ev, .bool r.b1, .bool r.b2, .bool r.b3, .slice r.oa r.n r.c, .string r.next]
theorem CL.rg {w : World} {v : Value} {l : List Ctr} (h : CL w v l) (hl : 0 < l.length) : ∃ b o c, v = .slice (some ⟨b, o, none⟩) l.length c ∧ l.length ≤ c ∧ c ≤ maxLen ∧
    ∀ (j : Nat) (r : Ctr), l[j]? = some r → ∃ oe ce, SS w (.slice oe r.errs.length ce) r.errs ∧ w.rangeAt b (o + j * 6) (celC (.slice oe r.errs.length ce) r) := by
  obtain ⟨a, c, rfl, h1, h2, h3⟩ := h.at hl
  obtain ⟨b, o, spot⟩ := a
  obtain ⟨r0, hr0⟩ : ∃ r, l[0]? = some r := ⟨l[0], List.getElem?_eq_getElem hl⟩
  have hspot : spot = none := by
    obtain ⟨ev, hev, _⟩ := (h3 0 r0 hr0).c0
    simpa [Addr.add] using World.cell?_spot hev
  subst hspot
  refine ⟨b, o, c, rfl, h1, h2, fun j r hr => ?_⟩
  have hC := h3 j r hr
  obtain ⟨ev, hev, hss⟩ := hC.c0
  obtain ⟨oe, ce, rfl, _⟩ := SV.form hss
  refine ⟨oe, ce, hss, fun i u hu => ?_⟩
  have e : ∀ i, (⟨b, o + j * 6 + i, none⟩ : Addr) = ((⟨b, o, none⟩ : Addr).add (j * 6)).add i := fun i => by rw [mm.add_add, Addr.add_mid, Nat.add_assoc]
  rw [e]
  match i, hu with
  | 0, hu => cases hu; have z : ((⟨b, o, none⟩ : Addr).add (j * 6)).add 0 = (⟨b, o, none⟩ : Addr).add (j * 6) := by rw [mm.add_add, Nat.add_zero]
             rw [z]; exact hev
  | 1, hu => cases hu; exact hC.c1
  | 2, hu => cases hu; exact hC.c2
  | 3, hu => cases hu; exact hC.c3
  | 4, hu => cases hu; exact hC.c4
  | 5, hu => cases hu; exact hC.c5

theorem at1 {w : World} {a : Addr} {v : Value} (i : Nat) (hi : i ≠ 0) (h : w.cell? (a.add i) = some v) : w.cell? ⟨a.block, a.off + i, none⟩ = some v := by
  unfold Addr.add at h
  rwa [if_neg hi] at h

set_option maxRecDepth 100000 in
set_option maxHeartbeats 3200000 in
theorem catches_law {G : World → Prop} {dl : Rtr → Int → Int} (K : RetryOK G dl) (l : List Ctr) (name : ByteArray) (v : Value) (w : World) (hG : G w) (h : CL w v l) (hs : SmlC l) (hl : l.length ≤ 2000000) (he : ∀ r ∈ l, r.errs.length ≤ 2000000) :
    Calls Tryd.prog 5 #[v, .string name] w fun e w' => e = .returned (.bool true) ∧ Below w.heap.size w w' := by
  have HK := hide K
  have HG := hide hG
  have H := hide h
  have HE := hide he
  obtain ⟨oa, c, rfl, h1, h2⟩ := h.form
  have C0 := hide (catchers_any l _ w h hs)
  clear h K hG hs he
  go_enter Tryd.func5, Tryd.ntmps5
  go_wp2_with fail
  refine (unhide C0).mono ?_
  rintro e w1 ⟨⟨b, rfl⟩, hw⟩
  obtain rfl := hw.symm
  clear C0
  cases b with
  | true =>
    go_wp2
    go_ret
    exact ⟨rfl, Below.refl _ _⟩
  | false =>
    have C1 := hide (awake_any (unhide HK) w (unhide HG))
    go_wp2_with fail
    refine (unhide C1).mono ?_
    rintro e w1 ⟨rfl, b1⟩
    have B1 := hide b1
    clear C1 b1
    go_wp2
    go_loopw [6, 7] (fun ov iv wr => ∃ (k : Nat) (ps : List (Nat × Nat × Ctr)), k ≤ l.length ∧ iv = .int .i64 (k : Int) ∧ Hid (ps.map (·.2.2) = l.take k) ∧ Hid (OwnC wr w.heap.size ov ps) ∧ Hid (Below w.heap.size w wr)) (fun _ iv _ => l.length - (intOf iv).toNat)
    case atStart => exact ⟨0, [], by omega, rfl, by rw [List.take_zero]; rfl, ⟨World.ownsRow_nil _ _ _ _, fun x hx => by cases hx⟩, unhide B1⟩
    case round =>
      obtain ⟨k, ps, hk, rfl, hps, hO, hB⟩ := hrel
      by_cases hc : k < l.length
      · have e1 : (k : Int) < (l.length : Int) := by omega
        have e2 : (k : Int) < 9223372036854775807 := by unfold maxLen at h2; omega
        obtain ⟨a, c', e, _, _, hcell⟩ := ((unhide H).keep (unhide hB)).at (by omega)
        cases e
        obtain ⟨r, hr⟩ : ∃ r, l[k]? = some r := ⟨l[k], List.getElem?_eq_getElem hc⟩
        have hC := hcell k r hr
        obtain ⟨ev, hev, hss⟩ := hC.c0
        have f1 := at1 1 (by omega) hC.c1
        have f2 := at1 2 (by omega) hC.c2
        have f3 := at1 3 (by omega) hC.c3
        have f4 := at1 4 (by omega) hC.c4
        have f5 := at1 5 (by omega) hC.c5
        obtain ⟨oe, ce, rfl⟩ : ∃ oe ce, ev = .slice oe r.errs.length ce := by
          obtain ⟨oe, ce, e, _⟩ := SV.form hss
          exact ⟨oe, ce, e⟩
        have HSS := hide hss
        have HRR := hide hr
        have E2 := hide e2
        clear hcell hss hr hC e2
        go_upto_region 9 with fail
        obtain ⟨W2, hW2⟩ : ∃ W2, W2 = wr.alloc (.cells #[.slice oe r.errs.length ce, .bool r.b1, .bool r.b2, .bool r.b3, .slice r.oa r.n r.c, .string r.next] 37) := ⟨_, rfl⟩
        rw [← hW2]
        have k2 : Hid (Below wr.heap.size wr W2) := by rw [hW2]; exact (Below.refl _ _).alloc (Nat.le_refl _) _
        have hev2 : W2.cell? (a.add (k * 6)) = some (.slice oe r.errs.length ce) := by rw [(unhide k2).cell (cell_lt hev)]; exact hev
        have hbk : Hid (W2.heap[wr.heap.size]? = some (.cells #[.slice oe r.errs.length ce, .bool r.b1, .bool r.b2, .bool r.b3, .slice r.oa r.n r.c, .string r.next] 37)) := by rw [hW2]; exact heap_alloc_new wr _
        have s2 : Hid (W2.heap.size = wr.heap.size + 1) := by rw [hW2]; exact World.size_alloc _ _
        have C2 := hide (texts_any r.errs _ W2 ((unhide HSS).keep (unhide k2)) (by have := unhide HE r (List.mem_of_getElem? (unhide HRR)); omega))
        clear hev f1 f2 f3 f4 f5 hW2 HSS
        go_wp2_with fail
        refine (unhide C2).mono ?_
        rintro e w3 ⟨⟨g, cg, rfl, hg1, hg2, o3⟩, b3⟩
        have K3 := hide ((unhide k2).trans (b3.mono (by have := unhide s2; omega)))
        have O3 := hide o3
        have hb3 : w3.heap[wr.heap.size]? = some (.cells #[.slice oe r.errs.length ce, .bool r.b1, .bool r.b2, .bool r.b3, .slice r.oa r.n r.c, .string r.next] 37) := (b3.block _ (by have := unhide s2; omega)).trans (unhide hbk)
        have z3 := hide b3.size
        have c0 := blk_cell hb3 0
        have c1 := blk_cell hb3 1
        have c2 := blk_cell hb3 2
        have c3 := blk_cell hb3 3
        have c4 := blk_cell hb3 4
        have c5 := blk_cell hb3 5
        have fz := blk_free hb3 0
        simp only [List.getElem?_toArray, List.getElem?_cons_zero, List.getElem?_cons_succ] at c0 c1 c2 c3 c4 c5
        have HB3 := hide hb3
        clear hbk C2 o3 b3 hev2 hb3
        go_upto_region 10 with fail
        obtain ⟨W4, hW4⟩ : ∃ W4, W4 = w3.setCell ⟨wr.heap.size, 0, none⟩ (.slice (some ⟨g, 0, none⟩) r.errs.length cg) := ⟨_, rfl⟩
        rw [← hW4]
        have hs4 : Hid (W4.heap.size = w3.heap.size) := by rw [hW4]; show _ = _; simp [World.setCell]
        have K4 : Hid (Below wr.heap.size wr W4) := by rw [hW4]; exact (unhide K3).setCell (p := ⟨wr.heap.size, 0, none⟩) (Nat.le_refl _) _
        have far4 : Hid (∀ q, q ≠ wr.heap.size → W4.heap[q]? = w3.heap[q]?) := fun q hq => by rw [hW4]; exact Below.heap_setCell _ _ _ _ hq
        have hb4 : W4.heap[wr.heap.size]? = some (.cells (cel (g, cg, r)).toArray 37) := by rw [hW4]; exact blk_set (unhide HB3) 0 _
        have d0 := blk_cell hb4 0
        have d1 := blk_cell hb4 1
        have d2 := blk_cell hb4 2
        have d3 := blk_cell hb4 3
        have d4 := blk_cell hb4 4
        have d5 := blk_cell hb4 5
        simp only [cel, List.getElem?_toArray, List.getElem?_cons_zero, List.getElem?_cons_succ] at d0 d1 d2 d3 d4 d5
        have P4 : Hid (OS W4 w.heap.size (.slice (some ⟨g, 0, none⟩) (r.errs.length + 2) cg) (r.errs ++ [hash, hash])) :=
          row_mono (row_keep (unhide O3) (fun q hq => by cases hq; exact unhide far4 g (by have := unhide s2; omega))) (by have := (unhide hB).size; have := unhide s2; omega)
        have Q4 := hide ((unhide hO).keep (unhide K4) (Nat.le_refl _))
        have B4 := hide ((unhide hB).trans ((unhide K4).mono (unhide hB).size))
        have zov : Hid (∀ q, u6.ownBlock = some q → q < wr.heap.size) := fun q hq => (row_lt (unhide hO).row q hq).2
        have hg3 := hide (show wr.heap.size < g by have := unhide s2; omega)
        have zos : Hid (∀ x ∈ ps, x.1 < wr.heap.size) := fun x hx => (row_lt ((unhide hO).os x hx).1 x.1 rfl).2
        have hpl := hide (show ps.length = k by have := congrArg List.length (unhide hps); rw [List.length_map, List.length_take] at this; omega)
        clear c0 c1 c2 c3 c4 c5 fz HB3 O3 K3 hO hB k2 hb4 far4 hW4 z3
        have N5 : Hid (SV (W4.alloc (.cells #[.slice (some ⟨g, 0, none⟩) r.errs.length cg, .bool r.b1, .bool r.b2, .bool r.b3, .slice r.oa r.n r.c, .string r.next] 37)) (.slice (some ⟨W4.heap.size, 0, none⟩) 1 1) 1 6 (cel (g, cg, r))) := sv_cells (heap_alloc_new W4 _) 1 6 rfl (by unfold maxLen; decide)
        have al5 := hide ((Below.refl W4.heap.size W4).alloc (Nat.le_refl _) (.cells #[.slice (some ⟨g, 0, none⟩) r.errs.length cg, .bool r.b1, .bool r.b2, .bool r.b3, .slice r.oa r.n r.c, .string r.next] 37))
        have Q5 := hide ((unhide Q4).keep (unhide al5) (Nat.le_refl _))
        have P5 : Hid (OS _ w.heap.size (.slice (some ⟨g, 0, none⟩) (r.errs.length + 2) cg) (r.errs ++ [hash, hash])) := row_below (unhide P4) (unhide al5) (Nat.le_refl _)
        have B5 := hide ((unhide B4).trans ((unhide al5).mono (unhide B4).size))
        have L5 : Hid (∀ u ∈ cel (g, cg, r), u.oneCell' = true) := fun u hu => by
          simp only [cel, List.mem_cons, List.not_mem_nil, or_false] at hu
          rcases hu with rfl | rfl | rfl | rfl | rfl | rfl <;> rfl
        have R5 := hide (unhide Q5).row
        rw [unhide hpl] at R5
        have s5 : Hid (W4.heap.size = w3.heap.size) := hs4
        have zg := hide (show g < W4.heap.size from (row_lt (unhide P4) g rfl).2)
        have zz := hide (show wr.heap.size ≤ W4.heap.size from (unhide K4).size)
        clear Q4 P4 B4 K4
        go_wp2_with (at_builtin; refine wpList_append_sv2 (P := Tryd.prog) rfl _ _ 31 rfl w.heap.size 37 _ 6 72 ?g0 infoC rfl (by decide) _ _ k 1 (ps.flatMap cel) (cel (g, cg, r)) rfl rfl (unhide R5) (unhide N5) (unhide L5) ?g2 ?g3 (unhide B5).size ?_)
        case g0 => exact Tryd.underlying31
        case g2 => unfold maxLen; omega
        try case g3 => omega
        intro v6 w6 A6
        have B6 := hide (row_bl (unhide R5) A6.grow (unhide B5) (Nat.le_refl _) (unhide B5).size)
        have HO : Hid (OwnC w6 w.heap.size v6 (ps ++ [(g, cg, r)])) := by
          have nb : ∀ q, q < wr.heap.size + 1 ∨ q = g → u6.ownBlock ≠ some q → v6.ownBlock ≠ some q := fun q hq hn e => by
            rcases A6.blk with e2 | e2
            · exact hn (e2 ▸ e)
            · have := e2 q e; rw [World.size_alloc] at this; have := unhide zg; have := unhide zz; omega
          refine ⟨?_, fun x hx => ?_⟩
          · rw [List.length_append, unhide hpl, List.flatMap_append]
            have := A6.row
            rwa [show (List.flatMap cel [(g, cg, r)]) = cel (g, cg, r) from by simp]
          · rcases List.mem_append.mp hx with hx | hx
            · obtain ⟨q1, q2, q3⟩ := (unhide Q5).os x hx
              exact ⟨row_far q1 A6.grow (fun k hk e => q2 (by cases hk; exact e)), nb x.1 (Or.inl (by have := unhide zos x hx; omega)) q2, q3⟩
            · obtain rfl := List.mem_singleton.mp hx
              have q2 : u6.ownBlock ≠ some g := fun e => by have := unhide zov g e; have := unhide hg3; omega
              exact ⟨row_far (unhide P5) A6.grow (fun k hk e => q2 (by cases hk; exact e)), nb g (Or.inr rfl) q2, hg2⟩
        have HPS : Hid ((ps ++ [(g, cg, r)]).map (·.2.2) = l.take (k + 1)) := by
          show _ = _
          rw [List.map_append, unhide hps, List.take_add_one, unhide HRR]
          rfl
        have e2 := unhide E2
        clear A6 Q5 P5 R5 N5 L5 B5 al5 zg zz zov zos hpl hps HRR hg3 s5 hs4 s2 d0 d1 d2 d3 d4 d5 hg1 hg2 E2
        go_wp2
        exact ⟨⟨k + 1, ps ++ [(g, cg, r)], by omega, by go_num, HPS, HO, B6⟩, by simp [intOf]; omega⟩
      · obtain rfl : k = l.length := by omega
        have hps' := hide (show ps.map (·.2.2) = l by rw [unhide hps, List.take_length])
        have CLo : Hid (CL wr u6 l) := by have := (unhide hO).cl; rw [unhide hps'] at this; exact this
        obtain ⟨oo, co, hov, _, _⟩ := (unhide CLo).form
        subst hov
        have C3 := hide ((unhide HK).catch_ l name _ wr ((unhide HK).keep _ _ (unhide HG) (unhide hB)) (unhide CLo) (by omega))
        have e3 : decide ((l.length : Int) < (l.length : Int)) = false := decide_eq_false (by omega)
        clear hps CLo
        generalize hcat : cat l name = ct at *
        have HCT := hide hcat
        clear hcat
        go_wp2_with fail
        refine (unhide C3).mono ?_
        rintro e w4 ⟨rfl, b4⟩
        have B4 := hide ((unhide hB).trans (b4.mono (unhide hB).size))
        have Q4 := hide ((unhide hO).keep b4 (Nat.le_refl _))
        clear C3 b4 hO hB
        have C4 := hide (rcatch_any l name _ w4 ((unhide H).keep (unhide B4)))
        rw [unhide HCT] at C4
        go_wp2_with fail
        refine (unhide C4).mono ?_
        rintro e w5 ⟨rfl, hw⟩
        obtain rfl := hw.symm
        clear C4
        obtain ⟨cp, cb⟩ := ct
        go_wp2
        go_loopw [13, 14] (fun iv _ wr => ∃ k : Nat, k ≤ l.length ∧ iv = .int .i64 (k : Int) ∧ Hid (∃ n, wr = w4.drewN n)) (fun iv _ _ => l.length - (intOf iv).toNat)
        case atStart => exact ⟨0, by omega, rfl, 0, rfl⟩
        case round =>
          obtain ⟨k, hk, rfl, hW⟩ := hrel
          by_cases hc2 : k < l.length
          · have e1 : (k : Int) < (l.length : Int) := by omega
            have E2 := hide (show (k : Int) < 9223372036854775807 by unfold maxLen at h2; omega)
            obtain ⟨a, c', e, _, _, hcell⟩ := ((unhide H).keep (unhide B4)).at (by omega)
            cases e
            obtain ⟨a2, c2', e, _, _, hcell2⟩ := ((unhide Q4).cl).at (by rw [unhide hps']; omega)
            rw [unhide hps'] at e hcell2
            cases e
            obtain ⟨r, hr⟩ : ∃ r, l[k]? = some r := ⟨l[k], List.getElem?_eq_getElem hc2⟩
            obtain ⟨x, hx, hxr⟩ : ∃ x, ps[k]? = some x ∧ x.2.2 = r := by
              have := congrArg (fun q => q[k]?) (unhide hps')
              simp only [List.getElem?_map, hr] at this
              cases hq : ps[k]? with
              | none => rw [hq] at this; cases this
              | some x => rw [hq] at this; exact ⟨x, rfl, by simpa using this⟩
            have d1 := (unhide Q4).nth k x hx
            obtain ⟨o1, o2, o3⟩ := (unhide Q4).os x (List.mem_of_getElem? hx)
            obtain ⟨g, cg, r'⟩ := x
            simp only at hxr d1 o1 o2 o3
            subst hxr
            obtain ⟨ev, hev, hss⟩ := (hcell k r' hr).c0
            obtain ⟨oe, ce, rfl⟩ : ∃ oe ce, ev = .slice oe r'.errs.length ce := by
              obtain ⟨oe, ce, e, _⟩ := SV.form hss
              exact ⟨oe, ce, e⟩
            have C : ∀ n, Hid (Calls Tryd.prog 11 #[.slice (some ⟨g, 0, none⟩) r'.errs.length cg, .slice oe r'.errs.length ce] (wr.drewN n) fun e w' => e = .returned (.bool true) ∧ ∃ m, w' = (wr.drewN n).drewN m) := fun n => by
              obtain ⟨m, hm⟩ := unhide hW
              rw [hm]
              exact kept_any r'.errs g cg _ ((w4.drewN m).drewN n) (row_mono o1 (Nat.zero_le _)) (SV.drewN (SV.drewN hss m) n) o3
            have d1' : wr.cell? (a2.add (k * 6)) = some (.slice (some ⟨g, 0, none⟩) r'.errs.length cg) := by obtain ⟨m, hm⟩ := unhide hW; rw [hm]; exact d1
            have d2' : wr.cell? (a.add (k * 6)) = some (.slice oe r'.errs.length ce) := by obtain ⟨m, hm⟩ := unhide hW; rw [hm]; exact hev
            clear hcell hcell2 hr hx d1 o1 o2 o3 hev hss hps' Q4 h2
            go_wp2
            go_quiet ((go_at_call 11; exact Calls.quiet_of (unhide (C _))))
            have e2 := unhide E2
            clear C
            go_wp2
            refine ⟨⟨k + 1, by omega, by go_num, ?_⟩, by simp [intOf]; omega⟩
            obtain ⟨m, hm⟩ := unhide hW
            exact ⟨m + nq, by rw [hm, World.drewN_drewN]⟩
          · obtain rfl : k = l.length := by omega
            have B5 : Hid (Below w.heap.size w wr) := by
              obtain ⟨m, hm⟩ := unhide hW
              rw [hm]; exact (unhide B4).trans (mm.below_drewN _ _ _)
            have hcc : (cp == cp) = true := by simp
            have hbb : (cb == cb) = true := by simp
            clear Q4 B4 hW hps'
            go_wp2
            go_ret
            exact ⟨rfl, unhide B5⟩
end Go.Proofs.YtmnikcnjdeldeaaDoor.rt
