/- FrameScans, over the calls' contracts. -/
import Derived.Test.YtgafjbgplcjnnaaDoorGw
namespace Go.Proofs.YtgafjbgplcjnnaaDoor.fr
open Go.RowKit Go.Joins

/-- append of all elements of a row. -/
theorem wpList_append_els {w : World} {ops : Array Oper} {rest : List Oper} {o : Oper} {a : Act} {Q : Exit → Act → World → Prop} (hgd : o.guard = none) (s y : Operand)
    (ho : o.op = .call { callee := .builtin .append, args := #[s, y], argTypes := #[36, 36] })
    (B B' : Nat) (v u : Value) (n k : Nat) (xs ys : List Value) (ev : a.eval s = v) (evs : a.eval y = u) (h : w.ownsRow B 22 1 v n xs) (hu : w.ownsRow B' 22 1 u k ys) (h1 : ∀ z ∈ ys, z.oneCell' = true) (hsz : (n + k) * 24 ≤ 140737488355328) (hB : B ≤ w.heap.size)
    (hq : ∀ v' w', w'.ownsRow B 22 1 v' (n + k) (xs ++ ys) → w.grownBy w' v.ownBlock → (v'.ownBlock = v.ownBlock ∨ v'.ownBlock = some w.heap.size) → wpList Tryd.prog ops Q rest (a.put o.dst v') w') : wpList Tryd.prog ops Q (o :: rest) a w := by
  refine wpList_plain hgd fun K hK => ?_
  obtain ⟨i0, hi, hz0, hz1, hz2⟩ := info_parts infoS
  have main : ∃ v' w', (Builtin.append_ #[36, 36] o.type #[v, u]).run Tryd.prog w = .ok v' w' ∧ w'.ownsRow B 22 1 v' (n + k) (xs ++ ys) ∧ w.grownBy w' v.ownBlock ∧ (v'.ownBlock = v.ownBlock ∨ v'.ownBlock = some w.heap.size) := by
    obtain ⟨hl, ⟨rfl, h0⟩ | ⟨g, cap, cur, rfl, hb, hg, hc, hm, hs, ht⟩⟩ := hu
    · subst h0
      have hx0 : ys = [] := List.eq_nil_of_length_eq_zero (by simpa using hl)
      subst hx0
      have := run_append_owned_none (P := Tryd.prog) (w := w) B 36 o.type 22 i0 1 Tryd.underlying36 hi v n xs h
      exact ⟨v, w, this, by simpa using h, World.grownBy.refl _ _, Or.inl rfl⟩
    · obtain ⟨v', w', hr, g1, g2, _, g4⟩ := run_append_own_at (P := Tryd.prog) w B 36 o.type 22 i0 (.slice none 0 0) 1 24 Tryd.underlying36 hi hz0 hz1 hz2 rfl (by decide) v n xs h ⟨g, 0, none⟩ k cap ys hl
        (fun j z hz => by
          rw [add0, blk_cell hg]
          have : (cur.toList.take (k * 1))[j]? = ys[j]? := by rw [ht]
          rw [List.getElem?_take, if_pos (by have := (List.getElem?_eq_some_iff.mp hz).1; omega), hz] at this
          simpa using this)
        h1 (by unfold maxLen; omega) (by omega) hB
      exact ⟨v', w', hr, g1, g2, g4⟩
  obtain ⟨v', w', hr, g1, g2, g3⟩ := main
  unfold Oper.wp execOp
  simp only [ho, resolve, invoke, builtin, Sem.run_bind, Sem.run_pure, Result.andThen_ok, List.map_toArray, List.map_cons, List.map_nil, ev, evs, hr]
  exact hK _ _ (hq v' w' g1 g2 g3)

theorem OBB.far {w w' : World} {B : Nat} {v : Value} {ls : List (List UInt8)} (h : OBB w B v ls) (hb : ∀ q, B ≤ q → q < w.heap.size → w'.heap[q]? = w.heap[q]?) : OBB w' B v ls := by
  obtain ⟨vs, h1, h2, h3, h4, h5⟩ := h
  exact ⟨vs, h1, row_keep h2 (fun q hq => hb q (row_lt h2 q hq).1 (row_lt h2 q hq).2), fun j x l hx hl => row_keep (h3 j x l hx hl) (fun q hq => hb q ((h3 j x l hx hl).ge q hq) ((h3 j x l hx hl).lt q hq)), h4, h5⟩
theorem OBB.mono {w : World} {B B' : Nat} {v : Value} {ls : List (List UInt8)} (h : OBB w B v ls) (hB : B' ≤ B) : OBB w B' v ls := by
  obtain ⟨vs, h1, h2, h3, h4, h5⟩ := h
  exact ⟨vs, h1, ownsRow_le h2 hB, fun j x l hx hl => (h3 j x l hx hl).mono hB, h4, h5⟩

/-- Two lists of rows, made one behind the other, side by side: what apart and outer ask. -/
structure TWO (w : World) (B : Nat) (lv mv : Value) (L : List (List UInt8)) (vl vm : List Value) : Prop where
  l1 : vl.length = L.length
  m1 : vm.length = L.length
  lr : w.ownsRow B 22 1 lv L.length vl
  mr : w.ownsRow B 22 1 mv L.length vm
  lo : ∀ (j : Nat) (x : Value) (l : List UInt8), vl[j]? = some x → L[j]? = some l → OB w B x l
  mo : ∀ (j : Nat) (x : Value) (l : List UInt8), vm[j]? = some x → L[j]? = some l → OB w B x l
  ld : DS vl
  md : DS vm
  cr : ∃ F, (∀ (j : Nat) (x : Value) (k : Nat), vl[j]? = some x → x.ownBlock = some k → k < F) ∧ (∀ (j : Nat) (x : Value) (k : Nat), vm[j]? = some x → x.ownBlock = some k → F ≤ k) ∧ (∀ k, lv.ownBlock = some k → k < F) ∧ (∀ k, mv.ownBlock = some k → F ≤ k)
  ls : ∀ (j : Nat) (x : Value) (k : Nat), vl[j]? = some x → x.ownBlock = some k → lv.ownBlock ≠ some k
  ms : ∀ (j : Nat) (x : Value) (k : Nat), vm[j]? = some x → x.ownBlock = some k → mv.ownBlock ≠ some k
theorem two_of {wl wm w : World} {B Bl Bm : Nat} {lv mv : Value} {L : List (List UInt8)} (hl : OBB wl Bl lv L) (hm : OBB wm Bm mv L) (hB1 : B ≤ Bl) (hB2 : B ≤ Bm) (hlm : wl.heap.size ≤ Bm)
    (kl : ∀ q, Bl ≤ q → q < wl.heap.size → w.heap[q]? = wl.heap[q]?) (km : ∀ q, Bm ≤ q → q < wm.heap.size → w.heap[q]? = wm.heap[q]?) : ∃ vl vm, TWO w B lv mv L vl vm := by
  obtain ⟨vl, a1, a2, a3, a4, a5⟩ := hl
  obtain ⟨vm, b1, b2, b3, b4, b5⟩ := hm
  have lt1 : ∀ (j : Nat) (x : Value) (k : Nat), vl[j]? = some x → x.ownBlock = some k → k < Bm := fun j x k hx hk => by
    obtain ⟨l, hl⟩ := getl a1 hx
    have := (a3 j x l hx hl).lt k hk; omega
  have ge1 : ∀ (j : Nat) (x : Value) (k : Nat), vm[j]? = some x → x.ownBlock = some k → Bm ≤ k := fun j x k hx hk => by
    obtain ⟨l, hl⟩ := getl b1 hx
    exact (b3 j x l hx hl).ge k hk
  refine ⟨vl, vm, a1, b1, ?_, ?_, ?_, ?_, a5, b5, ⟨Bm, lt1, ge1, fun k hk => by have := (row_lt a2 k hk).2; omega, fun k hk => (row_lt b2 k hk).1⟩, a4, b4⟩
  · exact ownsRow_le (row_keep a2 (fun q hq => kl q (row_lt a2 q hq).1 (row_lt a2 q hq).2)) hB1
  · exact ownsRow_le (row_keep b2 (fun q hq => km q (row_lt b2 q hq).1 (row_lt b2 q hq).2)) hB2
  · exact fun j x l hx hl => OB.mono (row_keep (a3 j x l hx hl) (fun q hq => kl q ((a3 j x l hx hl).ge q hq) ((a3 j x l hx hl).lt q hq))) hB1
  · exact fun j x l hx hl => OB.mono (row_keep (b3 j x l hx hl) (fun q hq => km q ((b3 j x l hx hl).ge q hq) ((b3 j x l hx hl).lt q hq))) hB2

theorem scan_small : ∀ (n : Nat) (l : List UInt8), l.length ≤ n → (scan l).1.length * 12 ≤ l.length ∧ ∀ p ∈ (scan l).1, p.length ≤ l.length
  | 0, l, h => by
    have h0 : whole l = 0 := by have := whole_le l; omega
    rw [scan_none l h0]; simp
  | n + 1, l, h => by
    rw [scan_step]
    split
    · simp
    · rename_i hw
      have h1 := whole_ge l hw
      have h2 := whole_le l
      have hd : (l.drop (whole l)).length = l.length - whole l := List.length_drop
      obtain ⟨i1, i2⟩ := scan_small n (l.drop (whole l)) (by omega)
      refine ⟨by rw [List.length_cons]; omega, fun p hp => ?_⟩
      rcases List.mem_cons.mp hp with rfl | hp
      · rw [List.length_take, List.length_drop]; omega
      · have := i2 p hp; omega
theorem TWO.drewN {w : World} {B : Nat} {lv mv : Value} {L : List (List UInt8)} {vl vm : List Value} (h : TWO w B lv mv L vl vm) (n : Nat) : TWO (w.drewN n) B lv mv L vl vm :=
  ⟨h.l1, h.m1, h.lr, h.mr, h.lo, h.mo, h.ld, h.md, h.cr, h.ls, h.ms⟩
theorem TWO.keep {w w' : World} {B : Nat} {lv mv : Value} {L : List (List UInt8)} {vl vm : List Value} (h : TWO w B lv mv L vl vm) (hb : Below w.heap.size w w') : TWO w' B lv mv L vl vm :=
  ⟨h.l1, h.m1, row_keep h.lr (fun q hq => hb.block q (row_lt h.lr q hq).2), row_keep h.mr (fun q hq => hb.block q (row_lt h.mr q hq).2), fun j x l hx hl => (h.lo j x l hx hl).keep hb (h.lo j x l hx hl).lt, fun j x l hx hl => (h.mo j x l hx hl).keep hb (h.mo j x l hx hl).lt, h.ld, h.md, h.cr, h.ls, h.ms⟩
theorem slice1 {w : World} {B : Nat} {vl : List Value} {L : List (List UInt8)} (h1 : vl.length = L.length) (h : ∀ (j : Nat) (x : Value) (l : List UInt8), vl[j]? = some x → L[j]? = some l → OB w B x l) : ∀ z ∈ vl, z.oneCell' = true := fun z hz => by
  obtain ⟨j, hj⟩ := List.mem_iff_getElem?.mp hz
  obtain ⟨l, hl⟩ := getl h1 hj
  obtain ⟨oa, c, rfl⟩ := (h j z l hj hl).form
  rfl
/-- Side by side they are apart. -/
theorem TWO.apart {w w2 : World} {B : Nat} {lv mv v : Value} {L : List (List UInt8)} {vl vm : List Value} (h : TWO w B lv mv L vl vm) (hv : w2.ownsRow B 22 1 v (L.length + L.length) (vl ++ vm)) (hb : Below w.heap.size w w2) (hn : ∀ q, v.ownBlock = some q → w.heap.size ≤ q) :
    ∃ oa c, v = .slice oa (L ++ L).length c ∧ (vl ++ vm).length = (L ++ L).length ∧ (oa = none → L ++ L = []) ∧ RF w2 B (vl ++ vm) (L ++ L) (fun _ l => l) ∧ DS (vl ++ vm) ∧ HD w2 oa (vl ++ vm) ∧ AW oa (vl ++ vm) := by
  have hl1 := h.l1
  have hm1 := h.m1
  have cs : ∀ (j : Nat) (x : Value), (vl ++ vm)[j]? = some x → (j < L.length ∧ vl[j]? = some x) ∨ (L.length ≤ j ∧ vm[j - L.length]? = some x) := fun j x hx => by
    rcases Nat.lt_or_ge j vl.length with q | q
    · rw [List.getElem?_append_left q] at hx; exact Or.inl ⟨by omega, hx⟩
    · rw [List.getElem?_append_right q, hl1] at hx; exact Or.inr ⟨by omega, hx⟩
  have lt : ∀ (j : Nat) (x : Value) (k : Nat), (vl ++ vm)[j]? = some x → x.ownBlock = some k → k < w.heap.size := fun j x k hx hk => by
    rcases cs j x hx with ⟨_, a⟩ | ⟨_, a⟩
    · obtain ⟨l, hl⟩ := getl hl1 a
      exact (h.lo j x l a hl).lt k hk
    · obtain ⟨l, hl⟩ := getl hm1 a
      exact (h.mo _ x l a hl).lt k hk
  obtain ⟨F, f1, f2, _, _⟩ := h.cr
  obtain ⟨oa, c, e, hHD, hno⟩ : ∃ oa c, v = .slice oa (L.length + L.length) c ∧ HD w2 oa (vl ++ vm) ∧ (oa = none → L.length + L.length = 0) := by
    obtain ⟨_, ⟨e, h0⟩ | ⟨g, cap, cur, e, _, hg, hc, _, _, ht⟩⟩ := hv
    · exact ⟨none, 0, by rw [e, h0], (fun a ha => by cases ha), fun _ => h0⟩
    · refine ⟨some ⟨g, 0, none⟩, cap, e, fun a ha j u hu => ?_, fun q => by cases q⟩
      cases ha
      rw [add0, blk_cell hg]
      have : (cur.toList.take ((L.length + L.length) * 1))[j]? = (vl ++ vm)[j]? := by rw [ht]
      rw [List.getElem?_take, if_pos (by have := (List.getElem?_eq_some_iff.mp hu).1; rw [List.length_append] at this; omega), hu] at this
      simpa using this
  refine ⟨oa, c, by rw [e, List.length_append], by simp [hl1, hm1], fun q => by have := hno q; exact List.eq_nil_of_length_eq_zero (by rw [List.length_append]; exact this), fun j x l hx hl => ?_, fun i j x y k hij hx hy hxk hyk => ?_, hHD, fun a ha j x k hx hk => ?_⟩
  · rcases cs j x hx with ⟨q, a⟩ | ⟨q, a⟩
    · rw [List.getElem?_append_left q] at hl
      have ob := h.lo j x l a hl
      exact ob.keep hb ob.lt
    · rw [List.getElem?_append_right q] at hl
      have ob := h.mo _ x l a hl
      exact ob.keep hb ob.lt
  · rcases cs i x hx with ⟨q, a⟩ | ⟨q, a⟩ <;> rcases cs j y hy with ⟨r, b⟩ | ⟨r, b⟩
    · exact h.ld i j x y k hij a b hxk hyk
    · have := f1 i x k a hxk; have := f2 _ y k b hyk; omega
    · have := f2 _ x k a hxk; have := f1 j y k b hyk; omega
    · exact h.md _ _ x y k (by omega) a b hxk hyk
  · have h2 : v.ownBlock = some a.block := by rw [e, ha]; rfl
    have := hn _ h2
    have := lt j x k hx hk
    omega

set_option maxRecDepth 100000 in
set_option maxHeartbeats 3200000 in
theorem scans_any {a : Addr} {G : World → Prop} (K : FrameOK a G) (l : List UInt8) (v : Value) (w : World) (hG : G w) (h : BS w v l) :
    Calls Tryd.prog 4 #[v] w fun e w' => e = .returned (.bool true) ∧ Below w.heap.size w w' := by
  have HK := hide K
  have HG := hide hG
  have HB := hide h
  obtain ⟨oa, c, rfl, h1, h2, _⟩ := h
  clear K hG
  by_cases hlong : 134217728 ≤ l.length
  · have hl' : decide ((134217728 : Int) ≤ (l.length : Int)) = true := decide_eq_true (by omega)
    go_enter Tryd.func4, Tryd.ntmps4
    go_wp2
    go_ret
    exact ⟨rfl, Below.refl _ _⟩
  · have hl' : decide ((134217728 : Int) ≤ (l.length : Int)) = false := decide_eq_false (by omega)
    have C1 := hide (awake_any (unhide HK) w (unhide HG))
    have hLL : (scan l).1.length ≤ 134217728 ∧ ∀ p ∈ (scan l).1, p.length ≤ 134217728 := by
      obtain ⟨q1, q2⟩ := scan_small l.length l (Nat.le_refl _)
      exact ⟨by omega, fun p hp => by have := q2 p hp; omega⟩
    generalize hLs : (scan l).1 = L at hLL
    generalize hAt : (scan l).2 = at_
    go_enter Tryd.func4, Tryd.ntmps4
    go_wp2_with fail
    refine (unhide C1).mono ?_
    rintro e w1 ⟨rfl, b1⟩
    have B1 := hide b1
    have C2 := hide (lent_any l _ w1 ((unhide HB).keep b1) (by omega))
    clear C1 b1
    go_wp2_with fail
    refine (unhide C2).mono ?_
    rintro e w2 ⟨inv, rfl, o2, b2⟩
    have B2 := hide ((unhide B1).trans (b2.mono (unhide B1).size))
    have O2 := hide (o2.mono (unhide B1).size)
    have hlm : (l ++ mark).length = l.length + 3 := by simp [mark]
    obtain ⟨gi, ci, hin, hci, hgi, _⟩ := o2.get (by omega)
    rw [hlm] at hin hci
    subst hin
    obtain ⟨vn, sn, bn⟩ := o2.bs.h l.length (by omega) (l.length : Int) rfl
    rw [List.take_left] at bn
    have hgi2 : gi < w2.heap.size := o2.lt gi rfl
    have BN := hide bn
    clear C2 o2 b2 bn
    have C3 := hide ((unhide HK).scan l vn w2 ((unhide HK).keep _ _ (unhide HG) (unhide B2)) (unhide BN) (by omega))
    rw [hLs, hAt] at C3
    go_wp2_with fail
    refine (unhide C3).mono ?_
    rintro e w3 ⟨rl, rfl, o3, b3⟩
    have K3 := hide b3
    have B3 := hide ((unhide B2).trans (b3.mono (unhide B2).size))
    have O3 := hide o3
    clear C3 o3 b3
    have C4 := hide ((unhide HK).scan l vn w3 ((unhide HK).keep _ _ (unhide HG) (unhide B3)) ((unhide BN).keep (unhide K3)) (by omega))
    rw [hLs, hAt] at C4
    go_wp2_with fail
    refine (unhide C4).mono ?_
    rintro e w4 ⟨rm, rfl, o4, b4⟩
    have K4 := hide ((unhide K3).trans (b4.mono (unhide K3).size))
    have B4 := hide ((unhide B3).trans (b4.mono (unhide B3).size))
    have O4 := hide o4
    have k34 := hide b4
    clear C4 o4 b4
    have C5 := hide (rscan_any l (.slice oa l.length c) w4 ((unhide HB).keep (unhide B4)) (by omega))
    rw [hLs, hAt] at C5
    go_wp2_with fail
    refine (unhide C5).mono ?_
    rintro e w5 ⟨rw_, rfl, o5, b5⟩
    have K5 := hide ((unhide K4).trans (b5.mono (unhide K4).size))
    have B5 := hide ((unhide B4).trans (b5.mono (unhide B4).size))
    have O5 := hide o5
    have k45 := hide b5
    have I5 := hide ((unhide O2).keep (unhide K5) (unhide O2).lt)
    clear C5 o5 b5 hLs hAt
    have C7 := hide (kept_any l (.slice (some ⟨gi, 0, none⟩) (l.length + 3) ci) (.slice oa l.length c) w5 (unhide I5).bs ((unhide HB).keep (unhide B5)) (by omega))
    have s23 := (unhide K3).size
    have s34 := (unhide k34).size
    have s45 := (unhide k45).size
    have s01 := (unhide B1).size
    have s02 := (unhide B2).size
    go_wp2_with fail
    refine (unhide C7).mono ?_
    rintro e w7 ⟨rfl, rfl⟩
    clear C7
    go_wp2
    go_loopw [13] (fun iv wr => ∃ (i : Nat) (L' : List UInt8), i ≤ l.length ∧ iv = .int .i64 (i : Int) ∧ L'.length = l.length + 3 ∧ Hid (OB wr w.heap.size (.slice (some ⟨gi, 0, none⟩) (l.length + 3) ci) L') ∧ Hid (Upd gi w7 wr)) (fun iv _ => l.length - (intOf iv).toNat)
    case atStart => exact ⟨0, l ++ mark, by omega, rfl, hlm, unhide I5, Upd.refl _ _⟩
    case round =>
      obtain ⟨i, L', hi, rfl, hL, hO, hU⟩ := hrel
      by_cases hlt : i < l.length
      · have e1 : (i : Int) < (l.length : Int) := by omega
        have e0 : (0 : Int) ≤ (i : Int) := by omega
        have e3 : (i : Int) < (l.length : Int) + 3 := by omega
        have e4 : i < l.length + 3 := by omega
        obtain ⟨g', c', hv', _, _, hcells⟩ := (unhide hO).get (by omega)
        rw [hL] at hv'
        cases hv'
        obtain ⟨bb, hbb⟩ : ∃ b, L'[i]? = some b := ⟨_, List.getElem?_eq_getElem (by omega)⟩
        have cell := hcells i bb hbb
        have frz := (unhide hO).frz i
        obtain ⟨xx, hxx⟩ := xor1 bb
        have O9 := hide ((unhide hO).set i xx)
        have U9 := hide ((unhide hU).trans (Upd.setCell gi i wr (vb xx)))
        simp only [vb] at O9 U9
        clear hcells hbb hO hU
        go_wp2
        exact ⟨⟨i + 1, L'.set i xx, by omega, by go_num, by rw [List.length_set]; exact hL, O9, U9⟩, by simp [intOf]; omega⟩
      · have e1 : ¬ (i : Int) < (l.length : Int) := by omega
        have B9 := hide ((unhide B5).trans ((unhide hU).below (show w.heap.size ≤ gi by omega)))
        have far : ∀ (q : Nat), gi < q → wr.heap[q]? = w7.heap[q]? := fun q hq => (unhide hU).block q (by omega)
        have W9 := hide ((unhide O5).far (w' := wr) (fun q hq _ => far q (by omega)))
        obtain ⟨vl, vm, two⟩ := two_of (w := wr) (B := w.heap.size) (unhide O3) (unhide O4) (by omega) (by omega) (Nat.le_refl _)
          (fun q h1' h2' => (far q (by omega)).trans ((unhide k45).block q (by omega) |>.trans ((unhide k34).block q h2')))
          (fun q h1' h2' => (far q (by omega)).trans ((unhide k45).block q h2'))
        have T9 := hide two
        have Ll := hide ((unhide O3).far (w' := wr) (fun q h1' h2' => (far q (by omega)).trans ((unhide k45).block q (by omega) |>.trans ((unhide k34).block q h2'))))
        have Lm := hide ((unhide O4).far (w' := wr) (fun q h1' h2' => (far q (by omega)).trans ((unhide k45).block q h2')))
        have C10 := hide (same_any L L rl rw_ wr (unhide Ll).ls (unhide W9).ls)
        rw [decide_eq_true rfl] at C10
        clear two far hO hU I5 K3 K4 K5 B2 B3 B4 B5 O3 O4 O5 k34 k45 Ll
        go_wp2_with fail
        refine (unhide C10).mono ?_
        rintro e w10 ⟨rfl, m10, hw10⟩
        have C11 := hide (same_any L L rm rw_ w10 (by rw [hw10]; exact (unhide Lm).ls) (by rw [hw10]; exact (unhide W9).ls))
        rw [decide_eq_true rfl] at C11
        have B10 : Hid (Below w.heap.size w w10) := by rw [hw10]; exact (unhide B9).trans (below_drewN _ _ _)
        have T10 : Hid (TWO w10 w.heap.size rl rm L vl vm) := by rw [hw10]; exact (unhide T9).drewN _
        clear C10 hw10 T9 B9 Lm W9
        go_wp2_with fail
        refine (unhide C11).mono ?_
        rintro e w11 ⟨rfl, m11, hw11⟩
        have B11 : Hid (Below w.heap.size w w11) := by rw [hw11]; exact (unhide B10).trans (below_drewN _ _ _)
        have T11 : Hid (TWO w11 w.heap.size rl rm L vl vm) := by rw [hw11]; exact (unhide T10).drewN _
        have hne : ((at_ : Int) != (at_ : Int)) = false := by simp
        clear C11 hw11 T10 B10
        have N0 : Hid (w11.ownsRow w.heap.size 22 1 (.slice none 0 0) 0 []) := World.ownsRow_nil _ _ _ _
        go_wp2_with (at_builtin; refine wpList_append_els rfl _ _ rfl w.heap.size w.heap.size (.slice none 0 0) rl 0 L.length [] vl rfl rfl (unhide N0) (unhide T11).lr (slice1 (unhide T11).l1 (unhide T11).lo) ?a1 (unhide B11).size ?_)
        case a1 => omega
        intro v12 w12 r12 g12 d12
        have k12 : Hid (Below w11.heap.size w11 w12) := (Below.refl _ _).grown g12 (Nat.le_refl _) (fun q hq => by cases hq)
        have B12 := hide ((unhide B11).trans ((unhide k12).mono (unhide B11).size))
        have T12 := hide ((unhide T11).keep (unhide k12))
        have R12 := hide r12
        have D12 : Hid (∀ q, v12.ownBlock = some q → w11.heap.size ≤ q) := fun q hq => by
          rcases d12 with d | d
          · rw [d] at hq; cases hq
          · rw [d] at hq; cases hq; exact Nat.le_refl _
        clear r12 g12 d12 N0
        go_wp2_with (at_builtin; refine wpList_append_els rfl _ _ rfl w.heap.size w.heap.size v12 rm L.length L.length vl vm rfl rfl (unhide R12) (unhide T12).mr (slice1 (unhide T12).m1 (unhide T12).mo) ?a1 (unhide B12).size ?_)
        case a1 => omega
        intro v13 w13 r13 g13 d13
        have k13 : Hid (Below w11.heap.size w11 w13) := (unhide k12).grown g13 (unhide k12).size (unhide D12)
        have B13 := hide ((unhide B11).trans ((unhide k13).mono (unhide B11).size))
        have T13 := hide ((unhide T11).keep (unhide k13))
        obtain ⟨o13, c13, e13, x1, x2, x3, x4, x5, x6⟩ := (unhide T11).apart r13 (unhide k13) (fun q hq => by
          rcases d13 with d | d
          · rw [d] at hq; exact unhide D12 q hq
          · rw [d] at hq; cases hq; exact (unhide k12).size)
        have C14 := hide (apart_any (L ++ L) (vl ++ vm) o13 c13 w.heap.size w13 x1 x2 x3 x4 x5 x6 (unhide B13).size (by rw [List.length_append]; omega) (fun y hy => by
          have : y ∈ L := by rcases List.mem_append.mp hy with q | q <;> exact q
          have := hLL.2 y this; omega))
        rw [List.length_append] at C14 e13
        subst e13
        clear r13 g13 d13 x1 x2 x3 x4 x5 x6 k12 k13 R12 D12 T12 B12 T11 B11
        go_wp2_with fail
        refine (unhide C14).mono ?_
        rintro e w14 ⟨rfl, b14, ot⟩
        obtain ⟨F, f1', f2', f3', f4'⟩ := (unhide T13).cr
        have hl1 := (unhide T13).l1
        have cs : ∀ (j : Nat) (x : Value), (vl ++ vm)[j]? = some x → vl[j]? = some x ∨ ∃ j', vm[j']? = some x := fun j x hx => by
          rcases Nat.lt_or_ge j vl.length with q | q
          · rw [List.getElem?_append_left q] at hx; exact Or.inl hx
          · rw [List.getElem?_append_right q] at hx; exact Or.inr ⟨_, hx⟩
        have RL := row_keep (w' := w14) (unhide T13).lr (fun q hq => ot q (row_lt (unhide T13).lr q hq).2 (fun j x hx hk => by
          rcases cs j x hx with z | ⟨j', z⟩
          · exact (unhide T13).ls j x q z hk hq
          · have := f2' j' x q z hk; have := f3' q hq; omega))
        have RM := row_keep (w' := w14) (unhide T13).mr (fun q hq => ot q (row_lt (unhide T13).mr q hq).2 (fun j x hx hk => by
          rcases cs j x hx with z | ⟨j', z⟩
          · have := f1' j x q z hk; have := f4' q hq; omega
          · exact (unhide T13).ms j' x q z hk hq))
        have B14 := hide ((unhide B13).trans b14)
        have C15 := hide (outer_any L.length L.length rl rm vl vm w.heap.size w14 RL RM (fun q hq z => by have := f3' q hq; have := f4' q z; omega) (unhide B14).size (by omega) (by omega))
        clear RL RM cs f1' f2' f3' f4' ot b14 C14 T13 B13
        go_wp2_with fail
        refine (unhide C15).mono ?_
        rintro e w15 ⟨rfl, b15⟩
        have B15 := hide ((unhide B14).trans b15)
        clear C15 b15
        go_wp2
        go_ret
        exact ⟨rfl, unhide B15⟩

end Go.Proofs.YtgafjbgplcjnnaaDoor.fr
