/- Several texts in one. -/
import Derived.Test.YtmnikcnjdeldeaaDoorMrG
import Derived.ArgAppend
import Derived.OwnWalk
import Derived.Test.YtmnikcnjdeldeaaDoorXdG
/- append to a row of the call's own: what it leaves of the row that was there. -/
namespace Go.Proofs.YtmnikcnjdeldeaaDoor.mm
open Go.RowKit

/-- What an append leaves: the longer row; the row that was there reads as it did; what lies elsewhere stays; the longer row lies in the old one's block or in a new one. -/
structure Apd (w w' : World) (B e s : Nat) (v v' : Value) (n m : Nat) (xs news : List Value) : Prop where
  row : w'.ownsRow B e s v' (n + m) (xs ++ news)
  old : w'.ownsRow B e s v n xs
  grow : w.grownBy w' v.ownBlock
  blk : v'.ownBlock = v.ownBlock ∨ (∀ q, v'.ownBlock = some q → w.heap.size ≤ q)
theorem grown_any {w w' : World} (h : w.grownBy w' none) (r : Option Nat) : w.grownBy w' r := ⟨h.os, h.tape, h.output, h.size, fun k hk _ => h.block k hk (by simp)⟩

section
variable {P : Program}
theorem run_append_sv2 (w : World) (B t ty e : Nat) (z : Value) (s bytes : Nat) (ht : P.underlying t = some (.slice e)) (hinf : (P.info? e).map (fun i => (i.zero, i.size, i.bytes)) = some (some z, s, bytes)) (hzs : z.cells.size = s) (hsz : 0 < s)
    (v vs : Value) (n m : Nat) (xs news : List Value) (ho : w.ownsRow B e s v n xs) (hs : SV w vs m s news) (h1 : ∀ u ∈ news, u.oneCell' = true) (h63 : n + m ≤ maxLen) (hby : (n + m) * bytes ≤ 140737488355328) (hB : B ≤ w.heap.size) :
    ∃ v' w', (Builtin.append_ #[t, t] ty #[v, vs]).run P w = .ok v' w' ∧ Apd w w' B e s v v' n m xs news := by
  obtain ⟨i0, hi, hz0, hz1, hz2⟩ := info_parts hinf
  obtain ⟨hl, oa, c, rfl, g1, g2, g3, g4⟩ := hs
  cases oa with
  | none =>
    obtain ⟨rfl, rfl⟩ := g3 rfl
    have hn : news = [] := List.eq_nil_of_length_eq_zero (by omega)
    subst hn
    have := run_append_owned_none (P := P) (w := w) B t ty e i0 s ht hi v n xs ho
    exact ⟨v, w, this, by simpa using ho, ho, World.grownBy.refl _ _, Or.inl rfl⟩
  | some ad =>
    have ho0 := ho
    obtain ⟨hlx, ⟨rfl, h0⟩ | ⟨g, cap, cur, rfl, hb, hg, hc, hm, hsz', ht'⟩⟩ := ho
    · subst h0
      have hx : xs = [] := List.eq_nil_of_length_eq_zero (by omega)
      subst hx
      obtain ⟨v', w', hr, r1, r2, _⟩ := run_append_own (P := P) w w.heap.size t ty e i0 z s bytes ht hi hz0 hz1 hz2 hzs hsz (.slice none 0 0) 0 [] (World.ownsRow_nil w _ _ _) ad m c news hl (g4 ad rfl) h1 h63 hby (Nat.le_refl _)
      exact ⟨v', w', hr, row_mono r1 hB, World.ownsRow_nil _ _ _ _, r2, Or.inr fun q hq => (row_lt r1 q hq).1⟩
    · by_cases hroom : n + m ≤ cap
      · obtain ⟨w', hr, r1, r2⟩ := run_append_fits (P := P) w B t ty e i0 s ht hi hz1 g n cap xs ho0 ad m c news hl (g4 ad rfl) h1 hroom
        refine ⟨_, w', hr, r1, ?_, r2, Or.inl rfl⟩
        have := row_take r1 n (by omega)
        rwa [List.take_append_of_le_length (by omega), List.take_of_length_le (by omega)] at this
      · have hsv := own_sv ho0
        obtain ⟨_, oa, c', e', _, _, _, q4⟩ := hsv
        cases e'
        obtain ⟨v', w', hr, r1, r2⟩ := run_append_arg_grows (P := P) w t ty e i0 z s bytes ht hi hz0 hz1 hz2 hzs hsz ⟨g, 0, none⟩ n cap xs hlx (q4 _ rfl) ad m c news hl (g4 ad rfl) (by omega) h63 hby
        exact ⟨v', w', hr, row_mono r1 hB, row_keep ho0 (fun k hk => r2.block k (row_lt ho0 k hk).2 (by simp)), grown_any r2 _, Or.inr fun q hq => (row_lt r1 q hq).1⟩

theorem wpList_append_sv2 {w : World} {ops : Array Oper} {rest : List Oper} {o : Oper} {a : Act} {Q : Exit → Act → World → Prop} (hgd : o.guard = none) (x y : Operand) (t : TypeId)
    (ho : o.op = .call { callee := .builtin .append, args := #[x, y], argTypes := #[t, t] })
    (B e : Nat) (z : Value) (s bytes : Nat) (ht : P.underlying t = some (.slice e)) (hinf : (P.info? e).map (fun i => (i.zero, i.size, i.bytes)) = some (some z, s, bytes)) (hzs : z.cells.size = s) (hsz : 0 < s)
    (v vs : Value) (n m : Nat) (xs news : List Value) (ev : a.eval x = v) (evs : a.eval y = vs) (hv : w.ownsRow B e s v n xs) (hs : SV w vs m s news) (h1 : ∀ u ∈ news, u.oneCell' = true) (h63 : n + m ≤ maxLen) (hby : (n + m) * bytes ≤ 140737488355328) (hB : B ≤ w.heap.size)
    (h : ∀ v' w', Apd w w' B e s v v' n m xs news → wpList P ops Q rest (a.put o.dst v') w') : wpList P ops Q (o :: rest) a w := by
  refine wpList_plain hgd fun K hK => ?_
  obtain ⟨v', w', hr, h2⟩ := run_append_sv2 (P := P) w B t o.type e z s bytes ht hinf hzs hsz v vs n m xs news hv hs h1 h63 hby hB
  unfold Oper.wp execOp
  simp only [ho, resolve, invoke, builtin, Sem.run_bind, Sem.run_pure, Result.andThen_ok, List.map_toArray, List.map_cons, List.map_nil, ev, evs, hr]
  exact hK _ _ (h v' w' h2)
end
end Go.Proofs.YtmnikcnjdeldeaaDoor.mm

/- RetryCharges, over the calls' contracts. -/
namespace Go.Proofs.YtmnikcnjdeldeaaDoor.rt
open Go.RowKit Go.Joins mm

/-- Where a row's block lies. -/
def Bk (v : Value) (lo hi : Nat) : Prop := ∀ q, v.ownBlock = some q → lo ≤ q ∧ q < hi
theorem OI.bk {w : World} {B : Nat} {v : Value} {l : List Int} (h : OI w B v l) : Bk v B w.heap.size := fun q hq => row_lt h q hq
theorem oi_far {w w' : World} {B lo hi lo' hi' : Nat} {v u : Value} {l : List Int} (h : OI w B v l) (hg : w.grownBy w' u.ownBlock) (h1 : Bk v lo hi) (h2 : Bk u lo' hi') (hd : hi ≤ lo' ∨ hi' ≤ lo) : OI w' B v l :=
  row_far h hg (fun k hk e => by have := h1 k hk; have := h2 k e; omega)
theorem OI.keep {w w' : World} {B C : Nat} {v : Value} {l : List Int} (h : OI w B v l) (hb : Below C w w') (hC : w.heap.size ≤ C) : OI w' B v l := row_below h hb hC
theorem OI.al {w : World} {B : Nat} {v : Value} {l : List Int} (h : OI w B v l) (o : Obj) : OI (w.alloc o) B v l := h.keep ((Below.refl _ _).alloc (Nat.le_refl _) o) (Nat.le_refl _)
theorem OI.own {w : World} {B : Nat} {v : Value} {l : List Int} (h : OI w B v l) {n : Nat} (e : l.length = n) : w.ownsRow B 3 1 v n (l.map (Value.int .i64 ·)) := e ▸ h
theorem apd_row {w w' : World} {B : Nat} {v v' : Value} {n : Nat} {l m : List Int} (h : Apd w w' B 3 1 v v' n m.length (l.map (Value.int .i64 ·)) (m.map (Value.int .i64 ·))) (e : l.length = n) : OI w' B v' (l ++ m) := by
  subst e; exact oi_append h.row
theorem apd_old {w w' : World} {B : Nat} {v v' : Value} {n : Nat} {l m : List Int} (h : Apd w w' B 3 1 v v' n m.length (l.map (Value.int .i64 ·)) (m.map (Value.int .i64 ·))) (e : l.length = n) : OI w' B v l := by
  subst e; exact h.old
theorem Bk.imp_lo {v : Value} {lo hi : Nat} (h : Bk v lo hi) : Bk v 0 hi := fun q hq => ⟨Nat.zero_le _, (h q hq).2⟩
/-- What the loop that writes 5 keeps. -/
structure Fives (w w' : World) (z B n : Nat) (v : Value) : Prop where
  row : ∃ L : List Int, L.length = n ∧ OI w' B v L
  size : w'.heap.size = w.heap.size
  far : ∀ q, v.ownBlock ≠ some q → w'.heap[q]? = w.heap[q]?
theorem Fives.oi {w w' : World} {z B n C lo hi lo' hi' : Nat} {v u : Value} {l : List Int} (h : Fives w w' z B n v) (ho : OI w C u l) (h1 : Bk u lo hi) (h2 : Bk v lo' hi') (hd : hi ≤ lo' ∨ hi' ≤ lo) : OI w' C u l :=
  row_keep ho (fun k hk => h.far k (fun e => by have := h1 k hk; have := h2 k e; omega))
set_option maxRecDepth 100000 in
theorem sl_int (g n c k : Nat) (h : k ≤ n) (h2 : n ≤ c) : ∀ u : World, (Instr.slice 27 (.slice (some ⟨g, 0, none⟩) n c) none (some (.int .i64 (k : Int))) none).run Tryd.prog u = .ok (.slice (some ⟨g, 0, none⟩) k c) u := fun u => by
  rw [run_slice_h (P := Tryd.prog) (ht := undI) (h0 := by omega) (h2 := by omega), size_int]
  simp [sliced, Addr.add]

set_option maxRecDepth 100000 in
set_option maxHeartbeats 3200000 in
theorem charges_law {G : World → Prop} {dl : Rtr → Int → Int} (K : RetryOK G dl) (ch : List Int) (p : Int) (v : Value) (w : World) (hG : G w) (h : IS w v ch) (hn : ∀ n ∈ ch, Oki n) (hp : Oki p) (hl : ch.length ≤ 2000000) :
    Calls Tryd.prog 4 #[v, .int .i64 p] w fun e w' => e = .returned (.bool true) ∧ Below w.heap.size w w' := by
  have HK := hide K
  have HG := hide hG
  have H := hide h
  have HN := hide hn
  have HP := hide hp
  have hCl := chg_len ch p
  obtain ⟨oa, c, rfl, h1, h2⟩ := SV.form h
  clear h K hG hn hp
  have C1 := hide (awake_any (unhide HK) w (unhide HG))
  go_enter Tryd.func4, Tryd.ntmps4
  go_wp2_with fail
  refine (unhide C1).mono ?_
  rintro e w1 ⟨rfl, b1⟩
  have B1 := hide b1
  have H1 := hide ((unhide H).keep b1)
  clear C1 b1
  go_wp2_with (at_builtin; refine wpList_append_sv (P := Tryd.prog) rfl _ _ 27 rfl w1.heap.size 3 _ 1 8 undI infoInt rfl (by decide) _ _ 0 ch.length [] (ch.map (Value.int .i64 ·)) rfl rfl (World.ownsRow_nil _ _ _ _) (unhide H1) (one_int ch) ?a1 ?a2 (Nat.le_refl _) ?_)
  case a1 => unfold maxLen; omega
  case a2 => omega
  intro v2 w2 o2 g2 _
  have B2 : Hid (Below w.heap.size w w2) := (unhide B1).grown g2 (unhide B1).size (fun k hk => by cases hk)
  have K2 : Hid (Below w1.heap.size w1 w2) := (Below.refl _ _).grown g2 (Nat.le_refl _) (fun k hk => by cases hk)
  have O2 : Hid (OI w2 w1.heap.size v2 ch) := o2
  have z1 := hide (unhide B1).size
  clear o2 g2 H1 B1
  have n3 : Hid (SV (w2.alloc (.cells #[.int .i64 (-77), .int .i64 (-77)] 3)) (.slice (some ⟨w2.heap.size, 0, none⟩) 2 2) 2 1 ([-77, -77].map (Value.int .i64 ·))) := sv_cells (heap_alloc_new w2 _) 2 1 rfl (by unfold maxLen; decide)
  have O3 := hide ((unhide O2).al (.cells #[.int .i64 (-77), .int .i64 (-77)] 3))
  have B3 := hide ((unhide B2).alloc (unhide B2).size (.cells #[.int .i64 (-77), .int .i64 (-77)] 3))
  have s3 : Hid (w1.heap.size ≤ (w2.alloc (.cells #[.int .i64 (-77), .int .i64 (-77)] 3)).heap.size) := by rw [World.size_alloc]; have := (unhide K2).size; show _ ≤ _; omega
  have L3 := hide (one_int [-77, -77])
  clear O2 B2
  go_wp2_with (at_builtin; refine wpList_append_sv2 (P := Tryd.prog) rfl _ _ 27 rfl w1.heap.size 3 _ 1 8 undI infoInt rfl (by decide) _ _ ch.length 2 (ch.map (Value.int .i64 ·)) ([-77, -77].map (Value.int .i64 ·)) rfl rfl (unhide O3) (unhide n3) (unhide L3) ?b2 ?b3 (unhide s3) ?_)
  case b2 => unfold maxLen; omega
  try case b3 => omega
  intro v3 w3 A3
  have B4 := hide (row_bl (unhide O3) A3.grow (unhide B3) (unhide z1) (unhide B3).size)
  have O4 : Hid (OI w3 w1.heap.size v3 (ch ++ [-77, -77])) := apd_row (m := [-77, -77]) A3 rfl
  clear O3 A3 n3 s3 L3 B3 K2
  obtain ⟨gc, cc, e3, hc1, hc2, hc3, hc4, hcc⟩ := (unhide O4).get (by simp)
  rw [List.length_append] at e3 hc1
  cases e3
  have hc1' : ch.length + 2 ≤ cc := hc1
  have OW := hide ((unhide O4).head (l := ch) (m := [-77, -77]) rfl)
  have hsl := sl_int gc (ch.length + 2) cc ch.length (by omega) hc1'
  have D1 := hide (hcc ch.length (-77) (by simp))
  have D2 := hide (hcc (ch.length + 1) (-77) (by simp))
  have ZC : Hid (Bk (.slice (some ⟨gc, 0, none⟩) ch.length cc) 0 w3.heap.size) := (unhide OW).bk.imp_lo
  clear hcc O4 hc1 hc2
  have C5 := hide ((unhide HK).charge ch p _ w3 ((unhide HK).keep _ _ (unhide HG) (unhide B4)) (unhide OW).is (unhide HN) (unhide HP) (by omega))
  generalize hC : chg ch p = C at *
  have HC := hide hC
  clear hC
  have hadd : ((ch.length + [(-77 : Int), -77].length : Nat) : Int) = (ch.length : Int) + 2 := by simp
  go_wp2_with fail
  refine (unhide C5).mono ?_
  rintro e w4 ⟨va, rfl, oa4, b4⟩
  obtain ⟨aa, ca, rfl, ka1, ka2⟩ := oa4.form
  have B5 := hide ((unhide B4).trans (b4.mono (unhide B4).size))
  have ZA := hide oa4.bk
  have OA := hide oa4
  have OW5 := hide ((unhide OW).keep b4 (Nat.le_refl _))
  have z4 := hide b4.size
  have E1 : Hid (w4.cell? ⟨gc, ch.length, none⟩ = some (.int .i64 (-77))) := by show _ = _; rw [b4.cell (p := ⟨gc, ch.length, none⟩) hc4]; exact unhide D1
  have E2 : Hid (w4.cell? ⟨gc, ch.length + 1, none⟩ = some (.int .i64 (-77))) := by show _ = _; rw [b4.cell (p := ⟨gc, ch.length + 1, none⟩) hc4]; exact unhide D2
  clear C5 oa4 b4 B4 OW D1 D2
  have C6 := hide ((unhide HK).charge ch p _ w4 ((unhide HK).keep _ _ (unhide HG) (unhide B5)) (unhide OW5).is (unhide HN) (unhide HP) (by omega))
  rw [unhide HC] at C6
  go_wp2_with fail
  refine (unhide C6).mono ?_
  rintro e w5 ⟨vb, rfl, ob5, b5⟩
  obtain ⟨ab, cb, rfl, kb1, kb2⟩ := ob5.form
  have B6 := hide ((unhide B5).trans (b5.mono (unhide B5).size))
  have ZB := hide ob5.bk
  have OB := hide ob5
  have OA6 := hide ((unhide OA).keep b5 (Nat.le_refl _))
  have OW6 := hide ((unhide OW5).keep b5 (Nat.le_refl _))
  have z5 := hide b5.size
  have F1 : Hid (w5.cell? ⟨gc, ch.length, none⟩ = some (.int .i64 (-77))) := by show _ = _; rw [b5.cell (p := ⟨gc, ch.length, none⟩) (cell_lt (unhide E1))]; exact unhide E1
  have F2 : Hid (w5.cell? ⟨gc, ch.length + 1, none⟩ = some (.int .i64 (-77))) := by show _ = _; rw [b5.cell (p := ⟨gc, ch.length + 1, none⟩) (cell_lt (unhide E2))]; exact unhide E2
  clear C6 ob5 b5 B5 OW5 OA E1 E2
  have C7 := hide (rcharge_any ch p _ w5 ((unhide H).keep (unhide B6)) (unhide HN) (unhide HP) (by omega))
  rw [unhide HC] at C7
  go_wp2_with fail
  refine (unhide C7).mono ?_
  rintro e w6 ⟨vq, rfl, oq6, b6⟩
  obtain ⟨aq, cq, rfl, kq1, kq2⟩ := oq6.form
  have B7 := hide ((unhide B6).trans (b6.mono (unhide B6).size))
  have ZQ := hide oq6.bk
  have OQ := hide oq6
  have OB7 := hide ((unhide OB).keep b6 (Nat.le_refl _))
  have OA7 := hide ((unhide OA6).keep b6 (Nat.le_refl _))
  have OW7 := hide ((unhide OW6).keep b6 (Nat.le_refl _))
  have z6 := hide b6.size
  have G1 : Hid (w6.cell? ⟨gc, ch.length, none⟩ = some (.int .i64 (-77))) := by show _ = _; rw [b6.cell (p := ⟨gc, ch.length, none⟩) (cell_lt (unhide F1))]; exact unhide F1
  have G2 : Hid (w6.cell? ⟨gc, ch.length + 1, none⟩ = some (.int .i64 (-77))) := by show _ = _; rw [b6.cell (p := ⟨gc, ch.length + 1, none⟩) (cell_lt (unhide F2))]; exact unhide F2
  clear C7 oq6 b6 B6 OW6 OA6 OB F1 F2 HC
  have C8 := hide (same_any C _ _ w6 (unhide OA7).is (unhide OQ).is)
  go_wp2_with fail
  refine (unhide C8).mono ?_
  rintro e w7 ⟨rfl, m7, hw7⟩
  clear C8
  have HW7 := hide hw7
  have C9 := hide (same_any C _ _ w7 (by rw [hw7]; exact (unhide OB7).is) (by rw [hw7]; exact (unhide OQ).is))
  clear hw7
  go_wp2_with fail
  refine (unhide C9).mono ?_
  rintro e w8 ⟨rfl, m8, hw8⟩
  clear C9
  have HW8 : Hid (w8 = w6.drewN (m7 + m8)) := by rw [hw8, unhide HW7, World.drewN_drewN]; rfl
  clear hw8 HW7
  have C10 := hide (same_any ch _ _ w8 (by rw [unhide HW8]; exact (unhide OW7).is) (by rw [unhide HW8]; exact SV.drewN (SV.keep (unhide H) (unhide B7)) _))
  go_wp2_with fail
  refine (unhide C10).mono ?_
  rintro e w9 ⟨rfl, m9, hw9⟩
  clear C10
  have HW9 : Hid (w9 = w6.drewN (m7 + m8 + m9)) := by rw [hw9, unhide HW8, World.drewN_drewN]; rfl
  have d1 : w9.cell? ⟨gc, ch.length, none⟩ = some (.int .i64 (-77)) := by rw [unhide HW9]; exact unhide G1
  have d2 : w9.cell? ⟨gc, ch.length + 1, none⟩ = some (.int .i64 (-77)) := by rw [unhide HW9]; exact unhide G2
  clear hw9 HW8 G1 G2
  have kz : decide ((ch.length : Int) < (ch.length : Int) + 2) = true := decide_eq_true (by omega)
  have B9 : Hid (Below w.heap.size w w9) := by rw [unhide HW9]; exact (unhide B7).trans (mm.below_drewN _ _ _)
  have PA : Hid (OI w9 w3.heap.size (.slice aa C.length ca) C) := by rw [unhide HW9]; exact unhide OA7
  have PB : Hid (OI w9 w4.heap.size (.slice ab C.length cb) C) := by rw [unhide HW9]; exact unhide OB7
  have PQ : Hid (OI w9 w5.heap.size (.slice aq C.length cq) C) := by rw [unhide HW9]; exact unhide OQ
  have PW : Hid (OI w9 w1.heap.size (.slice (some ⟨gc, 0, none⟩) ch.length cc) ch) := by rw [unhide HW9]; exact unhide OW7
  have z9 : Hid (w9.heap.size = w6.heap.size) := by rw [unhide HW9]; rfl
  clear B7 OA7 OB7 OQ OW7 HW9
  go_wp2
  go_loopw [14] (fun iv wr => ∃ k : Nat, k ≤ C.length ∧ iv = .int .i64 (k : Int) ∧ Hid (Fives w9 wr 0 w3.heap.size C.length (.slice aa C.length ca)) ∧ Hid (Below w.heap.size w wr)) (fun iv _ => C.length - (intOf iv).toNat)
  case atStart => exact ⟨0, by omega, rfl, ⟨⟨C, rfl, unhide PA⟩, rfl, fun _ _ => rfl⟩, unhide B9⟩
  case round =>
    obtain ⟨k, hk, rfl, hF, hB⟩ := hrel
    by_cases hc' : k < C.length
    · have e1 : (k : Int) < (C.length : Int) := by omega
      obtain ⟨⟨L, hL, hO⟩, hs, hf⟩ := unhide hF
      obtain ⟨ga, ca', e, _, _, hg1, hg2, hcell⟩ := hO.get (by omega)
      rw [hL] at e
      cases e
      obtain ⟨u, hu⟩ : ∃ u, L[k]? = some u := ⟨L[k]'(by omega), List.getElem?_eq_getElem _⟩
      have hck := hcell k u hu
      have hfz := row_frz hO k
      have HF : Hid (Fives w9 (wr.setCell ⟨ga, k, none⟩ (.int .i64 5)) 0 w3.heap.size C.length (.slice (some ⟨ga, 0, none⟩) C.length ca)) := by
        refine ⟨⟨L.set k 5, by rw [List.length_set]; exact hL, hO.set k 5⟩, ?_, fun q hq => ?_⟩
        · rw [← hs]; simp [World.setCell]
        · rw [Below.heap_setCell _ _ _ _ (fun e => hq (by rw [e]; rfl))]
          exact hf q hq
      have HB := hide ((unhide hB).setCell (p := ⟨ga, k, none⟩) (show w.heap.size ≤ ga by have := (unhide z1); omega) (.int .i64 5))
      clear hO hcell hu hs hf hF hB hL PA PB PQ PW B9
      go_wp2
      exact ⟨⟨k + 1, by omega, by go_num, HF, HB⟩, by simp [intOf]; omega⟩
    · obtain rfl : k = C.length := by omega
      obtain ⟨⟨L, hL, hO⟩, hs, hf⟩ := unhide hF
      have QB := hide ((unhide hF).oi (unhide PB) (unhide ZB) (unhide ZA) (Or.inr (Nat.le_refl _)))
      have QQ := hide ((unhide hF).oi (unhide PQ) (unhide ZQ) (unhide ZA) (Or.inr (unhide z5)))
      have QW := hide ((unhide hF).oi (unhide PW) (unhide ZC) (unhide ZA) (Or.inl (Nat.le_refl _)))
      have QA := hide hO
      have HL := hide hL
      have zr : Hid (wr.heap.size = w6.heap.size) := hs.trans (unhide z9)
      have z1r : Hid (w3.heap.size ≤ wr.heap.size) := by rw [unhide zr]; show _ ≤ _; have := unhide z4; have := unhide z5; have := unhide z6; omega
      have zw : Hid (w.heap.size ≤ w3.heap.size) := by show _ ≤ _; have := unhide z1; omega
      clear hO hs hf hF PA PB PQ PW B9 hL z9 d1 d2 HN HP HK HG
      -- x
      have N1 : Hid (SV (wr.alloc (.cells #[.int .i64 6, .int .i64 6] 3)) (.slice (some ⟨wr.heap.size, 0, none⟩) 2 2) 2 1 ([6, 6].map (Value.int .i64 ·))) := sv_cells (heap_alloc_new wr _) 2 1 rfl (by unfold maxLen; decide)
      have R1 := hide (((unhide QA).al (.cells #[.int .i64 6, .int .i64 6] 3)).own (unhide HL))
      have S1 : Hid (w3.heap.size ≤ (wr.alloc (.cells #[.int .i64 6, .int .i64 6] 3)).heap.size) := by rw [World.size_alloc]; show _ ≤ _; have := unhide z1r; omega
      have X1 := hide ((unhide hB).alloc (unhide hB).size (.cells #[.int .i64 6, .int .i64 6] 3))
      have L1 := hide (one_int [6, 6])
      have QB1 := hide ((unhide QB).al (.cells #[.int .i64 6, .int .i64 6] 3))
      have QQ1 := hide ((unhide QQ).al (.cells #[.int .i64 6, .int .i64 6] 3))
      have QW1 := hide ((unhide QW).al (.cells #[.int .i64 6, .int .i64 6] 3))
      clear QA QB QQ QW hB
      go_wp2_with (at_builtin; refine wpList_append_sv2 (P := Tryd.prog) rfl _ _ 27 rfl w3.heap.size 3 _ 1 8 undI infoInt rfl (by decide) _ _ C.length 2 (L.map (Value.int .i64 ·)) ([6, 6].map (Value.int .i64 ·)) rfl rfl (unhide R1) (unhide N1) (unhide L1) ?c2 ?c3 (unhide S1) ?_)
      case c2 => unfold maxLen; omega
      try case c3 => omega
      intro vx wx AX
      have OX : Hid (OI wx w3.heap.size vx (L ++ [6, 6])) := apd_row (m := [6, 6]) AX (unhide HL)
      have QB2 := hide (oi_far (unhide QB1) AX.grow (unhide ZB) (unhide ZA) (Or.inr (Nat.le_refl _)))
      have QQ2 := hide (oi_far (unhide QQ1) AX.grow (unhide ZQ) (unhide ZA) (Or.inr (unhide z5)))
      have QW2 := hide (oi_far (unhide QW1) AX.grow (unhide ZC) (unhide ZA) (Or.inl (Nat.le_refl _)))
      have X2 := hide (row_bl (unhide R1) AX.grow (unhide X1) (unhide zw) (unhide X1).size)
      have hxs := AX.grow.size
      rw [World.size_alloc] at hxs
      have HXB : Hid (∀ q, vx.ownBlock = some q → (w3.heap.size ≤ q ∧ q < w4.heap.size) ∨ w6.heap.size < q) := fun q hq => by
        rcases AX.blk with e | e
        · exact Or.inl (unhide ZA q (e ▸ hq))
        · have := e q hq; rw [World.size_alloc, unhide zr] at this; exact Or.inr (by omega)
      have zx : Hid (w6.heap.size < wx.heap.size) := by show _ < _; have := unhide zr; omega
      clear AX R1 N1 L1 S1 X1 QB1 QQ1 QW1 hxs z1r zr
      -- y
      have N2 : Hid (SV (wx.alloc (.cells #[.int .i64 7, .int .i64 7] 3)) (.slice (some ⟨wx.heap.size, 0, none⟩) 2 2) 2 1 ([7, 7].map (Value.int .i64 ·))) := sv_cells (heap_alloc_new wx _) 2 1 rfl (by unfold maxLen; decide)
      have R2 := hide ((unhide QB2).al (.cells #[.int .i64 7, .int .i64 7] 3))
      have S2 : Hid (w4.heap.size ≤ (wx.alloc (.cells #[.int .i64 7, .int .i64 7] 3)).heap.size) := by rw [World.size_alloc]; show _ ≤ _; have := unhide zx; have := unhide z5; have := unhide z6; omega
      have X3 := hide ((unhide X2).alloc (unhide X2).size (.cells #[.int .i64 7, .int .i64 7] 3))
      have L2 := hide (one_int [7, 7])
      have OX2 := hide ((unhide OX).al (.cells #[.int .i64 7, .int .i64 7] 3))
      have QQ3 := hide ((unhide QQ2).al (.cells #[.int .i64 7, .int .i64 7] 3))
      have QW3 := hide ((unhide QW2).al (.cells #[.int .i64 7, .int .i64 7] 3))
      clear OX QB2 QQ2 QW2 X2
      go_wp2_with (at_builtin; refine wpList_append_sv2 (P := Tryd.prog) rfl _ _ 27 rfl w4.heap.size 3 _ 1 8 undI infoInt rfl (by decide) _ _ C.length 2 (C.map (Value.int .i64 ·)) ([7, 7].map (Value.int .i64 ·)) rfl rfl (unhide R2) (unhide N2) (unhide L2) ?d2 ?d3 (unhide S2) ?_)
      case d2 => unfold maxLen; omega
      try case d3 => omega
      intro vy wy AY
      have OY : Hid (OI wy w4.heap.size vy (C ++ [7, 7])) := apd_row (m := [7, 7]) AY rfl
      have QB4 : Hid (OI wy w4.heap.size _ C) := apd_old (m := [7, 7]) AY rfl
      have QQ4 := hide (oi_far (unhide QQ3) AY.grow (unhide ZQ) (unhide ZB) (Or.inr (Nat.le_refl _)))
      have QW4 := hide (oi_far (unhide QW3) AY.grow (unhide ZC) (unhide ZB) (Or.inl (unhide z4)))
      have OX4 : Hid (OI wy w3.heap.size vx (L ++ [6, 6])) := row_far (unhide OX2) AY.grow (fun k hk e => by have := unhide HXB k hk; have := unhide ZB k e; have := unhide z6; omega)
      have X4 := hide (row_bl (unhide R2) AY.grow (unhide X3) (by have := unhide zw; have := unhide z4; omega) (unhide X3).size)
      have HYB : Hid (∀ q, vy.ownBlock = some q → w4.heap.size ≤ q) := fun q hq => (row_lt (unhide OY) q hq).1
      have zy := hide AY.grow.size
      clear AY R2 N2 L2 S2 X3 QQ3 QW3 OX2
      -- z
      have N3 : Hid (SV (wy.alloc (.cells #[.int .i64 8] 3)) (.slice (some ⟨wy.heap.size, 0, none⟩) 1 1) 1 1 ([8].map (Value.int .i64 ·))) := sv_cells (heap_alloc_new wy _) 1 1 rfl (by unfold maxLen; decide)
      have R3 := hide ((unhide QW4).al (.cells #[.int .i64 8] 3))
      have S3 : Hid (w1.heap.size ≤ (wy.alloc (.cells #[.int .i64 8] 3)).heap.size) := by
        have := unhide zy
        rw [World.size_alloc] at this
        rw [World.size_alloc]; show _ ≤ _; have := unhide zx; have := unhide z4; have := unhide z5; have := unhide z6; omega
      have X5 := hide ((unhide X4).alloc (unhide X4).size (.cells #[.int .i64 8] 3))
      have L3 := hide (one_int [8])
      have OX5 := hide ((unhide OX4).al (.cells #[.int .i64 8] 3))
      have OY5 := hide ((unhide OY).al (.cells #[.int .i64 8] 3))
      have QB5 := hide ((unhide QB4).al (.cells #[.int .i64 8] 3))
      have QQ5 := hide ((unhide QQ4).al (.cells #[.int .i64 8] 3))
      clear OX4 OY QB4 QQ4 QW4 X4
      go_wp2_with (at_builtin; refine wpList_append_sv2 (P := Tryd.prog) rfl _ _ 27 rfl w1.heap.size 3 _ 1 8 undI infoInt rfl (by decide) _ _ ch.length 1 (ch.map (Value.int .i64 ·)) ([8].map (Value.int .i64 ·)) rfl rfl (unhide R3) (unhide N3) (unhide L3) ?f2 ?f3 (unhide S3) ?_)
      case f2 => unfold maxLen; omega
      try case f3 => omega
      intro vz wz AZ
      have OZ : Hid (OI wz w1.heap.size vz (ch ++ [8])) := apd_row (m := [8]) AZ rfl
      have ZG : Hid (∀ q, (Value.slice (some ⟨gc, 0, none⟩) ch.length cc).ownBlock = some q → q < w3.heap.size) := fun q hq => (unhide ZC q hq).2
      have QB6 := hide (oi_far (unhide QB5) AZ.grow (unhide ZB) (unhide ZC) (Or.inr (unhide z4)))
      have QQ6 := hide (oi_far (unhide QQ5) AZ.grow (unhide ZQ) (unhide ZC) (Or.inr (by have := unhide z4; have := unhide z5; omega)))
      have OX6 : Hid (OI wz w3.heap.size vx (L ++ [6, 6])) := row_far (unhide OX5) AZ.grow (fun k hk e => by have := unhide HXB k hk; have := unhide ZG k e; have := unhide z4; have := unhide z5; have := unhide z6; omega)
      have OY6 : Hid (OI wz w4.heap.size vy (C ++ [7, 7])) := row_far (unhide OY5) AZ.grow (fun k hk e => by have := unhide HYB k hk; have := unhide ZG k e; have := unhide z4; omega)
      have X6 := hide (row_bl (unhide R3) AZ.grow (unhide X5) (by have := unhide z1; omega) (unhide X5).size)
      clear AZ R3 N3 L3 S3 X5 OX5 OY5 QB5 QQ5 ZG HYB HXB ZA ZB ZC ZQ
      -- what is looked at
      have c1 := hide (same_any C _ _ wz (unhide QB6).is (unhide QQ6).is)
      go_wp2_with fail
      refine (unhide c1).mono ?_
      rintro e u1 ⟨rfl, n1, hu1⟩
      clear c1
      have HU1 := hide hu1
      obtain ⟨gy, cy, ey, hy1, hy2, _, _, hyc⟩ := (unhide OY6).get (by simp)
      rw [List.length_append] at ey hy1
      have hy1' : C.length + 2 ≤ cy := hy1
      subst ey
      have slY := sl_int gy (C.length + 2) cy C.length (by omega) hy1'
      have YH := hide ((unhide OY6).head (l := C) (m := [7, 7]) rfl)
      have c2 := hide (same_any C _ _ u1 (by rw [hu1]; exact SV.drewN (unhide YH).is _) (by rw [hu1]; exact SV.drewN (unhide QQ6).is _))
      have HY7 := hide (hyc C.length 7 (by simp))
      clear hyc hu1 OY6 hy1
      go_wp2_with fail
      refine (unhide c2).mono ?_
      rintro e u2 ⟨rfl, n2, hu2⟩
      clear c2
      have HU2 : Hid (u2 = wz.drewN (n1 + n2)) := by rw [hu2, unhide HU1, World.drewN_drewN]; rfl
      clear hu2 HU1
      obtain ⟨gz, cz, ez, hz1, hz2, _, _, _⟩ := (unhide OZ).get (by simp)
      rw [List.length_append] at ez hz1
      have hz1' : ch.length + 1 ≤ cz := hz1
      subst ez
      have slZ := sl_int gz (ch.length + 1) cz ch.length (by omega) hz1'
      have ZH := hide ((unhide OZ).head (l := ch) (m := [8]) rfl)
      have c3 := hide (same_any ch _ _ u2 (by rw [unhide HU2]; exact SV.drewN (unhide ZH).is _) (by rw [unhide HU2]; exact SV.drewN (SV.keep (unhide H) (unhide X6)) _))
      clear hz1 OZ
      go_wp2_with fail
      refine (unhide c3).mono ?_
      rintro e u3 ⟨rfl, n3, hu3⟩
      clear c3
      have HU3 : Hid (u3 = wz.drewN (n1 + n2 + n3)) := by rw [hu3, unhide HU2, World.drewN_drewN]; rfl
      clear hu3 HU2
      obtain ⟨gx, cx, ex, hx1, hx2, _, _, hxc⟩ := (unhide OX6).get (by simp)
      rw [List.length_append, unhide HL] at ex hx1
      have hx1' : C.length + 2 ≤ cx := hx1
      subst ex
      have d6 : u3.cell? ⟨gx, C.length, none⟩ = some (.int .i64 6) := by rw [unhide HU3]; exact hxc C.length 6 (by rw [← unhide HL]; simp)
      have d7 : u3.cell? ⟨gy, C.length, none⟩ = some (.int .i64 7) := by rw [unhide HU3]; exact unhide HY7
      have X7 : Hid (Below w.heap.size w u3) := by rw [unhide HU3]; exact (unhide X6).trans (mm.below_drewN _ _ _)
      have k1 : decide ((C.length : Int) < (C.length : Int) + 2) = true := decide_eq_true (by omega)
      clear hxc hx1 HU3 OX6 HY7 X6 QB6 QQ6 YH ZH H
      go_wp2
      go_ret
      exact ⟨rfl, unhide X7⟩
end Go.Proofs.YtmnikcnjdeldeaaDoor.rt
