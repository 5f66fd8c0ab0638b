/- Several texts in one. -/
import Derived.Test.YtmnikcnjdeldeaaDoorXj
import Derived.Deep.Slices
/- RetryMore: what it leans on. -/
namespace Go.Proofs.YtmnikcnjdeldeaaDoor.rt
open Go.RowKit Go.Joins mm

theorem mat_append (a b : List ByteArray) (name : ByteArray) : mat (a ++ b) name = (mat a name || mat b name) := by
  unfold mat
  rw [List.any_append]
  cases (name.toList == sOOF) <;> simp
theorem mat_all (a : List ByteArray) (name : ByteArray) (h : mat a name = true) : mat [sAll] name = true := by
  unfold mat at h ⊢
  cases hq : (name.toList == sOOF) with
  | true => rw [hq] at h; cases h
  | false =>
    have : (sAll.toList == sALL) = true := by decide +kernel
    simp [one, this]
theorem cat_append_some (l k : List Ctr) (name : ByteArray) (h : (cat l name).2 = true) : cat (l ++ k) name = cat l name := by
  unfold cat ctc at h ⊢
  rw [List.findIdx?_append]
  cases e : l.findIdx? (fun r => mat r.errs name) with
  | none => rw [e] at h; cases h
  | some i => rfl
theorem cat_append_none (l k : List Ctr) (name : ByteArray) (h : (cat l name).2 = false) : cat l name = (0, false) ∧ (cat (l ++ k) name).2 = (cat k name).2 ∧ ((cat k name).2 = true → (cat (l ++ k) name).1 = (l.length : Int) + (cat k name).1) := by
  unfold cat ctc at h ⊢
  rw [List.findIdx?_append]
  cases e : l.findIdx? (fun r => mat r.errs name) with
  | some i => rw [e] at h; cases h
  | none =>
    refine ⟨rfl, ?_, ?_⟩
    · cases e2 : k.findIdx? (fun r => mat r.errs name) <;> rfl
    · cases e2 : k.findIdx? (fun r => mat r.errs name) with
      | none => intro h2; cases h2
      | some i => intro _; show ((i + l.length : Nat) : Int) = (l.length : Int) + ((i : Nat) : Int); omega
theorem cat_some (l : List Ctr) (name : ByteArray) (h : (cat l name).2 = true) : ∃ (k : Nat) (r : Ctr), cat l name = ((k : Int), true) ∧ k < l.length ∧ l[k]? = some r ∧ mat r.errs name = true := by
  unfold cat ctc at h ⊢
  cases e : l.findIdx? (fun r => mat r.errs name) with
  | none => rw [e] at h; cases h
  | some i =>
    obtain ⟨hi, hm, _⟩ := List.findIdx?_eq_some_iff_getElem.mp e
    exact ⟨i, l[i], rfl, hi, List.getElem?_eq_getElem hi, hm⟩

/-- A catcher with the value of its names. -/
def cq (q : Value × Ctr) : List Value := celC q.1 q.2
theorem cq_len (qs : List (Value × Ctr)) : ∀ x ∈ qs, (cq x).length = 6 := fun _ _ => rfl
theorem CL.sv {w : World} {v : Value} {l : List Ctr} (h : CL w v l) : ∃ qs : List (Value × Ctr), qs.map (·.2) = l ∧ SV w v l.length 6 (qs.flatMap cq) ∧ ∀ q ∈ qs, SS w q.1 q.2.errs := by
  obtain ⟨oa, c, rfl, h1, h2, h3, h4⟩ := h
  cases oa with
  | none =>
    obtain ⟨rfl, rfl⟩ := h3 rfl
    exact ⟨[], rfl, ⟨rfl, none, 0, rfl, Nat.le_refl _, by unfold maxLen; omega, fun _ => ⟨rfl, rfl⟩, fun a ha => by cases ha⟩, fun q hq => by cases hq⟩
  | some a =>
    have hx : ∀ i, i < l.length → ∃ ev : Value, ∀ r, l[i]? = some r → w.cell? (a.add (i * 6)) = some ev ∧ SS w ev r.errs := fun i hi => by
      obtain ⟨ev, e1, e2⟩ := (h4 a rfl i l[i] (List.getElem?_eq_getElem hi)).c0
      exact ⟨ev, fun r hr => by rw [List.getElem?_eq_getElem hi] at hr; cases hr; exact ⟨e1, e2⟩⟩
    obtain ⟨f, hf⟩ := Go.Deep.choose_lt hx
    have key : ∀ j q, ((List.range l.length).zipWith (fun i r => (f i, r)) l)[j]? = some q → ∃ r, l[j]? = some r ∧ q = (f j, r) := fun j q hq => by
      rw [List.getElem?_zipWith] at hq
      cases e : l[j]? with
      | none => rw [e] at hq; cases hr : (List.range l.length)[j]? <;> rw [hr] at hq <;> cases hq
      | some r =>
        obtain ⟨hj, _⟩ := List.getElem?_eq_some_iff.mp e
        rw [e, List.getElem?_range hj] at hq
        exact ⟨r, rfl, by simpa using hq.symm⟩
    have hlen : ((List.range l.length).zipWith (fun i r => (f i, r)) l).length = l.length := by simp
    refine ⟨(List.range l.length).zipWith (fun i r => (f i, r)) l, ?_, ⟨?_, some a, c, rfl, h1, h2, (fun q => by cases q), fun a' ha j u hu => ?_⟩, fun q hq => ?_⟩
    · apply List.ext_getElem?
      intro j
      rw [List.getElem?_map]
      cases e : ((List.range l.length).zipWith (fun i r => (f i, r)) l)[j]? with
      | none =>
        have := List.getElem?_eq_none_iff.mp e
        rw [hlen] at this
        rw [List.getElem?_eq_none this]; rfl
      | some q =>
        obtain ⟨r, hr, rfl⟩ := key j q e
        rw [hr]; rfl
    · rw [flat_len cq 6 _ (cq_len _), hlen]
    · cases ha
      have hjl : j < l.length * 6 := by
        obtain ⟨hj, _⟩ := List.getElem?_eq_some_iff.mp hu
        rwa [flat_len cq 6 _ (cq_len _), hlen] at hj
      have hd : j / 6 < l.length := by omega
      obtain ⟨q, hq⟩ : ∃ q, ((List.range l.length).zipWith (fun i r => (f i, r)) l)[j / 6]? = some q := ⟨_, List.getElem?_eq_getElem (by rw [hlen]; exact hd)⟩
      obtain ⟨r, hr, rfl⟩ := key _ _ hq
      have hm : j = j / 6 * 6 + j % 6 := by omega
      have hi : j % 6 < 6 := Nat.mod_lt _ (by decide)
      have hC := h4 a rfl _ r hr
      have h0 := (hf _ hd r hr).1
      have ea : a.add j = (a.add (j / 6 * 6)).add (j % 6) := by rw [mm.add_add, ← hm]
      rw [ea]
      rw [hm, flat_at cq 6 _ (cq_len _) _ _ hq _ hi] at hu
      generalize j % 6 = i at *
      match i, hi, hu with
      | 0, _, hu => cases hu; rw [show ∀ b : Addr, b.add 0 = b from fun b => rfl]; exact h0
      | 1, _, hu => cases hu; exact hC.c1
      | 2, _, hu => cases hu; exact hC.c2
      | 3, _, hu => cases hu; exact hC.c3
      | 4, _, hu => cases hu; exact hC.c4
      | 5, _, hu => cases hu; exact hC.c5
    · obtain ⟨j, hj⟩ := List.getElem?_of_mem hq
      obtain ⟨r, hr, rfl⟩ := key j q hj
      obtain ⟨hjl, _⟩ := List.getElem?_eq_some_iff.mp hr
      exact (hf j hjl r hr).2
theorem cl_of {w : World} {v : Value} {qs : List (Value × Ctr)} (h : SV w v qs.length 6 (qs.flatMap cq)) (hs : ∀ q ∈ qs, SS w q.1 q.2.errs) : CL w v (qs.map (·.2)) := by
  obtain ⟨_, oa, c, rfl, h1, h2, h3, h4⟩ := h
  refine ⟨oa, c, by rw [List.length_map], by rw [List.length_map]; exact h1, h2, fun q => ⟨by rw [List.eq_nil_of_length_eq_zero (h3 q).1]; rfl, (h3 q).2⟩, fun a ha j r hr => ?_⟩
  rw [List.getElem?_map] at hr
  cases hx : qs[j]? with
  | none => rw [hx] at hr; cases hr
  | some x =>
    rw [hx] at hr
    cases hr
    have e : ∀ i u, i < 6 → (cq x)[i]? = some u → w.cell? ((a.add (j * 6)).add i) = some u := fun i u hi hu => by
      rw [mm.add_add]
      exact h4 a ha _ _ (by rw [flat_at cq 6 qs (cq_len qs) j x hx i hi]; exact hu)
    exact ⟨⟨_, e 0 _ (by omega) rfl, hs x (List.mem_of_getElem? hx)⟩, e 1 _ (by omega) rfl, e 2 _ (by omega) rfl, e 3 _ (by omega) rfl, e 4 _ (by omega) rfl, e 5 _ (by omega) rfl⟩
theorem cq_one {w : World} {qs : List (Value × Ctr)} (hs : ∀ q ∈ qs, SS w q.1 q.2.errs) : ∀ u ∈ qs.flatMap cq, u.oneCell' = true := fun u hu => by
  obtain ⟨q, hq, hu⟩ := List.mem_flatMap.mp hu
  obtain ⟨oe, ce, e, _⟩ := SV.form (hs q hq)
  simp only [cq, celC, List.mem_cons, List.not_mem_nil, or_false] at hu
  rcases hu with rfl | rfl | rfl | rfl | rfl | rfl
  · rw [e]; rfl
  all_goals rfl
end Go.Proofs.YtmnikcnjdeldeaaDoor.rt

/- RetryMore, over the calls' contracts. -/
namespace Go.Proofs.YtmnikcnjdeldeaaDoor.rt
open Go.RowKit Go.Joins mm

set_option maxRecDepth 100000 in
set_option maxHeartbeats 3200000 in
theorem more_law {G : World → Prop} {dl : Rtr → Int → Int} (K : RetryOK G dl) (la lb : List ByteArray) (name : ByteArray) (l k : List Ctr) (va vb v u : Value) (w : World) (hG : G w) (ha : SS w va la) (hb : SS w vb lb) (h : CL w v l) (hk : CL w u k)
    (hs : SmlC l) (hsk : SmlC k) (hl : l.length ≤ 2000000) (hlk : k.length ≤ 2000000) (hla : la.length ≤ 2000000) (hlb : lb.length ≤ 2000000) (he : ∀ r ∈ l, r.errs.length ≤ 2000000) :
    Calls Tryd.prog 7 #[va, vb, .string name, v, u] w fun e w' => e = .returned (.bool true) ∧ Below w.heap.size w w' := by
  have HK := hide K
  have HG := hide hG
  have H := hide h
  have HU := hide hk
  have HA := hide ha
  have HB := hide hb
  have HL := hide hl
  have HLK := hide hlk
  have HLA := hide hla
  have HLB := hide hlb
  have HE := hide he
  clear he
  obtain ⟨oa, c, rfl, _, hcm⟩ := h.form
  obtain ⟨ob, d, rfl, _, _⟩ := hk.form
  obtain ⟨oc, ca, rfl, _, _⟩ := SV.form ha
  obtain ⟨od, cb, rfl, _, _⟩ := SV.form hb
  have C0 := hide (catchers_any l _ w h hs)
  have C1 := hide (catchers_any k _ w hk hsk)
  clear h K hG hs hk hsk hb ha hl hlk hla hlb
  go_enter Tryd.func7, Tryd.ntmps7
  go_wp2_with fail
  refine (unhide C0).mono ?_
  rintro e w1 ⟨⟨b, rfl⟩, hw⟩
  obtain rfl := hw.symm
  clear C0
  cases b with
  | true =>
    go_wp2
    go_ret
    exact ⟨rfl, Below.refl _ _⟩
  | false =>
    go_wp2_with fail
    refine (unhide C1).mono ?_
    rintro e w1 ⟨⟨b, rfl⟩, hw⟩
    obtain rfl := hw.symm
    clear C1
    cases b with
    | true =>
      go_wp2
      go_ret
      exact ⟨rfl, Below.refl _ _⟩
    | false =>
      have C2 := hide (awake_any (unhide HK) w (unhide HG))
      go_wp2_with fail
      refine (unhide C2).mono ?_
      rintro e w1 ⟨rfl, b1⟩
      have B1 := hide b1
      have A1 := hide ((unhide HA).keep b1)
      clear C2 b1
      have b3 : la.length ≤ maxLen := by have := unhide HLA; unfold maxLen; omega
      go_wp2_with (at_builtin; refine wpList_append_sv (P := Tryd.prog) rfl _ _ 22 rfl w1.heap.size 9 _ 1 16 undS infoStr rfl (by decide) _ _ 0 la.length [] (la.map .string) rfl rfl (World.ownsRow_nil _ _ _ _) (unhide A1) (one_str la) ?a1 ?a2 (Nat.le_refl _) ?_)
      case a1 => have := unhide HLA; unfold maxLen; omega
      case a2 => have := unhide HLA; omega
      intro v2 w2 o2 g2 _
      have B2 : Hid (Below w.heap.size w w2) := (unhide B1).grown g2 (unhide B1).size (fun k hk => by cases hk)
      have K2 : Hid (Below w1.heap.size w1 w2) := (Below.refl _ _).grown g2 (Nat.le_refl _) (fun k hk => by cases hk)
      have O2 : Hid (OS w2 w1.heap.size v2 la) := o2
      have HB2 := hide ((unhide HB).keep (unhide B2))
      have z1 := hide (unhide B1).size
      clear o2 g2 A1 B1
      go_wp2_with (at_builtin; refine wpList_append_sv2 (P := Tryd.prog) rfl _ _ 22 rfl w1.heap.size 9 _ 1 16 undS infoStr rfl (by decide) _ _ la.length lb.length (la.map .string) (lb.map .string) rfl rfl (unhide O2) (unhide HB2) (one_str lb) ?c1 ?c2 (unhide K2).size ?_)
      case c1 => have := unhide HLA; have := unhide HLB; unfold maxLen; omega
      case c2 => have := unhide HLA; have := unhide HLB; omega
      intro v3 w3 A3
      have B3 := hide (row_bl (unhide O2) A3.grow (unhide B2) (unhide z1) (unhide B2).size)
      have O3 : Hid (OS w3 w1.heap.size v3 (la ++ lb)) := os_append A3.row
      clear A3 O2 HB2 B2 K2
      have C4 := hide ((unhide HK).matches_ la name _ w3 ((unhide HK).keep _ _ (unhide HG) (unhide B3)) ((unhide HA).keep (unhide B3)) (by have := unhide HLA; omega))
      have HMA := hide (mat_append la lb name)
      have HML := hide (mat_all la name)
      generalize hma : mat la name = ma at *
      generalize hmb : mat lb name = mb at *
      have Hma := hide hma
      have Hmb := hide hmb
      clear hma hmb
      go_wp2_with fail
      refine (unhide C4).mono ?_
      rintro e w4 ⟨rfl, b4⟩
      have B4 := hide ((unhide B3).trans (b4.mono (unhide B3).size))
      have O4 := hide (row_below (unhide O3) b4 (Nat.le_refl _))
      clear C4 b4 O3 B3
      go_upto_region 8 with fail
      go_cut [53] from 21 (fun s53 wx => s53 = .bool false ∧ Hid (Below w.heap.size w wx) ∧ Hid (OS wx w1.heap.size v3 (la ++ lb)))
      case first =>
        cases ma with
        | true =>
          have C5 := hide ((unhide HK).matches_ (la ++ lb) name _ w4 ((unhide HK).keep _ _ (unhide HG) (unhide B4)) (own_sv (unhide O4)) (by rw [List.length_append]; have := unhide HLA; have := unhide HLB; omega))
          rw [unhide HMA, Bool.true_or] at C5
          go_wp2_with fail
          refine (unhide C5).mono ?_
          rintro e w5 ⟨rfl, b5⟩
          have B5 := hide ((unhide B4).trans (b5.mono (unhide B4).size))
          have O5 := hide (row_below (unhide O4) b5 (Nat.le_refl _))
          clear C5 b5 B4 O4
          have B6 := hide ((unhide B5).alloc (unhide B5).size (.cells #[.string sAll] 9))
          have O6 : Hid (OS (w5.alloc (.cells #[.string sAll] 9)) w1.heap.size v3 (la ++ lb)) := row_below (unhide O5) ((Below.refl _ _).alloc (Nat.le_refl _) _) (Nat.le_refl _)
          have C6 := hide ((unhide HK).matches_ [sAll] name _ (w5.alloc (.cells #[.string sAll] 9)) ((unhide HK).keep _ _ (unhide HG) (unhide B6)) (one_ss sAll (heap_alloc_new w5 _)) (by decide))
          rw [unhide HML trivial] at C6
          unfold sAll at C6
          go_wp2_with fail
          refine (unhide C6).mono ?_
          rintro e w7 ⟨rfl, b7⟩
          have B7 := hide ((unhide B6).trans (b7.mono (unhide B6).size))
          have O7 : Hid (OS w7 w1.heap.size v3 (la ++ lb)) := row_below (unhide O6) b7 (Nat.le_refl _)
          clear C6 b7 B5 O5 B6 O6
          go_wp2
          go_meet
          exact ⟨rfl, B7, O7⟩
        | false =>
          go_wp2
          go_meet
          exact ⟨rfl, B4, O4⟩
      case rest =>
        obtain ⟨rfl, B5, O5⟩ := hcut
        clear B4 O4 HML
        go_upto_region 10 with fail
        go_cut [63] from 21 (fun s63 wx => s63 = .bool false ∧ Hid (Below w.heap.size w wx))
        case first =>
          have C5 := hide ((unhide HK).matches_ (la ++ lb) name _ wc ((unhide HK).keep _ _ (unhide HG) (unhide B5)) (own_sv (unhide O5)) (by rw [List.length_append]; have := unhide HLA; have := unhide HLB; omega))
          rw [unhide HMA] at C5
          go_wp2_with fail
          refine (unhide C5).mono ?_
          rintro e w5 ⟨rfl, b5⟩
          have B6 := hide ((unhide B5).trans (b5.mono (unhide B5).size))
          clear C5 b5 B5 O5
          cases ma with
          | true =>
            have hx : (true != true) = false := rfl
            go_wp2
            go_meet
            exact ⟨by simp, B6⟩
          | false =>
            have C6 := hide ((unhide HK).matches_ lb name _ w5 ((unhide HK).keep _ _ (unhide HG) (unhide B6)) ((unhide HB).keep (unhide B6)) (by have := unhide HLB; omega))
            rw [unhide Hmb] at C6
            go_wp2_with fail
            refine (unhide C6).mono ?_
            rintro e w6 ⟨rfl, b6⟩
            have B7 := hide ((unhide B6).trans (b6.mono (unhide B6).size))
            clear C6 b6 B6
            go_wp2
            go_meet
            exact ⟨by cases mb <;> rfl, B7⟩
        case rest =>
          obtain ⟨rfl, B6⟩ := hcut
          have z1' := hide (show w.heap.size ≤ wc.heap.size from (unhide B6).size)
          clear B5 O5 HMA Hma Hmb HA HB HLA HLB
          obtain ⟨qs, hq1, hq2, hq3⟩ := ((unhide H).keep (unhide B6)).sv
          have Q2 := hide hq2
          have Q3 := hide (cq_one hq3)
          have Q4 := hide hq3
          have HQ1 := hide hq1
          obtain ⟨qk, hk1, hk2, hk3⟩ := ((unhide HU).keep (unhide B6)).sv
          have RR2 := hide hk2
          have R3 := hide (cq_one hk3)
          have R4 := hide hk3
          have HR1 := hide hk1
          clear hk1 hk2 hk3 hq1 hq2 hq3
          go_wp2_with (at_builtin; refine wpList_append_sv (P := Tryd.prog) rfl _ _ 31 rfl wc.heap.size 37 _ 6 72 ?d0 infoC rfl (by decide) _ _ 0 l.length [] (qs.flatMap cq) rfl rfl (World.ownsRow_nil _ _ _ _) (unhide Q2) (unhide Q3) ?d1 ?d2 (Nat.le_refl _) ?_)
          case d0 => exact Tryd.underlying31
          case d1 => have := unhide HL; unfold maxLen; omega
          case d2 => have := unhide HL; omega
          intro v7 w7 o7 g7 _
          have B7 : Hid (Below w.heap.size w w7) := (unhide B6).grown g7 (unhide B6).size (fun k hk => by cases hk)
          have K7 : Hid (Below wc.heap.size wc w7) := (Below.refl _ _).grown g7 (Nat.le_refl _) (fun k hk => by cases hk)
          have O7 := hide o7
          clear o7 g7 Q2 Q3 B6
          have R2 := hide ((unhide RR2).keep (unhide K7))
          go_wp2_with (at_builtin; refine wpList_append_sv2 (P := Tryd.prog) rfl _ _ 31 rfl wc.heap.size 37 _ 6 72 ?f0 infoC rfl (by decide) _ _ l.length k.length (qs.flatMap cq) (qk.flatMap cq) rfl rfl (unhide O7) (unhide R2) (unhide R3) ?f1 ?f2 (unhide K7).size ?_)
          case f0 => exact Tryd.underlying31
          case f1 => have := unhide HL; have := unhide HLK; unfold maxLen; omega
          case f2 => have := unhide HL; have := unhide HLK; omega
          intro v8 w8 A8
          have B8 := hide (row_bl (unhide O7) A8.grow (unhide B7) (unhide z1') (unhide B7).size)
          have K8 := hide (row_bl (unhide O7) A8.grow (unhide K7) (Nat.le_refl _) (unhide K7).size)
          have L8 : Hid (CL w8 v8 (l ++ k)) := by
            have hlen : (qs ++ qk).length = l.length + k.length := by rw [List.length_append, ← unhide HQ1, ← unhide HR1, List.length_map, List.length_map]
            have hsv : SV w8 v8 (qs ++ qk).length 6 ((qs ++ qk).flatMap cq) := by rw [hlen, List.flatMap_append]; exact own_sv A8.row
            have := cl_of hsv (fun q hq => by
              rcases List.mem_append.mp hq with hq | hq
              · exact (unhide Q4 q hq).keep (unhide K8)
              · exact (unhide R4 q hq).keep (unhide K8))
            rw [List.map_append, unhide HQ1, unhide HR1] at this
            exact this
          obtain ⟨o8, c8, hv8, _, _⟩ := (unhide L8).form
          rw [List.length_append] at hv8
          subst hv8
          clear A8 O7 R2 RR2 R3 R4 Q4 HQ1 HR1 B7 K7 K8
          have C9 := hide ((unhide HK).catch_ l name _ w8 ((unhide HK).keep _ _ (unhide HG) (unhide B8)) ((unhide H).keep (unhide B8)) (by have := unhide HL; omega))
          have F1 := hide (cat_append_some l k name)
          have F2 := hide (cat_append_none l k name)
          have F3 := hide (cat_some l name)
          have F4 := hide (cat_some k name)
          generalize cat l name = c1 at *
          generalize hc2 : cat (l ++ k) name = c2 at *
          generalize hc3 : cat k name = c3 at *
          have HC2 := hide hc2
          have HC3 := hide hc3
          clear hc2 hc3
          obtain ⟨p1, m1⟩ := c1
          obtain ⟨p2, m2⟩ := c2
          obtain ⟨p3, m3⟩ := c3
          go_wp2_with fail
          refine (unhide C9).mono ?_
          rintro e w9 ⟨rfl, b9⟩
          have B9 := hide ((unhide B8).trans (b9.mono (unhide B8).size))
          have L9 := hide ((unhide L8).keep b9)
          clear C9 b9 B8 L8
          have C10 := hide ((unhide HK).catch_ (l ++ k) name _ w9 ((unhide HK).keep _ _ (unhide HG) (unhide B9)) (unhide L9) (by rw [List.length_append]; have := unhide HL; have := unhide HLK; omega))
          rw [unhide HC2] at C10
          go_wp2_with fail
          refine (unhide C10).mono ?_
          rintro e w10 ⟨rfl, b10⟩
          have B10 := hide ((unhide B9).trans (b10.mono (unhide B9).size))
          clear C10 b10 B9 L9 HC2
          cases m1 with
          | true =>
            obtain ⟨i, r, hi1, hi2, hi3, hi4⟩ := unhide F3 rfl
            have hj := unhide F1 rfl
            simp only [Prod.mk.injEq, and_true] at hi1 hj
            obtain ⟨rfl, rfl⟩ := hj
            subst hi1
            obtain ⟨a, c', e, _, _, hcell⟩ := ((unhide H).keep (unhide B10)).at (by omega)
            cases e
            obtain ⟨ev, hev, hss⟩ := (hcell i r hi3).c0
            have C11 := hide ((unhide HK).matches_ r.errs name ev w10 ((unhide HK).keep _ _ (unhide HG) (unhide B10)) hss (by have := unhide HE r (List.mem_of_getElem? hi3); omega))
            rw [hi4] at C11
            have e1 : (i : Int) < (l.length : Int) := by omega
            have e2 : ((i : Int) == (i : Int)) = true := by simp
            clear hcell hss hi3 hi4 F1 F2 F3 F4
            go_wp2_with fail
            refine (unhide C11).mono ?_
            rintro e w11 ⟨rfl, b11⟩
            have B11 := hide ((unhide B10).trans (b11.mono (unhide B10).size))
            clear C11 b11 B10
            go_wp2
            go_ret
            exact ⟨rfl, unhide B11⟩
          | false =>
            obtain ⟨hn1, hn2, hn3⟩ := unhide F2 rfl
            simp only [Prod.mk.injEq, and_true] at hn1 hn2 hn3
            subst hn1
            subst hn2
            have C11 := hide ((unhide HK).catch_ k name _ w10 ((unhide HK).keep _ _ (unhide HG) (unhide B10)) ((unhide HU).keep (unhide B10)) (by have := unhide HLK; omega))
            rw [unhide HC3] at C11
            cases m2 with
            | true =>
              obtain ⟨i, r, hi1, hi2, _, _⟩ := unhide F4 rfl
              have hp := hn3 rfl
              simp only [Prod.mk.injEq, and_true] at hi1
              subst hi1
              subst hp
              have e3 : (((l.length : Int) + (i : Int)) == ((l.length : Int) + (i : Int))) = true := by simp
              have b1 := unhide HL
              have b2 := unhide HLK
              clear F1 F2 F3 F4 hn3 HC3
              go_wp2_with fail
              refine (unhide C11).mono ?_
              rintro e w11 ⟨rfl, b11⟩
              have B11 := hide ((unhide B10).trans (b11.mono (unhide B10).size))
              clear C11 b11 B10
              go_wp2
              go_ret
              exact ⟨rfl, unhide B11⟩
            | false =>
              clear F1 F2 F3 F4 hn3 HC3
              go_wp2_with fail
              refine (unhide C11).mono ?_
              rintro e w11 ⟨rfl, b11⟩
              have B11 := hide ((unhide B10).trans (b11.mono (unhide B10).size))
              clear C11 b11 B10
              go_wp2
              go_ret
              exact ⟨rfl, unhide B11⟩
end Go.Proofs.YtmnikcnjdeldeaaDoor.rt
