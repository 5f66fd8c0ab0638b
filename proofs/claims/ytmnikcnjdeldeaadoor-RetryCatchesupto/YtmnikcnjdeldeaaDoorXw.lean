/- The landed package retry: first at catchers and at retriers, Catch, timesCharged. -/
import Derived.Test.YtmnikcnjdeldeaaDoorXi
import Derived.Test.YtmnikcnjdeldeaaDoorXv
namespace Go.Proofs.YtmnikcnjdeldeaaDoor.rt
open Go.RowKit Go.Joins mm

set_option maxRecDepth 100000 in
set_option maxHeartbeats 1600000 in
theorem namesC_any (r : Ctr) (a : Addr) (w : World) (h : CC w a r) :
    Calls Tryd.prog 28 #[.pointer (some a)] w fun e w' => (∃ ev, e = .returned ev ∧ w.cell? a = some ev ∧ SS w ev r.errs) ∧ w' = w := by
  obtain ⟨ev, hev, hss⟩ := h.c0
  have HS := hide hss
  have HV := hide hev
  clear h hss
  go_enter Tryd.func28, Tryd.ntmps28
  go_wp2
  go_ret
  exact ⟨⟨ev, rfl, unhide HV, unhide HS⟩, rfl⟩

set_option maxRecDepth 100000 in
set_option maxHeartbeats 1600000 in
theorem firstC_any (l : List Ctr) (name : ByteArray) (v : Value) (w : World) (h : CL w v l) :
    Calls Tryd.prog 27 #[v, .func (.func 28) #[] #[], .string name] w fun e w' => e = .returned (.tuple #[.int .i64 (cat l name).1, .bool (cat l name).2]) ∧ Below w.heap.size w w' := by
  have H := hide h
  obtain ⟨oa, c, rfl, h1, h2⟩ := h.form
  clear h
  generalize hr : cat l name = res
  have HR := hide hr
  clear hr
  go_enter Tryd.func27, Tryd.ntmps27
  go_wp2
  go_loopw [11] (fun iv wr => ∃ k : Nat, k ≤ l.length ∧ iv = .int .i64 (k : Int) ∧ Hid (∀ (j : Nat) (r : Ctr), j < k → l[j]? = some r → mat r.errs name = false) ∧ Below w.heap.size w wr) (fun iv _ => l.length - (intOf iv).toNat)
  case atStart => exact ⟨0, by omega, rfl, (fun j u hj => by omega), Below.refl _ _⟩
  case round =>
    obtain ⟨k, hk, rfl, hn, hbr⟩ := hrel
    by_cases hc : k < l.length
    · have e1 : (k : Int) < (l.length : Int) := by omega
      have e2 : (k : Int) < 9223372036854775807 := by unfold maxLen at h2; omega
      obtain ⟨a, c', e, _, _, hcell⟩ := ((unhide H).keep hbr).at (by omega)
      cases e
      obtain ⟨r, hr⟩ : ∃ r, l[k]? = some r := ⟨l[k], List.getElem?_eq_getElem hc⟩
      have C0 := hide (namesC_any r (a.add (k * 6)) wr (hcell k r hr))
      have HU := hide hr
      have HB := hide hbr
      clear hcell hr H hbr
      cases hm : mat r.errs name with
      | true =>
        have HM := hide hm
        have HE := hide (show res = ((k : Int), true) by rw [← unhide HR]; exact ctc_some l name k r (unhide HU) hm (unhide hn))
        clear hm hn HR
        go_wp2_with fail
        refine (unhide C0).mono ?_
        rintro e w0 ⟨⟨ev, rfl, _, hss⟩, hw0⟩
        obtain rfl := hw0.symm
        have C1 := hide (matches_any r.errs name ev wr hss)
        rw [unhide HM] at C1
        clear C0 hss
        go_wp2_with fail
        refine (unhide C1).mono ?_
        rintro e w1 ⟨rfl, hb1⟩
        have HB1 := hide ((unhide HB).trans (hb1.mono (unhide HB).size))
        clear C1 hb1
        go_wp2
        go_ret2
        exact ⟨by rw [unhide HE]; rfl, unhide HB1⟩
      | false =>
        have HM := hide hm
        have HO : Hid (∀ (j : Nat) (x : Ctr), j < k + 1 → l[j]? = some x → mat x.errs name = false) := fun j x hj hx => by
          by_cases e : j = k
          · subst e; rw [unhide HU] at hx; cases hx; exact hm
          · exact unhide hn j x (by omega) hx
        clear hm hn HR HU
        go_wp2_with fail
        refine (unhide C0).mono ?_
        rintro e w0 ⟨⟨ev, rfl, _, hss⟩, hw0⟩
        obtain rfl := hw0.symm
        have C1 := hide (matches_any r.errs name ev wr hss)
        rw [unhide HM] at C1
        clear C0 hss
        go_wp2_with fail
        refine (unhide C1).mono ?_
        rintro e w1 ⟨rfl, hb1⟩
        have HB1 := hide ((unhide HB).trans (hb1.mono (unhide HB).size))
        clear C1 hb1
        go_wp2
        exact ⟨⟨k + 1, by omega, by go_num, HO, unhide HB1⟩, by simp [intOf]; omega⟩
    · obtain rfl : k = l.length := by omega
      have HE := hide (show res = (0, false) by rw [← unhide HR]; exact ctc_none l name (unhide hn))
      have HB := hide hbr
      clear hn H HR hbr
      go_wp2
      go_ret2
      exact ⟨by rw [unhide HE]; rfl, unhide HB⟩

/-- Which retrier decides, as the landed code tells it. -/
def fnr (l : List Rtr) (name : ByteArray) : Int × Bool := match fnd l name with | none => (0, false) | some k => ((k : Int), true)
theorem fnr_none (l : List Rtr) (name : ByteArray) (h : ∀ (j : Nat) (r : Rtr), j < l.length → l[j]? = some r → mat r.errs name = false) : fnr l name = (0, false) := by
  have : fnd l name = none := by
    unfold fnd
    rw [List.findIdx?_eq_none_iff]
    intro x hx
    obtain ⟨j, hj⟩ := List.getElem?_of_mem hx
    obtain ⟨hlt, _⟩ := List.getElem?_eq_some_iff.mp hj
    exact h j x hlt hj
  unfold fnr; rw [this]
theorem fnr_some (l : List Rtr) (name : ByteArray) (k : Nat) (r : Rtr) (hr : l[k]? = some r) (hm : mat r.errs name = true) (h : ∀ (j : Nat) (r : Rtr), j < k → l[j]? = some r → mat r.errs name = false) : fnr l name = ((k : Int), true) := by
  have : fnd l name = some k := by
    unfold fnd
    obtain ⟨hk, e⟩ := List.getElem?_eq_some_iff.mp hr
    rw [List.findIdx?_eq_some_iff_getElem]
    refine ⟨hk, by rw [e]; exact hm, fun j hj => ?_⟩
    have := h j l[j] hj (List.getElem?_eq_getElem (by omega))
    simp [this]
  unfold fnr; rw [this]

set_option maxRecDepth 100000 in
set_option maxHeartbeats 1600000 in
theorem namesR_any (r : Rtr) (a : Addr) (w : World) (h : RC w a r) :
    Calls Tryd.prog 30 #[.pointer (some a)] w fun e w' => (∃ ev, e = .returned ev ∧ w.cell? a = some ev ∧ SS w ev r.errs) ∧ w' = w := by
  obtain ⟨ev, hev, hss⟩ := h.c0
  have HS := hide hss
  have HV := hide hev
  clear h hss
  go_enter Tryd.func30, Tryd.ntmps30
  go_wp2
  go_ret
  exact ⟨⟨ev, rfl, unhide HV, unhide HS⟩, rfl⟩

set_option maxRecDepth 100000 in
set_option maxHeartbeats 1600000 in
theorem firstR_any (l : List Rtr) (name : ByteArray) (v : Value) (w : World) (h : RL w v l) :
    Calls Tryd.prog 29 #[v, .func (.func 30) #[] #[], .string name] w fun e w' => e = .returned (.tuple #[.int .i64 (fnr l name).1, .bool (fnr l name).2]) ∧ Below w.heap.size w w' := by
  have H := hide h
  obtain ⟨oa, c, rfl, h1, h2⟩ := h.form
  clear h
  generalize hr : fnr l name = res
  have HR := hide hr
  clear hr
  go_enter Tryd.func29, Tryd.ntmps29
  go_wp2
  go_loopw [11] (fun iv wr => ∃ k : Nat, k ≤ l.length ∧ iv = .int .i64 (k : Int) ∧ Hid (∀ (j : Nat) (r : Rtr), j < k → l[j]? = some r → mat r.errs name = false) ∧ Below w.heap.size w wr) (fun iv _ => l.length - (intOf iv).toNat)
  case atStart => exact ⟨0, by omega, rfl, (fun j u hj => by omega), Below.refl _ _⟩
  case round =>
    obtain ⟨k, hk, rfl, hn, hbr⟩ := hrel
    by_cases hc : k < l.length
    · have e1 : (k : Int) < (l.length : Int) := by omega
      have e2 : (k : Int) < 9223372036854775807 := by unfold maxLen at h2; omega
      obtain ⟨a, c', e, _, _, hcell⟩ := ((unhide H).keep hbr).at (by omega)
      cases e
      obtain ⟨r, hr⟩ : ∃ r, l[k]? = some r := ⟨l[k], List.getElem?_eq_getElem hc⟩
      have C0 := hide (namesR_any r (a.add (k * 7)) wr (hcell k r hr))
      have HU := hide hr
      have HB := hide hbr
      clear hcell hr H hbr
      cases hm : mat r.errs name with
      | true =>
        have HM := hide hm
        have HE := hide (show res = ((k : Int), true) by rw [← unhide HR]; exact fnr_some l name k r (unhide HU) hm (unhide hn))
        clear hm hn HR
        go_wp2_with fail
        refine (unhide C0).mono ?_
        rintro e w0 ⟨⟨ev, rfl, _, hss⟩, hw0⟩
        obtain rfl := hw0.symm
        have C1 := hide (matches_any r.errs name ev wr hss)
        rw [unhide HM] at C1
        clear C0 hss
        go_wp2_with fail
        refine (unhide C1).mono ?_
        rintro e w1 ⟨rfl, hb1⟩
        have HB1 := hide ((unhide HB).trans (hb1.mono (unhide HB).size))
        clear C1 hb1
        go_wp2
        go_ret2
        exact ⟨by rw [unhide HE]; rfl, unhide HB1⟩
      | false =>
        have HM := hide hm
        have HO : Hid (∀ (j : Nat) (x : Rtr), j < k + 1 → l[j]? = some x → mat x.errs name = false) := fun j x hj hx => by
          by_cases e : j = k
          · subst e; rw [unhide HU] at hx; cases hx; exact hm
          · exact unhide hn j x (by omega) hx
        clear hm hn HR HU
        go_wp2_with fail
        refine (unhide C0).mono ?_
        rintro e w0 ⟨⟨ev, rfl, _, hss⟩, hw0⟩
        obtain rfl := hw0.symm
        have C1 := hide (matches_any r.errs name ev wr hss)
        rw [unhide HM] at C1
        clear C0 hss
        go_wp2_with fail
        refine (unhide C1).mono ?_
        rintro e w1 ⟨rfl, hb1⟩
        have HB1 := hide ((unhide HB).trans (hb1.mono (unhide HB).size))
        clear C1 hb1
        go_wp2
        exact ⟨⟨k + 1, by omega, by go_num, HO, unhide HB1⟩, by simp [intOf]; omega⟩
    · obtain rfl : k = l.length := by omega
      have HE := hide (show res = (0, false) by rw [← unhide HR]; exact fnr_none l name (unhide hn))
      have HB := hide hbr
      clear hn H HR hbr
      go_wp2
      go_ret2
      exact ⟨by rw [unhide HE]; rfl, unhide HB⟩

set_option maxRecDepth 100000 in
set_option maxHeartbeats 1600000 in
theorem catch_any (l : List Ctr) (name : ByteArray) (v : Value) (w : World) (h : CL w v l) :
    Calls Tryd.prog 17 #[v, .string name] w fun e w' => e = .returned (.tuple #[.int .i64 (cat l name).1, .bool (cat l name).2]) ∧ Below w.heap.size w w' := by
  have C := hide (firstC_any l name v w h)
  obtain ⟨oa, c, rfl, h1, h2⟩ := h.form
  clear h
  generalize cat l name = res at C ⊢
  obtain ⟨p, q⟩ := res
  go_enter Tryd.func17, Tryd.ntmps17
  go_wp2_with fail
  refine (unhide C).mono ?_
  rintro e w1 ⟨rfl, hb1⟩
  have HB := hide hb1
  clear hb1 C
  go_wp2
  go_ret2
  exact ⟨rfl, unhide HB⟩

set_option maxRecDepth 100000 in
set_option maxHeartbeats 1600000 in
theorem times_any (ch : List Int) (k : Nat) (v : Value) (w : World) (h : IS w v ch) (hk : k ≤ 9223372036854775807) (ho : ∀ n ∈ ch, Oki n) :
    Calls Tryd.prog 25 #[v, .int .i64 (k : Int)] w fun e w' => e = .returned (.int .i64 (tms ch k)) ∧ w' = w := by
  have H := hide h
  obtain ⟨oa, c, rfl, h1, h2⟩ := SV.form h
  clear h
  have HT : Hid (tms ch k = match ch[k]? with | some n => if n < 0 then 0 else n | none => 0) := rfl
  generalize tms ch k = res at HT ⊢
  by_cases hc : k < ch.length
  · have e1 : ¬ (ch.length : Int) ≤ (k : Int) := by omega
    have e2 : (k : Int) < (ch.length : Int) := by omega
    obtain ⟨a, c', e, _, _, hcell⟩ := IS.at (unhide H) (by omega)
    cases e
    obtain ⟨n, hn⟩ : ∃ n, ch[k]? = some n := ⟨ch[k], List.getElem?_eq_getElem hc⟩
    have hcu := hcell k n hn
    obtain ⟨o1, o2⟩ := ho n (List.mem_of_getElem? hn)
    have HR := hide (show res = if n < 0 then 0 else n by rw [unhide HT, hn])
    clear hcell hn H HT ho
    by_cases hn0 : n < 0
    · have HR2 := hide (show res = 0 by rw [unhide HR, if_pos hn0])
      clear HR
      go_enter Tryd.func25, Tryd.ntmps25
      go_wp2
      go_ret
      exact ⟨by rw [unhide HR2]; first | rfl | (show Ending.returned (Value.int .i64 (max n 0)) = _; rw [show max n 0 = 0 by omega]), rfl⟩
    · have HR2 := hide (show res = n by rw [unhide HR, if_neg hn0])
      clear HR
      go_enter Tryd.func25, Tryd.ntmps25
      go_wp2
      go_ret
      exact ⟨by rw [unhide HR2]; first | rfl | (show Ending.returned (Value.int .i64 (max n 0)) = _; rw [show max n 0 = n by omega]), rfl⟩
  · have HR := hide (show res = 0 by rw [unhide HT, List.getElem?_eq_none (by omega)])
    clear H HT ho
    go_enter Tryd.func25, Tryd.ntmps25
    go_wp2
    go_ret
    exact ⟨by rw [unhide HR]; rfl, rfl⟩
end Go.Proofs.YtmnikcnjdeldeaaDoor.rt
