/- Several texts in one. -/
import Derived.Test.YtmnikcnjdeldeaaDoorXkG
import Derived.Deep.OwnRows
/- RetryEnds: what it leans on. -/
namespace Go.Proofs.YtmnikcnjdeldeaaDoor.rt
open Go.RowKit Go.Joins mm

def SmlR (l : List Rtr) : Prop := ∀ r ∈ l, Sml r.errs ∧ r.digs.size ≤ 1000000000000
set_option maxRecDepth 100000 in
set_option maxHeartbeats 1600000 in
theorem retriers_any (l : List Rtr) (v : Value) (w : World) (h : RL w v l) (hs : SmlR l) :
    Calls Tryd.prog 19 #[v] w fun e w' => BoolP e ∧ ∃ n, w' = w.drewN n := by
  have H := hide h
  have HS := hide hs
  obtain ⟨oa, c, rfl, h1, h2⟩ := h.form
  clear h hs
  go_enter Tryd.func19, Tryd.ntmps19
  go_wp2
  go_loopw [3, 4] (fun nv iv wr => ∃ (k : Nat) (m : Int), k ≤ l.length ∧ iv = .int .i64 (k : Int) ∧ nv = .int .i64 m ∧ 0 ≤ m ∧ m ≤ 3000000000000 ∧ Hid (∃ n, wr = w.drewN n)) (fun _ iv _ => l.length - (intOf iv).toNat)
  case atStart => exact ⟨0, 0, by omega, rfl, rfl, by omega, by omega, 0, rfl⟩
  case round =>
    obtain ⟨k, m, hk, rfl, rfl, hm0, hm1, hW⟩ := hrel
    by_cases hc : k < l.length
    · have e1 : (k : Int) < (l.length : Int) := by omega
      by_cases hm : m < 4194304
      · obtain ⟨a, c', e, _, _, hcell⟩ := (unhide H).at (by omega)
        cases e
        obtain ⟨r, hr⟩ : ∃ r, l[k]? = some r := ⟨l[k], List.getElem?_eq_getElem hc⟩
        have hC := hcell k r hr
        have E2 := hide (show (k : Int) < 9223372036854775807 by unfold maxLen at h2; omega)
        obtain ⟨ev, hev, hss⟩ := hC.c0
        have hdg := at1 4 (by omega) hC.c4
        obtain ⟨hsm, hds⟩ := unhide HS r (List.mem_of_getElem? hr)
        have ew : IntKind.i64.wrap (IntKind.i64.wrap (m + 1) + (r.digs.size : Int)) = m + 1 + (r.digs.size : Int) := by
          rw [IntWalk.i64_in (m + 1) ⟨by omega, by omega⟩, IntWalk.i64_in _ ⟨by omega, by omega⟩]
        have C : ∀ n, Hid (Calls Tryd.prog 26 #[ev, .int .i64 (m + 1 + (r.digs.size : Int))] (wr.drewN n) fun e w' => e = .returned (.int .i64 (nmF r.errs (m + 1 + (r.digs.size : Int)))) ∧ w' = wr.drewN n) := fun n => by
          obtain ⟨q, hq⟩ := unhide hW
          rw [hq]
          exact names_any r.errs ev _ ((w.drewN q).drewN n) (SV.drewN (SV.drewN hss q) n) hsm (by omega) (by omega)
        obtain ⟨q0, q1⟩ := nmF_in r.errs (m + 1 + (r.digs.size : Int)) hsm (by omega) (by omega)
        generalize nmF r.errs (m + 1 + (r.digs.size : Int)) = m2 at *
        have d1 : wr.cell? (a.add (k * 7)) = some ev := by obtain ⟨q, hq⟩ := unhide hW; rw [hq]; exact hev
        have d2 : wr.cell? ⟨(a.add (k * 7)).block, (a.add (k * 7)).off + 4, none⟩ = some (.string r.digs) := by obtain ⟨q, hq⟩ := unhide hW; rw [hq]; exact hdg
        clear hcell hr hC hss hsm hev hdg H HS h2
        have d3 : wr.cell? ⟨(a.add (k * 7)).block, (a.add (k * 7)).off + 3 + 1, none⟩ = some (.string r.digs) := d2
        go_wp2
        go_quiet ((go_at_call 26; exact Calls.quiet_of_same (unhide (C _))))
        have e2 := unhide E2
        clear C d1 d2 d3
        go_wp2
        refine ⟨⟨k + 1, m2, by omega, by go_num, rfl, q0, q1, ?_⟩, by simp [intOf]; omega⟩
        obtain ⟨q, hq⟩ := unhide hW
        exact ⟨q + nq, by rw [hq, World.drewN_drewN]⟩
      · have e3 : decide (m < 4194304) = false := decide_eq_false hm
        clear H HS
        go_wp2
        go_ret
        exact ⟨⟨_, rfl⟩, unhide hW⟩
    · have e3 : decide ((k : Int) < (l.length : Int)) = false := decide_eq_false (by omega)
      clear H HS
      go_wp2
      go_ret
      exact ⟨⟨_, rfl⟩, unhide hW⟩
/-- Does nobody take a name, or the first one who speaks of it not at all? -/
def lft (l : List Rtr) (name : ByteArray) : Bool := match fnd l name with
  | none => true
  | some k => match l[k]? with
    | none => true
    | some r => decide (r.most < 1)
theorem fnd_none (l : List Rtr) (name : ByteArray) (h : ∀ (j : Nat) (r : Rtr), j < l.length → l[j]? = some r → mat r.errs name = false) : fnd l name = none := by
  unfold fnd
  rw [List.findIdx?_eq_none_iff]
  intro x hx
  obtain ⟨j, hj⟩ := List.getElem?_of_mem hx
  obtain ⟨hlt, _⟩ := List.getElem?_eq_some_iff.mp hj
  exact h j x hlt hj
theorem fnd_some (l : List Rtr) (name : ByteArray) (k : Nat) (r : Rtr) (hr : l[k]? = some r) (hm : mat r.errs name = true) (h : ∀ (j : Nat) (r : Rtr), j < k → l[j]? = some r → mat r.errs name = false) : fnd l name = some k := by
  unfold fnd
  obtain ⟨hk, e⟩ := List.getElem?_eq_some_iff.mp hr
  rw [List.findIdx?_eq_some_iff_getElem]
  refine ⟨hk, by rw [e]; exact hm, fun j hj => ?_⟩
  have := h j l[j] hj (List.getElem?_eq_getElem (by omega))
  simp [this]

set_option maxRecDepth 100000 in
set_option maxHeartbeats 1600000 in
theorem left_any {G : World → Prop} {dl : Rtr → Int → Int} (K : RetryOK G dl) (l : List Rtr) (name : ByteArray) (v : Value) (w : World) (hG : G w) (h : RL w v l) (he : ∀ r ∈ l, r.errs.length ≤ 2000000) :
    Calls Tryd.prog 21 #[v, .string name] w fun e w' => e = .returned (.bool (lft l name)) ∧ Below w.heap.size w w' := by
  have HK := hide K
  have HG := hide hG
  have HE := hide he
  have H := hide h
  obtain ⟨oa, c, rfl, h1, h2⟩ := h.form
  clear h K hG he
  generalize hr : lft l name = res
  have HR := hide hr
  clear hr
  go_enter Tryd.func21, Tryd.ntmps21
  go_wp2
  go_loopw [5] (fun iv wr => ∃ k : Nat, k ≤ l.length ∧ iv = .int .i64 (k : Int) ∧ Hid (∀ (j : Nat) (r : Rtr), j < k → l[j]? = some r → mat r.errs name = false) ∧ Hid (Below w.heap.size w wr)) (fun iv _ => l.length - (intOf iv).toNat)
  case atStart => exact ⟨0, by omega, rfl, (fun j u hj => by omega), Below.refl _ _⟩
  case round =>
    obtain ⟨k, hk, rfl, hn, hB⟩ := hrel
    by_cases hc : k < l.length
    · have e1 : (k : Int) < (l.length : Int) := by omega
      have E2 := hide (show (k : Int) < 9223372036854775807 by unfold maxLen at h2; omega)
      obtain ⟨a, c', e, _, _, hcell⟩ := ((unhide H).keep (unhide hB)).at (by omega)
      cases e
      obtain ⟨r, hr⟩ : ∃ r, l[k]? = some r := ⟨l[k], List.getElem?_eq_getElem hc⟩
      obtain ⟨ev, hev, hss⟩ := (hcell k r hr).c0
      have hmo := at1 2 (by omega) (hcell k r hr).c2
      have C1 := hide ((unhide HK).matches_ r.errs name ev wr ((unhide HK).keep _ _ (unhide HG) (unhide hB)) hss (by have := unhide HE r (List.mem_of_getElem? hr); omega))
      have HU := hide hr
      have ML := hide (cell_lt hmo)
      have HMO := hide hmo
      clear hcell hr H hss hmo h2
      cases hm : mat r.errs name with
      | true =>
        rw [hm] at C1
        have HE2 := hide (show res = decide (r.most < 1) by
          rw [← unhide HR]
          unfold lft
          rw [fnd_some l name k r (unhide HU) hm (unhide hn)]
          simp only
          rw [unhide HU])
        clear hm hn HR
        go_wp2_with fail
        refine (unhide C1).mono ?_
        rintro e w1 ⟨rfl, b1⟩
        have B1 := hide ((unhide hB).trans (b1.mono (unhide hB).size))
        have hmo : w1.cell? ⟨(a.add (k * 7)).block, (a.add (k * 7)).off + 2, none⟩ = some (.int .i64 r.most) := by rw [b1.cell (p := ⟨(a.add (k * 7)).block, (a.add (k * 7)).off + 2, none⟩) (unhide ML)]; exact unhide HMO
        clear C1 b1 hB HMO hev
        go_wp2
        go_ret
        exact ⟨by rw [unhide HE2]; rfl, unhide B1⟩
      | false =>
        rw [hm] at C1
        have HO : Hid (∀ (j : Nat) (x : Rtr), j < k + 1 → l[j]? = some x → mat x.errs name = false) := fun j x hj hx => by
          by_cases e : j = k
          · subst e; rw [unhide HU] at hx; cases hx; exact hm
          · exact unhide hn j x (by omega) hx
        clear hm hn HR HU
        go_wp2_with fail
        refine (unhide C1).mono ?_
        rintro e w1 ⟨rfl, b1⟩
        have B1 := hide ((unhide hB).trans (b1.mono (unhide hB).size))
        have e2 := unhide E2
        clear C1 b1 hB HMO hev
        go_wp2
        exact ⟨⟨k + 1, by omega, by go_num, HO, B1⟩, by simp [intOf]; omega⟩
    · obtain rfl : k = l.length := by omega
      have HE2 := hide (show res = true by
        rw [← unhide HR]
        unfold lft
        rw [fnd_none l name (unhide hn)])
      clear hn H HR
      go_wp2
      go_ret
      exact ⟨by rw [unhide HE2]; rfl, unhide hB⟩
end Go.Proofs.YtmnikcnjdeldeaaDoor.rt

/- RetryEnds, over the calls' contracts. -/
namespace Go.Proofs.YtmnikcnjdeldeaaDoor.rt
open Go.RowKit Go.Joins mm

/-- Where the law's loop stands behind n rounds. -/
def Ends (dl : Rtr → Int → Int) (l : List Rtr) (name : ByteArray) (n : Nat) (f d : Int) (ch : List Int) : Prop :=
  (n = 0 ∧ f = -1 ∧ d = 0 ∧ ch = List.replicate l.length 0) ∨
  ∃ (k : Nat) (r : Rtr), 0 < n ∧ fnd l name = some k ∧ l[k]? = some r ∧ f = (k : Int) ∧ d = dl r (n : Int) ∧ ch = (List.replicate l.length 0).set k (n : Int) ∧ (n : Int) ≤ r.most
theorem ends_ch {dl : Rtr → Int → Int} {l : List Rtr} {name : ByteArray} {n : Nat} {f d : Int} {ch : List Int} (h : Ends dl l name n f d ch) (hn : n ≤ 40) : ch.length = l.length ∧ (∀ x ∈ ch, Oki x) := by
  rcases h with ⟨_, _, _, rfl⟩ | ⟨k, r, _, _, _, _, _, rfl, _⟩
  · exact ⟨by simp, fun x hx => by rw [List.eq_of_mem_replicate hx]; exact ⟨by decide, by decide⟩⟩
  · refine ⟨by simp, fun x hx => ?_⟩
    rcases List.mem_or_eq_of_mem_set hx with q | q
    · rw [List.eq_of_mem_replicate q]; exact ⟨by decide, by decide⟩
    · rw [q]; unfold Oki; omega
theorem tms_ends {dl : Rtr → Int → Int} {l : List Rtr} {name : ByteArray} {n : Nat} {f d : Int} {ch : List Int} (h : Ends dl l name n f d ch) (k : Nat) (r : Rtr) (hk : fnd l name = some k) (hr : l[k]? = some r) : tms ch k = (n : Int) := by
  obtain ⟨hlt, _⟩ := List.getElem?_eq_some_iff.mp hr
  rcases h with ⟨rfl, _, _, rfl⟩ | ⟨k', r', _, hk', hr', _, _, rfl, _⟩
  · unfold tms; rw [List.getElem?_replicate, if_pos hlt]; rfl
  · rw [hk] at hk'; cases hk'
    unfold tms
    rw [List.getElem?_set_self (by simpa using hlt)]
    simp only
    rw [if_neg (by omega)]
theorem fnd_at {l : List Rtr} {name : ByteArray} {k : Nat} (h : fnd l name = some k) : ∃ r, l[k]? = some r ∧ mat r.errs name = true ∧ k < l.length := by
  unfold fnd at h
  obtain ⟨hi, hm, _⟩ := List.findIdx?_eq_some_iff_getElem.mp h
  exact ⟨l[k], List.getElem?_eq_getElem hi, hm, hi⟩
theorem chg_at (l : List Rtr) (ch : List Int) (k n : Nat) (hc : ch.length = l.length) (hk : k < l.length) (h : ch[k]? = some (n : Int)) (hn : n ≤ 40) (hz : ch.set k ((n : Int) + 1) = (List.replicate l.length 0).set k ((n : Int) + 1)) : chg ch (k : Int) = (List.replicate l.length 0).set k ((n + 1 : Nat) : Int) := by
  have e : k + 1 - ch.length = 0 := by omega
  rw [chg_in ch k (by omega) ch (by rw [e]; simp) (n : Int) h]
  have : up1 (n : Int) = (n : Int) + 1 := by unfold up1; rw [if_neg (by omega), if_pos (by omega)]
  rw [this, hz]
  congr 1
theorem ends_step {G : World → Prop} {dl : Rtr → Int → Int} (K : RetryOK G dl) {l : List Rtr} {name : ByteArray} {n : Nat} {f d : Int} {ch : List Int} (h : Ends dl l name n f d ch) (hn : n < 40) (ho : ∀ r ∈ l, Okr r) :
    (rty dl l ch name = (0, 0, false) ∧ ((f = -1 ∧ lft l name = true) ∨ ∃ (k : Nat) (r : Rtr), f = (k : Int) ∧ k < l.length ∧ l[k]? = some r ∧ r.most = (n : Int))) ∨
    ∃ (k : Nat) (r : Rtr), rty dl l ch name = ((k : Int), dl r ((n : Int) + 1), true) ∧ k < l.length ∧ l[k]? = some r ∧ mat r.errs name = true ∧ (f = -1 ∨ f = (k : Int)) ∧ d ≤ dl r ((n : Int) + 1) ∧ dl r ((n : Int) + 1) ≤ 2147483648 ∧ Ends dl l name (n + 1) (k : Int) (dl r ((n : Int) + 1)) (chg ch (k : Int)) := by
  cases hf : fnd l name with
  | none =>
    left
    refine ⟨by unfold rty; rw [hf], ?_⟩
    rcases h with ⟨_, rfl, _, _⟩ | ⟨k, r, _, hk, _⟩
    · exact Or.inl ⟨rfl, by unfold lft; rw [hf]⟩
    · rw [hf] at hk; cases hk
  | some k =>
    obtain ⟨r, hr, hm, hlt⟩ := fnd_at hf
    have ht := tms_ends h k r hf hr
    have hok := ho r (List.mem_of_getElem? hr)
    by_cases q : r.most ≤ (n : Int)
    · left
      refine ⟨by unfold rty; rw [hf]; simp only [hr]; rw [ht, if_pos q], ?_⟩
      rcases h with ⟨rfl, rfl, _, _⟩ | ⟨k', r', _, hk', hr', rfl, _, _, hmo⟩
      · exact Or.inl ⟨rfl, by unfold lft; rw [hf]; simp only [hr]; exact decide_eq_true (by omega)⟩
      · rw [hf] at hk'; cases hk'
        rw [hr] at hr'; cases hr'
        exact Or.inr ⟨k, r, rfl, hlt, hr, by omega⟩
    · right
      have hb := K.bd r ((n : Int) + 1) hok (by omega) (by omega)
      refine ⟨k, r, by unfold rty; rw [hf]; simp only [hr]; rw [ht, if_neg q], hlt, hr, hm, ?_, ?_, hb.2, Or.inr ⟨k, r, by omega, hf, hr, rfl, by congr 1, ?_, by omega⟩⟩
      · rcases h with ⟨_, rfl, _, _⟩ | ⟨k', r', _, hk', _, rfl, _⟩
        · exact Or.inl rfl
        · rw [hf] at hk'; cases hk'; exact Or.inr rfl
      · rcases h with ⟨_, _, rfl, _⟩ | ⟨k', r', hn0, hk', hr', _, rfl, _⟩
        · exact hb.1
        · rw [hf] at hk'; cases hk'
          rw [hr] at hr'; cases hr'
          exact K.rise r (n : Int) hok (by omega) (by omega)
      · rcases h with ⟨rfl, _, _, rfl⟩ | ⟨k', r', _, hk', hr', _, _, rfl, _⟩
        · exact chg_at l _ k 0 (by simp) hlt (by rw [List.getElem?_replicate, if_pos hlt]; rfl) (by omega) rfl
        · rw [hf] at hk'; cases hk'
          exact chg_at l _ k n (by simp) hlt (List.getElem?_set_self (by simpa using hlt)) (by omega) (by rw [List.set_set])
theorem ends_last {dl : Rtr → Int → Int} {l : List Rtr} {name : ByteArray} {f d : Int} {ch : List Int} (h : Ends dl l name 40 f d ch) : ∃ (k : Nat) (r : Rtr), f = (k : Int) ∧ k < l.length ∧ l[k]? = some r ∧ 40 ≤ r.most := by
  rcases h with ⟨h0, _⟩ | ⟨k, r, _, _, hr, rfl, _, _, hm⟩
  · omega
  · exact ⟨k, r, rfl, (List.getElem?_eq_some_iff.mp hr).1, hr, hm⟩
theorem made_list (z : Value) (n : Nat) : (madeCells #[z] n).toList = List.replicate n z := by
  unfold madeCells
  apply List.ext_getElem?
  intro i
  simp [List.getElem?_replicate]
  by_cases h : i < n
  · simp [h, Nat.mod_one]
  · simp [h]
set_option maxRecDepth 100000 in
set_option maxHeartbeats 3200000 in
theorem ends_law {G : World → Prop} {dl : Rtr → Int → Int} (K : RetryOK G dl) (l : List Rtr) (name : ByteArray) (v : Value) (w : World) (hG : G w) (h : RL w v l) (hs : SmlR l) (ho : ∀ r ∈ l, Okr r) (hl : l.length ≤ 2000000) (he : ∀ r ∈ l, r.errs.length ≤ 2000000) :
    Calls Tryd.prog 6 #[v, .string name] w fun e w' => e = .returned (.bool true) ∧ Below w.heap.size w w' := by
  have HK := hide K
  have HG := hide hG
  have HE := hide he
  have HO := hide ho
  have H := hide h
  have HL := hide hl
  have C0 := hide (retriers_any l v w h hs)
  obtain ⟨oa, c, rfl, _, _⟩ := h.form
  have hmk := run_make_row' (P := Tryd.prog) 27 3 (.int .i64 0) 8 undI infoInt rfl .i64 .i64 l.length (by omega) (by omega)
  clear h K hG he ho hs hl
  go_enter Tryd.func6, Tryd.ntmps6
  go_wp2_with fail
  refine (unhide C0).mono ?_
  rintro e w1 ⟨⟨b, rfl⟩, n1, hw1⟩
  have B1 : Hid (Below w.heap.size w w1) := by rw [hw1]; exact mm.below_drewN _ _ _
  clear C0 hw1
  cases b with
  | true =>
    go_wp2
    go_ret
    exact ⟨rfl, unhide B1⟩
  | false =>
    have C1 := hide (awake_any (unhide HK) w1 ((unhide HK).keep _ _ (unhide HG) (unhide B1)))
    go_wp2_with fail
    refine (unhide C1).mono ?_
    rintro e w2 ⟨rfl, b2⟩
    have B2 := hide ((unhide B1).trans (b2.mono (unhide B1).size))
    clear C1 b2 B1
    have B3 := hide ((unhide B2).alloc (unhide B2).size (.cells (madeCells #[.int .i64 0] l.length) 3))
    have I3 : Hid (IS (w2.alloc (.cells (madeCells #[.int .i64 0] l.length) 3)) (.slice (some ⟨w2.heap.size, 0, none⟩) l.length l.length) (List.replicate l.length 0)) := by
      have := sv_cells (heap_alloc_new w2 (.cells (madeCells #[.int .i64 0] l.length) 3)) l.length 1 (by rw [size_madeCells, Nat.mul_one]) (by have := unhide HL; unfold maxLen; omega)
      rw [made_list] at this
      show SV _ _ _ _ _
      rw [List.length_replicate, List.map_replicate]
      exact this
    go_wp2
    go_loopw [6, 7, 8, 9] (fun cv fv dv nv wr => ∃ (n : Nat) (f d : Int) (ch : List Int), n ≤ 40 ∧ nv = .int .i64 (n : Int) ∧ fv = .int .i64 f ∧ dv = .int .i64 d ∧ Hid (Ends dl l name n f d ch) ∧ Hid (IS wr cv ch) ∧ Hid (Below w.heap.size w wr)) (fun _ _ _ nv _ => 40 - (intOf nv).toNat)
    case atStart => exact ⟨0, -1, 0, _, by omega, rfl, rfl, rfl, Or.inl ⟨rfl, rfl, rfl, rfl⟩, I3, B3⟩
    case round =>
      obtain ⟨n, f, d, ch, hn, rfl, rfl, rfl, hEn, hI, hB⟩ := hrel
      by_cases hn40 : n < 40
      · have e1 : (n : Int) < 40 := by omega
        obtain ⟨hcl, hco⟩ := ends_ch (unhide hEn) hn
        have C2 := hide ((unhide HK).retry l ch name _ _ wr ((unhide HK).keep _ _ (unhide HG) (unhide hB)) ((unhide H).keep (unhide hB)) (unhide hI) (unhide HO) hco (by have := unhide HL; omega))
        have HCO := hide hco
        have HCL := hide hcl
        clear hco hcl B2 B3 I3
        rcases ends_step (unhide HK) (unhide hEn) hn40 (unhide HO) with ⟨hr, hrest⟩ | ⟨k, r, hr, hk, hlk, hm, hf, hd1, hd2, hE2⟩
        · rw [hr] at C2
          have HREST := hide hrest
          clear hr hrest
          rcases unhide HREST with ⟨rfl, hlft⟩ | ⟨k, r, rfl, hk, hlk, hmo⟩
          · clear HREST
            go_wp2_with fail
            refine (unhide C2).mono ?_
            rintro e w4 ⟨rfl, b4⟩
            have B4 := hide ((unhide hB).trans (b4.mono (unhide hB).size))
            clear C2 b4 hB hI
            have C3 := hide (left_any (unhide HK) l name _ w4 ((unhide HK).keep _ _ (unhide HG) (unhide B4)) ((unhide H).keep (unhide B4)) (unhide HE))
            rw [hlft] at C3
            clear hlft
            go_wp2_with fail
            refine (unhide C3).mono ?_
            rintro e w5 ⟨rfl, b5⟩
            have B5 := hide ((unhide B4).trans (b5.mono (unhide B4).size))
            clear C3 b5 B4
            go_wp2
            go_ret
            exact ⟨rfl, unhide B5⟩
          · clear HREST
            have HLK := hide hlk
            have HMO := hide hmo
            clear hlk hmo
            go_wp2_with fail
            refine (unhide C2).mono ?_
            rintro e w4 ⟨rfl, b4⟩
            have B4 := hide ((unhide hB).trans (b4.mono (unhide hB).size))
            clear C2 b4 hB hI
            obtain ⟨a, c', e, _, _, hcell⟩ := ((unhide H).keep (unhide B4)).at (by omega)
            cases e
            have d1 := at1 2 (by omega) (hcell k r (unhide HLK)).c2
            rw [unhide HMO] at d1
            have e2 : (k : Int) < (l.length : Int) := by omega
            have e3 : ((n : Int) == (n : Int)) = true := by simp
            have e4 : decide ((k : Int) < 0) = false := decide_eq_false (by omega)
            clear hcell
            go_wp2
            go_ret
            exact ⟨rfl, unhide B4⟩
        · rw [hr] at C2
          have HEE := hide hE2
          have HLK := hide hlk
          have HM := hide hm
          have HF := hide hf
          generalize hdv : dl r ((n : Int) + 1) = d2 at *
          clear hr hE2 hlk hm hf hdv
          go_wp2_with fail
          refine (unhide C2).mono ?_
          rintro e w4 ⟨rfl, b4⟩
          have B4 := hide ((unhide hB).trans (b4.mono (unhide hB).size))
          have I4 := hide ((unhide hI).keep b4)
          clear C2 b4 hB hI
          obtain ⟨a, c', e, _, _, hcell⟩ := ((unhide H).keep (unhide B4)).at (by omega)
          cases e
          obtain ⟨ev, hev, hss⟩ := (hcell k r (unhide HLK)).c0
          have C3 := hide ((unhide HK).matches_ r.errs name ev w4 ((unhide HK).keep _ _ (unhide HG) (unhide B4)) hss (by have := unhide HE r (List.mem_of_getElem? (unhide HLK)); omega))
          rw [unhide HM] at C3
          have e2 : (k : Int) < (l.length : Int) := by omega
          have e4 : decide ((k : Int) < 0) = false := decide_eq_false (by omega)
          have e5 : decide ((l.length : Int) ≤ (k : Int)) = false := decide_eq_false (by omega)
          have e6 : decide (d2 < d) = false := decide_eq_false (by omega)
          have e7 : decide (2147483648 < d2) = false := decide_eq_false (by omega)
          have e8 : ((k : Int) != (k : Int)) = false := by simp
          have e9 : decide ((0 : Int) ≤ (k : Int)) = true := decide_eq_true (by omega)
          clear hcell hss HM hd1 hd2 hk
          obtain ⟨oc, cc, hcv, _, _⟩ := SV.form (unhide I4)
          rw [unhide HCL] at hcv
          subst hcv
          rcases unhide HF with rfl | rfl
          all_goals
            go_wp2_with fail
            refine (unhide C3).mono ?_
            rintro e w5 ⟨rfl, b5⟩
            have B5 := hide ((unhide B4).trans (b5.mono (unhide B4).size))
            have I5 := hide ((unhide I4).keep b5)
            clear C3 b5 B4 I4 hev HF
            have C6 := hide ((unhide HK).charge ch (k : Int) _ w5 ((unhide HK).keep _ _ (unhide HG) (unhide B5)) (unhide I5) (unhide HCO) (by have := unhide HL; have := unhide HCL; exact ⟨by omega, by omega⟩) (by have := unhide HL; have := unhide HCL; omega))
            go_wp2_with fail
            refine (unhide C6).mono ?_
            rintro e w6 ⟨v6, rfl, o6, b6⟩
            have B6 := hide ((unhide B5).trans (b6.mono (unhide B5).size))
            have I6 := hide o6.is
            clear C6 b6 o6 B5 I5
            go_wp2
            exact ⟨⟨n + 1, (k : Int), d2, chg ch (k : Int), by omega, by go_num, rfl, rfl, HEE, I6, B6⟩, by simp [intOf]; omega⟩
      · obtain rfl : n = 40 := by omega
        obtain ⟨k, r, rfl, hk, hlk, hmo⟩ := ends_last (unhide hEn)
        obtain ⟨a, c', e, _, _, hcell⟩ := ((unhide H).keep (unhide hB)).at (by omega)
        cases e
        have d1 := at1 2 (by omega) (hcell k r hlk).c2
        have e2 : (k : Int) < (l.length : Int) := by omega
        have e3 : decide ((40 : Int) ≤ r.most) = true := decide_eq_true hmo
        clear hcell hlk B2 B3 I3
        go_wp2
        go_ret
        exact ⟨rfl, unhide hB⟩
end Go.Proofs.YtmnikcnjdeldeaaDoor.rt
