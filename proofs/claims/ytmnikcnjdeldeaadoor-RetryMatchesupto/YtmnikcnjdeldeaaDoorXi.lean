/- The laws' small functions: names, catchers, retriers; the reference's Catch. -/
import Derived.Test.YtmnikcnjdeldeaaDoorMhG
namespace Go.Proofs.YtmnikcnjdeldeaaDoor.rt
open Go.RowKit Go.Joins mm

/-- Of a size that a machine may hold. -/
def Sml (l : List ByteArray) : Prop := ∀ s ∈ l, s.size ≤ 1000000000000
/-- What names answers. -/
def nmF : List ByteArray → Int → Int
  | [], n => n
  | s :: t, n => if n < 4194304 then nmF t (n + 1 + (s.size : Int)) else n
theorem nmF_ge (l : List ByteArray) (n : Int) (h : ¬ n < 4194304) : nmF l n = n := by
  cases l with
  | nil => rfl
  | cons s t => unfold nmF; rw [if_neg h]
theorem nmF_in : ∀ (l : List ByteArray) (n : Int), Sml l → 0 ≤ n → n ≤ 3000000000000 → 0 ≤ nmF l n ∧ nmF l n ≤ 3000000000000
  | [], n, _, h0, h1 => ⟨h0, h1⟩
  | s :: t, n, hs, h0, h1 => by
    have := hs s (List.mem_cons_self ..)
    unfold nmF
    split
    · exact nmF_in t _ (fun x hx => hs x (List.mem_cons_of_mem _ hx)) (by omega) (by omega)
    · exact ⟨h0, h1⟩
theorem nmF_step (l : List ByteArray) (k : Nat) (u : ByteArray) (h : l[k]? = some u) (n : Int) (hn : n < 4194304) : nmF (l.drop k) n = nmF (l.drop (k + 1)) (n + 1 + (u.size : Int)) := by
  obtain ⟨hk, e⟩ := List.getElem?_eq_some_iff.mp h
  rw [List.drop_eq_getElem_cons hk, e]
  show (if n < 4194304 then _ else _) = _
  rw [if_pos hn]
set_option maxRecDepth 100000 in
set_option maxHeartbeats 1600000 in
theorem names_any (l : List ByteArray) (v : Value) (n : Int) (w : World) (h : SS w v l) (hs : Sml l) (hn0 : 0 ≤ n) (hn1 : n ≤ 3000000000000) :
    Calls Tryd.prog 26 #[v, .int .i64 n] w fun e w' => e = .returned (.int .i64 (nmF l n)) ∧ w' = w := by
  have H := hide h
  have HS := hide hs
  obtain ⟨oa, c, rfl, h1, h2⟩ := SV.form h
  clear h hs
  generalize hr : nmF l n = res
  have HR := hide hr
  clear hr
  go_enter Tryd.func26, Tryd.ntmps26
  go_wp2
  go_loopw [1, 5] (fun nv iv wr => ∃ (k : Nat) (m : Int), k ≤ l.length ∧ iv = .int .i64 (k : Int) ∧ nv = .int .i64 m ∧ 0 ≤ m ∧ m ≤ 3000000000000 ∧ Hid (nmF (l.drop k) m = res) ∧ wr = w) (fun _ iv _ => l.length - (intOf iv).toNat)
  case atStart => exact ⟨0, n, by omega, rfl, rfl, hn0, hn1, HR, rfl⟩
  case round =>
    obtain ⟨k, m, hk, rfl, rfl, hm0, hm1, hF, rfl⟩ := hrel
    by_cases hc : k < l.length
    · have e1 : (k : Int) < (l.length : Int) := by omega
      by_cases hm : m < 4194304
      · obtain ⟨a, c', e, _, _, hcell⟩ := SS.at (unhide H) (by omega)
        cases e
        obtain ⟨u, hu⟩ : ∃ u, l[k]? = some u := ⟨l[k], List.getElem?_eq_getElem hc⟩
        have hcu := hcell k u hu
        have hus := unhide HS u (List.mem_of_getElem? hu)
        have e2 : (k : Int) < 9223372036854775807 := by unfold maxLen at h2; omega
        have HF := hide (show nmF (l.drop (k + 1)) (m + 1 + (u.size : Int)) = res by rw [← nmF_step l k u hu m hm]; exact unhide hF)
        clear hcell hu H HS hF HR
        go_wp2
        exact ⟨⟨k + 1, m + 1 + (u.size : Int), by omega, by go_num, by go_num, by omega, by omega, HF, trivial⟩, by simp [intOf]; omega⟩
      · have e3 : decide (m < 4194304) = false := decide_eq_false hm
        have HE := hide (show m = res by rw [← nmF_ge (l.drop k) m hm]; exact unhide hF)
        clear H HS hF HR
        go_wp2
        go_ret
        exact ⟨by rw [← unhide HE]; rfl, rfl⟩
    · have e3 : decide ((k : Int) < (l.length : Int)) = false := decide_eq_false (by omega)
      have HE := hide (show m = res by have := unhide hF; rw [List.drop_eq_nil_of_le (by omega)] at this; exact this)
      clear H HS hF HR
      go_wp2
      go_ret
      exact ⟨by rw [← unhide HE]; rfl, rfl⟩

def BoolP (e : Ending) : Prop := ∃ b : Bool, e = .returned (.bool b)
def SmlC (l : List Ctr) : Prop := ∀ r ∈ l, Sml r.errs
set_option maxRecDepth 100000 in
set_option maxHeartbeats 1600000 in
theorem catchers_any (l : List Ctr) (v : Value) (w : World) (h : CL w v l) (hs : SmlC l) :
    Calls Tryd.prog 16 #[v] w fun e w' => BoolP e ∧ w' = w := by
  have H := hide h
  have HS := hide hs
  obtain ⟨oa, c, rfl, h1, h2⟩ := h.form
  clear h hs
  go_enter Tryd.func16, Tryd.ntmps16
  go_wp2
  go_loopw [3, 4] (fun nv iv wr => ∃ (k : Nat) (m : Int), k ≤ l.length ∧ iv = .int .i64 (k : Int) ∧ nv = .int .i64 m ∧ 0 ≤ m ∧ m ≤ 3000000000000 ∧ wr = w) (fun _ iv _ => l.length - (intOf iv).toNat)
  case atStart => exact ⟨0, 0, by omega, rfl, rfl, by omega, by omega, rfl⟩
  case round =>
    obtain ⟨k, m, hk, rfl, rfl, hm0, hm1, rfl⟩ := hrel
    by_cases hc : k < l.length
    · have e1 : (k : Int) < (l.length : Int) := by omega
      by_cases hm : m < 4194304
      · obtain ⟨a, c', e, _, _, hcell⟩ := (unhide H).at (by omega)
        cases e
        obtain ⟨r, hr⟩ : ∃ r, l[k]? = some r := ⟨l[k], List.getElem?_eq_getElem hc⟩
        have hC := hcell k r hr
        have e2 : (k : Int) < 9223372036854775807 := by unfold maxLen at h2; omega
        obtain ⟨ev, hev, hss⟩ := hC.c0
        have hsm := unhide HS r (List.mem_of_getElem? hr)
        have C1 := hide (names_any r.errs ev (m + 1) wr hss hsm (by omega) (by omega))
        obtain ⟨q0, q1⟩ := nmF_in r.errs (m + 1) hsm (by omega) (by omega)
        generalize nmF r.errs (m + 1) = m2 at *
        clear hcell hr hC hss hsm
        go_wp2_with fail
        refine (unhide C1).mono ?_
        rintro e w1 ⟨rfl, hw⟩
        obtain rfl := hw.symm
        clear C1
        go_wp2
        exact ⟨⟨k + 1, m2, by omega, by go_num, rfl, q0, q1, trivial⟩, by simp [intOf]; omega⟩
      · have e3 : decide (m < 4194304) = false := decide_eq_false hm
        clear H HS
        go_wp2
        go_ret
        exact ⟨⟨_, rfl⟩, rfl⟩
    · have e3 : decide ((k : Int) < (l.length : Int)) = false := decide_eq_false (by omega)
      clear H HS
      go_wp2
      go_ret
      exact ⟨⟨_, rfl⟩, rfl⟩

theorem ctc_none (l : List Ctr) (name : ByteArray) (h : ∀ (j : Nat) (r : Ctr), j < l.length → l[j]? = some r → mat r.errs name = false) : cat l name = (0, false) := by
  have : ctc l name = none := by
    unfold ctc
    rw [List.findIdx?_eq_none_iff]
    intro x hx
    obtain ⟨j, hj⟩ := List.getElem?_of_mem hx
    obtain ⟨hlt, _⟩ := List.getElem?_eq_some_iff.mp hj
    exact h j x hlt hj
  unfold cat; rw [this]
theorem ctc_some (l : List Ctr) (name : ByteArray) (k : Nat) (r : Ctr) (hr : l[k]? = some r) (hm : mat r.errs name = true) (h : ∀ (j : Nat) (r : Ctr), j < k → l[j]? = some r → mat r.errs name = false) : cat l name = ((k : Int), true) := by
  have : ctc l name = some k := by
    unfold ctc
    obtain ⟨hk, e⟩ := List.getElem?_eq_some_iff.mp hr
    rw [List.findIdx?_eq_some_iff_getElem]
    refine ⟨hk, by rw [e]; exact hm, fun j hj => ?_⟩
    have := h j l[j] hj (List.getElem?_eq_getElem (by omega))
    simp [this]
  unfold cat; rw [this]

set_option maxRecDepth 100000 in
set_option maxHeartbeats 1600000 in
theorem rcatch_any (l : List Ctr) (name : ByteArray) (v : Value) (w : World) (h : CL w v l) :
    Calls Tryd.prog 18 #[v, .string name] w fun e w' => e = .returned (.tuple #[.int .i64 (cat l name).1, .bool (cat l name).2]) ∧ w' = w := by
  have H := hide h
  obtain ⟨oa, c, rfl, h1, h2⟩ := h.form
  clear h
  generalize hr : cat l name = res
  have HR := hide hr
  clear hr
  go_enter Tryd.func18, Tryd.ntmps18
  go_wp2
  go_loopw [6] (fun iv wr => ∃ k : Nat, k ≤ l.length ∧ iv = .int .i64 (k : Int) ∧ Hid (∀ (j : Nat) (r : Ctr), j < k → l[j]? = some r → mat r.errs name = false) ∧ wr = w) (fun iv _ => l.length - (intOf iv).toNat)
  case atStart => exact ⟨0, by omega, rfl, (fun j u hj => by omega), rfl⟩
  case round =>
    obtain ⟨k, hk, rfl, hn, rfl⟩ := hrel
    by_cases hc : k < l.length
    · have e1 : (k : Int) < (l.length : Int) := by omega
      have e2 : (k : Int) < 9223372036854775807 := by unfold maxLen at h2; omega
      obtain ⟨a, c', e, _, _, hcell⟩ := (unhide H).at (by omega)
      cases e
      obtain ⟨r, hr⟩ : ∃ r, l[k]? = some r := ⟨l[k], List.getElem?_eq_getElem hc⟩
      obtain ⟨ev, hev, hss⟩ := (hcell k r hr).c0
      have C1 := hide (rmatches_any r.errs name ev wr hss)
      have HU := hide hr
      clear hcell hr H hss
      cases hm : mat r.errs name with
      | true =>
        rw [hm] at C1
        have HE := hide (show res = ((k : Int), true) by rw [← unhide HR]; exact ctc_some l name k r (unhide HU) hm (unhide hn))
        clear hm hn HR
        go_wp2_with fail
        refine (unhide C1).mono ?_
        rintro e w1 ⟨rfl, hw⟩
        obtain rfl := hw.symm
        clear C1
        go_wp2
        go_ret2
        exact ⟨by rw [unhide HE]; rfl, rfl⟩
      | false =>
        rw [hm] at C1
        have HO : Hid (∀ (j : Nat) (x : Ctr), j < k + 1 → l[j]? = some x → mat x.errs name = false) := fun j x hj hx => by
          by_cases e : j = k
          · subst e; rw [unhide HU] at hx; cases hx; exact hm
          · exact unhide hn j x (by omega) hx
        clear hm hn HR HU
        go_wp2_with fail
        refine (unhide C1).mono ?_
        rintro e w1 ⟨rfl, hw⟩
        obtain rfl := hw.symm
        clear C1
        go_wp2
        exact ⟨⟨k + 1, by omega, by go_num, HO, trivial⟩, by simp [intOf]; omega⟩
    · obtain rfl : k = l.length := by omega
      have HE := hide (show res = (0, false) by rw [← unhide HR]; exact ctc_none l name (unhide hn))
      clear hn H HR
      go_wp2
      go_ret2
      exact ⟨by rw [unhide HE]; rfl, rfl⟩
end Go.Proofs.YtmnikcnjdeldeaaDoor.rt
