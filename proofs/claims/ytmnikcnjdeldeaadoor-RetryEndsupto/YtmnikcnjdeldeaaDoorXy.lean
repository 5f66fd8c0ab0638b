/- The landed package retry: Retry, over Delay's contract. -/
import Derived.Test.YtmnikcnjdeldeaaDoorXx
import Derived.Test.YtmnikcnjdeldeaaDoorXj
import Derived.Test.YtmnikcnjdeldeaaDoorDz
namespace Go.Proofs.YtmnikcnjdeldeaaDoor.rt
open Go.RowKit Go.Joins mm rd

/-- How long a retrier waits at its n-th charge. -/
def dlR (r : Rtr) (n : Int) : Int := dly (max r.iv 0) (rate9 (sR (norm ⟨r.neg, r.digs, r.ex⟩))) (min (max n 1) 100 - 1).toNat (if r.md < 1 ∨ 2147483648 < r.md then 2147483648 else r.md)
/-- What the package's variables hold. -/
def GR (w : World) : Prop := Pow w ∧ ∃ eX, w.cell? ⟨0, 0, none⟩ = some eX
theorem GR.keep {w w' : World} (h : GR w) (hb : Below w.heap.size w w') : GR w' := by
  obtain ⟨h1, eX, h2⟩ := h
  exact ⟨h1.keep hb, eX, keepC hb h2⟩

theorem fnd_in (l : List Rtr) (name : ByteArray) (k : Nat) (h : fnd l name = some k) : ∃ r, l[k]? = some r := by
  unfold fnd at h
  rw [List.findIdx?_eq_some_iff_getElem] at h
  obtain ⟨hk, _⟩ := h
  exact ⟨l[k], List.getElem?_eq_getElem hk⟩

set_option maxRecDepth 100000 in
set_option maxHeartbeats 3200000 in
theorem retry_any (l : List Rtr) (ch : List Int) (name : ByteArray) (v c : Value) (w : World) (hG : GR w) (h : RL w v l) (hi : IS w c ch) (ho : ∀ r ∈ l, Okr r) (hc : ∀ n ∈ ch, Oki n) (hl : l.length ≤ 1000000000000) :
    Calls Tryd.prog 20 #[v, c, .string name] w fun e w' => e = .returned (.tuple #[.int .i64 (rty dlR l ch name).1, .int .i64 (rty dlR l ch name).2.1, .bool (rty dlR l ch name).2.2]) ∧ Below w.heap.size w w' := by
  have CF := hide (firstR_any l name v w h)
  have H := hide h
  have HI := hide hi
  have HG := hide hG
  obtain ⟨oa, cv, rfl, h1, h2⟩ := h.form
  obtain ⟨ob, cc, rfl, i1, i2⟩ := SV.form hi
  clear h hi hG
  cases hf : fnd l name with
  | none =>
    have e1 : fnr l name = (0, false) := by unfold fnr; rw [hf]
    have e2 : rty dlR l ch name = (0, 0, false) := by unfold rty; rw [hf]
    rw [e1] at CF
    rw [e2]
    clear hf e1 e2 ho hc
    go_enter Tryd.func20, Tryd.ntmps20
    go_wp2_with fail
    refine (unhide CF).mono ?_
    rintro e w1 ⟨rfl, hb1⟩
    have HB1 := hide hb1
    clear hb1 CF
    go_wp2
    go_ret3
    exact ⟨rfl, unhide HB1⟩
  | some k =>
    obtain ⟨r, hr⟩ := fnd_in l name k hf
    have e1 : fnr l name = ((k : Int), true) := by unfold fnr; rw [hf]
    have e2 : rty dlR l ch name = if r.most ≤ tms ch k then (0, 0, false) else ((k : Int), dlR r (tms ch k + 1), true) := by unfold rty; rw [hf]; simp only [hr]
    have hkl : k < l.length := (List.getElem?_eq_some_iff.mp hr).1
    have e3 : (k : Int) < (l.length : Int) := by omega
    obtain ⟨o1, o2, o3, o4, o5, o6, o7, o8, o9⟩ := ho r (List.mem_of_getElem? hr)
    have CT := hide (fun (w : World) (h : IS w (.slice ob ch.length cc) ch) => times_any ch k _ w h (by omega) hc)
    obtain ⟨t0, t1⟩ := tms_bd ch k hc
    rw [e1] at CF
    clear hf e1 ho hc
    generalize tms ch k = t at *
    by_cases hm : r.most ≤ t
    · rw [if_pos hm] at e2
      rw [e2]
      clear e2
      go_enter Tryd.func20, Tryd.ntmps20
      go_wp2_with fail
      refine (unhide CF).mono ?_
      rintro e w1 ⟨rfl, hb1⟩
      have HB1 := hide hb1
      have CT1 : ∀ n, Hid (Calls Tryd.prog 25 #[.slice ob ch.length cc, .int .i64 (k : Int)] (w1.drewN n) fun e w' => e = .returned (.int .i64 t) ∧ w' = w1.drewN n) := fun n => unhide CT (w1.drewN n) (((unhide HI).keep hb1).drewN n)
      obtain ⟨a, c', e, _, _, hcell⟩ := ((unhide H).keep hb1).at (by omega)
      cases e
      have hmo := at1 2 (by omega) (hcell k r hr).c2
      clear hb1 CF hcell H HI CT
      go_upto_region 4 with fail
      go_quiet ((go_at_call 25; exact Calls.quiet_of_same (unhide (CT1 _))))
      go_wp2
      go_ret3
      exact ⟨rfl, (unhide HB1).trans ((mm.below_drewN _ _ _).mono (unhide HB1).size)⟩
    · rw [if_neg hm] at e2
      rw [e2]
      clear e2
      have CD := hide (fun (w : World) (hG : GR w) => by
        obtain ⟨hp, eX, hE⟩ := hG
        exact delay_any r.iv ⟨r.neg, r.digs, r.ex⟩ (t + 1) r.md eX w o9 o5 o6 o1 o2 (by omega) (by omega) o7 o8 hp hE)
      simp only [dv] at CD
      have HD : Hid (dlR r (t + 1) = dly (max r.iv 0) (rate9 (sR (norm ⟨r.neg, r.digs, r.ex⟩))) (min (max (t + 1) 1) 100 - 1).toNat (if r.md < 1 ∨ 2147483648 < r.md then 2147483648 else r.md)) := rfl
      rw [← unhide HD] at CD
      clear HD
      generalize dlR r (t + 1) = res at CD ⊢
      go_enter Tryd.func20, Tryd.ntmps20
      go_wp2_with fail
      refine (unhide CF).mono ?_
      rintro e w1 ⟨rfl, hb1⟩
      have HB1 := hide hb1
      have CT1 : ∀ n, Hid (Calls Tryd.prog 25 #[.slice ob ch.length cc, .int .i64 (k : Int)] (w1.drewN n) fun e w' => e = .returned (.int .i64 t) ∧ w' = w1.drewN n) := fun n => unhide CT (w1.drewN n) (((unhide HI).keep hb1).drewN n)
      have HG1 := hide ((unhide HG).keep hb1)
      obtain ⟨a, c', e, _, _, hcell⟩ := ((unhide H).keep hb1).at (by omega)
      cases e
      have hC := hcell k r hr
      have hwr : IntKind.i64.wrap (t + 1) = t + 1 := IntWalk.i64_in _ ⟨by omega, by omega⟩
      have m1 := at1 1 (by omega) hC.c1
      have m2 := at1 2 (by omega) hC.c2
      have m3 := at1 3 (by omega) hC.c3
      have m4 := at1 4 (by omega) hC.c4
      have m5 := at1 5 (by omega) hC.c5
      have m6 := at1 6 (by omega) hC.c6
      clear hb1 CF hcell H HI CT hC HG o1 o2 o3 o4 o5 o6 o7 o8 o9 hr
      go_upto_region 4 with fail
      go_quiet ((go_at_call 25; exact Calls.quiet_of_same (unhide (CT1 _))))
      clear CT1
      go_upto_region 7 with fail
      generalize hA : a.add (k * 7) = A at *
      clear hA m2
      have GD : Hid (GR (w1.drewN (nq + 1))) := (unhide HG1).keep ⟨rfl, rfl, rfl, Nat.le_refl _, fun _ _ => rfl⟩
      have BD : Hid (Below w.heap.size w (w1.drewN (nq + 1))) := (unhide HB1).trans ⟨rfl, rfl, rfl, Nat.le_refl _, fun _ _ => rfl⟩
      have n1 : (w1.drewN (nq + 1)).cell? ⟨A.block, A.off + 1, none⟩ = some (.int .i64 r.iv) := m1
      have n3 : (w1.drewN (nq + 1)).cell? ⟨A.block, A.off + 3, none⟩ = some (.bool r.neg) := m3
      have n4 : (w1.drewN (nq + 1)).cell? ⟨A.block, A.off + 4, none⟩ = some (.string r.digs) := m4
      have n5 : (w1.drewN (nq + 1)).cell? ⟨A.block, A.off + 5, none⟩ = some (.int .i64 r.ex) := m5
      have n6 : (w1.drewN (nq + 1)).cell? ⟨A.block, A.off + 6, none⟩ = some (.int .i64 r.md) := m6
      go_region_held3 (fun w' => w'.cell? ⟨A.block, A.off + 1, none⟩ = some (.int .i64 r.iv) ∧ w'.cell? ⟨A.block, A.off + 3, none⟩ = some (.bool r.neg) ∧ w'.cell? ⟨A.block, A.off + 4, none⟩ = some (.string r.digs) ∧ w'.cell? ⟨A.block, A.off + 5, none⟩ = some (.int .i64 r.ex) ∧ w'.cell? ⟨A.block, A.off + 6, none⟩ = some (.int .i64 r.md)) (((try dsimp only); (repeat' apply And.intro); all_goals first | assumption | (go_keep; done))) (first
        | (go_at_call 31; refine (unhide CD _ (unhide GD)).mono ?_; rintro e u2 ⟨rfl, hb2⟩; have HB2 := hide ((unhide BD).trans (hb2.mono (unhide BD).size)); have k1 := keepC hb2 n1; have k3 := keepC hb2 n3; have k4 := keepC hb2 n4; have k5 := keepC hb2 n5; have k6 := keepC hb2 n6; clear hb2))
      all_goals go_wp2_with fail
      all_goals go_ret3
      all_goals exact ⟨rfl, unhide HB2⟩
end Go.Proofs.YtmnikcnjdeldeaaDoor.rt
