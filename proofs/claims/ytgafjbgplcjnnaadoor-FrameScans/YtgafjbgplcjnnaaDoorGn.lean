/- FrameBack, over the calls' contracts. -/
import Derived.Test.YtgafjbgplcjnnaaDoorGm
namespace Go.Proofs.YtgafjbgplcjnnaaDoor.fr
open Go.RowKit Go.Joins

theorem OI.form {w : World} {B : Nat} {v : Value} {l : List Nat} (h : OI w B v l) (hl : 0 < l.length) : ∃ g c, v = .slice (some ⟨g, 0, none⟩) l.length c ∧ l.length ≤ c ∧
    ∀ (j n : Nat), l[j]? = some n → w.cell? ((⟨g, 0, none⟩ : Addr).add j) = some (.int .i64 (n : Int)) := by
  obtain ⟨_, ⟨rfl, h0⟩ | ⟨g, cap, cur, rfl, hb, hg, hc, hm, hs, ht⟩⟩ := h
  · omega
  · refine ⟨g, cap, rfl, hc, fun j n hn => ?_⟩
    obtain ⟨hj, _⟩ := List.getElem?_eq_some_iff.mp hn
    have e : (⟨g, 0, none⟩ : Addr).add j = ⟨g, j, none⟩ := by unfold Addr.add; split <;> simp_all
    rw [e, blk_cell hg]
    have h1' : (cur.toList.take (l.length * 1))[j]? = (l.map vi)[j]? := by rw [ht]
    rw [List.getElem?_take, if_pos (by omega), List.getElem?_map, hn] at h1'
    simpa [vi] using h1'
theorem fat_at (ls : List (List UInt8)) (j : Nat) (h : j ≤ ls.length) : ((List.range (ls.length + 1)).map (fat ls))[j]? = some (fat ls j) := by
  rw [List.getElem?_map, List.getElem?_range (by omega)]; rfl
theorem add0 (g j : Nat) : (⟨g, 0, none⟩ : Addr).add j = ⟨g, j, none⟩ := by unfold Addr.add; split <;> simp_all
theorem size36 (u : World) : (sizeOf (Tryd.prog.elem 36)).run Tryd.prog u = .ok 1 u := by
  have e : Tryd.prog.elem 36 = 22 := by kernel_rfl
  rw [e]
  have h : Tryd.t22.size = 1 := by kernel_rfl
  simp [sizeOf, go_sem, h]
theorem und36 : Tryd.prog.underlying 36 = some (.slice (Tryd.prog.elem 36)) := by kernel_rfl
theorem LS.h {w : World} {v : Value} {ls : List (List UInt8)} (h : LS w v ls) (hi : Nat) (h2 : hi ≤ ls.length) (kh : Int) (eh : kh = (hi : Int)) :
    ∃ v', (∀ u : World, (Instr.slice 36 v none (some (.int .i64 kh)) none).run Tryd.prog u = .ok v' u) ∧ LS w v' (ls.take hi) := by
  obtain ⟨vs, h1, ⟨oa, c, rfl, q1, q2, q3, q4⟩, h3⟩ := h
  have hl : (ls.take hi).length = hi := by rw [List.length_take]; omega
  refine ⟨sliced oa 0 hi c 1, fun u => ?_, vs.take hi, by rw [List.length_take, hl]; omega, ⟨if c = 0 then oa else oa.map (·.add (0 * 1)), c - 0, by rw [hl]; rfl, by omega, by omega, fun q => ?_, fun a ha j u hu => ?_⟩, fun j x l hx hl' => ?_⟩
  · subst eh
    rw [run_slice_h (P := Tryd.prog) (ht := und36) (h0 := by omega) (h2 := by omega), size36]
    rfl
  · have : oa = none := by
      split at q
      · exact q
      · simpa using q
    obtain ⟨z1, z2⟩ := q3 this
    rw [z1, z2]; simp
  · rw [List.getElem?_take] at hu
    split at hu
    · split at ha
      · exact q4 a ha j u hu
      · cases oa with
        | none => simp at ha
        | some b =>
          have : b = a := by simpa [Addr.add] using ha
          subst this
          exact q4 b rfl j u hu
    · cases hu
  · rw [List.getElem?_take] at hx hl'
    split at hx
    · rename_i hj
      rw [if_pos hj] at hl'
      exact h3 j x l hx hl'
    · cases hx

set_option maxRecDepth 100000 in
set_option maxHeartbeats 3200000 in
theorem back_any {a : Addr} {G : World → Prop} (K : FrameOK a G) (ls : List (List UInt8)) (v : Value) (cut : Int) (w : World) (hG : G w) (h : LS w v ls) (hc0 : -9223372036854775808 ≤ cut) (hc1 : cut ≤ 9223372036854775807) :
    Calls Tryd.prog 5 #[v, .int .i64 cut] w fun e w' => e = .returned (.bool true) ∧ Below w.heap.size w w' := by
  have HK := hide K
  have HG := hide hG
  have HL := hide h
  have C1 := hide (heavy_any ls v w h)
  obtain ⟨oa, c, rfl, h1, h2, _⟩ := h.form
  clear h K hG
  go_enter Tryd.func5, Tryd.ntmps5
  go_wp2_with fail
  refine (unhide C1).mono ?_
  rintro e w1 ⟨⟨b, rfl, hb⟩, rfl⟩
  clear C1
  cases b with
  | true =>
    go_wp2
    go_ret
    exact ⟨rfl, Below.refl _ _⟩
  | false =>
    obtain ⟨hs, ht⟩ := hb rfl
    have HS := hide hs
    clear hb hs
    have C2 := hide (awake_any (unhide HK) w1 (unhide HG))
    go_wp2_with fail
    refine (unhide C2).mono ?_
    rintro e w2 ⟨rfl, b2⟩
    have B2 := hide b2
    clear C2 b2
    have C3 := hide (laid_any (unhide HK) ls _ w2 ((unhide HK).keep _ _ (unhide HG) (unhide B2)) ((unhide HL).keep (unhide B2)) (unhide HS) ht)
    go_wp2_with fail
    refine (unhide C3).mono ?_
    rintro e w3 ⟨⟨bv, av, rfl, o3, i3, _⟩, b3⟩
    have B3 := hide ((unhide B2).trans (b3.mono (unhide B2).size))
    obtain ⟨ob, bc, hbv⟩ := o3.form
    subst hbv
    obtain ⟨g, ac, hav, hac, hai⟩ := i3.form (by simp)
    rw [List.length_map, List.length_range] at hav hac
    subst hav
    have S3 := hide o3.bs
    have HA := hide hai
    have C4 := hide ((unhide HK).scan _ _ _ ((unhide HK).keep _ _ (unhide HG) (unhide B3)) (unhide S3) (by omega))
    rw [scan_all ls (unhide HS)] at C4
    clear C3 o3 i3 b3 hai B2
    go_wp2_with fail
    refine (unhide C4).mono ?_
    rintro e w4 ⟨r4, rfl, o4, b4⟩
    have B4 := hide ((unhide B3).trans (b4.mono (unhide B3).size))
    have k4 := hide b4
    have C5 := hide (same_any ls ls r4 _ w4 o4.ls ((unhide HL).keep (unhide B4)))
    rw [decide_eq_true rfl] at C5
    clear C4 o4 b4
    go_wp2_with fail
    refine (unhide C5).mono ?_
    rintro e w5 ⟨rfl, m5, hw5⟩
    have k5 : Hid (Below w4.heap.size w4 w5) := by rw [hw5]; exact below_drewN _ _ _
    have B5 := hide ((unhide B4).trans ((unhide k5).mono (unhide B4).size))
    have K5 := hide ((unhide k4).trans ((unhide k5).mono (unhide k4).size))
    have C6 := hide (pick_any cut (((frms ls).length : Int) + 1) w5 hc0 hc1 (by omega) (by omega))
    have hpk := pk_in cut (((frms ls).length : Int) + 1) (by omega)
    obtain ⟨kk, hkk⟩ : ∃ kk : Nat, pk cut (((frms ls).length : Int) + 1) = (kk : Int) := ⟨_, (Int.toNat_of_nonneg hpk.1).symm⟩
    rw [hkk] at C6 hpk
    clear C5 hw5 k4 k5 hkk
    have hw1 : IntKind.i64.wrap (((frms ls).length : Int) + 1) = ((frms ls).length : Int) + 1 := IntWalk.i64_in _ ⟨by omega, by omega⟩
    go_wp2_with fail
    refine (unhide C6).mono ?_
    rintro e w6 ⟨rfl, rfl⟩
    clear C6
    obtain ⟨v7, s7, b7⟩ := (unhide S3).h kk (by omega) (kk : Int) rfl
    have C7 := hide ((unhide HK).scan _ v7 w6 ((unhide HK).keep _ _ (unhide HG) (unhide B5)) (b7.keep (unhide K5)) (by rw [List.length_take]; omega))
    clear b7
    go_wp2_with fail
    refine (unhide C7).mono ?_
    rintro e w8 ⟨r8, rfl, o8, b8⟩
    have B8 := hide ((unhide B5).trans (b8.mono (unhide B5).size))
    have K8 := hide ((unhide K5).trans (b8.mono (unhide K5).size))
    have O8 := hide o8
    have A8 : Hid (∀ j, j ≤ ls.length → w8.cell? ⟨g, j, none⟩ = some (.int .i64 (fat ls j : Int))) := fun j hj => by
      have := unhide HA j (fat ls j) (fat_at ls j hj)
      rw [add0] at this
      rw [(unhide K8).cell (cell_lt' this)]; exact this
    clear C7 o8 b8 B5 K5 K8 B4 HA B3 S3 s7
    have hll : ls.length ≤ (frms ls).length := by
      have : ∀ k, k ≤ ls.length → k ≤ fat ls k := by
        intro k
        induction k with
        | zero => intro _; omega
        | succ k ih => intro q; have := ih (by omega); have := fat_succ ls k (by omega); omega
      have := this ls.length (Nat.le_refl _)
      rwa [fat_all] at this
    go_wp2
    go_loopw [16] (fun nv wr => ∃ n : Nat, n ≤ ls.length ∧ nv = .int .i64 (n : Int) ∧ fat ls n ≤ kk ∧ wr = w8) (fun nv _ => ls.length - (intOf nv).toNat)
    case atStart => exact ⟨0, by omega, rfl, by rw [fat_zero]; omega, rfl⟩
    case round =>
      obtain ⟨n, hn, rfl, hf, rfl⟩ := hrel
      by_cases hc : n < ls.length
      · have e1 : decide ((n : Int) < (ls.length : Int)) = true := decide_eq_true (by omega)
        have a1 := unhide A8 (n + 1) (by omega)
        by_cases hq : fat ls (n + 1) ≤ kk
        · have e2 : decide ((fat ls (n + 1) : Int) ≤ (kk : Int)) = true := decide_eq_true (by omega)
          go_wp2
          exact ⟨⟨n + 1, by omega, by go_num, hq, trivial⟩, by simp [intOf]; omega⟩
        · have e2 : decide ((fat ls (n + 1) : Int) ≤ (kk : Int)) = false := decide_eq_false (by omega)
          obtain ⟨v9, s9, b9⟩ := ((unhide HL).keep (unhide B8)).h n hn (n : Int) rfl
          have HC := hide (scan_cut ls (unhide HS) kk n hn hf (by omega))
          rw [unhide HC] at O8
          have C9 := hide (same_any (ls.take n) (ls.take n) r8 v9 wr (unhide O8).ls b9)
          rw [decide_eq_true rfl] at C9
          have a0 := unhide A8 n hn
          have hsc : (scan ((frms ls).take kk)).2 = fat ls n := by rw [unhide HC]
          rw [hsc]
          clear b9 A8 HC hsc O8
          go_wp2_with fail
          refine (unhide C9).mono ?_
          rintro e w10 ⟨rfl, m10, hw10⟩
          have a0' : w10.cell? ⟨g, n, none⟩ = some (.int .i64 (fat ls n : Int)) := by rw [hw10]; exact a0
          have B10 : Hid (Below w1.heap.size w1 w10) := by rw [hw10]; exact (unhide B8).trans (below_drewN _ _ _)
          clear C9 hw10 a0 B8
          go_wp2
          go_ret
          exact ⟨rfl, unhide B10⟩
      · have e1 : decide ((n : Int) < (ls.length : Int)) = false := decide_eq_false (by omega)
        obtain ⟨v9, s9, b9⟩ := ((unhide HL).keep (unhide B8)).h n hn (n : Int) rfl
        have HC := hide (scan_cut ls (unhide HS) kk n hn hf (by omega))
        rw [unhide HC] at O8
        have C9 := hide (same_any (ls.take n) (ls.take n) r8 v9 wr (unhide O8).ls b9)
        rw [decide_eq_true rfl] at C9
        have a0 := unhide A8 n hn
        have hsc : (scan ((frms ls).take kk)).2 = fat ls n := by rw [unhide HC]
        rw [hsc]
        clear b9 A8 HC hsc O8
        go_wp2_with fail
        refine (unhide C9).mono ?_
        rintro e w10 ⟨rfl, m10, hw10⟩
        have a0' : w10.cell? ⟨g, n, none⟩ = some (.int .i64 (fat ls n : Int)) := by rw [hw10]; exact a0
        have B10 : Hid (Below w1.heap.size w1 w10) := by rw [hw10]; exact (unhide B8).trans (below_drewN _ _ _)
        clear C9 hw10 a0 B8
        go_wp2
        go_ret
        exact ⟨rfl, unhide B10⟩

end Go.Proofs.YtgafjbgplcjnnaaDoor.fr
