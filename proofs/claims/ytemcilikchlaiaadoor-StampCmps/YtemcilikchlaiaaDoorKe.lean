/- The reference of package stamp: Date. -/
import Derived.Test.YtemcilikchlaiaaDoorKd
namespace Go.Proofs.YtemcilikchlaiaaDoor.st
open Go.RowKit

theorem results_tmp4 {fn : Func} {t u v x : Tmp} (h : fn.results = #[.tmp t, .tmp u, .tmp v, .tmp x]) (tmps : Array Value) (P : Program) (w : World) :
    (results fn tmps).run P w = .ok (.tuple #[tmps.getD t undef, tmps.getD u undef, tmps.getD v undef, tmps.getD x undef]) w := by
  simp [results, h]

/-- What Date answers, if the day is y, m, d. -/
def dateV (y m d : Int) : Value := if -999999 ≤ y ∧ y ≤ 999999 then .tuple #[.int .i64 y, .int .i64 m, .int .i64 d, .int .i64 0] else .tuple #[.int .i64 0, .int .i64 0, .int .i64 0, .int .i64 13]
theorem year_eq {n y m d k : Int} (h : isDate n y m d) (h1 : dby k ≤ n) (h2 : n < dby k + yr k) : y = k := by
  have a := dn_in h.1
  rw [h.2] at a
  rw [← dby_succ] at h2
  rcases Int.lt_trichotomy y k with q | q | q
  · have := dby_mono (y + 1) k (by omega)
    omega
  · exact q
  · have := dby_mono (k + 1) y (by omega)
    omega
theorem dateV_in {y m d : Int} (h : -999999 ≤ y ∧ y ≤ 999999) : dateV y m d = .tuple #[.int .i64 y, .int .i64 m, .int .i64 d, .int .i64 0] := by unfold dateV; rw [if_pos h]
theorem dateV_out {y m d : Int} (h : ¬ (-999999 ≤ y ∧ y ≤ 999999)) : dateV y m d = .tuple #[.int .i64 0, .int .i64 0, .int .i64 0, .int .i64 13] := by unfold dateV; rw [if_neg h]
theorem dby_steep (k : Int) : dby k * 400 = 146097 * (k - 1) - 400 * 719162 + (400 * ((k - 1) / 4) - 100 * (k - 1)) - (400 * ((k - 1) / 100) - 4 * (k - 1)) + (400 * ((k - 1) / 400) - (k - 1)) := by
  unfold dby
  omega
theorem dby_near (k : Int) : 146097 * (k - 1970) - 2000 ≤ 400 * dby k ∧ 400 * dby k ≤ 146097 * (k - 1970) + 2000 := by
  have h := dby_steep k
  omega

set_option maxRecDepth 100000 in
set_option maxHeartbeats 3200000 in
theorem rdate_far (n : Int) (w : World) (h : n < -400000000 ∨ 400000000 < n) :
    Calls Tryd.prog 22 #[.int .i64 n] w fun e w' => e = .returned (.tuple #[.int .i64 0, .int .i64 0, .int .i64 0, .int .i64 13]) ∧ w' = w := by
  by_cases c1 : n < -400000000
  · clear h
    go_enter Tryd.func22, Tryd.ntmps22
    go_wp2
    refine bodyPost_ret (results_tmp4 rfl _ _ _) rfl ?_
    exact ⟨rfl, rfl⟩
  · have c2 : 400000000 < n := by omega
    clear h
    go_enter Tryd.func22, Tryd.ntmps22
    go_wp2
    refine bodyPost_ret (results_tmp4 rfl _ _ _) rfl ?_
    exact ⟨rfl, rfl⟩

set_option maxRecDepth 100000 in
set_option maxHeartbeats 3200000 in
theorem rdate_near (n y m d : Int) (w : World) (h1 : -400000000 ≤ n) (h2 : n ≤ 400000000) (hd : isDate n y m d) :
    Calls Tryd.prog 22 #[.int .i64 n] w fun e w' => e = .returned (dateV y m d) ∧ w' = w := by
  have c1 : ¬ n < -400000000 := by omega
  have c2 : ¬ 400000000 < n := by omega
  have HD := hide hd
  clear hd
  obtain ⟨res, hres⟩ : ∃ r, dateV y m d = r := ⟨_, rfl⟩
  have HR := hide hres
  rw [hres]
  clear hres
  go_enter Tryd.func22, Tryd.ntmps22
  go_wp2
  go_loop [6, 7] (fun i v => ∃ k r : Int, i = .int .i64 k ∧ v = .int .i64 r ∧ dby k + r = n ∧ k ≤ 1970 ∧ (r < 366 ∨ k = 1970)) (fun _ v => (- intOf v).toNat)
  case atStart => exact ⟨1970, n, rfl, rfl, by rw [dby_0]; omega, by omega, Or.inr rfl⟩
  case round =>
    obtain ⟨k, r, rfl, rfl, hk1, hk2, hk3⟩ := hrel
    have hkn := dby_near k
    by_cases hlt : r < 0
    · have hks := dby_succ (k - 1)
      rw [show k - 1 + 1 = k by omega] at hks
      have hky := yr_in (k - 1)
      have Y := hide (ryear_any (k - 1) w)
      generalize yr (k - 1) = Y1 at *
      go_wp2_with fail
      refine (unhide Y).mono ?_
      rintro e u ⟨rfl, hu⟩
      obtain rfl := hu.symm
      clear hu Y
      go_wp2
      exact ⟨⟨k - 1, r + Y1, rfl, rfl, by omega, by omega, by omega⟩, by simp [intOf]; omega⟩
    · go_wp2
      go_loop [6, 7] (fun i v => ∃ k r : Int, i = .int .i64 k ∧ v = .int .i64 r ∧ dby k + r = n ∧ 0 ≤ r ∧ r ≤ 400000000) (fun _ v => (intOf v).toNat)
      case atStart => exact ⟨k, r, rfl, rfl, hk1, by omega, by rcases hk3 with q | q <;> first | omega | (rw [q, dby_0] at hk1; omega)⟩
      case round =>
        clear hk1 hk2 hk3 hkn hlt
        obtain ⟨k, r, rfl, rfl, hk1, hk2, hk3⟩ := hrel
        have hkn := dby_near k
        have hky := yr_in k
        have hks := dby_succ k
        have Y := hide (ryear_any k w)
        by_cases hge : yr k ≤ r
        · generalize yr k = Y1 at *
          go_wp2_with fail
          refine (unhide Y).mono ?_
          rintro e u ⟨rfl, hu⟩
          obtain rfl := hu.symm
          clear hu
          go_wp2_with fail
          refine (unhide Y).mono ?_
          rintro e u ⟨rfl, hu⟩
          obtain rfl := hu.symm
          clear hu Y
          go_wp2
          exact ⟨⟨k + 1, r - Y1, rfl, rfl, by omega, by omega, by omega⟩, by simp [intOf]; omega⟩
        · have hyk := year_eq (unhide HD) (by omega) (show n < dby k + yr k by omega)
          subst hyk
          have hyr := hide (cum_13 y)
          have hge' : decide (yr y ≤ r) = false := decide_eq_false hge
          generalize yr y = Y1 at *
          clear hks hge
          by_cases hr1 : y < -999999
          · have HR2 := hide ((dateV_out (m := m) (d := d) (show ¬ (-999999 ≤ y ∧ y ≤ 999999) by omega)).symm.trans (unhide HR))
            clear HR
            go_wp2_with fail
            refine (unhide Y).mono ?_
            rintro e u ⟨rfl, hu⟩
            obtain rfl := hu.symm
            clear hu Y
            go_wp2
            refine bodyPost_ret (results_tmp4 rfl _ _ _) rfl ?_
            exact ⟨by rw [← unhide HR2]; rfl, rfl⟩
          · by_cases hr2 : 999999 < y
            · have HR2 := hide ((dateV_out (m := m) (d := d) (show ¬ (-999999 ≤ y ∧ y ≤ 999999) by omega)).symm.trans (unhide HR))
              clear HR
              go_wp2_with fail
              refine (unhide Y).mono ?_
              rintro e u ⟨rfl, hu⟩
              obtain rfl := hu.symm
              clear hu Y
              go_wp2
              refine bodyPost_ret (results_tmp4 rfl _ _ _) rfl ?_
              exact ⟨by rw [← unhide HR2]; rfl, rfl⟩
            · have HR2 := hide ((dateV_in (m := m) (d := d) (show (-999999 ≤ y ∧ y ≤ 999999) by omega)).symm.trans (unhide HR))
              clear HR
              go_wp2_with fail
              refine (unhide Y).mono ?_
              rintro e u ⟨rfl, hu⟩
              obtain rfl := hu.symm
              clear hu Y
              go_wp2
              go_loop [7, 8] (fun v i => ∃ c q : Int, i = .int .i64 c ∧ v = .int .i64 q ∧ cum y c + q = r ∧ 0 ≤ q ∧ 1 ≤ c ∧ c ≤ 12) (fun v _ => (intOf v).toNat)
              case atStart => exact ⟨1, r, rfl, rfl, by rw [cum_1]; omega, hk2, by omega, by omega⟩
              case round =>
                obtain ⟨c, q, rfl, rfl, hq1, hq2, hq3, hq4⟩ := hrel
                have hcs := cum_succ y c hq3 hq4
                have hcm := mon_ge y c hq3 hq4
                have hci := cum_in y c hq3 (by omega)
                have Mc := hide (rmonth_any y c w)
                have hlast : c = 12 → cum y (c + 1) = Y1 := fun e => by subst e; exact unhide hyr
                by_cases hgm : mon y c ≤ q
                · have hc12 : c ≤ 11 := by
                    rcases Int.lt_or_le c 12 with z | z
                    · omega
                    · have := hlast (by omega)
                      have hz := of_decide_eq_false hge'
                      omega
                  clear hlast hge'
                  generalize mon y c = M1 at *
                  go_wp2_with fail
                  refine (unhide Mc).mono ?_
                  rintro e u ⟨rfl, hu⟩
                  obtain rfl := hu.symm
                  clear hu
                  go_wp2_with fail
                  refine (unhide Mc).mono ?_
                  rintro e u ⟨rfl, hu⟩
                  obtain rfl := hu.symm
                  clear hu Mc
                  go_wp2
                  exact ⟨⟨c + 1, q - M1, rfl, rfl, by omega, by omega, by omega, by omega⟩, by simp [intOf]; omega⟩
                · have hin : isDate n y c (q + 1) := ⟨⟨hq3, hq4, by omega, by omega⟩, by unfold dn; omega⟩
                  obtain ⟨_, e1, e2⟩ := isDate_inj (unhide HD) hin
                  subst e1 e2
                  have hgm' : decide (mon y m ≤ q) = false := decide_eq_false hgm
                  clear hlast hge' hgm hin hcs HD
                  generalize mon y m = M1 at *
                  go_wp2_with fail
                  refine (unhide Mc).mono ?_
                  rintro e u ⟨rfl, hu⟩
                  obtain rfl := hu.symm
                  clear hu Mc
                  go_wp2
                  refine bodyPost_ret (results_tmp4 rfl _ _ _) rfl ?_
                  exact ⟨by rw [← unhide HR2]; rfl, rfl⟩
end Go.Proofs.YtemcilikchlaiaaDoor.st
