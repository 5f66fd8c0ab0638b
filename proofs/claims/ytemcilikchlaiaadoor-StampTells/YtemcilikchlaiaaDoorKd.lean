/- The reference of package stamp: Days. -/
import Derived.Test.YtemcilikchlaiaaDoorKc
namespace Go.Proofs.YtemcilikchlaiaaDoor.st
open Go.RowKit

theorem dby_in (k : Int) (h1 : -1200000 ≤ k) (h2 : k ≤ 1200000) : -450000000 ≤ dby k ∧ dby k ≤ 450000000 := by
  unfold dby
  omega
theorem cum_in (y m : Int) (h1 : 1 ≤ m) (h2 : m ≤ 13) : 0 ≤ cum y m ∧ cum y m ≤ 366 := by
  have hl := lp_le y
  unfold cum
  split <;> omega
theorem yr_in (y : Int) : 365 ≤ yr y ∧ yr y ≤ 366 := by
  have hl := lp_le y
  unfold yr
  omega

set_option maxRecDepth 100000 in
set_option maxHeartbeats 3200000 in
theorem rdays_ok (y m d : Int) (w : World) (hd : isD y m d) (hy : -999999 ≤ y ∧ y ≤ 999999) :
    Calls Tryd.prog 20 #[.int .i64 y, .int .i64 m, .int .i64 d] w fun e w' => e = .returned (.tuple #[.int .i64 (dn y m d), .int .i64 0]) ∧ w' = w := by
  obtain ⟨hm1, hm2, hd1, hd2⟩ := hd
  have hmg := mon_ge y m hm1 hm2
  have M := hide (rmonth_any y m w)
  obtain ⟨res, hres⟩ : ∃ r, dn y m d = r := ⟨_, rfl⟩
  have HR := hide hres
  rw [hres]
  clear hres
  generalize mon y m = mm at *
  have h1 : ¬ y < -999999 := by omega
  have h2 : ¬ 999999 < y := by omega
  have h3 : (mm == 0) = false := by rw [beq_eq_false_iff_ne]; omega
  have h4 : ¬ d < 1 := by omega
  have h5 : ¬ mm < d := by omega
  go_enter Tryd.func20, Tryd.ntmps20
  go_wp2_with fail
  refine (unhide M).mono ?_
  rintro e u ⟨rfl, hu⟩
  obtain rfl := hu.symm
  clear hu M
  go_wp2
  go_loop [9, 10] (fun n i => ∃ k : Int, 1970 ≤ k ∧ (k ≤ y ∨ k = 1970) ∧ i = .int .i64 k ∧ n = .int .i64 (d - 1 + dby k)) (fun _ i => (y - intOf i).toNat)
  case atStart => exact ⟨1970, by omega, Or.inr rfl, rfl, by rw [dby_0]; simp⟩
  case round =>
    obtain ⟨k, hk1, hk2, rfl, rfl⟩ := hrel
    have hkb := dby_in k (by omega) (by omega)
    have hky := yr_in k
    have hks := hide (dby_succ k)
    have Y := hide (ryear_any k w)
    by_cases hlt : k < y
    · generalize dby k = D at *
      generalize yr k = Y1 at *
      go_wp2_with fail
      refine (unhide Y).mono ?_
      rintro e u ⟨rfl, hu⟩
      obtain rfl := hu.symm
      clear hu Y
      go_wp2
      exact ⟨⟨k + 1, by omega, by omega, rfl, by rw [unhide hks]; congr 1; omega⟩, by simp [intOf]; omega⟩
    · clear Y
      go_wp2
      go_loop [9, 11] (fun n i => ∃ j : Int, y ≤ j ∧ (j ≤ 1970 ∨ j = y) ∧ i = .int .i64 j ∧ n = .int .i64 (d - 1 + dby k + dby y - dby j)) (fun _ i => (1970 - intOf i).toNat)
      case atStart => exact ⟨y, by omega, Or.inr rfl, rfl, by congr 1; omega⟩
      case round =>
        obtain ⟨j, hj1, hj2, rfl, rfl⟩ := hrel
        have hjb := dby_in j (by omega) (by omega)
        have hyb := dby_in y (by omega) (by omega)
        have hjy := yr_in j
        have hjs := hide (dby_succ j)
        have Y := hide (ryear_any j w)
        by_cases hlj : j < 1970
        · generalize dby k = D at *
          generalize dby j = E at *
          generalize dby y = F at *
          generalize yr j = Y1 at *
          go_wp2_with fail
          refine (unhide Y).mono ?_
          rintro e u ⟨rfl, hu⟩
          obtain rfl := hu.symm
          clear hu Y
          go_wp2
          exact ⟨⟨j + 1, by omega, by omega, rfl, by rw [unhide hjs]; congr 1; omega⟩, by simp [intOf]; omega⟩
        · have hfin : d - 1 + dby k + dby y - dby j = d - 1 + dby y := by
            rcases Int.lt_or_le y 1970 with q | q
            · have e1 : k = 1970 := by omega
              have e2 : j = 1970 := by omega
              rw [e1, e2, dby_0]; omega
            · have e1 : k = y := by omega
              have e2 : j = y := by omega
              rw [e1, e2]; omega
          rw [hfin]
          clear Y hfin hjs hks hjb hkb hky hjy
          have HR2 := hide (show dby y + cum y m + (d - 1) = res from unhide HR)
          clear HR
          go_wp2
          go_loop [9, 12] (fun n i => ∃ c : Int, 1 ≤ c ∧ c ≤ m ∧ i = .int .i64 c ∧ n = .int .i64 (d - 1 + dby y + cum y c)) (fun _ i => (m - intOf i).toNat)
          case atStart => exact ⟨1, by omega, hm1, rfl, by rw [cum_1]; simp⟩
          case round =>
            obtain ⟨c, hc1, hc2, rfl, rfl⟩ := hrel
            have hcb := cum_in y c hc1 (by omega)
            have hcm := mon_ge y c hc1 (by omega)
            by_cases hlc : c < m
            · have hcs := hide (cum_succ y c hc1 (by omega))
              have Mc := hide (rmonth_any y c w)
              generalize cum y c = C at *
              generalize mon y c = M1 at *
              generalize dby y = F at *
              go_wp2_with fail
              refine (unhide Mc).mono ?_
              rintro e u ⟨rfl, hu⟩
              obtain rfl := hu.symm
              clear hu Mc
              go_wp2
              exact ⟨⟨c + 1, by omega, by omega, rfl, by rw [unhide hcs]; congr 1; omega⟩, by simp [intOf]; omega⟩
            · have ec : c = m := by omega
              subst ec
              have HR3 := hide (show d - 1 + dby y + cum y c = res by rw [← unhide HR2]; omega)
              rw [unhide HR3]
              clear HR2 HR3
              go_wp2
              go_ret2
              exact ⟨rfl, rfl⟩

set_option maxRecDepth 100000 in
set_option maxHeartbeats 3200000 in
theorem rdays_bad (y m d : Int) (w : World) (hd : ¬ (isD y m d ∧ -999999 ≤ y ∧ y ≤ 999999)) :
    Calls Tryd.prog 20 #[.int .i64 y, .int .i64 m, .int .i64 d] w fun e w' => e = .returned (.tuple #[.int .i64 0, .int .i64 13]) ∧ w' = w := by
  have M := hide (rmonth_any y m w)
  have hz : (mon y m = 0) ∨ (1 ≤ m ∧ m ≤ 12) := by
    by_cases q : 1 ≤ m ∧ m ≤ 12
    · exact Or.inr q
    · exact Or.inl (mon_none y m q)
  have hc : y < -999999 ∨ 999999 < y ∨ mon y m = 0 ∨ d < 1 ∨ mon y m < d := by
    rcases hz with q | q
    · exact Or.inr (Or.inr (Or.inl q))
    · by_cases q2 : y < -999999 ∨ 999999 < y ∨ d < 1 ∨ mon y m < d
      · omega
      · exact absurd ⟨⟨q.1, q.2, by omega, by omega⟩, by omega, by omega⟩ hd
  clear hd hz
  generalize mon y m = mm at *
  by_cases c1 : y < -999999
  · clear hc
    go_enter Tryd.func20, Tryd.ntmps20
    go_wp2_with fail
    refine (unhide M).mono ?_
    rintro e u ⟨rfl, hu⟩
    obtain rfl := hu.symm
    clear hu M
    go_wp2
    go_ret2
    exact ⟨rfl, rfl⟩
  · by_cases c2 : 999999 < y
    · clear hc
      go_enter Tryd.func20, Tryd.ntmps20
      go_wp2_with fail
      refine (unhide M).mono ?_
      rintro e u ⟨rfl, hu⟩
      obtain rfl := hu.symm
      clear hu M
      go_wp2
      go_ret2
      exact ⟨rfl, rfl⟩
    · by_cases c3 : mm = 0
      · subst c3
        clear hc
        go_enter Tryd.func20, Tryd.ntmps20
        go_wp2_with fail
        refine (unhide M).mono ?_
        rintro e u ⟨rfl, hu⟩
        obtain rfl := hu.symm
        clear hu M
        go_wp2
        go_ret2
        exact ⟨rfl, rfl⟩
      · have c3' : (mm == 0) = false := by rw [beq_eq_false_iff_ne]; exact c3
        by_cases c4 : d < 1
        · clear hc c3
          go_enter Tryd.func20, Tryd.ntmps20
          go_wp2_with fail
          refine (unhide M).mono ?_
          rintro e u ⟨rfl, hu⟩
          obtain rfl := hu.symm
          clear hu M
          go_wp2
          go_ret2
          exact ⟨rfl, rfl⟩
        · have c5 : mm < d := by omega
          clear hc c3
          go_enter Tryd.func20, Tryd.ntmps20
          go_wp2_with fail
          refine (unhide M).mono ?_
          rintro e u ⟨rfl, hu⟩
          obtain rfl := hu.symm
          clear hu M
          go_wp2
          go_ret2
          exact ⟨rfl, rfl⟩
end Go.Proofs.YtemcilikchlaiaaDoor.st
