/- Package stamp: Date. -/
import Derived.Test.YtemcilikchlaiabDoorTb
namespace Go.Proofs.YtemcilikchlaiabDoor.st
open Go.RowKit

def dateE0 (a : Addr) (y m d : Int) : Value := if -999999 ≤ y ∧ y ≤ 999999 then .tuple #[.int .i64 y, .int .i64 m, .int .i64 d, .nilIface] else .tuple #[.int .i64 0, .int .i64 0, .int .i64 0, eT a]
theorem year_lo {n y m d : Int} (h : isDate n y m d) (k : Int) : n < dby k ↔ y < k := by
  have a := dn_in h.1
  rw [h.2] at a
  constructor
  · intro q
    rcases Int.lt_or_le y k with z | z
    · exact z
    · have := dby_mono k y z; omega
  · intro q
    have := dby_mono (y + 1) k (by omega); omega
theorem lo_is : dby (-999999) = -365961662 := by decide
theorem hi_is : dby 1000000 = 364522972 := by decide

set_option maxRecDepth 100000 in
set_option maxHeartbeats 3200000 in
theorem date_lo (n : Int) (w : World) (a : Addr) (hS : Sent w a) (hc : n < -365961662) :
    Calls Tryd.prog 15 #[.int .i64 n] w fun e w' => e = .returned (.tuple #[.int .i64 0, .int .i64 0, .int .i64 0, eT a]) ∧ Below w.heap.size w w' := by
  have D := hide (daysToYear_any (-999999) w (by omega) (by omega))
  rw [lo_is] at D
  have hn := hS.n
  clear hS
  unfold eT
  go_enter Tryd.func15, Tryd.ntmps15
  go_wp2_with fail
  refine (unhide D).mono ?_
  rintro e w1 ⟨rfl, k, rfl⟩
  clear D
  have HB := hide (fun t => below_drawn w t)
  go_wp2
  go_quiet (fail)
  go_wp2
  refine bodyPost_ret (results_tmp4 rfl _ _ _) rfl ?_
  exact ⟨rfl, by rw [World.drewN_drewN]; exact unhide HB _⟩

set_option maxRecDepth 100000 in
set_option maxHeartbeats 3200000 in
theorem date_hi (n : Int) (w : World) (a : Addr) (hS : Sent w a) (hc : 364522972 ≤ n) :
    Calls Tryd.prog 15 #[.int .i64 n] w fun e w' => e = .returned (.tuple #[.int .i64 0, .int .i64 0, .int .i64 0, eT a]) ∧ Below w.heap.size w w' := by
  have D := hide (daysToYear_any (-999999) w (by omega) (by omega))
  rw [lo_is] at D
  have D2 := hide (fun w => daysToYear_any 1000000 w (by omega) (by omega))
  rw [hi_is] at D2
  have c1 : ¬ n < -365961662 := by omega
  have hn := hS.n
  clear hS
  unfold eT
  go_enter Tryd.func15, Tryd.ntmps15
  go_wp2_with fail
  refine (unhide D).mono ?_
  rintro e w1 ⟨rfl, k, rfl⟩
  clear D
  have HB := hide (fun t => below_drawn w t)
  go_wp2_with fail
  refine (unhide D2 _).mono ?_
  rintro e w1 ⟨rfl, k2, rfl⟩
  clear D2
  go_wp2
  go_quiet (fail)
  go_wp2
  refine bodyPost_ret (results_tmp4 rfl _ _ _) rfl ?_
  exact ⟨rfl, by rw [World.drewN_drewN]; exact unhide HB _⟩

set_option maxRecDepth 100000 in
set_option maxHeartbeats 3200000 in
theorem date_ok (n y m d : Int) (w : World) (h1 : -365961662 ≤ n) (h2 : n < 364522972) (hd : isDate n y m d) :
    Calls Tryd.prog 15 #[.int .i64 n] w fun e w' => e = .returned (.tuple #[.int .i64 y, .int .i64 m, .int .i64 d, .nilIface]) ∧ Below w.heap.size w w' := by
  have D := hide (daysToYear_any (-999999) w (by omega) (by omega))
  rw [lo_is] at D
  have D2 := hide (fun w => daysToYear_any 1000000 w (by omega) (by omega))
  rw [hi_is] at D2
  have c1 : ¬ n < -365961662 := by omega
  have c2 : ¬ 364522972 ≤ n := by omega
  have Y := hide (fun w => yearOf_any n y m d w (by omega) (by omega) hd)
  have hy1 : -999999 ≤ y := by have := year_lo hd (-999999); rw [lo_is] at this; omega
  have hy2 : y < 1000000 := by have := (year_lo hd 1000000).1; rw [hi_is] at this; exact this h2
  have Z := hide (fun w => daysToYear_any y w (by omega) (by omega))
  have hin := dn_in hd.1
  rw [hd.2, dby_succ, ← cum_13] at hin
  have HI := hide hin
  have hyb := dby_in y (by omega) (by omega)
  have hr := yr_in y
  have hlen : 1 ≤ n - dby y + 1 ∧ n - dby y + 1 ≤ 366 := by rw [cum_13] at hin; omega
  have HD := hide hd
  clear hd hin hr
  obtain ⟨F, hF⟩ : ∃ F, dby y = F := ⟨_, rfl⟩
  have HF := hide hF
  rw [hF] at Z hyb hlen
  clear hF
  go_enter Tryd.func15, Tryd.ntmps15
  go_wp2_with fail
  refine (unhide D).mono ?_
  rintro e w1 ⟨rfl, k, rfl⟩
  clear D
  go_wp2_with fail
  refine (unhide D2 _).mono ?_
  rintro e w1 ⟨rfl, k2, rfl⟩
  clear D2
  go_wp2_with fail
  refine (unhide Y _).mono ?_
  rintro e w1 ⟨rfl, k3, rfl⟩
  clear Y
  go_wp2_with fail
  refine (unhide Z _).mono ?_
  rintro e w1 ⟨rfl, k4, rfl⟩
  clear Z
  have HB := hide (fun t => below_drawn w t)
  go_wp2
  clear c1 c2
  go_loopw [3, 4] (fun i v wr => ∃ c q : Int, i = .int .i64 c ∧ v = .int .i64 q ∧ Hid (cum y c + q = n - dby y + 1) ∧ 1 ≤ q ∧ q ≤ 366 ∧ 1 ≤ c ∧ c ≤ 12 ∧ Hid (Below w.heap.size w wr)) (fun i _ _ => (13 - intOf i).toNat)
  case atStart => exact ⟨1, n - F + 1, rfl, rfl, by rw [cum_1, unhide HF]; show _ = _; omega, by omega, by omega, by omega, by omega, unhide HB _⟩
  case round =>
    clear HB hlen
    obtain ⟨c, q, rfl, rfl, hq, hq1, hq2, hc1, hc2, HB⟩ := hrel
    have hcs := cum_succ y c hc1 hc2
    have hcm := mon_ge y c hc1 hc2
    have Mc := hide (fun w => monthDays_any y c w hc1 hc2)
    have J : mon y c < q → c ≤ 11 ∧ cum y (c + 1) + (q - mon y c) = n - dby y + 1 := fun z => by
      have := unhide HI
      have hqq := unhide hq
      refine ⟨?_, by omega⟩
      rcases Int.lt_or_le c 12 with zz | zz
      · omega
      · have e12 : c = 12 := by omega
        subst e12
        have e : cum y (12 + 1) = cum y 13 := rfl
        omega
    have J2 : ¬ mon y c < q → c = m ∧ q = d := fun z => by
      have hqq := unhide hq
      have : isDate n y c q := ⟨⟨hc1, hc2, hq1, by omega⟩, by unfold dn; omega⟩
      have := isDate_inj this (unhide HD)
      exact ⟨this.2.1, this.2.2⟩
    clear hcs hq
    by_cases hgm : mon y c < q
    · have J' := hide (J hgm).2
      have hc11 := (J hgm).1
      clear J J2
      generalize mon y c = M1 at *
      go_wp2_with fail
      refine (unhide Mc _).mono ?_
      rintro e w3 ⟨rfl, hb3⟩
      have HB3 := hide ((unhide HB).trans (hb3.mono (unhide HB).size))
      clear hb3 HB
      go_wp2_with fail
      refine (unhide Mc _).mono ?_
      rintro e w4 ⟨rfl, hb4⟩
      have HB4 := hide ((unhide HB3).trans (hb4.mono (unhide HB3).size))
      clear hb4 HB3 Mc
      go_wp2
      exact ⟨⟨c + 1, q - M1, rfl, rfl, J', by omega, by omega, by omega, by omega, HB4⟩, by simp [intOf]; omega⟩
    · obtain ⟨rfl, rfl⟩ := J2 hgm
      clear J J2
      generalize mon y c = M1 at *
      go_wp2_with fail
      refine (unhide Mc _).mono ?_
      rintro e w3 ⟨rfl, hb3⟩
      have HB3 := hide ((unhide HB).trans (hb3.mono (unhide HB).size))
      clear hb3 HB Mc
      go_wp2
      refine bodyPost_ret (results_tmp4 rfl _ _ _) rfl ?_
      exact ⟨rfl, unhide HB3⟩

theorem date_any (n y m d : Int) (w : World) (a : Addr) (hd : isDate n y m d) (hS : Sent w a) :
    Calls Tryd.prog 15 #[.int .i64 n] w fun e w' => e = .returned (dateE0 a y m d) ∧ Below w.heap.size w w' := by
  have h1 := year_lo hd (-999999)
  have h2 := year_lo hd 1000000
  rw [lo_is] at h1
  rw [hi_is] at h2
  unfold dateE0
  by_cases c : -999999 ≤ y ∧ y ≤ 999999
  · rw [if_pos c]
    exact date_ok n y m d w (by omega) (by omega) hd
  · rw [if_neg c]
    by_cases c1 : n < -365961662
    · exact date_lo n w a hS c1
    · exact date_hi n w a hS (by omega)
end Go.Proofs.YtemcilikchlaiabDoor.st
