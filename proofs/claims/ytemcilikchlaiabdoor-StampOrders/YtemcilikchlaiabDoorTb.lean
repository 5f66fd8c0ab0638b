/- Package stamp: yearOf, Days, Date. -/
import Derived.Test.YtemcilikchlaiabDoorTa
namespace Go.Proofs.YtemcilikchlaiabDoor.st
open Go.RowKit

theorem below_drawn (w : World) (k : Nat) : Below w.heap.size w (w.drewN k) := ⟨rfl, rfl, rfl, Nat.le_refl _, fun _ _ => rfl⟩

set_option maxRecDepth 100000 in
set_option maxHeartbeats 3200000 in
theorem yearOf_any (n y m d : Int) (w : World) (h1 : -400000000 ≤ n) (h2 : n ≤ 400000000) (hd : isDate n y m d) :
    Calls Tryd.prog 26 #[.int .i64 n] w fun e w' => e = .returned (.int .i64 y) ∧ ∃ k, w' = w.drewN k := by
  have D := hide (fun w => divide_any (n * 400) 146097 w (by omega) (by unfold inI; omega) (by omega))
  simp only [divT] at D
  have hq : -1200000 ≤ n * 400 / 146097 ∧ n * 400 / 146097 ≤ 1200000 := by omega
  generalize n * 400 / 146097 = q at *
  generalize n * 400 % 146097 = r at *
  have HD := hide hd
  clear hd
  go_enter Tryd.func26, Tryd.ntmps26
  go_wp2_with fail
  refine (unhide D _).mono ?_
  rintro e w1 ⟨rfl, k1, rfl⟩
  clear D
  go_wp2
  go_loopw [5] (fun i wr => ∃ k : Int, i = .int .i64 k ∧ -1300000 ≤ k ∧ k ≤ 1300000 ∧ ∃ t, wr = w.drewN t) (fun i _ => (1300001 + intOf i).toNat)
  case atStart => exact ⟨1970 + q, rfl, by omega, by omega, _, rfl⟩
  case round =>
    obtain ⟨k, rfl, hk1, hk2, t, rfl⟩ := hrel
    have hkn := dby_near k
    have Y := hide (fun w => daysToYear_any k w (by omega) (by omega))
    by_cases hlt : n < dby k
    · have hlo : -1290000 ≤ k := by omega
      clear hkn
      generalize dby k = D at *
      go_wp2_with fail
      refine (unhide Y _).mono ?_
      rintro e w1 ⟨rfl, k2, rfl⟩
      clear Y
      go_wp2
      exact ⟨⟨k - 1, rfl, by omega, by omega, _, rfl⟩, by simp [intOf]; omega⟩
    · have HK := hide (show dby k ≤ n by omega)
      have hk3 : k ≤ 1200000 := by omega
      clear hkn
      obtain ⟨D, hD⟩ : ∃ D, dby k = D := ⟨_, rfl⟩
      rw [hD] at hlt Y
      clear hD
      go_wp2_with fail
      refine (unhide Y _).mono ?_
      rintro e w1 ⟨rfl, k2, rfl⟩
      clear Y
      go_wp2
      clear hlt
      go_loopw [5] (fun i wr => ∃ k : Int, i = .int .i64 k ∧ -1300000 ≤ k ∧ k ≤ 1200000 ∧ Hid (dby k ≤ n) ∧ ∃ t, wr = w.drewN t) (fun i _ => (1300001 - intOf i).toNat)
      case atStart => exact ⟨k, rfl, by omega, by omega, HK, _, rfl⟩
      case round =>
        clear HK hk1 hk2 hk3
        obtain ⟨k, rfl, hk1, hk2, HK, t, rfl⟩ := hrel
        have hkn := dby_near (k + 1)
        have Y := hide (fun w => daysToYear_any (k + 1) w (by omega) (by omega))
        by_cases hge : dby (k + 1) ≤ n
        · have hlo : k + 1 ≤ 1200000 := by omega
          have HK2 := hide hge
          clear hkn
          obtain ⟨D, hD⟩ : ∃ D, dby (k + 1) = D := ⟨_, rfl⟩
          rw [hD] at hge Y
          clear hD
          go_wp2_with fail
          refine (unhide Y _).mono ?_
          rintro e w1 ⟨rfl, k2, rfl⟩
          clear Y
          go_wp2
          exact ⟨⟨k + 1, rfl, by omega, by omega, HK2, _, rfl⟩, by simp [intOf]; omega⟩
        · have hyk := hide (year_eq (unhide HD) (unhide HK) (show n < dby k + yr k by rw [← dby_succ]; omega))
          have hge' : decide (dby (k + 1) ≤ n) = false := decide_eq_false hge
          clear hge hkn
          generalize dby (k + 1) = D at *
          go_wp2_with fail
          refine (unhide Y _).mono ?_
          rintro e w1 ⟨rfl, k2, rfl⟩
          clear Y
          go_wp2
          go_ret
          exact ⟨by rw [unhide hyk]; rfl, _, rfl⟩

def daysE (a : Addr) (y m d : Int) : Value := if isD y m d ∧ -999999 ≤ y ∧ y ≤ 999999 then .tuple #[.int .i64 (dn y m d), .nilIface] else .tuple #[.int .i64 0, eT a]
set_option maxRecDepth 100000 in
set_option maxHeartbeats 3200000 in
theorem days_bad1 (y m d : Int) (w : World) (a : Addr) (hS : Sent w a) (hc : y < -999999 ∨ 999999 < y ∨ m < 1 ∨ 12 < m ∨ d < 1) :
    Calls Tryd.prog 10 #[.int .i64 y, .int .i64 m, .int .i64 d] w fun e w' => e = .returned (.tuple #[.int .i64 0, eT a]) ∧ Below w.heap.size w w' := by
  have hn := hS.n
  have HB := hide (fun k => below_drawn w k)
  clear hS
  unfold eT
  by_cases c1 : y < -999999
  · clear hc
    go_enter Tryd.func10, Tryd.ntmps10
    go_wp2
    go_quiet (fail)
    go_wp2
    go_ret2
    exact ⟨rfl, unhide HB _⟩
  · by_cases c2 : 999999 < y
    · clear hc
      go_enter Tryd.func10, Tryd.ntmps10
      go_wp2
      go_quiet (fail)
      go_wp2
      go_ret2
      exact ⟨rfl, unhide HB _⟩
    · by_cases c3 : m < 1
      · clear hc
        go_enter Tryd.func10, Tryd.ntmps10
        go_wp2
        go_quiet (fail)
        go_wp2
        go_ret2
        exact ⟨rfl, unhide HB _⟩
      · by_cases c4 : 12 < m
        · clear hc
          go_enter Tryd.func10, Tryd.ntmps10
          go_wp2
          go_quiet (fail)
          go_wp2
          go_ret2
          exact ⟨rfl, unhide HB _⟩
        · have c5 : d < 1 := by omega
          clear hc
          go_enter Tryd.func10, Tryd.ntmps10
          go_wp2
          go_quiet (fail)
          go_wp2
          go_ret2
          exact ⟨rfl, unhide HB _⟩

set_option maxRecDepth 100000 in
set_option maxHeartbeats 3200000 in
theorem days_bad2 (y m d : Int) (w : World) (a : Addr) (hS : Sent w a) (c1 : ¬ y < -999999) (c2 : ¬ 999999 < y) (c3 : ¬ m < 1) (c4 : ¬ 12 < m) (c5 : ¬ d < 1) (c6 : mon y m < d) :
    Calls Tryd.prog 10 #[.int .i64 y, .int .i64 m, .int .i64 d] w fun e w' => e = .returned (.tuple #[.int .i64 0, eT a]) ∧ Below w.heap.size w w' := by
  have M := hide (monthDays_any y m w (by omega) (by omega))
  have HN := hide hS.n
  clear hS
  unfold eT
  generalize mon y m = mm at *
  go_enter Tryd.func10, Tryd.ntmps10
  go_wp2_with fail
  refine (unhide M).mono ?_
  rintro e w1 ⟨rfl, hb⟩
  have hn := keepC hb (unhide HN)
  have HB := hide (fun k => hb.trans ((below_drawn w1 k).mono hb.size))
  clear M HN hb
  go_wp2
  go_quiet (fail)
  go_wp2
  go_ret2
  exact ⟨rfl, unhide HB _⟩

set_option maxRecDepth 100000 in
set_option maxHeartbeats 3200000 in
theorem days_ok (y m d : Int) (w : World) (hd : isD y m d) (hy : -999999 ≤ y ∧ y ≤ 999999) :
    Calls Tryd.prog 10 #[.int .i64 y, .int .i64 m, .int .i64 d] w fun e w' => e = .returned (.tuple #[.int .i64 (dn y m d), .nilIface]) ∧ Below w.heap.size w w' := by
  obtain ⟨hm1, hm2, hd1, hd2⟩ := hd
  have hmg := mon_ge y m hm1 hm2
  have M := hide (monthDays_any y m w hm1 hm2)
  have Y := hide (fun w => daysToYear_any y w (by omega) (by omega))
  obtain ⟨res, hres⟩ : ∃ r, dn y m d = r := ⟨_, rfl⟩
  have HR := hide (show dby y + cum y m + (d - 1) = res from hres)
  rw [hres]
  clear hres
  generalize mon y m = mm at *
  have c1 : ¬ y < -999999 := by omega
  have c2 : ¬ 999999 < y := by omega
  have c3 : ¬ m < 1 := by omega
  have c4 : ¬ 12 < m := by omega
  have c5 : ¬ d < 1 := by omega
  have c6 : ¬ mm < d := by omega
  have hyb := dby_in y (by omega) (by omega)
  go_enter Tryd.func10, Tryd.ntmps10
  go_wp2_with fail
  refine (unhide M).mono ?_
  rintro e w1 ⟨rfl, hb⟩
  have HB := hide hb
  clear M hb
  go_wp2_with fail
  refine (unhide Y _).mono ?_
  rintro e w2 ⟨rfl, k, rfl⟩
  have HB2 := hide ((unhide HB).trans ((below_drawn w1 k).mono (unhide HB).size))
  clear Y HB
  go_wp2
  go_loopw [8, 9] (fun v i wr => ∃ c : Int, 1 ≤ c ∧ c ≤ m ∧ i = .int .i64 c ∧ v = .int .i64 (dby y + cum y c) ∧ Hid (Below w.heap.size w wr)) (fun _ i _ => (m - intOf i).toNat)
  case atStart => exact ⟨1, by omega, hm1, rfl, by rw [cum_1]; simp, HB2⟩
  case round =>
    clear HB2
    obtain ⟨c, hc1, hc2, rfl, rfl, HB⟩ := hrel
    have hcb := cum_in y c hc1 (by omega)
    have hcm := mon_ge y c hc1 (by omega)
    by_cases hlc : c < m
    · have hcs := hide (cum_succ y c hc1 (by omega))
      have Mc := hide (fun w => monthDays_any y c w hc1 (by omega))
      generalize cum y c = C at *
      generalize mon y c = M1 at *
      generalize dby y = F at *
      go_wp2_with fail
      refine (unhide Mc _).mono ?_
      rintro e w3 ⟨rfl, hb3⟩
      have HB3 := hide ((unhide HB).trans (hb3.mono (unhide HB).size))
      clear hb3 Mc HB
      go_wp2
      exact ⟨⟨c + 1, by omega, by omega, rfl, by rw [unhide hcs]; congr 1; omega, HB3⟩, by simp [intOf]; omega⟩
    · have ec : c = m := by omega
      subst ec
      have HR3 := hide (show dby y + cum y c + d - 1 = res by rw [← unhide HR]; omega)
      clear HR
      generalize dby y = F at *
      generalize cum y c = C at *
      go_wp2
      go_ret2
      exact ⟨by rw [← unhide HR3]; rfl, unhide HB⟩

theorem sdays_any (y m d : Int) (w : World) (a : Addr) (hS : Sent w a) :
    Calls Tryd.prog 10 #[.int .i64 y, .int .i64 m, .int .i64 d] w fun e w' => e = .returned (daysE a y m d) ∧ Below w.heap.size w w' := by
  unfold daysE
  by_cases c : isD y m d ∧ -999999 ≤ y ∧ y ≤ 999999
  · rw [if_pos c]; exact days_ok y m d w c.1 c.2
  · rw [if_neg c]
    by_cases c1 : y < -999999 ∨ 999999 < y ∨ m < 1 ∨ 12 < m ∨ d < 1
    · exact days_bad1 y m d w a hS c1
    · refine days_bad2 y m d w a hS (by omega) (by omega) (by omega) (by omega) (by omega) ?_
      rcases Int.lt_or_le (mon y m) d with q | q
      · exact q
      · exact absurd ⟨⟨by omega, by omega, by omega, q⟩, by omega, by omega⟩ c
end Go.Proofs.YtemcilikchlaiabDoor.st
