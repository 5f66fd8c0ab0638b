/- The reference of package stamp: leap, Month, Year. -/
import Derived.Test.YtemcilikchlaiaaDoorKb
import Derived.Test.YtemcilikchlaiaaDoorLb
import Derived.Test.YtemcilikchlaiaaDoorChecked
import Derived.WalkKit
import Derived.Deep.QuietTactic
import Derived.BigQuiet
import Derived.Outline
import Derived.WalkLawsBesides
import Derived.Lib.SmallJoins
namespace Go.Proofs.YtemcilikchlaiaaDoor.st
open Go.RowKit

theorem tm_iff (y k : Int) : (Int.tmod y k == 0) = decide (y % k = 0) := by
  have e : (Int.tmod y k = 0) ↔ (y % k = 0) := by
    rw [← Int.dvd_iff_tmod_eq_zero, Int.dvd_iff_emod_eq_zero]
  by_cases q : y % k = 0
  · rw [decide_eq_true q, beq_iff_eq]; exact e.2 q
  · rw [decide_eq_false q, beq_eq_false_iff_ne]; exact fun z => q (e.1 z)

set_option maxRecDepth 100000 in
set_option maxHeartbeats 1600000 in
theorem rleap_any (y : Int) (w : World) : Calls Tryd.prog 55 #[.int .i64 y] w fun e w' => e = .returned (.bool (leap y)) ∧ w' = w := by
  have h4 := tm_iff y 400
  have h1 := tm_iff y 4
  have h2 := tm_iff y 100
  have hL : leap y = (decide (y % 400 = 0) || (decide (y % 4 = 0) && !(decide (y % 100 = 0)))) := by unfold leap; simp
  rw [hL, ← h4, ← h1, ← h2]
  clear h4 h1 h2 hL
  go_enter Tryd.func55, Tryd.ntmps55
  go_wp2
  all_goals (go_ret; exact ⟨by simp_all [bne], rfl⟩)

theorem lp_yes {y : Int} (h : leap y = true) : lp y = 1 := by unfold lp; rw [if_pos h]
theorem lp_no {y : Int} (h : leap y = false) : lp y = 0 := by unfold lp; rw [h]; rfl

set_option maxRecDepth 100000 in
set_option maxHeartbeats 1600000 in
theorem ryear_any (y : Int) (w : World) : Calls Tryd.prog 40 #[.int .i64 y] w fun e w' => e = .returned (.int .i64 (yr y)) ∧ w' = w := by
  have L := hide (rleap_any y w)
  have hv : Hid (∃ b : Bool, leap y = b ∧ yr y = if b = true then 366 else 365) := by
    refine ⟨leap y, rfl, ?_⟩
    cases hb : leap y
    · unfold yr; rw [lp_no hb]; rfl
    · unfold yr; rw [lp_yes hb]; rfl
  obtain ⟨b, hb, hy⟩ := unhide hv
  rw [hb] at L
  rw [hy]
  clear hv hb hy
  go_enter Tryd.func40, Tryd.ntmps40
  go_wp2_with fail
  refine (unhide L).mono ?_
  rintro e u ⟨rfl, hu⟩
  obtain rfl := hu.symm
  clear hu L
  cases b
  all_goals go_wp2
  all_goals (go_ret; exact ⟨rfl, rfl⟩)

set_option maxRecDepth 100000 in
set_option maxHeartbeats 3200000 in
theorem rmonth_any (y m : Int) (w : World) : Calls Tryd.prog 39 #[.int .i64 y, .int .i64 m] w fun e w' => e = .returned (.int .i64 (mon y m)) ∧ w' = w := by
  have L := hide (rleap_any y w)
  obtain ⟨b, hb, hl⟩ : ∃ b : Bool, leap y = b ∧ lp y = if b = true then 1 else 0 := ⟨leap y, rfl, rfl⟩
  rw [hb] at L
  by_cases hm : 1 ≤ m ∧ m ≤ 12
  · have hv : Hid (mon y m = if m = 2 then 28 + (if b = true then 1 else 0) else if m = 4 ∨ m = 6 ∨ m = 9 ∨ m = 11 then 30 else if 1 ≤ m ∧ m ≤ 12 then 31 else 0) := by unfold mon; rw [hl]; exact rfl
    rw [unhide hv]
    clear hv hb hl
    rcases twelve hm.1 hm.2 with rfl | rfl | rfl | rfl | rfl | rfl | rfl | rfl | rfl | rfl | rfl | rfl
    all_goals clear hm
    all_goals go_enter Tryd.func39, Tryd.ntmps39
    all_goals go_wp2_with fail
    all_goals refine (unhide L).mono ?_
    all_goals rintro e u ⟨rfl, hu⟩
    all_goals obtain rfl := hu.symm
    all_goals clear hu L
    all_goals cases b
    all_goals go_wp2
    all_goals (go_ret; exact ⟨rfl, rfl⟩)
  · rw [mon_none y m hm]
    clear hb hl
    have q1 : (m == 1) = false := by rw [beq_eq_false_iff_ne]; omega
    have q2 : (m == 2) = false := by rw [beq_eq_false_iff_ne]; omega
    have q3 : (m == 3) = false := by rw [beq_eq_false_iff_ne]; omega
    have q4 : (m == 4) = false := by rw [beq_eq_false_iff_ne]; omega
    have q5 : (m == 5) = false := by rw [beq_eq_false_iff_ne]; omega
    have q6 : (m == 6) = false := by rw [beq_eq_false_iff_ne]; omega
    have q7 : (m == 7) = false := by rw [beq_eq_false_iff_ne]; omega
    have q8 : (m == 8) = false := by rw [beq_eq_false_iff_ne]; omega
    have q9 : (m == 9) = false := by rw [beq_eq_false_iff_ne]; omega
    have q10 : (m == 10) = false := by rw [beq_eq_false_iff_ne]; omega
    have q11 : (m == 11) = false := by rw [beq_eq_false_iff_ne]; omega
    have q12 : (m == 12) = false := by rw [beq_eq_false_iff_ne]; omega
    clear hm
    go_enter Tryd.func39, Tryd.ntmps39
    go_wp2_with fail
    refine (unhide L).mono ?_
    rintro e u ⟨rfl, hu⟩
    obtain rfl := hu.symm
    clear hu L
    go_wp2
    go_ret
    exact ⟨rfl, rfl⟩
end Go.Proofs.YtemcilikchlaiaaDoor.st
