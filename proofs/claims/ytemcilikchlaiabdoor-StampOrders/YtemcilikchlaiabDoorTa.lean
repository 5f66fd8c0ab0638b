/- Package stamp: divide, seconds, isLeap, monthDays, daysToYear. -/
import Derived.Test.YtemcilikchlaiabDoorKj
import Derived.Test.YtemcilikchlaiabDoorShelf
import Derived.Deep.Cut
namespace Go.Proofs.YtemcilikchlaiabDoor.st
open Go.RowKit

theorem td_parts (n b : Int) (hb : 0 < b) : (0 ≤ n.tmod b → n.tdiv b = n / b ∧ n.tmod b = n % b) ∧ (n.tmod b < 0 → n.tdiv b - 1 = n / b ∧ n.tmod b + b = n % b) := by
  have h := Int.mul_tdiv_add_tmod n b
  have h1 := Int.tmod_lt_of_pos n (b := b) hb
  have h2 := Int.lt_tmod_of_pos n (b := b) hb
  generalize n.tdiv b = q at *
  generalize n.tmod b = r at *
  refine ⟨fun g => ?_, fun g => ?_⟩
  · have e1 : n / b = q := by rw [← h, Int.mul_add_ediv_left _ _ (by omega), Int.ediv_eq_zero_of_lt g h1]; omega
    have e2 : n % b = r := by rw [← h, Int.mul_add_emod_self_left]; exact Int.emod_eq_of_lt g h1
    exact ⟨e1.symm, e2.symm⟩
  · have h' : b * (q - 1) + (r + b) = n := by rw [Int.mul_sub]; omega
    have e1 : n / b = q - 1 := by rw [← h', Int.mul_add_ediv_left _ _ (by omega), Int.ediv_eq_zero_of_lt (by omega) (by omega)]; omega
    have e2 : n % b = r + b := by rw [← h', Int.mul_add_emod_self_left]; exact Int.emod_eq_of_lt (by omega) (by omega)
    exact ⟨e1.symm, e2.symm⟩
theorem ed_in (n b : Int) (hb : 0 < b) (hn : inI n) : -9223372036854775808 ≤ n / b ∧ n / b ≤ 9223372036854775807 ∧ (n < 0 → n / b < 0) := by
  have h4 : n / b * b ≤ n := Int.ediv_mul_le n (by omega)
  have h5 := Int.lt_ediv_add_one_mul_self n hb
  unfold inI at hn
  refine ⟨?_, ?_, fun g => Int.ediv_neg_of_neg_of_pos g hb⟩
  · rcases Int.lt_or_le (n / b) (-9223372036854775808) with q | q
    · have : (n / b + 1) * b ≤ (n / b + 1) * 1 := Int.mul_le_mul_of_nonpos_left (by omega) (by omega)
      omega
    · exact q
  · rcases Int.lt_or_le 9223372036854775807 (n / b) with q | q
    · have : (n / b) * 1 ≤ (n / b) * b := Int.mul_le_mul_of_nonneg_left (by omega) (by omega)
      omega
    · exact q
theorem td_in (n b : Int) (hb : 0 < b) (hn : inI n) : -9223372036854775808 ≤ n.tdiv b ∧ n.tdiv b ≤ 9223372036854775807 ∧ (n.tmod b < 0 → -9223372036854775808 ≤ n.tdiv b - 1) ∧ -b < n.tmod b ∧ n.tmod b < b := by
  have h1 := Int.tmod_lt_of_pos n (b := b) hb
  have h2 := Int.lt_tmod_of_pos n (b := b) hb
  have h3 : 0 ≤ n → 0 ≤ n.tmod b := fun q => Int.tmod_nonneg _ q
  obtain ⟨p1, p2⟩ := td_parts n b hb
  obtain ⟨e1, e2, e3⟩ := ed_in n b hb hn
  by_cases g : n.tmod b < 0
  · have := (p2 g).1
    have := e3 (by omega)
    omega
  · have := (p1 (by omega)).1
    omega

def divT (n b : Int) : Value := .tuple #[.int .i64 (n / b), .int .i64 (n % b)]
set_option maxRecDepth 100000 in
set_option maxHeartbeats 1600000 in
theorem divide_any (n b : Int) (w : World) (hb : 0 < b) (hn : inI n) (hb1 : b ≤ 9223372036854775807) :
    Calls Tryd.prog 37 #[.int .i64 n, .int .i64 b] w fun e w' => e = .returned (divT n b) ∧ ∃ k, w' = w.drewN k := by
  have hz : (b == 0) = false := by rw [beq_eq_false_iff_ne]; omega
  obtain ⟨p1, p2⟩ := td_parts n b hb
  obtain ⟨q1, q1', q2, q3, q4⟩ := td_in n b hb hn
  have H1 := hide p1
  have H2 := hide p2
  have Q2 := hide q2
  clear p1 p2 q2 hn
  unfold divT
  go_enter Tryd.func37, Tryd.ntmps37
  go_wp2
  go_quiet (fail)
  by_cases g : n.tmod b < 0
  · have q5 := unhide Q2 g
    have J := hide (unhide H2 g)
    clear H1 H2 Q2
    generalize n.tdiv b = q at *
    generalize n.tmod b = r at *
    go_wp2
    go_ret2
    exact ⟨by rw [(unhide J).1, (unhide J).2]; rfl, _, rfl⟩
  · have J := hide (unhide H1 (by omega))
    clear H1 H2 Q2
    generalize n.tdiv b = q at *
    generalize n.tmod b = r at *
    go_wp2
    go_ret2
    exact ⟨by rw [(unhide J).1, (unhide J).2]; rfl, _, rfl⟩
set_option maxRecDepth 100000 in
set_option maxHeartbeats 1600000 in
theorem divide64_any (n b : Int) (w : World) (hb : 0 < b) (hn : inI n) (hb1 : b ≤ 9223372036854775807) :
    Calls Tryd.prog 14 #[.int .i64 n, .int .i64 b] w fun e w' => e = .returned (divT n b) ∧ ∃ k, w' = w.drewN k := by
  have hz : (b == 0) = false := by rw [beq_eq_false_iff_ne]; omega
  obtain ⟨p1, p2⟩ := td_parts n b hb
  obtain ⟨q1, q1', q2, q3, q4⟩ := td_in n b hb hn
  have H1 := hide p1
  have H2 := hide p2
  have Q2 := hide q2
  clear p1 p2 q2 hn
  unfold divT
  go_enter Tryd.func14, Tryd.ntmps14
  go_wp2
  go_quiet (fail)
  by_cases g : n.tmod b < 0
  · have q5 := unhide Q2 g
    have J := hide (unhide H2 g)
    clear H1 H2 Q2
    generalize n.tdiv b = q at *
    generalize n.tmod b = r at *
    go_wp2
    go_ret2
    exact ⟨by rw [(unhide J).1, (unhide J).2]; rfl, _, rfl⟩
  · have J := hide (unhide H1 (by omega))
    clear H1 H2 Q2
    generalize n.tdiv b = q at *
    generalize n.tmod b = r at *
    go_wp2
    go_ret2
    exact ⟨by rw [(unhide J).1, (unhide J).2]; rfl, _, rfl⟩

def secV (h m s : Int) : Value := if h ≤ 23 ∧ m ≤ 59 ∧ s ≤ 59 then .tuple #[.int .i64 (h * 3600 + m * 60 + s), .bool true] else .tuple #[.int .i64 0, .bool false]
set_option maxRecDepth 100000 in
set_option maxHeartbeats 1600000 in
theorem seconds_any (h m s : Int) (w : World) (h0 : 0 ≤ h) (m0 : 0 ≤ m) (s0 : 0 ≤ s) :
    Calls Tryd.prog 21 #[.int .i64 h, .int .i64 m, .int .i64 s] w fun e w' => e = .returned (secV h m s) ∧ w' = w := by
  by_cases c1 : 23 < h
  · unfold secV
    rw [if_neg (by omega)]
    go_enter Tryd.func21, Tryd.ntmps21
    go_wp2
    go_ret2
    exact ⟨rfl, rfl⟩
  · by_cases c2 : 59 < m
    · unfold secV
      rw [if_neg (by omega)]
      go_enter Tryd.func21, Tryd.ntmps21
      go_wp2
      go_ret2
      exact ⟨rfl, rfl⟩
    · by_cases c3 : 59 < s
      · unfold secV
        rw [if_neg (by omega)]
        go_enter Tryd.func21, Tryd.ntmps21
        go_wp2
        go_ret2
        exact ⟨rfl, rfl⟩
      · unfold secV
        rw [if_pos (by omega)]
        go_enter Tryd.func21, Tryd.ntmps21
        go_wp2
        go_ret2
        exact ⟨rfl, rfl⟩

set_option maxRecDepth 100000 in
set_option maxHeartbeats 1600000 in
theorem leap_any (y : Int) (w : World) : Calls Tryd.prog 36 #[.int .i64 y] w fun e w' => e = .returned (.bool (leap y)) ∧ w' = w := by
  have h4 := tm_iff y 400
  have h1 := tm_iff y 4
  have h2 := tm_iff y 100
  have hL : leap y = (decide (y % 400 = 0) || (decide (y % 4 = 0) && !(decide (y % 100 = 0)))) := by unfold leap; simp
  rw [hL, ← h4, ← h1, ← h2]
  clear h4 h1 h2 hL
  go_enter Tryd.func36, Tryd.ntmps36
  go_wp2
  all_goals (go_ret; exact ⟨by simp_all [bne], rfl⟩)

theorem mon_yes {y m : Int} (h2 : m = 2) : mon y m = 28 + lp y := by unfold mon; rw [if_pos h2]
set_option maxRecDepth 100000 in
set_option maxHeartbeats 3200000 in
theorem monthDays_any (y m : Int) (w : World) (h1 : 1 ≤ m) (h2 : m ≤ 12) : Calls Tryd.prog 22 #[.int .i64 y, .int .i64 m] w fun e w' => e = .returned (.int .i64 (mon y m)) ∧ Below w.heap.size w w' := by
  have L := hide (fun w => leap_any y w)
  obtain ⟨b, hb, hl⟩ : ∃ b : Bool, leap y = b ∧ lp y = if b = true then 1 else 0 := ⟨leap y, rfl, rfl⟩
  simp only [hb] at L
  have hv : Hid (mon y m = if m = 2 then 28 + (if b = true then 1 else 0) else if m = 4 ∨ m = 6 ∨ m = 9 ∨ m = 11 then 30 else if 1 ≤ m ∧ m ≤ 12 then 31 else 0) := by unfold mon; rw [hl]; exact rfl
  rw [unhide hv]
  clear hv hb hl
  have HB := hide ((Below.refl w.heap.size w).alloc (Nat.le_refl _) (.cells #[.int .i64 31, .int .i64 28, .int .i64 31, .int .i64 30, .int .i64 31, .int .i64 30, .int .i64 31, .int .i64 31, .int .i64 30, .int .i64 31, .int .i64 30, .int .i64 31] 75))
  by_cases c2 : m = 2
  · subst c2
    clear h1 h2
    go_enter Tryd.func22, Tryd.ntmps22
    go_wp2_with fail
    refine (unhide L _).mono ?_
    rintro e u ⟨rfl, hu⟩
    obtain rfl := hu.symm
    clear hu L
    cases b
    all_goals go_wp2
    all_goals (go_ret; exact ⟨rfl, unhide HB⟩)
  · clear L
    rcases twelve h1 h2 with rfl | rfl | rfl | rfl | rfl | rfl | rfl | rfl | rfl | rfl | rfl | rfl
    rotate_left
    · exact absurd rfl c2
    all_goals clear h1 h2 c2
    all_goals go_enter Tryd.func22, Tryd.ntmps22
    all_goals go_wp2
    all_goals (go_ret; exact ⟨rfl, unhide HB⟩)

set_option maxRecDepth 100000 in
set_option maxHeartbeats 3200000 in
theorem daysToYear_any (y : Int) (w : World) (h1 : -2000000 ≤ y) (h2 : y ≤ 2000000) : Calls Tryd.prog 23 #[.int .i64 y] w fun e w' => e = .returned (.int .i64 (dby y)) ∧ ∃ k, w' = w.drewN k := by
  have D4 := hide (fun w => divide_any (y - 1) 4 w (by omega) (by unfold inI; omega) (by omega))
  have D100 := hide (fun w => divide_any (y - 1) 100 w (by omega) (by unfold inI; omega) (by omega))
  have D400 := hide (fun w => divide_any (y - 1) 400 w (by omega) (by unfold inI; omega) (by omega))
  have e : dby y = (y - 1) * 365 + (y - 1) / 4 - (y - 1) / 100 + (y - 1) / 400 - 719162 := by unfold dby; omega
  rw [e]
  clear e
  have b4 : -2000000 ≤ (y - 1) / 4 ∧ (y - 1) / 4 ≤ 2000000 := by omega
  have b100 : -2000000 ≤ (y - 1) / 100 ∧ (y - 1) / 100 ≤ 2000000 := by omega
  have b400 : -2000000 ≤ (y - 1) / 400 ∧ (y - 1) / 400 ≤ 2000000 := by omega
  simp only [divT] at D4 D100 D400
  generalize (y - 1) / 4 = q4 at *
  generalize (y - 1) / 100 = q100 at *
  generalize (y - 1) / 400 = q400 at *
  go_enter Tryd.func23, Tryd.ntmps23
  go_wp2_with fail
  refine (unhide D4 _).mono ?_
  rintro e w1 ⟨rfl, k1, rfl⟩
  clear D4
  go_wp2_with fail
  refine (unhide D100 _).mono ?_
  rintro e w1 ⟨rfl, k2, rfl⟩
  clear D100
  go_wp2_with fail
  refine (unhide D400 _).mono ?_
  rintro e w1 ⟨rfl, k3, rfl⟩
  clear D400
  go_wp2
  go_ret
  exact ⟨rfl, k1 + k2 + k3, by simp⟩
end Go.Proofs.YtemcilikchlaiabDoor.st
