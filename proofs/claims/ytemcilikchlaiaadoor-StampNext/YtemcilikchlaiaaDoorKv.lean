/- StampNext: it answers true, if the calls answer as is asked. -/
import Derived.Test.YtemcilikchlaiaaDoorKu
namespace Go.Proofs.YtemcilikchlaiaaDoor.st
open Go.RowKit

theorem tm_false {y k : Int} (h : ¬ y % k = 0) : (Int.tmod y k == 0) = false := by rw [tm_iff, decide_eq_false h]
theorem tm_true {y k : Int} (h : y % k = 0) : (Int.tmod y k == 0) = true := by rw [tm_iff, decide_eq_true h]

set_option maxRecDepth 100000 in
set_option maxHeartbeats 1600000 in
theorem last_any (y m : Int) (w : World) (h1 : 1 ≤ m) (h2 : m ≤ 12) : Calls Tryd.prog 23 #[.int .i64 y, .int .i64 m] w fun e w' => e = .returned (.int .i64 (mon y m)) ∧ w' = w := by
  by_cases hm : m = 2
  · subst hm
    by_cases q4 : y % 4 = 0
    · have f4 := tm_true q4
      have g4 : (Int.tmod y 4 != 0) = false := by simp [bne, f4]
      by_cases q1 : y % 100 = 0
      · have f1 := tm_true q1
        by_cases q3 : y % 400 = 0
        · have g3 : (Int.tmod y 400 != 0) = false := by simp [bne, tm_true q3]
          have hv : mon y 2 = 29 := by unfold mon lp leap; rw [if_pos rfl, if_pos (decide_eq_true (Or.inl q3))]; rfl
          rw [hv]
          clear hv q4 q1 q3 f4
          go_enter Tryd.func23, Tryd.ntmps23
          go_wp2
          go_ret
          exact ⟨rfl, rfl⟩
        · have g3 : (Int.tmod y 400 != 0) = true := by simp [bne, tm_false q3]
          have hv : mon y 2 = 28 := by unfold mon lp leap; rw [if_pos rfl, if_neg (by simp; omega)]; rfl
          rw [hv]
          clear hv q4 q1 q3 f4
          go_enter Tryd.func23, Tryd.ntmps23
          go_wp2
          go_ret
          exact ⟨rfl, rfl⟩
      · have f1 := tm_false q1
        have hv : mon y 2 = 29 := by unfold mon lp leap; rw [if_pos rfl, if_pos (decide_eq_true (Or.inr ⟨q4, q1⟩))]; rfl
        rw [hv]
        clear hv q4 q1 f4
        go_enter Tryd.func23, Tryd.ntmps23
        go_wp2
        go_ret
        exact ⟨rfl, rfl⟩
    · have g4 : (Int.tmod y 4 != 0) = true := by simp [bne, tm_false q4]
      have hv : mon y 2 = 28 := by unfold mon lp leap; rw [if_pos rfl, if_neg (by simp; omega)]; rfl
      rw [hv]
      clear hv q4
      go_enter Tryd.func23, Tryd.ntmps23
      go_wp2
      go_ret
      exact ⟨rfl, rfl⟩
  · have hv : mon y m = if m = 4 ∨ m = 6 ∨ m = 9 ∨ m = 11 then 30 else if 1 ≤ m ∧ m ≤ 12 then 31 else 0 := by unfold mon; rw [if_neg hm]
    rw [hv]
    clear hv
    rcases twelve h1 h2 with rfl | rfl | rfl | rfl | rfl | rfl | rfl | rfl | rfl | rfl | rfl | rfl
    all_goals clear h1 h2
    all_goals first | (exact absurd rfl hm) | skip
    all_goals clear hm
    all_goals go_enter Tryd.func23, Tryd.ntmps23
    all_goals go_wp2
    all_goals (go_ret; exact ⟨rfl, rfl⟩)

theorem dateE_in {a : Addr} {y m d : Int} (h : -999999 ≤ y ∧ y ≤ 999999) : dateE a y m d = .tuple #[.int .i64 y, .int .i64 m, .int .i64 d, .nilIface] := if_pos h
theorem dateE_out {a : Addr} {y m d : Int} (h : ¬ (-999999 ≤ y ∧ y ≤ 999999)) : dateE a y m d = .tuple #[.int .i64 0, .int .i64 0, .int .i64 0, eT a] := if_neg h

set_option maxRecDepth 100000 in
set_option maxHeartbeats 3200000 in
theorem next_any (K : StampOK) (KD : DateOK) (n : Int) (w : World) (a : Addr) (hS : Sent w a) (hn : inI n) :
    Calls Tryd.prog 8 #[.int .i64 n] w fun e w' => e = .returned (.bool true) ∧ Below w.heap.size w w' := by
  obtain ⟨y, m, d, hD⟩ := isDate_ex n
  have C0 := hide (fun u hu => shown_any K u a hu)
  have C1 := hide (fun u hu => KD n y m d u a hn hD hu)
  have hb := dn_in hD.1
  rw [hD.2] at hb
  have n1 := dby_near y
  have n2 := dby_near (y + 1)
  have HS := hide hS
  by_cases hy : -999999 ≤ y ∧ y ≤ 999999
  · rw [dateE_in hy] at C1
    have C2 := hide (fun u hu => K.days y m d u a ⟨by omega, by omega⟩ ⟨by have := hD.1.1; omega, by have := hD.1.2.1; omega⟩ ⟨by have := hD.1.2.2.1; omega, by have := hD.1.2.2.2; have := mon_ge y m hD.1.1 hD.1.2.1; omega⟩ hu)
    rw [if_pos ⟨hD.1, hy⟩, hD.2] at C2
    have C3 := hide (fun u => last_any y m u hD.1.1 hD.1.2.1)
    have hmg := mon_ge y m hD.1.1 hD.1.2.1
    obtain ⟨hx1, hx2, hx3⟩ := isDate_next hD
    have C4 := hide (fun y' m' d' hd' u hu => KD (n + 1) y' m' d' u a ⟨by omega, by omega⟩ hd' hu)
    obtain ⟨⟨m1, m2, d1, d2⟩, _⟩ := hD
    have HM : Hid (m = 12 → mon y m = 31) := fun e => by subst e; unfold mon; rw [if_neg (by omega), if_neg (by omega), if_pos (by omega)]
    generalize mon y m = M at *
    have hnb : -400000000 ≤ n ∧ n ≤ 400000000 := by omega
    have k1 : (n != n) = false := by simp
    have k2 : decide (m < 1) = false := decide_eq_false (by omega)
    have k3 : decide (12 < m) = false := decide_eq_false (by omega)
    have k4 : decide (d < 1) = false := decide_eq_false (by omega)
    have k5 : decide (M < d) = false := decide_eq_false (by omega)
    clear K KD hS
    by_cases a1 : y = 999999 ∧ m = 12 ∧ d = 31
    · have f1 : (y == 999999) = true := by rw [beq_iff_eq]; exact a1.1
      have f2 : (m == 12) = true := by rw [beq_iff_eq]; exact a1.2.1
      have f3 : (d == 31) = true := by rw [beq_iff_eq]; exact a1.2.2
      have hM := unhide HM a1.2.1
      have C4' := hide (unhide C4 (y + 1) 1 1 (hx3 (by omega) a1.2.1))
      rw [dateE_out (show ¬ (-999999 ≤ y + 1 ∧ y + 1 ≤ 999999) by omega)] at C4'
      simp only [eT] at C4'
      have heq := fun u => eql_same u a
      clear C4 hx1 hx2 hx3 HM hb n1 n2 hM a1
      go_enter Tryd.func8, Tryd.ntmps8
      go_wp2_with fail
      refine (unhide C0 _ (unhide HS)).mono ?_
      rintro e w1 ⟨rfl, hb1⟩
      have HB1 := hide hb1
      have HS1 := hide ((unhide HS).keep hb1)
      clear hb1 HS C0
      go_wp2_with fail
      refine (unhide C1 _ (unhide HS1)).mono ?_
      rintro e w2 ⟨rfl, hb2⟩
      have HB2 := hide ((unhide HB1).trans (hb2.mono (unhide HB1).size))
      have HS2 := hide ((unhide HS1).keep hb2)
      clear hb2 HB1 HS1 C1
      go_wp2_with fail
      refine (unhide C2 _ (unhide HS2)).mono ?_
      rintro e w3 ⟨rfl, hb3⟩
      have HB3 := hide ((unhide HB2).trans (hb3.mono (unhide HB2).size))
      have HS3 := hide ((unhide HS2).keep hb3)
      clear hb3 HB2 HS2 C2
      go_wp2_with fail
      refine (unhide C3 _).mono ?_
      rintro e u ⟨rfl, hu⟩
      obtain rfl := hu.symm
      clear hu
      go_wp2_with fail
      refine (unhide C4' _ (unhide HS3)).mono ?_
      rintro e w4 ⟨rfl, hb4⟩
      have HB4 := hide ((unhide HB3).trans (hb4.mono (unhide HB3).size))
      have hS4 := ((unhide HS3).keep hb4).n
      clear hb4 HB3 HS3 C4'
      clear C3
      go_wp2
      go_ret
      exact ⟨rfl, unhide HB4⟩
    · by_cases a2 : d < M
      · have C4' := hide (unhide C4 y m (d + 1) (hx1 a2))
        rw [dateE_in hy] at C4'
        have a3 : ¬ (y = 999999 ∧ m = 12 ∧ d = 31) := a1
        clear C4 hx1 hx2 hx3 HM hb n1 n2 k5
        by_cases b1 : y = 999999
        · have f1 : (y == 999999) = true := by rw [beq_iff_eq]; exact b1
          by_cases b2 : m = 12
          · have f2 : (m == 12) = true := by rw [beq_iff_eq]; exact b2
            have f3 : (d == 31) = false := by rw [beq_eq_false_iff_ne]; omega
            clear b1 b2 a1
            clear a3
            as_aux_lemma =>
              go_enter Tryd.func8, Tryd.ntmps8
              go_wp2_with fail
              refine (unhide C0 _ (unhide HS)).mono ?_
              rintro e w1 ⟨rfl, hb1⟩
              have HB1 := hide hb1
              have HS1 := hide ((unhide HS).keep hb1)
              clear hb1 HS C0
              go_wp2_with fail
              refine (unhide C1 _ (unhide HS1)).mono ?_
              rintro e w2 ⟨rfl, hb2⟩
              have HB2 := hide ((unhide HB1).trans (hb2.mono (unhide HB1).size))
              have HS2 := hide ((unhide HS1).keep hb2)
              clear hb2 HB1 HS1 C1
              go_wp2_with fail
              refine (unhide C2 _ (unhide HS2)).mono ?_
              rintro e w3 ⟨rfl, hb3⟩
              have HB3 := hide ((unhide HB2).trans (hb3.mono (unhide HB2).size))
              have HS3 := hide ((unhide HS2).keep hb3)
              clear hb3 HB2 HS2 C2
              go_wp2_with fail
              refine (unhide C3 _).mono ?_
              rintro e u ⟨rfl, hu⟩
              obtain rfl := hu.symm
              clear hu
              go_wp2_with fail
              refine (unhide C4' _ (unhide HS3)).mono ?_
              rintro e w4 ⟨rfl, hb4⟩
              have HB4 := hide ((unhide HB3).trans (hb4.mono (unhide HB3).size))
              have hS4 := ((unhide HS3).keep hb4).n
              clear hb4 HB3 HS3 C4'
              go_wp2_with fail
              refine (unhide C3 _).mono ?_
              rintro e u ⟨rfl, hu⟩
              obtain rfl := hu.symm
              clear hu C3
              go_wp2
              go_ret
              exact ⟨rfl, unhide HB4⟩
          · have f2 : (m == 12) = false := by rw [beq_eq_false_iff_ne]; exact b2
            clear b1 b2 a1
            clear a3
            as_aux_lemma =>
              go_enter Tryd.func8, Tryd.ntmps8
              go_wp2_with fail
              refine (unhide C0 _ (unhide HS)).mono ?_
              rintro e w1 ⟨rfl, hb1⟩
              have HB1 := hide hb1
              have HS1 := hide ((unhide HS).keep hb1)
              clear hb1 HS C0
              go_wp2_with fail
              refine (unhide C1 _ (unhide HS1)).mono ?_
              rintro e w2 ⟨rfl, hb2⟩
              have HB2 := hide ((unhide HB1).trans (hb2.mono (unhide HB1).size))
              have HS2 := hide ((unhide HS1).keep hb2)
              clear hb2 HB1 HS1 C1
              go_wp2_with fail
              refine (unhide C2 _ (unhide HS2)).mono ?_
              rintro e w3 ⟨rfl, hb3⟩
              have HB3 := hide ((unhide HB2).trans (hb3.mono (unhide HB2).size))
              have HS3 := hide ((unhide HS2).keep hb3)
              clear hb3 HB2 HS2 C2
              go_wp2_with fail
              refine (unhide C3 _).mono ?_
              rintro e u ⟨rfl, hu⟩
              obtain rfl := hu.symm
              clear hu
              go_wp2_with fail
              refine (unhide C4' _ (unhide HS3)).mono ?_
              rintro e w4 ⟨rfl, hb4⟩
              have HB4 := hide ((unhide HB3).trans (hb4.mono (unhide HB3).size))
              have hS4 := ((unhide HS3).keep hb4).n
              clear hb4 HB3 HS3 C4'
              go_wp2_with fail
              refine (unhide C3 _).mono ?_
              rintro e u ⟨rfl, hu⟩
              obtain rfl := hu.symm
              clear hu C3
              go_wp2
              go_ret
              exact ⟨rfl, unhide HB4⟩
        · have f1 : (y == 999999) = false := by rw [beq_eq_false_iff_ne]; exact b1
          clear b1 a1
          clear a3
          as_aux_lemma =>
            go_enter Tryd.func8, Tryd.ntmps8
            go_wp2_with fail
            refine (unhide C0 _ (unhide HS)).mono ?_
            rintro e w1 ⟨rfl, hb1⟩
            have HB1 := hide hb1
            have HS1 := hide ((unhide HS).keep hb1)
            clear hb1 HS C0
            go_wp2_with fail
            refine (unhide C1 _ (unhide HS1)).mono ?_
            rintro e w2 ⟨rfl, hb2⟩
            have HB2 := hide ((unhide HB1).trans (hb2.mono (unhide HB1).size))
            have HS2 := hide ((unhide HS1).keep hb2)
            clear hb2 HB1 HS1 C1
            go_wp2_with fail
            refine (unhide C2 _ (unhide HS2)).mono ?_
            rintro e w3 ⟨rfl, hb3⟩
            have HB3 := hide ((unhide HB2).trans (hb3.mono (unhide HB2).size))
            have HS3 := hide ((unhide HS2).keep hb3)
            clear hb3 HB2 HS2 C2
            go_wp2_with fail
            refine (unhide C3 _).mono ?_
            rintro e u ⟨rfl, hu⟩
            obtain rfl := hu.symm
            clear hu
            go_wp2_with fail
            refine (unhide C4' _ (unhide HS3)).mono ?_
            rintro e w4 ⟨rfl, hb4⟩
            have HB4 := hide ((unhide HB3).trans (hb4.mono (unhide HB3).size))
            have hS4 := ((unhide HS3).keep hb4).n
            clear hb4 HB3 HS3 C4'
            go_wp2_with fail
            refine (unhide C3 _).mono ?_
            rintro e u ⟨rfl, hu⟩
            obtain rfl := hu.symm
            clear hu C3
            go_wp2
            go_ret
            exact ⟨rfl, unhide HB4⟩
      · have a3 : d = M := by omega
        have a2' : decide (d < M) = false := decide_eq_false a2
        by_cases a4 : m < 12
        · have C4' := hide (unhide C4 y (m + 1) 1 (hx2 a3 a4))
          rw [dateE_in hy] at C4'
          clear C4 hx1 hx2 hx3 HM hb n1 n2 a2 a3
          have f2 : (m == 12) = false := by rw [beq_eq_false_iff_ne]; omega
          by_cases b1 : y = 999999
          · have f1 : (y == 999999) = true := by rw [beq_iff_eq]; exact b1
            clear b1 a1
            as_aux_lemma =>
              go_enter Tryd.func8, Tryd.ntmps8
              go_wp2_with fail
              refine (unhide C0 _ (unhide HS)).mono ?_
              rintro e w1 ⟨rfl, hb1⟩
              have HB1 := hide hb1
              have HS1 := hide ((unhide HS).keep hb1)
              clear hb1 HS C0
              go_wp2_with fail
              refine (unhide C1 _ (unhide HS1)).mono ?_
              rintro e w2 ⟨rfl, hb2⟩
              have HB2 := hide ((unhide HB1).trans (hb2.mono (unhide HB1).size))
              have HS2 := hide ((unhide HS1).keep hb2)
              clear hb2 HB1 HS1 C1
              go_wp2_with fail
              refine (unhide C2 _ (unhide HS2)).mono ?_
              rintro e w3 ⟨rfl, hb3⟩
              have HB3 := hide ((unhide HB2).trans (hb3.mono (unhide HB2).size))
              have HS3 := hide ((unhide HS2).keep hb3)
              clear hb3 HB2 HS2 C2
              go_wp2_with fail
              refine (unhide C3 _).mono ?_
              rintro e u ⟨rfl, hu⟩
              obtain rfl := hu.symm
              clear hu
              go_wp2_with fail
              refine (unhide C4' _ (unhide HS3)).mono ?_
              rintro e w4 ⟨rfl, hb4⟩
              have HB4 := hide ((unhide HB3).trans (hb4.mono (unhide HB3).size))
              have hS4 := ((unhide HS3).keep hb4).n
              clear hb4 HB3 HS3 C4'
              go_wp2_with fail
              refine (unhide C3 _).mono ?_
              rintro e u ⟨rfl, hu⟩
              obtain rfl := hu.symm
              clear hu C3
              go_wp2
              go_ret
              exact ⟨rfl, unhide HB4⟩
          · have f1 : (y == 999999) = false := by rw [beq_eq_false_iff_ne]; exact b1
            clear b1 a1
            as_aux_lemma =>
              go_enter Tryd.func8, Tryd.ntmps8
              go_wp2_with fail
              refine (unhide C0 _ (unhide HS)).mono ?_
              rintro e w1 ⟨rfl, hb1⟩
              have HB1 := hide hb1
              have HS1 := hide ((unhide HS).keep hb1)
              clear hb1 HS C0
              go_wp2_with fail
              refine (unhide C1 _ (unhide HS1)).mono ?_
              rintro e w2 ⟨rfl, hb2⟩
              have HB2 := hide ((unhide HB1).trans (hb2.mono (unhide HB1).size))
              have HS2 := hide ((unhide HS1).keep hb2)
              clear hb2 HB1 HS1 C1
              go_wp2_with fail
              refine (unhide C2 _ (unhide HS2)).mono ?_
              rintro e w3 ⟨rfl, hb3⟩
              have HB3 := hide ((unhide HB2).trans (hb3.mono (unhide HB2).size))
              have HS3 := hide ((unhide HS2).keep hb3)
              clear hb3 HB2 HS2 C2
              go_wp2_with fail
              refine (unhide C3 _).mono ?_
              rintro e u ⟨rfl, hu⟩
              obtain rfl := hu.symm
              clear hu
              go_wp2_with fail
              refine (unhide C4' _ (unhide HS3)).mono ?_
              rintro e w4 ⟨rfl, hb4⟩
              have HB4 := hide ((unhide HB3).trans (hb4.mono (unhide HB3).size))
              have hS4 := ((unhide HS3).keep hb4).n
              clear hb4 HB3 HS3 C4'
              go_wp2_with fail
              refine (unhide C3 _).mono ?_
              rintro e u ⟨rfl, hu⟩
              obtain rfl := hu.symm
              clear hu C3
              go_wp2
              go_ret
              exact ⟨rfl, unhide HB4⟩
        · have a5 : m = 12 := by omega
          have C4' := hide (unhide C4 (y + 1) 1 1 (hx3 a3 a5))
          have hM := unhide HM a5
          rw [dateE_in (show -999999 ≤ y + 1 ∧ y + 1 ≤ 999999 by omega)] at C4'
          have a4' : decide (m < 12) = false := decide_eq_false a4
          have a6 : (y == 999999) = false := by rw [beq_eq_false_iff_ne]; omega
          clear C4 hx1 hx2 hx3 HM hb n1 n2 a2 hM a1 a4 a3
          have f2 : (m == 12) = true := by rw [beq_iff_eq]; exact a5
          clear a5
          go_enter Tryd.func8, Tryd.ntmps8
          go_wp2_with fail
          refine (unhide C0 _ (unhide HS)).mono ?_
          rintro e w1 ⟨rfl, hb1⟩
          have HB1 := hide hb1
          have HS1 := hide ((unhide HS).keep hb1)
          clear hb1 HS C0
          go_wp2_with fail
          refine (unhide C1 _ (unhide HS1)).mono ?_
          rintro e w2 ⟨rfl, hb2⟩
          have HB2 := hide ((unhide HB1).trans (hb2.mono (unhide HB1).size))
          have HS2 := hide ((unhide HS1).keep hb2)
          clear hb2 HB1 HS1 C1
          go_wp2_with fail
          refine (unhide C2 _ (unhide HS2)).mono ?_
          rintro e w3 ⟨rfl, hb3⟩
          have HB3 := hide ((unhide HB2).trans (hb3.mono (unhide HB2).size))
          have HS3 := hide ((unhide HS2).keep hb3)
          clear hb3 HB2 HS2 C2
          go_wp2_with fail
          refine (unhide C3 _).mono ?_
          rintro e u ⟨rfl, hu⟩
          obtain rfl := hu.symm
          clear hu
          go_wp2_with fail
          refine (unhide C4' _ (unhide HS3)).mono ?_
          rintro e w4 ⟨rfl, hb4⟩
          have HB4 := hide ((unhide HB3).trans (hb4.mono (unhide HB3).size))
          have hS4 := ((unhide HS3).keep hb4).n
          clear hb4 HB3 HS3 C4'
          go_wp2_with fail
          refine (unhide C3 _).mono ?_
          rintro e u ⟨rfl, hu⟩
          obtain rfl := hu.symm
          clear hu C3
          go_wp2
          go_ret
          exact ⟨rfl, unhide HB4⟩
  · rw [dateE_out hy] at C1
    simp only [eT] at C1
    have heq := fun u => eql_same u a
    clear K KD hS
    go_enter Tryd.func8, Tryd.ntmps8
    go_wp2_with fail
    refine (unhide C0 _ (unhide HS)).mono ?_
    rintro e w1 ⟨rfl, hb1⟩
    have HB1 := hide hb1
    have HS1 := hide ((unhide HS).keep hb1)
    clear hb1 HS C0
    go_wp2_with fail
    refine (unhide C1 _ (unhide HS1)).mono ?_
    rintro e w2 ⟨rfl, hb2⟩
    have HB2 := hide ((unhide HB1).trans (hb2.mono (unhide HB1).size))
    have hS2 := ((unhide HS1).keep hb2).n
    clear hb2 HB1 HS1 C1
    by_cases hlo : n < -365000000
    · clear hb n1 n2
      go_wp2
      go_ret
      exact ⟨rfl, unhide HB2⟩
    · have hlo' : decide (n < -365000000) = false := decide_eq_false hlo
      have hhi : 364000000 < n := by omega
      clear hb n1 n2 hlo
      go_wp2
      go_ret
      exact ⟨rfl, unhide HB2⟩
end Go.Proofs.YtemcilikchlaiaaDoor.st
