/- The reference of package stamp: Parse, where numbers and signs of day and time are told as they must be. -/
import Derived.Test.YtemcilikchlaiaaDoorKl
namespace Go.Proofs.YtemcilikchlaiaaDoor.st
open Go.RowKit

theorem head_of (s : ByteArray) (hsg : (isI s 4 45 && isI s 7 45 && isI s 10 84 && isI s 13 58 && isI s 16 58) = true) (y0 : 0 ≤ numI s 4 0 0) (h0 : 0 ≤ numI s 2 11 0) (h1 : numI s 2 11 0 ≤ 23)
    (i0 : 0 ≤ numI s 2 14 0) (i1 : numI s 2 14 0 ≤ 59) (e0 : 0 ≤ numI s 2 17 0) (e1 : numI s 2 17 0 ≤ 59) : headI s ↔ isD (numI s 4 0 0) (numI s 2 5 0) (numI s 2 8 0) := by
  simp only [Bool.and_eq_true] at hsg
  exact ⟨fun h => h.2.1.2, fun h => ⟨⟨hsg.1.1.1.1, hsg.1.1.1.2, hsg.1.1.2, hsg.1.2, hsg.2⟩, ⟨y0, h⟩, ⟨h0, h1⟩, ⟨i0, i1⟩, ⟨e0, e1⟩⟩⟩
theorem parse_none (s : ByteArray) (h : ¬ headI s) (res : Value) (hr : parV (parseT s) = res) : parV none = res := by
  rw [← hr]
  unfold parseT
  rw [if_neg h]
theorem parse_none2 (s : ByteArray) (h : fracI s = none) (res : Value) (hr : parV (parseT s) = res) : parV none = res := by
  rw [← hr]
  unfold parseT
  split
  · rw [h]
  · rfl
theorem parse_none3 (s : ByteArray) (k n : Nat) (h : fracI s = some (k, n)) (h2 : offI s k = none) (res : Value) (hr : parV (parseT s) = res) : parV none = res := by
  rw [← hr]
  unfold parseT
  split
  · rw [h]
    simp only [h2]
  · rfl
theorem parse_some (s : ByteArray) (hh : headI s) (k n : Nat) (o : Int) (res : Value) (hr : parV (parseT s) = res) (h : fracI s = some (k, n)) (h2 : offI s k = some o) :
    parV (some (secI s + o, (n : Int))) = res := by
  rw [← hr]
  unfold parseT
  rw [if_pos hh, h]
  simp only [h2]

theorem drop_at (s : ByteArray) (k : Nat) (h : k < s.size) : s.data.toList.drop k = s[k] :: s.data.toList.drop (k + 1) := by
  have h2 : k < s.data.toList.length := by rw [Array.length_toList]; exact h
  rw [List.drop_eq_getElem_cons h2]
  rfl
theorem frc_at (s : ByteArray) (k : Nat) (h : k < s.size) (h1 : 48 ≤ s[k].toNat) (h2 : s[k].toNat ≤ 57) :
    frcN (s.data.toList.drop k) = frcN (s.data.toList.drop (k + 1)) + 1 ∧ ∀ p, frcV (s.data.toList.drop k) p = p / 10 * (s[k].toNat - 48) + frcV (s.data.toList.drop (k + 1)) (p / 10) := by
  rw [drop_at s k h]
  refine ⟨?_, fun p => ?_⟩
  · conv => lhs; unfold frcN
    rw [if_pos ⟨h1, h2⟩]
  · conv => lhs; unfold frcV
    rw [if_pos ⟨h1, h2⟩]
theorem frc_no (s : ByteArray) (k : Nat) (h : k < s.size) (h1 : ¬ (48 ≤ s[k].toNat ∧ s[k].toNat ≤ 57)) :
    frcN (s.data.toList.drop k) = 0 ∧ ∀ p, frcV (s.data.toList.drop k) p = 0 := by
  rw [drop_at s k h]
  refine ⟨?_, fun p => ?_⟩
  · unfold frcN
    rw [if_neg h1]
  · unfold frcV
    rw [if_neg h1]
theorem frc_end (s : ByteArray) (k : Nat) (h : s.size ≤ k) : frcN (s.data.toList.drop k) = 0 ∧ ∀ p, frcV (s.data.toList.drop k) p = 0 := by
  have e : s.data.toList.drop k = [] := List.drop_eq_nil_of_le (by rw [Array.length_toList]; exact h)
  rw [e]
  exact ⟨rfl, fun p => rfl⟩
theorem frac_none (s : ByteArray) (h : isI s 19 46 = true) (h2 : frcN (s.data.toList.drop 20) = 0 ∨ 9 < frcN (s.data.toList.drop 20)) : fracI s = none := by
  unfold fracI
  rw [if_pos h, if_pos h2]
theorem frac_some (s : ByteArray) (h : isI s 19 46 = true) (h2 : ¬ (frcN (s.data.toList.drop 20) = 0 ∨ 9 < frcN (s.data.toList.drop 20))) : fracI s = some (20 + frcN (s.data.toList.drop 20), frcV (s.data.toList.drop 20) 1000000000) := by
  unfold fracI
  rw [if_pos h, if_neg h2]
theorem frac_not (s : ByteArray) (h : isI s 19 46 = false) : fracI s = some (19, 0) := by
  unfold fracI
  rw [if_neg (by rw [h]; decide)]

set_option maxRecDepth 100000 in
set_option maxHeartbeats 12800000 in
theorem rparse_ok (s : ByteArray) (w : World) (hs : s.size ≤ 9223372036854775807) (hp : headP s) :
    Calls Tryd.prog 11 #[.string s] w fun e w' => e = .returned (parV (parseT s)) ∧ Below w.heap.size w w' := by
  unfold headP at hp
  have N1 := hide (fun u => rnumber_any s 0 4 0 4 rfl rfl (by omega) (by omega) u)
  have N2 := hide (fun u => rnumber_any s 5 2 5 7 rfl rfl (by omega) (by omega) u)
  have N3 := hide (fun u => rnumber_any s 8 2 8 10 rfl rfl (by omega) (by omega) u)
  have N4 := hide (fun u => rnumber_any s 11 2 11 13 rfl rfl (by omega) (by omega) u)
  have N5 := hide (fun u => rnumber_any s 14 2 14 16 rfl rfl (by omega) (by omega) u)
  have N6 := hide (fun u => rnumber_any s 17 2 17 19 rfl rfl (by omega) (by omega) u)
  have I1 := hide (fun u => ris_any s 4 45 4 45 rfl rfl u)
  have I2 := hide (fun u => ris_any s 7 45 7 45 rfl rfl u)
  have I3 := hide (fun u => ris_any s 10 84 10 84 rfl rfl u)
  have I4 := hide (fun u => ris_any s 13 58 13 58 rfl rfl u)
  have I5 := hide (fun u => ris_any s 16 58 16 58 rfl rfl u)
  obtain ⟨res, hres⟩ : ∃ r, parV (parseT s) = r := ⟨_, rfl⟩
  rw [hres]
  obtain ⟨hsg, y0, m0, d0, h0, h1, i0, i1, e0, e1⟩ := hp
  have HF := hide (fun h k n o => parse_some s h k n o res hres)
  have HN := hide (fun h => parse_none s h res hres)
  have HN2 := hide (fun h => parse_none2 s h res hres)
  have HN3 := hide (fun k n h h2 => parse_none3 s k n h h2 res hres)
  have HD := hide (head_of s hsg y0 h0 h1 i0 i1 e0 e1)
  have HS : Hid (secI s = dn (numI s 4 0 0) (numI s 2 5 0) (numI s 2 8 0) * 86400 + (numI s 2 11 0 * 3600 + numI s 2 14 0 * 60 + numI s 2 17 0)) := rfl
  have y1 := (numI_in s 4 0 0).2
  simp only [Int.reducePow, Int.zero_add, Int.one_mul, Int.cast_ofNat_Int] at y1
  clear hres
  generalize numI s 4 0 0 = y at *
  generalize numI s 2 5 0 = m at *
  generalize numI s 2 8 0 = d at *
  generalize numI s 2 11 0 = hh at *
  generalize numI s 2 14 0 = mi at *
  generalize numI s 2 17 0 = ss at *
  generalize headI s = HI at *
  generalize isI s 4 45 = b1 at *
  generalize isI s 7 45 = b2 at *
  generalize isI s 10 84 = b3 at *
  generalize isI s 13 58 = b4 at *
  generalize isI s 16 58 = b5 at *
  go_enter Tryd.func11, Tryd.ntmps11
  go_wp2_with fail
  refine (unhide N1 _).mono ?_
  rintro e u ⟨rfl, hu⟩
  obtain rfl := hu.symm
  clear hu
  go_wp2_with fail
  refine (unhide N2 _).mono ?_
  rintro e u ⟨rfl, hu⟩
  obtain rfl := hu.symm
  clear hu
  go_wp2_with fail
  refine (unhide N3 _).mono ?_
  rintro e u ⟨rfl, hu⟩
  obtain rfl := hu.symm
  clear hu
  go_wp2_with fail
  refine (unhide N4 _).mono ?_
  rintro e u ⟨rfl, hu⟩
  obtain rfl := hu.symm
  clear hu
  go_wp2_with fail
  refine (unhide N5 _).mono ?_
  rintro e u ⟨rfl, hu⟩
  obtain rfl := hu.symm
  clear hu
  go_wp2_with fail
  refine (unhide N6 _).mono ?_
  rintro e u ⟨rfl, hu⟩
  obtain rfl := hu.symm
  clear hu
  go_upto_region 7 with fail
  go_cut [10] from 23 (fun s10 wx => s10 = .bool (b1 && b2 && b3 && b4 && b5) ∧ wx = w.alloc (.cells #[.int .i64 0, .int .i64 0] 24))
  case first =>
    go_wp2_with fail
    refine (unhide I1 _).mono ?_
    rintro e u ⟨rfl, hu⟩
    obtain rfl := hu.symm
    clear hu
    cases b1
    · go_wp2_with fail
      go_meet
      exact ⟨rfl, rfl⟩
    · go_wp2_with fail
      refine (unhide I2 _).mono ?_
      rintro e u ⟨rfl, hu⟩
      obtain rfl := hu.symm
      clear hu
      cases b2
      · go_wp2_with fail
        go_meet
        exact ⟨rfl, rfl⟩
      · go_wp2_with fail
        refine (unhide I3 _).mono ?_
        rintro e u ⟨rfl, hu⟩
        obtain rfl := hu.symm
        clear hu
        cases b3
        · go_wp2_with fail
          go_meet
          exact ⟨rfl, rfl⟩
        · go_wp2_with fail
          refine (unhide I4 _).mono ?_
          rintro e u ⟨rfl, hu⟩
          obtain rfl := hu.symm
          clear hu
          cases b4
          · go_wp2_with fail
            go_meet
            exact ⟨rfl, rfl⟩
          · go_wp2_with fail
            refine (unhide I5 _).mono ?_
            rintro e u ⟨rfl, hu⟩
            obtain rfl := hu.symm
            clear hu
            go_wp2_with fail
            go_meet
            exact ⟨rfl, rfl⟩
  case rest =>
    obtain ⟨rfl, rfl⟩ := hcut
    clear I1 I2 I3 I4 I5 N1 N2 N3 N4 N5 N6
    rw [hsg]
    clear hsg
    have f1 : decide (y < 0) = false := decide_eq_false (by omega)
    have f2 : decide (m < 0) = false := decide_eq_false (by omega)
    have f3 : decide (d < 0) = false := decide_eq_false (by omega)
    have f4 : decide (hh < 0) = false := decide_eq_false (by omega)
    have f5 : decide (23 < hh) = false := decide_eq_false (by omega)
    have f6 : decide (mi < 0) = false := decide_eq_false (by omega)
    have f7 : decide (59 < mi) = false := decide_eq_false (by omega)
    have f8 : decide (ss < 0) = false := decide_eq_false (by omega)
    have f9 : decide (59 < ss) = false := decide_eq_false (by omega)
    go_upto_region 8 with fail
    go_cut [90] from 23 (fun c wx => c = .bool false ∧ wx = w.alloc (.cells #[.int .i64 0, .int .i64 0] 24))
    case first =>
      go_wp2_with fail
      go_meet
      exact ⟨rfl, rfl⟩
    case rest =>
      obtain ⟨rfl, rfl⟩ := hcut
      clear f1 f2 f3 f4 f5 f6 f7 f8 f9
      by_cases hd : isD y m d
      · have DD := hide (fun u => rdays_ok y m d u hd (by omega))
        have HH := hide ((unhide HD).2 hd)
        have hdb : -800000 ≤ dn y m d ∧ dn y m d ≤ 3700000 := by
          have a1 := dn_in hd
          have a2 := dby_near y
          have a3 := dby_near (y + 1)
          omega
        have HF2 := hide ((unhide HF) (unhide HH))
        have I6 := hide (fun u => ris_any s 19 46 19 46 rfl rfl u)
        have FN := hide (fun h h2 => unhide HN2 (frac_none s h h2))
        have FS := hide (frac_some s)
        have FX := hide (frac_not s)
        have VL := hide (frcV_lt (s.data.toList.drop 20) 1000000000 (by omega))
        clear HN HF HD HH hd HN2
        generalize dn y m d = D at *
        obtain ⟨b6, hb6⟩ : ∃ b, isI s 19 46 = b := ⟨_, rfl⟩
        rw [hb6] at I6 FN FS FX
        clear hb6
        go_wp2_with fail
        refine (unhide DD _).mono ?_
        rintro e u ⟨rfl, hu⟩
        obtain rfl := hu.symm
        clear hu DD
        go_wp2_with fail
        refine (unhide I6 _).mono ?_
        rintro e u ⟨rfl, hu⟩
        obtain rfl := hu.symm
        clear hu I6
        go_upto_if 105 with fail
        go_cut [13, 14] from 23 (fun a n wx => (∃ k v : Nat, a = .int .i64 (k : Int) ∧ n = .int .i64 (v : Int) ∧ 19 ≤ k ∧ k ≤ 29 ∧ v ≤ 999999999 ∧ Hid (fracI s = some (k, v))) ∧ wx = w.alloc (.cells #[.int .i64 0, .int .i64 0] 24))
        case first =>
          cases b6
          · have FX2 := hide (unhide FX rfl)
            clear FN FS FX HF2 HN3 HS
            go_wp2_with fail
            go_meet
            exact ⟨⟨19, 0, rfl, rfl, by omega, by omega, by omega, FX2⟩, rfl⟩
          · have FN2 := hide (unhide FN rfl)
            have FS2 := hide (unhide FS rfl)
            clear FN FS FX HF2 HN3 HS
            obtain ⟨N, hN⟩ : ∃ n, frcN (s.data.toList.drop 20) = n := ⟨_, rfl⟩
            obtain ⟨V, hV⟩ : ∃ n, frcV (s.data.toList.drop 20) 1000000000 = n := ⟨_, rfl⟩
            rw [hN] at FN2 FS2
            rw [hV] at FS2 VL
            have HN0 := hide hN
            have HV0 := hide hV
            have VL2 := unhide VL
            clear hN hV VL
            go_wp2_with fail
            go_loop [13, 14, 15] (fun a n p => ∃ j acc pp : Nat, 20 ≤ j ∧ a = .int .i64 (j : Int) ∧ n = .int .i64 (acc : Int) ∧ p = .int .i64 (pp : Int) ∧ pp ≤ 1000000000 ∧ acc ≤ V ∧ j ≤ s.size + 20 ∧
              Hid (j + frcN (s.data.toList.drop j) = 20 + N) ∧ Hid (acc + frcV (s.data.toList.drop j) pp = V)) (fun a _ _ => s.size + 20 - (intOf a).toNat)
            case atStart => exact ⟨20, 0, 1000000000, by omega, rfl, rfl, rfl, by omega, by omega, by omega, by rw [← unhide HN0]; rfl, by rw [← unhide HV0]; exact Nat.zero_add _⟩
            case round =>
              clear HN0 HV0
              obtain ⟨j, acc, pp, hj20, rfl, rfl, rfl, hpp, hacc, hks, HA, HV⟩ := hrel
              have hk0 : (0 : Int) ≤ (j : Int) := by omega
              by_cases hlt : j < s.size
              · have hlt' : (j : Int) < (s.size : Int) := by omega
                have hb := s[j].toNat_lt
                by_cases hd : 48 ≤ s[j].toNat ∧ s[j].toNat ≤ 57
                · obtain ⟨q1, q2⟩ := frc_at s j hlt hd.1 hd.2
                  have hA := hide (show (j + 1) + frcN (s.data.toList.drop (j + 1)) = 20 + N by rw [← unhide HA, q1]; omega)
                  have hV := hide (show acc + pp / 10 * (s[j].toNat - 48) + frcV (s.data.toList.drop (j + 1)) (pp / 10) = V by rw [← unhide HV, q2]; omega)
                  have hV1 : acc + pp / 10 * (s[j].toNat - 48) ≤ V := by have := unhide hV; omega
                  have h48 : (48 : Int) ≤ (s[j].toNat : Int) := by omega
                  have h57 : (s[j].toNat : Int) ≤ 57 := by omega
                  have hmul : ((pp / 10 * (s[j].toNat - 48) : Nat) : Int) = ((pp : Int) / 10) * ((s[j].toNat : Int) - 48) := by
                    rw [Int.natCast_mul]
                    congr 1
                    omega
                  have hm0 : 0 ≤ ((pp : Int) / 10) * ((s[j].toNat : Int) - 48) := by rw [← hmul]; omega
                  have hm1 : ((pp : Int) / 10) * ((s[j].toNat : Int) - 48) ≤ 1000000000 := by rw [← hmul]; omega
                  have hp10 : (pp : Int).tdiv 10 = (pp : Int) / 10 := Int.tdiv_eq_ediv_of_nonneg (by omega)
                  clear q1 q2 HA HV FN2 FS2
                  as_aux_lemma =>
                    go_wp2
                    exact ⟨⟨j + 1, acc + pp / 10 * (s[j].toNat - 48), pp / 10, by omega, rfl, by congr 1; rw [Int.natCast_add, hmul], by congr 1, by omega, hV1, by omega, hA, hV⟩, by simp [intOf]; omega⟩
                · obtain ⟨q1, q2⟩ := frc_no s j hlt hd
                  by_cases h48 : (48 : Int) ≤ (s[j].toNat : Int)
                  · have h57 : decide ((s[j].toNat : Int) ≤ 57) = false := decide_eq_false (by omega)
                    have hA := unhide HA
                    have hV := unhide HV
                    rw [q1] at hA
                    rw [q2] at hV
                    clear q1 q2 HA HV
                    clear hd
                    have ek : j = 20 + N := by omega
                    have eV : acc = V := by omega
                    subst eV
                    by_cases n0 : j = 20
                    · have FN3 := hide (unhide FN2 (Or.inl (by omega)))
                      clear FN2 FS2 ek
                      subst n0
                      as_aux_lemma =>
                        go_wp2
                        refine bodyPost_ret (ret_rparse (m := w.heap.size) _ 0 0 13 (IL.new w 0 0) _ rfl rfl) rfl ?_
                        exact ⟨by rw [← unhide FN3]; rfl, (Below.refl _ _).alloc (Nat.le_refl _) _⟩
                    · have t1 : ((j : Int) == 20) = false := by rw [beq_eq_false_iff_ne]; omega
                      by_cases n9 : 29 < j
                      · have t2 : (29 : Int) < (j : Int) := by omega
                        have FN3 := hide (unhide FN2 (Or.inr (by omega)))
                        clear FN2 FS2 ek
                        as_aux_lemma =>
                          go_wp2
                          refine bodyPost_ret (ret_rparse (m := w.heap.size) _ 0 0 13 (IL.new w 0 0) _ rfl rfl) rfl ?_
                          exact ⟨by rw [← unhide FN3]; rfl, (Below.refl _ _).alloc (Nat.le_refl _) _⟩
                      · have t2 : decide ((29 : Int) < (j : Int)) = false := decide_eq_false (by omega)
                        have FS3 := hide (show fracI s = some (j, acc) by rw [ek]; exact unhide FS2 (by omega))
                        clear FN2 FS2 ek
                        as_aux_lemma =>
                          go_wp2_with fail
                          go_meet
                          exact ⟨⟨j, acc, rfl, rfl, by omega, by omega, by omega, FS3⟩, rfl⟩
                  · have h48' : decide ((48 : Int) ≤ (s[j].toNat : Int)) = false := decide_eq_false h48
                    have hA := unhide HA
                    have hV := unhide HV
                    rw [q1] at hA
                    rw [q2] at hV
                    clear q1 q2 HA HV
                    clear hd h48
                    have ek : j = 20 + N := by omega
                    have eV : acc = V := by omega
                    subst eV
                    by_cases n0 : j = 20
                    · have FN3 := hide (unhide FN2 (Or.inl (by omega)))
                      clear FN2 FS2 ek
                      subst n0
                      as_aux_lemma =>
                        go_wp2
                        refine bodyPost_ret (ret_rparse (m := w.heap.size) _ 0 0 13 (IL.new w 0 0) _ rfl rfl) rfl ?_
                        exact ⟨by rw [← unhide FN3]; rfl, (Below.refl _ _).alloc (Nat.le_refl _) _⟩
                    · have t1 : ((j : Int) == 20) = false := by rw [beq_eq_false_iff_ne]; omega
                      by_cases n9 : 29 < j
                      · have t2 : (29 : Int) < (j : Int) := by omega
                        have FN3 := hide (unhide FN2 (Or.inr (by omega)))
                        clear FN2 FS2 ek
                        as_aux_lemma =>
                          go_wp2
                          refine bodyPost_ret (ret_rparse (m := w.heap.size) _ 0 0 13 (IL.new w 0 0) _ rfl rfl) rfl ?_
                          exact ⟨by rw [← unhide FN3]; rfl, (Below.refl _ _).alloc (Nat.le_refl _) _⟩
                      · have t2 : decide ((29 : Int) < (j : Int)) = false := decide_eq_false (by omega)
                        have FS3 := hide (show fracI s = some (j, acc) by rw [ek]; exact unhide FS2 (by omega))
                        clear FN2 FS2 ek
                        as_aux_lemma =>
                          go_wp2_with fail
                          go_meet
                          exact ⟨⟨j, acc, rfl, rfl, by omega, by omega, by omega, FS3⟩, rfl⟩
              · have hlt' : ¬ (j : Int) < (s.size : Int) := by omega
                obtain ⟨q1, q2⟩ := frc_end s j (by omega)
                have hA := unhide HA
                have hV := unhide HV
                rw [q1] at hA
                rw [q2] at hV
                clear q1 q2 HA HV
                have ek : j = 20 + N := by omega
                have eV : acc = V := by omega
                subst eV
                by_cases n0 : j = 20
                · have FN3 := hide (unhide FN2 (Or.inl (by omega)))
                  clear FN2 FS2 ek
                  subst n0
                  as_aux_lemma =>
                    go_wp2
                    refine bodyPost_ret (ret_rparse (m := w.heap.size) _ 0 0 13 (IL.new w 0 0) _ rfl rfl) rfl ?_
                    exact ⟨by rw [← unhide FN3]; rfl, (Below.refl _ _).alloc (Nat.le_refl _) _⟩
                · have t1 : ((j : Int) == 20) = false := by rw [beq_eq_false_iff_ne]; omega
                  by_cases n9 : 29 < j
                  · have t2 : (29 : Int) < (j : Int) := by omega
                    have FN3 := hide (unhide FN2 (Or.inr (by omega)))
                    clear FN2 FS2 ek
                    as_aux_lemma =>
                      go_wp2
                      refine bodyPost_ret (ret_rparse (m := w.heap.size) _ 0 0 13 (IL.new w 0 0) _ rfl rfl) rfl ?_
                      exact ⟨by rw [← unhide FN3]; rfl, (Below.refl _ _).alloc (Nat.le_refl _) _⟩
                  · have t2 : decide ((29 : Int) < (j : Int)) = false := decide_eq_false (by omega)
                    have FS3 := hide (show fracI s = some (j, acc) by rw [ek]; exact unhide FS2 (by omega))
                    clear FN2 FS2 ek
                    as_aux_lemma =>
                      go_wp2_with fail
                      go_meet
                      exact ⟨⟨j, acc, rfl, rfl, by omega, by omega, by omega, FS3⟩, rfl⟩
        case rest =>
          clear FN FS FX VL
          obtain ⟨⟨k, v, rfl, rfl, hk0, hk1, hv, HK⟩, rfl⟩ := hcut
          have HF3 := hide (fun o h => unhide HF2 k v o (unhide HK) h)
          have HN4 := hide (fun h => unhide HN3 k v (unhide HK) h)
          rw [unhide HS] at HF3
          clear HF2 HN3 HK HS
          refine ‹∀ (a : Act) (w : World), Code.wp Tryd.prog _ _ a w → _› _ _ ?_
          exact rparse_24 s w y m d hh mi ss D k v res hk0 hk1 hv hs h0 h1 i0 i1 e0 e1 hdb HF3 HN4 _ _ _ _ _ _ _ _ _ _ _ _ _ _ _ _ _ _ _ _ _ _ _ _ _ _ _ _ _ _ _ _ _ _ _ _ _ _ _ _ _ _ _ _ _ _ _ _ _ _ _ _ _ _ _ _ _ _ _ _ _ _ _ _ _ _ _ _ _ _ _ _ _ _ _ _ _ _ _ _ _ _ _ _ _ _ _ _ _ _ _ _ _ _ _ _ _ _ _ _ _ _ _ _ _ _ _ _ _ _ _ _ _ _ _ _ _ _ _ _ _ _ _ _ _ _ _ _ _ _ _ _ _ _ _ _ _ _ _ _ _ _ _ _ _ _ _ _ _ _ _ _ _ _ _ _ _ _ _ _ _ _ _ _ _ _ _ _ _ _ _ _ _ _ _ _ _ _ _ _ _ _ _ _ _ _ _ _ _ _ _ _ _ _ _ _ _ _ _ _ _ _ _ _ _ _ _ _ _ _ _ _ _ _ _ _ (by kernel_rfl)
      · have DD := hide (fun u => rdays_bad y m d u (fun z => hd z.1))
        have HH := hide ((unhide HN) (fun z => hd ((unhide HD).1 z)))
        clear HN HF HN2 HN3 HD HS
        go_wp2_with fail
        refine (unhide DD _).mono ?_
        rintro e u ⟨rfl, hu⟩
        obtain rfl := hu.symm
        clear hu DD
        go_wp2
        refine bodyPost_ret (ret_rparse (m := w.heap.size) _ 0 0 13 (IL.new w 0 0) _ rfl rfl) rfl ?_
        exact ⟨by rw [← unhide HH]; rfl, (Below.refl _ _).alloc (Nat.le_refl _) _⟩
end Go.Proofs.YtemcilikchlaiaaDoor.st
