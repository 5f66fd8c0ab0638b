/- The reference's exponent: its contract. -/
import Derived.Test.YtgmjllkkgapjcaaDoorNb
namespace Go.Proofs.YtgmjllkkgapjcaaDoor.rd
open Go.RowKit

theorem byte_neb {a b : UInt8} (h : ¬ a = b) : (((a.toNat : Nat) : Int) == ((b.toNat : Nat) : Int)) = false := by
  have : a.toNat ≠ b.toNat := fun e => h (UInt8.toNat_inj.1 e)
  simp
  omega
theorem byte_neq {a b : UInt8} (h : ¬ a = b) : (((a.toNat : Nat) : Int) != ((b.toNat : Nat) : Int)) = true := by
  have : a.toNat ≠ b.toNat := fun e => h (UInt8.toNat_inj.1 e)
  simp
  omega

set_option maxRecDepth 100000 in
set_option maxHeartbeats 3200000 in
theorem rexponent_any (s : ByteArray) (k : Nat) (w : World) (hs : s.size ≤ 1099511627776) (hk : k ≤ s.size) :
    Calls Tryd.prog 37 #[.string s, .int .i64 k] w fun e w' => e = .returned (.tuple #[.int .i64 (rex s k).1, .bool (rex s k).2]) ∧ w' = w := by
  by_cases he : k = s.size
  · have HR : Hid (rex s k = (0, true)) := by
      show rex s k = _
      unfold rex; rw [nu.at_none s k he]
    subst he
    go_enter Tryd.func37, Tryd.ntmps37
    go_wp2
    go_ret2
    exact ⟨by rw [HR.out]; rfl, rfl⟩
  · have hlt : k < s.size := by omega
    clear he
    by_cases hc : s[k] = 101 ∨ s[k] = 69
    · have hrex0 : rex s k = (match nu.at_ s (k + 1) with
          | some d => if d = 45 then rexD s true (k + 2) else if d = 43 then rexD s false (k + 2) else rexD s false (k + 1)
          | none => rexD s false (k + 1)) := by
        unfold rex; rw [nu.at_some s k hlt]; simp only; rw [if_pos hc]; rfl
      have hk1 : (s[k].toNat : Int) = 101 ∨ (s[k].toNat : Int) = 69 := by
        rcases hc with h | h
        · left; rw [h]; rfl
        · right; rw [h]; rfl
      clear hc
      by_cases hn : k + 1 < s.size
      · rw [nu.at_some s (k + 1) hn] at hrex0
        simp only at hrex0
        by_cases hm45 : s[k + 1] = 45
        · have hrex : rex s k = rexD s true (k + 2) := by rw [hrex0, if_pos hm45]
          have t2 : (s[k + 1].toNat : Int) = 45 := by rw [hm45]; rfl
          clear hrex0 hm45
          go_enter Tryd.func37, Tryd.ntmps37
          rcases hk1 with hk1 | hk1
          · have HX : Hid (rex s k = rexD s true (k + 2)) := hrex
            clear hrex
            have hjs : k + 2 ≤ s.size := by omega
            have hnd := nu.nd_le s (k + 2) hjs
            have cn := hide (fun w a ha => number_at s (k + 2) w a ha hs hjs)
            generalize hm : nu.nd s (k + 2) = m at *
            have HM := hide hm
            clear hm
            by_cases hz : m = 0
            · have HR : Hid (rex s k = (0, false)) := by
                show rex s k = _
                rw [HX.out]; unfold rexD; rw [if_pos (.inl (by rw [HM.out]; exact hz))]
              subst hz
              clear HX
              go_wp2_with fail
              refine (unhide cn _ _ (by omega)).mono ?_
              rintro e w1 ⟨rfl, rfl⟩
              go_wp2
              go_ret2
              exact ⟨by rw [HR.out]; rfl, rfl⟩
            · have hz' : 0 < m := by omega
              clear hz
              by_cases hl : k + 2 + m < s.size
              · have HR : Hid (rex s k = (0, false)) := by
                  show rex s k = _
                  rw [HX.out]; unfold rexD; rw [if_pos (.inr (by rw [HM.out]; exact hl))]
                clear HX
                go_wp2_with fail
                refine (unhide cn _ _ (by omega)).mono ?_
                rintro e w1 ⟨rfl, rfl⟩
                go_wp2
                go_ret2
                exact ⟨by rw [HR.out]; rfl, rfl⟩
              · have hl' : s.size ≤ k + 2 + m := by omega
                have hbq : (((k : Int) + 2 + (m : Int)) == (k : Int) + 1 + 1) = false := by simp; omega
                have HR : Hid (rex s k = (if true then - rsize ((s.data.toList.drop (k + 2)).take m) else rsize ((s.data.toList.drop (k + 2)).take m), true)) := by
                  show rex s k = _
                  rw [HX.out]; unfold rexD; rw [HM.out, if_neg (by omega)]
                clear HX
                go_wp2_with fail
                refine (unhide cn _ _ (by omega)).mono ?_
                rintro e w1 ⟨rfl, rfl⟩
                go_wp2
                go_loop [8, 9] (fun n i => ∃ q : Nat, q ≤ m ∧ i = .int .i64 (((k + 2) + q : Nat) : Int) ∧ n = .int .i64 (rsize ((s.data.toList.drop (k + 2)).take q))) (fun _ i => ((k + 2) + m) - (intOf i).toNat)
                case atStart => exact ⟨0, Nat.zero_le _, rfl, rfl⟩
                case round =>
                  obtain ⟨q, hq, rfl, rfl⟩ := hrel
                  have hb := rsize_bd ((s.data.toList.drop (k + 2)).take q) (take_dig s (k + 2) q (by rw [HM.out]; exact hq))
                  by_cases hqm : q < m
                  · have hlt : (k + 2) + q < s.size := by omega
                    have hc : 48 ≤ s[(k + 2) + q].toNat ∧ s[(k + 2) + q].toNat ≤ 57 := by
                      have hmem : s[(k + 2) + q] ∈ (s.data.toList.drop (k + 2)).take (q + 1) := by rw [take_next s (k + 2) q hlt]; simp
                      have := take_dig s (k + 2) (q + 1) (by rw [HM.out]; omega) _ hmem
                      simpa [nu.dig] using this
                    obtain ⟨hc1, hc2⟩ := hc
                    have hc1' : (48 : Int) ≤ (s[(k + 2) + q].toNat : Int) := by omega
                    have hc2' : (s[(k + 2) + q].toNat : Int) ≤ 57 := by omega
                    have HS : Hid (rsize ((s.data.toList.drop (k + 2)).take (q + 1)) = rstep (rsize ((s.data.toList.drop (k + 2)).take q)) s[(k + 2) + q]) := by
                      show rsize _ = _
                      rw [take_next s (k + 2) q hlt, rsize_snoc]
                    clear hc1 hc2
                    by_cases hfar : rsize ((s.data.toList.drop (k + 2)).take q) < 1000000000000
                    · go_wp2
                      go_round
                      case rel => exact ⟨q + 1, by omega, by go_num, by rw [HS.out]; unfold rstep; rw [if_pos hfar]⟩
                      case measure => simp [intOf]; omega
                    · go_wp2
                      go_round
                      case rel => exact ⟨q + 1, by omega, by go_num, by rw [HS.out]; unfold rstep; rw [if_neg hfar]⟩
                      case measure => simp [intOf]; omega
                  · obtain rfl : q = m := by omega
                    go_wp2
                    go_ret2
                    exact ⟨by rw [HR.out]; rfl, rfl⟩
          · have HX : Hid (rex s k = rexD s true (k + 2)) := hrex
            clear hrex
            have hjs : k + 2 ≤ s.size := by omega
            have hnd := nu.nd_le s (k + 2) hjs
            have cn := hide (fun w a ha => number_at s (k + 2) w a ha hs hjs)
            generalize hm : nu.nd s (k + 2) = m at *
            have HM := hide hm
            clear hm
            by_cases hz : m = 0
            · have HR : Hid (rex s k = (0, false)) := by
                show rex s k = _
                rw [HX.out]; unfold rexD; rw [if_pos (.inl (by rw [HM.out]; exact hz))]
              subst hz
              clear HX
              go_wp2_with fail
              refine (unhide cn _ _ (by omega)).mono ?_
              rintro e w1 ⟨rfl, rfl⟩
              go_wp2
              go_ret2
              exact ⟨by rw [HR.out]; rfl, rfl⟩
            · have hz' : 0 < m := by omega
              clear hz
              by_cases hl : k + 2 + m < s.size
              · have HR : Hid (rex s k = (0, false)) := by
                  show rex s k = _
                  rw [HX.out]; unfold rexD; rw [if_pos (.inr (by rw [HM.out]; exact hl))]
                clear HX
                go_wp2_with fail
                refine (unhide cn _ _ (by omega)).mono ?_
                rintro e w1 ⟨rfl, rfl⟩
                go_wp2
                go_ret2
                exact ⟨by rw [HR.out]; rfl, rfl⟩
              · have hl' : s.size ≤ k + 2 + m := by omega
                have hbq : (((k : Int) + 2 + (m : Int)) == (k : Int) + 1 + 1) = false := by simp; omega
                have HR : Hid (rex s k = (if true then - rsize ((s.data.toList.drop (k + 2)).take m) else rsize ((s.data.toList.drop (k + 2)).take m), true)) := by
                  show rex s k = _
                  rw [HX.out]; unfold rexD; rw [HM.out, if_neg (by omega)]
                clear HX
                go_wp2_with fail
                refine (unhide cn _ _ (by omega)).mono ?_
                rintro e w1 ⟨rfl, rfl⟩
                go_wp2
                go_loop [8, 9] (fun n i => ∃ q : Nat, q ≤ m ∧ i = .int .i64 (((k + 2) + q : Nat) : Int) ∧ n = .int .i64 (rsize ((s.data.toList.drop (k + 2)).take q))) (fun _ i => ((k + 2) + m) - (intOf i).toNat)
                case atStart => exact ⟨0, Nat.zero_le _, rfl, rfl⟩
                case round =>
                  obtain ⟨q, hq, rfl, rfl⟩ := hrel
                  have hb := rsize_bd ((s.data.toList.drop (k + 2)).take q) (take_dig s (k + 2) q (by rw [HM.out]; exact hq))
                  by_cases hqm : q < m
                  · have hlt : (k + 2) + q < s.size := by omega
                    have hc : 48 ≤ s[(k + 2) + q].toNat ∧ s[(k + 2) + q].toNat ≤ 57 := by
                      have hmem : s[(k + 2) + q] ∈ (s.data.toList.drop (k + 2)).take (q + 1) := by rw [take_next s (k + 2) q hlt]; simp
                      have := take_dig s (k + 2) (q + 1) (by rw [HM.out]; omega) _ hmem
                      simpa [nu.dig] using this
                    obtain ⟨hc1, hc2⟩ := hc
                    have hc1' : (48 : Int) ≤ (s[(k + 2) + q].toNat : Int) := by omega
                    have hc2' : (s[(k + 2) + q].toNat : Int) ≤ 57 := by omega
                    have HS : Hid (rsize ((s.data.toList.drop (k + 2)).take (q + 1)) = rstep (rsize ((s.data.toList.drop (k + 2)).take q)) s[(k + 2) + q]) := by
                      show rsize _ = _
                      rw [take_next s (k + 2) q hlt, rsize_snoc]
                    clear hc1 hc2
                    by_cases hfar : rsize ((s.data.toList.drop (k + 2)).take q) < 1000000000000
                    · go_wp2
                      go_round
                      case rel => exact ⟨q + 1, by omega, by go_num, by rw [HS.out]; unfold rstep; rw [if_pos hfar]⟩
                      case measure => simp [intOf]; omega
                    · go_wp2
                      go_round
                      case rel => exact ⟨q + 1, by omega, by go_num, by rw [HS.out]; unfold rstep; rw [if_neg hfar]⟩
                      case measure => simp [intOf]; omega
                  · obtain rfl : q = m := by omega
                    go_wp2
                    go_ret2
                    exact ⟨by rw [HR.out]; rfl, rfl⟩
        · by_cases hm43 : s[k + 1] = 43
          · have hrex : rex s k = rexD s false (k + 2) := by rw [hrex0, if_neg hm45, if_pos hm43]
            have t2 : (s[k + 1].toNat : Int) = 43 := by rw [hm43]; rfl
            clear hrex0 hm45 hm43
            go_enter Tryd.func37, Tryd.ntmps37
            rcases hk1 with hk1 | hk1
            · have HX : Hid (rex s k = rexD s false (k + 2)) := hrex
              clear hrex
              have hjs : k + 2 ≤ s.size := by omega
              have hnd := nu.nd_le s (k + 2) hjs
              have cn := hide (fun w a ha => number_at s (k + 2) w a ha hs hjs)
              generalize hm : nu.nd s (k + 2) = m at *
              have HM := hide hm
              clear hm
              by_cases hz : m = 0
              · have HR : Hid (rex s k = (0, false)) := by
                  show rex s k = _
                  rw [HX.out]; unfold rexD; rw [if_pos (.inl (by rw [HM.out]; exact hz))]
                subst hz
                clear HX
                go_wp2_with fail
                refine (unhide cn _ _ (by omega)).mono ?_
                rintro e w1 ⟨rfl, rfl⟩
                go_wp2
                go_ret2
                exact ⟨by rw [HR.out]; rfl, rfl⟩
              · have hz' : 0 < m := by omega
                clear hz
                by_cases hl : k + 2 + m < s.size
                · have HR : Hid (rex s k = (0, false)) := by
                    show rex s k = _
                    rw [HX.out]; unfold rexD; rw [if_pos (.inr (by rw [HM.out]; exact hl))]
                  clear HX
                  go_wp2_with fail
                  refine (unhide cn _ _ (by omega)).mono ?_
                  rintro e w1 ⟨rfl, rfl⟩
                  go_wp2
                  go_ret2
                  exact ⟨by rw [HR.out]; rfl, rfl⟩
                · have hl' : s.size ≤ k + 2 + m := by omega
                  have hbq : (((k : Int) + 2 + (m : Int)) == (k : Int) + 1 + 1) = false := by simp; omega
                  have HR : Hid (rex s k = (if false then - rsize ((s.data.toList.drop (k + 2)).take m) else rsize ((s.data.toList.drop (k + 2)).take m), true)) := by
                    show rex s k = _
                    rw [HX.out]; unfold rexD; rw [HM.out, if_neg (by omega)]
                  clear HX
                  go_wp2_with fail
                  refine (unhide cn _ _ (by omega)).mono ?_
                  rintro e w1 ⟨rfl, rfl⟩
                  go_wp2
                  go_loop [8, 9] (fun n i => ∃ q : Nat, q ≤ m ∧ i = .int .i64 (((k + 2) + q : Nat) : Int) ∧ n = .int .i64 (rsize ((s.data.toList.drop (k + 2)).take q))) (fun _ i => ((k + 2) + m) - (intOf i).toNat)
                  case atStart => exact ⟨0, Nat.zero_le _, rfl, rfl⟩
                  case round =>
                    obtain ⟨q, hq, rfl, rfl⟩ := hrel
                    have hb := rsize_bd ((s.data.toList.drop (k + 2)).take q) (take_dig s (k + 2) q (by rw [HM.out]; exact hq))
                    by_cases hqm : q < m
                    · have hlt : (k + 2) + q < s.size := by omega
                      have hc : 48 ≤ s[(k + 2) + q].toNat ∧ s[(k + 2) + q].toNat ≤ 57 := by
                        have hmem : s[(k + 2) + q] ∈ (s.data.toList.drop (k + 2)).take (q + 1) := by rw [take_next s (k + 2) q hlt]; simp
                        have := take_dig s (k + 2) (q + 1) (by rw [HM.out]; omega) _ hmem
                        simpa [nu.dig] using this
                      obtain ⟨hc1, hc2⟩ := hc
                      have hc1' : (48 : Int) ≤ (s[(k + 2) + q].toNat : Int) := by omega
                      have hc2' : (s[(k + 2) + q].toNat : Int) ≤ 57 := by omega
                      have HS : Hid (rsize ((s.data.toList.drop (k + 2)).take (q + 1)) = rstep (rsize ((s.data.toList.drop (k + 2)).take q)) s[(k + 2) + q]) := by
                        show rsize _ = _
                        rw [take_next s (k + 2) q hlt, rsize_snoc]
                      clear hc1 hc2
                      by_cases hfar : rsize ((s.data.toList.drop (k + 2)).take q) < 1000000000000
                      · go_wp2
                        go_round
                        case rel => exact ⟨q + 1, by omega, by go_num, by rw [HS.out]; unfold rstep; rw [if_pos hfar]⟩
                        case measure => simp [intOf]; omega
                      · go_wp2
                        go_round
                        case rel => exact ⟨q + 1, by omega, by go_num, by rw [HS.out]; unfold rstep; rw [if_neg hfar]⟩
                        case measure => simp [intOf]; omega
                    · obtain rfl : q = m := by omega
                      go_wp2
                      go_ret2
                      exact ⟨by rw [HR.out]; rfl, rfl⟩
            · have HX : Hid (rex s k = rexD s false (k + 2)) := hrex
              clear hrex
              have hjs : k + 2 ≤ s.size := by omega
              have hnd := nu.nd_le s (k + 2) hjs
              have cn := hide (fun w a ha => number_at s (k + 2) w a ha hs hjs)
              generalize hm : nu.nd s (k + 2) = m at *
              have HM := hide hm
              clear hm
              by_cases hz : m = 0
              · have HR : Hid (rex s k = (0, false)) := by
                  show rex s k = _
                  rw [HX.out]; unfold rexD; rw [if_pos (.inl (by rw [HM.out]; exact hz))]
                subst hz
                clear HX
                go_wp2_with fail
                refine (unhide cn _ _ (by omega)).mono ?_
                rintro e w1 ⟨rfl, rfl⟩
                go_wp2
                go_ret2
                exact ⟨by rw [HR.out]; rfl, rfl⟩
              · have hz' : 0 < m := by omega
                clear hz
                by_cases hl : k + 2 + m < s.size
                · have HR : Hid (rex s k = (0, false)) := by
                    show rex s k = _
                    rw [HX.out]; unfold rexD; rw [if_pos (.inr (by rw [HM.out]; exact hl))]
                  clear HX
                  go_wp2_with fail
                  refine (unhide cn _ _ (by omega)).mono ?_
                  rintro e w1 ⟨rfl, rfl⟩
                  go_wp2
                  go_ret2
                  exact ⟨by rw [HR.out]; rfl, rfl⟩
                · have hl' : s.size ≤ k + 2 + m := by omega
                  have hbq : (((k : Int) + 2 + (m : Int)) == (k : Int) + 1 + 1) = false := by simp; omega
                  have HR : Hid (rex s k = (if false then - rsize ((s.data.toList.drop (k + 2)).take m) else rsize ((s.data.toList.drop (k + 2)).take m), true)) := by
                    show rex s k = _
                    rw [HX.out]; unfold rexD; rw [HM.out, if_neg (by omega)]
                  clear HX
                  go_wp2_with fail
                  refine (unhide cn _ _ (by omega)).mono ?_
                  rintro e w1 ⟨rfl, rfl⟩
                  go_wp2
                  go_loop [8, 9] (fun n i => ∃ q : Nat, q ≤ m ∧ i = .int .i64 (((k + 2) + q : Nat) : Int) ∧ n = .int .i64 (rsize ((s.data.toList.drop (k + 2)).take q))) (fun _ i => ((k + 2) + m) - (intOf i).toNat)
                  case atStart => exact ⟨0, Nat.zero_le _, rfl, rfl⟩
                  case round =>
                    obtain ⟨q, hq, rfl, rfl⟩ := hrel
                    have hb := rsize_bd ((s.data.toList.drop (k + 2)).take q) (take_dig s (k + 2) q (by rw [HM.out]; exact hq))
                    by_cases hqm : q < m
                    · have hlt : (k + 2) + q < s.size := by omega
                      have hc : 48 ≤ s[(k + 2) + q].toNat ∧ s[(k + 2) + q].toNat ≤ 57 := by
                        have hmem : s[(k + 2) + q] ∈ (s.data.toList.drop (k + 2)).take (q + 1) := by rw [take_next s (k + 2) q hlt]; simp
                        have := take_dig s (k + 2) (q + 1) (by rw [HM.out]; omega) _ hmem
                        simpa [nu.dig] using this
                      obtain ⟨hc1, hc2⟩ := hc
                      have hc1' : (48 : Int) ≤ (s[(k + 2) + q].toNat : Int) := by omega
                      have hc2' : (s[(k + 2) + q].toNat : Int) ≤ 57 := by omega
                      have HS : Hid (rsize ((s.data.toList.drop (k + 2)).take (q + 1)) = rstep (rsize ((s.data.toList.drop (k + 2)).take q)) s[(k + 2) + q]) := by
                        show rsize _ = _
                        rw [take_next s (k + 2) q hlt, rsize_snoc]
                      clear hc1 hc2
                      by_cases hfar : rsize ((s.data.toList.drop (k + 2)).take q) < 1000000000000
                      · go_wp2
                        go_round
                        case rel => exact ⟨q + 1, by omega, by go_num, by rw [HS.out]; unfold rstep; rw [if_pos hfar]⟩
                        case measure => simp [intOf]; omega
                      · go_wp2
                        go_round
                        case rel => exact ⟨q + 1, by omega, by go_num, by rw [HS.out]; unfold rstep; rw [if_neg hfar]⟩
                        case measure => simp [intOf]; omega
                    · obtain rfl : q = m := by omega
                      go_wp2
                      go_ret2
                      exact ⟨by rw [HR.out]; rfl, rfl⟩
          · have hrex : rex s k = rexD s false (k + 1) := by rw [hrex0, if_neg hm45, if_neg hm43]
            have t1 : ((s[k + 1].toNat : Int) == 43) = false := byte_neb (b := 43) hm43
            have t2 : ((s[k + 1].toNat : Int) == 45) = false := byte_neb (b := 45) hm45
            clear hrex0 hm45 hm43
            go_enter Tryd.func37, Tryd.ntmps37
            rcases hk1 with hk1 | hk1
            · have HX : Hid (rex s k = rexD s false (k + 1)) := hrex
              clear hrex
              have hjs : k + 1 ≤ s.size := by omega
              have hnd := nu.nd_le s (k + 1) hjs
              have cn := hide (fun w a ha => number_at s (k + 1) w a ha hs hjs)
              generalize hm : nu.nd s (k + 1) = m at *
              have HM := hide hm
              clear hm
              by_cases hz : m = 0
              · have HR : Hid (rex s k = (0, false)) := by
                  show rex s k = _
                  rw [HX.out]; unfold rexD; rw [if_pos (.inl (by rw [HM.out]; exact hz))]
                subst hz
                clear HX
                go_wp2_with fail
                refine (unhide cn _ _ (by omega)).mono ?_
                rintro e w1 ⟨rfl, rfl⟩
                go_wp2
                go_ret2
                exact ⟨by rw [HR.out]; rfl, rfl⟩
              · have hz' : 0 < m := by omega
                clear hz
                by_cases hl : k + 1 + m < s.size
                · have HR : Hid (rex s k = (0, false)) := by
                    show rex s k = _
                    rw [HX.out]; unfold rexD; rw [if_pos (.inr (by rw [HM.out]; exact hl))]
                  clear HX
                  go_wp2_with fail
                  refine (unhide cn _ _ (by omega)).mono ?_
                  rintro e w1 ⟨rfl, rfl⟩
                  go_wp2
                  go_ret2
                  exact ⟨by rw [HR.out]; rfl, rfl⟩
                · have hl' : s.size ≤ k + 1 + m := by omega
                  have hbq : (((k : Int) + 1 + (m : Int)) == (k : Int) + 1) = false := by simp; omega
                  have HR : Hid (rex s k = (if false then - rsize ((s.data.toList.drop (k + 1)).take m) else rsize ((s.data.toList.drop (k + 1)).take m), true)) := by
                    show rex s k = _
                    rw [HX.out]; unfold rexD; rw [HM.out, if_neg (by omega)]
                  clear HX
                  go_wp2_with fail
                  refine (unhide cn _ _ (by omega)).mono ?_
                  rintro e w1 ⟨rfl, rfl⟩
                  go_wp2
                  go_loop [8, 9] (fun n i => ∃ q : Nat, q ≤ m ∧ i = .int .i64 (((k + 1) + q : Nat) : Int) ∧ n = .int .i64 (rsize ((s.data.toList.drop (k + 1)).take q))) (fun _ i => ((k + 1) + m) - (intOf i).toNat)
                  case atStart => exact ⟨0, Nat.zero_le _, rfl, rfl⟩
                  case round =>
                    obtain ⟨q, hq, rfl, rfl⟩ := hrel
                    have hb := rsize_bd ((s.data.toList.drop (k + 1)).take q) (take_dig s (k + 1) q (by rw [HM.out]; exact hq))
                    by_cases hqm : q < m
                    · have hlt : (k + 1) + q < s.size := by omega
                      have hc : 48 ≤ s[(k + 1) + q].toNat ∧ s[(k + 1) + q].toNat ≤ 57 := by
                        have hmem : s[(k + 1) + q] ∈ (s.data.toList.drop (k + 1)).take (q + 1) := by rw [take_next s (k + 1) q hlt]; simp
                        have := take_dig s (k + 1) (q + 1) (by rw [HM.out]; omega) _ hmem
                        simpa [nu.dig] using this
                      obtain ⟨hc1, hc2⟩ := hc
                      have hc1' : (48 : Int) ≤ (s[(k + 1) + q].toNat : Int) := by omega
                      have hc2' : (s[(k + 1) + q].toNat : Int) ≤ 57 := by omega
                      have HS : Hid (rsize ((s.data.toList.drop (k + 1)).take (q + 1)) = rstep (rsize ((s.data.toList.drop (k + 1)).take q)) s[(k + 1) + q]) := by
                        show rsize _ = _
                        rw [take_next s (k + 1) q hlt, rsize_snoc]
                      clear hc1 hc2
                      by_cases hfar : rsize ((s.data.toList.drop (k + 1)).take q) < 1000000000000
                      · go_wp2
                        go_round
                        case rel => exact ⟨q + 1, by omega, by go_num, by rw [HS.out]; unfold rstep; rw [if_pos hfar]⟩
                        case measure => simp [intOf]; omega
                      · go_wp2
                        go_round
                        case rel => exact ⟨q + 1, by omega, by go_num, by rw [HS.out]; unfold rstep; rw [if_neg hfar]⟩
                        case measure => simp [intOf]; omega
                    · obtain rfl : q = m := by omega
                      go_wp2
                      go_ret2
                      exact ⟨by rw [HR.out]; rfl, rfl⟩
            · have HX : Hid (rex s k = rexD s false (k + 1)) := hrex
              clear hrex
              have hjs : k + 1 ≤ s.size := by omega
              have hnd := nu.nd_le s (k + 1) hjs
              have cn := hide (fun w a ha => number_at s (k + 1) w a ha hs hjs)
              generalize hm : nu.nd s (k + 1) = m at *
              have HM := hide hm
              clear hm
              by_cases hz : m = 0
              · have HR : Hid (rex s k = (0, false)) := by
                  show rex s k = _
                  rw [HX.out]; unfold rexD; rw [if_pos (.inl (by rw [HM.out]; exact hz))]
                subst hz
                clear HX
                go_wp2_with fail
                refine (unhide cn _ _ (by omega)).mono ?_
                rintro e w1 ⟨rfl, rfl⟩
                go_wp2
                go_ret2
                exact ⟨by rw [HR.out]; rfl, rfl⟩
              · have hz' : 0 < m := by omega
                clear hz
                by_cases hl : k + 1 + m < s.size
                · have HR : Hid (rex s k = (0, false)) := by
                    show rex s k = _
                    rw [HX.out]; unfold rexD; rw [if_pos (.inr (by rw [HM.out]; exact hl))]
                  clear HX
                  go_wp2_with fail
                  refine (unhide cn _ _ (by omega)).mono ?_
                  rintro e w1 ⟨rfl, rfl⟩
                  go_wp2
                  go_ret2
                  exact ⟨by rw [HR.out]; rfl, rfl⟩
                · have hl' : s.size ≤ k + 1 + m := by omega
                  have hbq : (((k : Int) + 1 + (m : Int)) == (k : Int) + 1) = false := by simp; omega
                  have HR : Hid (rex s k = (if false then - rsize ((s.data.toList.drop (k + 1)).take m) else rsize ((s.data.toList.drop (k + 1)).take m), true)) := by
                    show rex s k = _
                    rw [HX.out]; unfold rexD; rw [HM.out, if_neg (by omega)]
                  clear HX
                  go_wp2_with fail
                  refine (unhide cn _ _ (by omega)).mono ?_
                  rintro e w1 ⟨rfl, rfl⟩
                  go_wp2
                  go_loop [8, 9] (fun n i => ∃ q : Nat, q ≤ m ∧ i = .int .i64 (((k + 1) + q : Nat) : Int) ∧ n = .int .i64 (rsize ((s.data.toList.drop (k + 1)).take q))) (fun _ i => ((k + 1) + m) - (intOf i).toNat)
                  case atStart => exact ⟨0, Nat.zero_le _, rfl, rfl⟩
                  case round =>
                    obtain ⟨q, hq, rfl, rfl⟩ := hrel
                    have hb := rsize_bd ((s.data.toList.drop (k + 1)).take q) (take_dig s (k + 1) q (by rw [HM.out]; exact hq))
                    by_cases hqm : q < m
                    · have hlt : (k + 1) + q < s.size := by omega
                      have hc : 48 ≤ s[(k + 1) + q].toNat ∧ s[(k + 1) + q].toNat ≤ 57 := by
                        have hmem : s[(k + 1) + q] ∈ (s.data.toList.drop (k + 1)).take (q + 1) := by rw [take_next s (k + 1) q hlt]; simp
                        have := take_dig s (k + 1) (q + 1) (by rw [HM.out]; omega) _ hmem
                        simpa [nu.dig] using this
                      obtain ⟨hc1, hc2⟩ := hc
                      have hc1' : (48 : Int) ≤ (s[(k + 1) + q].toNat : Int) := by omega
                      have hc2' : (s[(k + 1) + q].toNat : Int) ≤ 57 := by omega
                      have HS : Hid (rsize ((s.data.toList.drop (k + 1)).take (q + 1)) = rstep (rsize ((s.data.toList.drop (k + 1)).take q)) s[(k + 1) + q]) := by
                        show rsize _ = _
                        rw [take_next s (k + 1) q hlt, rsize_snoc]
                      clear hc1 hc2
                      by_cases hfar : rsize ((s.data.toList.drop (k + 1)).take q) < 1000000000000
                      · go_wp2
                        go_round
                        case rel => exact ⟨q + 1, by omega, by go_num, by rw [HS.out]; unfold rstep; rw [if_pos hfar]⟩
                        case measure => simp [intOf]; omega
                      · go_wp2
                        go_round
                        case rel => exact ⟨q + 1, by omega, by go_num, by rw [HS.out]; unfold rstep; rw [if_neg hfar]⟩
                        case measure => simp [intOf]; omega
                    · obtain rfl : q = m := by omega
                      go_wp2
                      go_ret2
                      exact ⟨by rw [HR.out]; rfl, rfl⟩
      · rw [nu.at_none s (k + 1) (by omega)] at hrex0
        have hrex : rex s k = rexD s false (k + 1) := hrex0
        clear hrex0
        go_enter Tryd.func37, Tryd.ntmps37
        rcases hk1 with hk1 | hk1
        · have HX : Hid (rex s k = rexD s false (k + 1)) := hrex
          clear hrex
          have hjs : k + 1 ≤ s.size := by omega
          have hnd := nu.nd_le s (k + 1) hjs
          have cn := hide (fun w a ha => number_at s (k + 1) w a ha hs hjs)
          generalize hm : nu.nd s (k + 1) = m at *
          have HM := hide hm
          clear hm
          by_cases hz : m = 0
          · have HR : Hid (rex s k = (0, false)) := by
              show rex s k = _
              rw [HX.out]; unfold rexD; rw [if_pos (.inl (by rw [HM.out]; exact hz))]
            subst hz
            clear HX
            go_wp2_with fail
            refine (unhide cn _ _ (by omega)).mono ?_
            rintro e w1 ⟨rfl, rfl⟩
            go_wp2
            go_ret2
            exact ⟨by rw [HR.out]; rfl, rfl⟩
          · exfalso; omega
        · have HX : Hid (rex s k = rexD s false (k + 1)) := hrex
          clear hrex
          have hjs : k + 1 ≤ s.size := by omega
          have hnd := nu.nd_le s (k + 1) hjs
          have cn := hide (fun w a ha => number_at s (k + 1) w a ha hs hjs)
          generalize hm : nu.nd s (k + 1) = m at *
          have HM := hide hm
          clear hm
          by_cases hz : m = 0
          · have HR : Hid (rex s k = (0, false)) := by
              show rex s k = _
              rw [HX.out]; unfold rexD; rw [if_pos (.inl (by rw [HM.out]; exact hz))]
            subst hz
            clear HX
            go_wp2_with fail
            refine (unhide cn _ _ (by omega)).mono ?_
            rintro e w1 ⟨rfl, rfl⟩
            go_wp2
            go_ret2
            exact ⟨by rw [HR.out]; rfl, rfl⟩
          · exfalso; omega
    · have HR : Hid (rex s k = (0, false)) := by
        show rex s k = _
        unfold rex; rw [nu.at_some s k hlt]; simp only; rw [if_neg hc]
      have h1 : ((s[k].toNat : Int) != 101) = true := byte_neq (b := 101) (fun e => hc (.inl e))
      have h2 : ((s[k].toNat : Int) != 69) = true := byte_neq (b := 69) (fun e => hc (.inr e))
      clear hc
      go_enter Tryd.func37, Tryd.ntmps37
      go_wp2
      go_ret2
      exact ⟨by rw [HR.out]; rfl, rfl⟩
end Go.Proofs.YtgmjllkkgapjcaaDoor.rd
