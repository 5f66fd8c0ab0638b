/- The reference of package frame: Whole. -/
import Derived.Test.YtgafjbgplcjnnaaDoorGc
namespace Go.Proofs.YtgafjbgplcjnnaaDoor.fr
open Go.RowKit

theorem num_take4 (l : List UInt8) (k : Nat) (h : 4 ≤ k) : num (l.take k) = num l := by
  unfold num; rw [List.take_take, Nat.min_eq_left h]
theorem num_mid (l : List UInt8) (lo : Nat) : num ((l.take (lo + 4)).drop lo) = num (l.drop lo) := by
  rw [List.drop_take, show lo + 4 - lo = 4 by omega, num_take4 _ _ (Nat.le_refl _)]
theorem ne_i {x y : BitVec 32} (h : x ≠ y) : ((x.toNat : Int) == (y.toNat : Int)) = false := by
  rw [beq_eq_false_iff_ne]; intro q; exact h (BitVec.eq_of_toNat_eq (by omega))
theorem ne_i2 {x y : BitVec 32} (h : x ≠ y) : ((x.toNat : Int) != (y.toNat : Int)) = true := by
  rw [bne_iff_ne]; intro q; exact h (BitVec.eq_of_toNat_eq (by omega))

theorem tail_calls (l : List UInt8) (v : Value) (w : World) (h : BS w v l) (n : Nat) (hn : n + 12 ≤ l.length) :
    ∃ v3 v4, (∀ u : World, (Instr.slice 22 v (some (.int .i64 ((n : Int) + 8))) (some (.int .i64 ((n : Int) + 12))) none).run Tryd.prog u = .ok v3 u) ∧
      (∀ u : World, (Instr.slice 22 v (some (.int .i64 8)) (some (.int .i64 ((n : Int) + 8))) none).run Tryd.prog u = .ok v4 u) ∧
      (∀ w1 m, Hid (∃ k, w1 = w.drewN k) → Hid (Calls Tryd.prog 33 #[v3] (w1.drewN m) fun e w' => e = .returned (.int .u32 ((num (l.drop (n + 8))).toNat : Int)) ∧ ∃ k, w' = (w1.drewN m).drewN k)) ∧
      (∀ w1 m, Hid (∃ k, w1 = w.drewN k) → Hid (Calls Tryd.prog 14 #[v4] (w1.drewN m) fun e w' => e = .returned (.int .u32 ((crc ((l.drop 8).take n)).toNat : Int)) ∧ w' = w1.drewN m)) := by
  obtain ⟨v3, s3, b3⟩ := h.lh (n + 8) (n + 8 + 4) (by omega) (by omega) ((n : Int) + 8) ((n : Int) + 12) (by omega) (by omega)
  obtain ⟨v4, s4, b4⟩ := h.lh 8 (n + 8) (by omega) (by omega) 8 ((n : Int) + 8) rfl (by omega)
  refine ⟨v3, v4, s3, s4, ?_, ?_⟩
  · rintro w1 m ⟨k, rfl⟩
    have := rnumber_any _ v3 ((w.drewN k).drewN m) ((b3.drewN k).drewN m) (by rw [List.length_drop, List.length_take]; omega)
    rw [num_mid l] at this
    exact this
  · rintro w1 m ⟨k, rfl⟩
    have := rsum_any _ v4 ((w.drewN k).drewN m) ((b4.drewN k).drewN m)
    rw [List.drop_take, Nat.add_sub_cancel] at this
    exact this

set_option maxRecDepth 100000 in
set_option maxHeartbeats 400000 in
theorem rwhole_any (l : List UInt8) (v : Value) (w : World) (h : BS w v l) :
    Calls Tryd.prog 30 #[v] w fun e w' => e = .returned (.int .i64 (whole l : Int)) ∧ ∃ n, w' = w.drewN n := by
  have HB := hide h
  obtain ⟨oa, c, rfl, h1, h2, h3, h4⟩ := h
  have hmx : l.length ≤ 9223372036854775807 := by unfold maxLen at h2; omega
  clear h1 h2 h3 h4
  by_cases a1 : l.length < 12
  · have hw : whole l = 0 := by unfold whole; rw [if_pos (Or.inl a1)]
    rw [hw]
    have a1' : (l.length : Int) < 12 := by omega
    clear hw HB
    go_enter Tryd.func30, Tryd.ntmps30
    go_wp2
    go_quiet (fail)
    go_wp2
    go_ret
    exact ⟨rfl, nq, rfl⟩
  · have a1' : decide ((l.length : Int) < 12) = false := decide_eq_false (by omega)
    have a1n : ¬ l.length < 12 := a1
    obtain ⟨v1, s1, b1⟩ := (unhide HB).lh 4 8 (by omega) (by omega) 4 8 rfl rfl
    obtain ⟨v2, s2, b2⟩ := (unhide HB).h 4 (by omega) 4 rfl
    have C1 : ∀ n, Hid (Calls Tryd.prog 33 #[v1] (w.drewN n) fun e w' => e = .returned (.int .u32 ((num (l.drop 4)).toNat : Int)) ∧ ∃ m, w' = (w.drewN n).drewN m) := fun n => by
      have := rnumber_any _ v1 (w.drewN n) (b1.drewN n) (by rw [List.length_drop, List.length_take]; omega)
      rw [num_mid l 4] at this
      exact this
    have C2 : ∀ n, Hid (Calls Tryd.prog 14 #[v2] (w.drewN n) fun e w' => e = .returned (.int .u32 ((crc (l.take 4)).toNat : Int)) ∧ w' = w.drewN n) := fun n => rsum_any _ v2 (w.drewN n) (b2.drewN n)
    have C3 : ∀ n, Hid (Calls Tryd.prog 33 #[v2] (w.drewN n) fun e w' => e = .returned (.int .u32 ((num l).toNat : Int)) ∧ ∃ m, w' = (w.drewN n).drewN m) := fun n => by
      have := rnumber_any _ v2 (w.drewN n) (b2.drewN n) (by rw [List.length_take]; omega)
      rw [num_take4 l 4 (Nat.le_refl _)] at this
      exact this
    clear b1 b2
    by_cases a2 : num (l.drop 4) = crc (l.take 4)
    · rw [← a2] at C2
      have hnl := (num l).isLt
      by_cases a3 : 4194304 < (num l).toNat
      · have hw : whole l = 0 := by unfold whole; rw [if_neg (by rintro (q | q); exact a1 q; exact q a2), if_pos (Or.inl a3)]
        rw [hw]
        clear hw HB a2
        generalize num (l.drop 4) = x at *
        generalize (num l).toNat = n at *
        have a3' : decide ((4194304 : Int) < (n : Int)) = true := decide_eq_true (by omega)
        go_enter Tryd.func30, Tryd.ntmps30
        go_wp2
        go_quiet (first | (go_at_call 33; exact Calls.quiet_of (unhide (C1 _))) | (go_at_call 14; exact Calls.quiet_of_same (unhide (C2 _))))
        go_wp2_with fail
        refine (unhide (C3 _)).mono ?_
        rintro e w1 ⟨rfl, m1, hw1⟩
        have HW1 := hide (hw1.trans (World.drewN_drewN _ _ _))
        clear hw1
        go_wp2
        go_quiet (fail)
        go_wp2
        go_ret
        exact ⟨rfl, _, by rw [unhide HW1]; exact World.drewN_drewN _ _ _⟩
      · by_cases a4 : l.length < (num l).toNat + 12
        · have hw : whole l = 0 := by unfold whole; rw [if_neg (by rintro (q | q); exact a1 q; exact q a2), if_pos (Or.inr (Or.inl a4))]
          rw [hw]
          clear hw HB a2
          generalize num (l.drop 4) = x at *
          generalize (num l).toNat = n at *
          have a3' : decide ((4194304 : Int) < (n : Int)) = false := decide_eq_false (by omega)
          have a4' : decide ((l.length : Int) < (n : Int) + 12) = true := decide_eq_true (by omega)
          have w12 : IntKind.i64.wrap ((n : Int) + 12) = (n : Int) + 12 := IntWalk.i64_in _ ⟨by omega, by omega⟩
          have g0 : (0 : Int) ≤ (n : Int) := by omega
          have g1 : (n : Int) < 4294967296 := by omega
          clear a3 a4 hnl
          generalize (n : Int) = ni at *
          go_enter Tryd.func30, Tryd.ntmps30
          go_wp2
          go_quiet (first | (go_at_call 33; exact Calls.quiet_of (unhide (C1 _))) | (go_at_call 14; exact Calls.quiet_of_same (unhide (C2 _))))
          go_wp2_with fail
          refine (unhide (C3 _)).mono ?_
          rintro e w1 ⟨rfl, m1, hw1⟩
          have HW1 := hide (hw1.trans (World.drewN_drewN _ _ _))
          clear hw1
          go_wp2
          go_quiet (fail)
          go_wp2
          go_ret
          exact ⟨rfl, _, by rw [unhide HW1]; exact World.drewN_drewN _ _ _⟩
        · obtain ⟨n, hn⟩ : ∃ n, n = (num l).toNat := ⟨_, rfl⟩
          rw [← hn] at a3 a4 hnl
          obtain ⟨v3, v4, s3, s4, C4, C5⟩ := tail_calls l _ w (unhide HB) n (by omega)
          have hwn : whole l = if num (l.drop (n + 8)) = crc ((l.drop 8).take n) then n + 12 else 0 := by
            unfold whole
            rw [← hn, if_neg (by rintro (q | q); exact a1 q; exact q a2)]
            by_cases a5 : num (l.drop (n + 8)) = crc ((l.drop 8).take n)
            · rw [if_pos a5, if_neg (by rintro (q | q | q); exact a3 q; exact a4 q; exact q a5)]
            · rw [if_neg a5, if_pos (Or.inr (Or.inr a5))]
          rw [hwn]
          rw [← hn] at C3
          have a3' : decide ((4194304 : Int) < (n : Int)) = false := decide_eq_false (by omega)
          have a4' : decide ((l.length : Int) < (n : Int) + 12) = false := decide_eq_false (by omega)
          have w12 : IntKind.i64.wrap ((n : Int) + 12) = (n : Int) + 12 := IntWalk.i64_in _ ⟨by omega, by omega⟩
          have w8 : IntKind.i64.wrap ((n : Int) + 8) = (n : Int) + 8 := IntWalk.i64_in _ ⟨by omega, by omega⟩
          clear hwn HB a2 hn
          generalize num (l.drop 4) = x at *
          generalize num (l.drop (n + 8)) = y at *
          generalize crc ((l.drop 8).take n) = z at *
          have g0 : (0 : Int) ≤ (n : Int) := by omega
          have g1 : (n : Int) < 4294967296 := by omega
          clear a3 a4 hnl
          by_cases a5 : y = z
          · rw [if_pos a5]
            rw [← a5] at C5
            clear a5
            rw [show ((n + 12 : Nat) : Int) = (n : Int) + 12 by omega]
            generalize (n : Int) = ni at *
            go_enter Tryd.func30, Tryd.ntmps30
            go_wp2
            go_quiet (first | (go_at_call 33; exact Calls.quiet_of (unhide (C1 _))) | (go_at_call 14; exact Calls.quiet_of_same (unhide (C2 _))))
            go_wp2_with fail
            refine (unhide (C3 _)).mono ?_
            rintro e w1 ⟨rfl, m1, hw1⟩
            have HW1 := hide (hw1.trans (World.drewN_drewN _ _ _))
            clear hw1
            go_wp2
            go_quiet (first | (go_at_call 33; exact Calls.quiet_of (unhide (C4 w1 _ ⟨_, unhide HW1⟩))) | (go_at_call 14; exact Calls.quiet_of_same (unhide (C5 w1 _ ⟨_, unhide HW1⟩))))
            go_wp2
            go_ret
            exact ⟨rfl, _, by rw [unhide HW1]; exact World.drewN_drewN _ _ _⟩
          · rw [if_neg a5]
            have e1 := ne_i a5
            have e2 := ne_i2 a5
            clear a5
            generalize (n : Int) = ni at *
            go_enter Tryd.func30, Tryd.ntmps30
            go_wp2
            go_quiet (first | (go_at_call 33; exact Calls.quiet_of (unhide (C1 _))) | (go_at_call 14; exact Calls.quiet_of_same (unhide (C2 _))))
            go_wp2_with fail
            refine (unhide (C3 _)).mono ?_
            rintro e w1 ⟨rfl, m1, hw1⟩
            have HW1 := hide (hw1.trans (World.drewN_drewN _ _ _))
            clear hw1
            go_wp2
            go_quiet (first | (go_at_call 33; exact Calls.quiet_of (unhide (C4 w1 _ ⟨_, unhide HW1⟩))) | (go_at_call 14; exact Calls.quiet_of_same (unhide (C5 w1 _ ⟨_, unhide HW1⟩))))
            go_wp2
            go_ret
            exact ⟨rfl, _, by rw [unhide HW1]; exact World.drewN_drewN _ _ _⟩
    · have hw : whole l = 0 := by unfold whole; rw [if_pos (Or.inr a2)]
      rw [hw]
      have e1 := ne_i a2
      have e2 := ne_i2 a2
      clear hw HB a2 C3
      generalize num (l.drop 4) = x at *
      generalize crc (l.take 4) = y at *
      go_enter Tryd.func30, Tryd.ntmps30
      go_wp2
      go_quiet (first | (go_at_call 33; exact Calls.quiet_of (unhide (C1 _))) | (go_at_call 14; exact Calls.quiet_of_same (unhide (C2 _))))
      go_wp2
      go_ret
      exact ⟨rfl, nq, rfl⟩

end Go.Proofs.YtgafjbgplcjnnaaDoor.fr
