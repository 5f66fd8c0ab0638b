/- The landed package frame: what is whole. -/
import Derived.Test.YtgafjbgplcjnnaaDoorEc
namespace Go.Proofs.YtgafjbgplcjnnaaDoor.fr
open Go.RowKit

theorem TB.drewN {w : World} {b : Nat} (h : TB w b) (n : Nat) : TB (w.drewN n) b := h
theorem tailcalls (b : Nat) (l : List UInt8) (v : Value) (w : World) (hT : TB w b) (h : BS w v l) (n : Nat) (hn : n + 12 ≤ l.length) :
    ∃ v3 v4, (∀ u : World, (Instr.slice 22 v (some (.int .i64 ((8 : Int) + (n : Int)))) none none).run Tryd.prog u = .ok v3 u) ∧
      (∀ u : World, (Instr.slice 22 v (some (.int .i64 8)) (some (.int .i64 ((8 : Int) + (n : Int)))) none).run Tryd.prog u = .ok v4 u) ∧
      (∀ k m, Hid (Calls Tryd.prog 32 #[v3] ((w.drewN k).drewN m) fun e w' => e = .returned (.int .u32 ((num (l.drop (n + 8))).toNat : Int)) ∧ w' = (w.drewN k).drewN m)) ∧
      (∀ k m, Hid (Calls Tryd.prog 26 #[.pointer (some ⟨b, 0, none⟩), v4] ((w.drewN k).drewN m) fun e w' => e = .returned (.int .u32 ((crc ((l.drop 8).take n)).toNat : Int)) ∧ w' = (w.drewN k).drewN m)) := by
  obtain ⟨v3, s3, b3⟩ := h.l (n + 8) (by omega) ((8 : Int) + (n : Int)) (by omega)
  obtain ⟨v4, s4, b4⟩ := h.lh 8 (n + 8) (by omega) (by omega) 8 ((8 : Int) + (n : Int)) rfl (by omega)
  refine ⟨v3, v4, s3, s4, ?_, ?_⟩
  · intro k m
    exact number_any _ v3 ((w.drewN k).drewN m) ((b3.drewN k).drewN m) (by rw [List.length_drop]; omega)
  · intro k m
    have := tsum_any b _ v4 ((w.drewN k).drewN m) ((hT.drewN k).drewN m) ((b4.drewN k).drewN m)
    rw [List.drop_take, Nat.add_sub_cancel] at this
    exact this

set_option maxRecDepth 100000 in
set_option maxHeartbeats 1600000 in
theorem whole_any (b : Nat) (l : List UInt8) (v : Value) (w : World) (hT : TB w b) (h : BS w v l) :
    Calls Tryd.prog 29 #[.pointer (some ⟨b, 0, none⟩), v] w fun e w' => ∃ m : Int, e = .returned (.tuple #[.int .i64 m, .bool (decide (whole l ≠ 0))]) ∧ (whole l ≠ 0 → m = (whole l : Int) - 12) ∧ ∃ n, w' = w.drewN n := by
  have HB := hide h
  have HT := hide hT
  obtain ⟨oa, c, rfl, h1, h2, h3, h4⟩ := h
  have hmx : l.length ≤ 9223372036854775807 := by unfold maxLen at h2; omega
  clear h1 h2 h3 h4 hT
  by_cases a1 : l.length < 12
  · have hw : whole l = 0 := by unfold whole; rw [if_pos (Or.inl a1)]
    rw [hw]
    have a1' : (l.length : Int) < 12 := by omega
    clear hw HB HT
    go_enter Tryd.func29, Tryd.ntmps29
    go_wp2
    refine bodyPost_ret (results_tmp2 rfl _ _ _) rfl ?_
    exact ⟨0, rfl, fun q => absurd rfl q, 0, rfl⟩
  · have a1' : decide ((l.length : Int) < 12) = false := decide_eq_false (by omega)
    obtain ⟨v1, s1, b1⟩ := (unhide HB).l 4 (by omega) 4 rfl
    obtain ⟨v2, s2, b2⟩ := (unhide HB).h 4 (by omega) 4 rfl
    have C0 := hide (number_any l _ w (unhide HB) (by omega))
    have C1 : ∀ n, Hid (Calls Tryd.prog 32 #[v1] (w.drewN n) fun e w' => e = .returned (.int .u32 ((num (l.drop 4)).toNat : Int)) ∧ w' = w.drewN n) := fun n =>
      number_any _ v1 (w.drewN n) (b1.drewN n) (by rw [List.length_drop]; omega)
    have C2 : ∀ n, Hid (Calls Tryd.prog 26 #[.pointer (some ⟨b, 0, none⟩), v2] (w.drewN n) fun e w' => e = .returned (.int .u32 ((crc (l.take 4)).toNat : Int)) ∧ w' = w.drewN n) := fun n =>
      tsum_any b _ v2 (w.drewN n) ((unhide HT).drewN n) (b2.drewN n)
    clear b1 b2
    have hnl := (num l).isLt
    by_cases a3 : 4194304 < (num l).toNat
    · have hw : whole l = 0 := by
        unfold whole
        split
        · rfl
        · rw [if_pos (Or.inl a3)]
      rw [hw]
      clear hw HB HT
      generalize (num l).toNat = n at *
      have a3' : decide ((4194304 : Int) < (n : Int)) = true := decide_eq_true (by omega)
      go_enter Tryd.func29, Tryd.ntmps29
      go_wp2_with fail
      refine (unhide C0).mono ?_
      rintro e w1 ⟨rfl, rfl⟩
      clear C0
      go_wp2
      go_quiet (fail)
      go_wp2
      refine bodyPost_ret (results_tmp2 rfl _ _ _) rfl ?_
      exact ⟨0, rfl, fun q => absurd rfl q, nq, rfl⟩
    · by_cases a2 : num (l.drop 4) = crc (l.take 4)
      · have a3' : decide ((4194304 : Int) < ((num l).toNat : Int)) = false := decide_eq_false (by omega)
        rw [← a2] at C2
        by_cases a4 : l.length < (num l).toNat + 12
        · have hw : whole l = 0 := by unfold whole; rw [if_neg (by rintro (q | q); exact a1 q; exact q a2), if_pos (Or.inr (Or.inl a4))]
          rw [hw]
          clear hw HB HT a2
          generalize num (l.drop 4) = x at *
          generalize (num l).toNat = n at *
          have a4' : (l.length : Int) - 12 < (n : Int) := by omega
          have nn : (0 : Int) ≤ (n : Int) := by omega
          go_enter Tryd.func29, Tryd.ntmps29
          go_wp2_with fail
          refine (unhide C0).mono ?_
          rintro e w1 ⟨rfl, rfl⟩
          clear C0
          go_wp2
          go_quiet (first | (go_at_call 32; exact Calls.quiet_of_same (unhide (C1 _))) | (go_at_call 26; exact Calls.quiet_of_same (unhide (C2 _))))
          clear C1 C2
          go_wp2
          refine bodyPost_ret (results_tmp2 rfl _ _ _) rfl ?_
          exact ⟨0, rfl, fun q => absurd rfl q, nq, rfl⟩
        · obtain ⟨v3, v4, s3, s4, C4, C5⟩ := tailcalls b l _ w (unhide HT) (unhide HB) (num l).toNat (by omega)
          have HW : Hid (whole l = if num (l.drop ((num l).toNat + 8)) ≠ crc ((l.drop 8).take (num l).toNat) then 0 else (num l).toNat + 12) := by
            show whole l = _
            unfold whole
            rw [if_neg (by rintro (q | q); exact a1 q; exact q a2)]
            by_cases q : num (l.drop ((num l).toNat + 8)) ≠ crc ((l.drop 8).take (num l).toNat)
            · rw [if_pos (Or.inr (Or.inr q)), if_pos q]
            · rw [if_neg (by rintro (q1 | q1 | q1); exact a3 q1; exact a4 q1; exact q q1), if_neg q]
          generalize whole l = res at *
          clear HB HT a2
          generalize num (l.drop 4) = x at *
          generalize crc ((l.drop 8).take (num l).toNat) = y at *
          generalize num (l.drop ((num l).toNat + 8)) = z at *
          generalize (num l).toNat = n at *
          have a4' : decide ((l.length : Int) - 12 < (n : Int)) = false := decide_eq_false (by omega)
          have nn : (0 : Int) ≤ (n : Int) := by omega
          have w8 : IntKind.i64.wrap ((8 : Int) + (n : Int)) = (8 : Int) + (n : Int) := IntWalk.i64_in _ ⟨by omega, by omega⟩
          by_cases a5 : z = y
          · subst a5
            have HW2 := hide (show res = n + 12 by rw [unhide HW, if_neg (by simp)])
            clear HW
            go_enter Tryd.func29, Tryd.ntmps29
            go_wp2_with fail
            refine (unhide C0).mono ?_
            rintro e w1 ⟨rfl, rfl⟩
            clear C0
            go_wp2
            go_quiet (first | (go_at_call 32; exact Calls.quiet_of_same (unhide (C1 _))) | (go_at_call 26; exact Calls.quiet_of_same (unhide (C2 _))))
            clear C1 C2
            go_wp2
            have D4 := hide (C4 nq)
            have D5 := hide (C5 nq)
            have HQ := hide (World.drewN_drewN w1 nq)
            clear C4 C5
            generalize w1.drewN nq = wq at *
            go_quiet (first | (go_at_call 32; exact Calls.quiet_of_same (unhide (unhide D4 _))) | (go_at_call 26; exact Calls.quiet_of_same (unhide (unhide D5 _))))
            go_wp2
            refine bodyPost_ret (results_tmp2 rfl _ _ _) rfl ?_
            refine ⟨(n : Int), ?_, fun _ => by rw [unhide HW2]; omega, _, unhide HQ _⟩
            rw [unhide HW2, decide_eq_true (show n + 12 ≠ 0 by omega)]
            rfl
          · have HW2 := hide (show res = 0 by rw [unhide HW, if_pos a5])
            have e1 := ne_i (fun q => a5 (Eq.symm q))
            have e2 := ne_i2 (fun q => a5 (Eq.symm q))
            clear HW
            go_enter Tryd.func29, Tryd.ntmps29
            go_wp2_with fail
            refine (unhide C0).mono ?_
            rintro e w1 ⟨rfl, rfl⟩
            clear C0
            go_wp2
            go_quiet (first | (go_at_call 32; exact Calls.quiet_of_same (unhide (C1 _))) | (go_at_call 26; exact Calls.quiet_of_same (unhide (C2 _))))
            clear C1 C2
            go_wp2
            have D4 := hide (C4 nq)
            have D5 := hide (C5 nq)
            have HQ := hide (World.drewN_drewN w1 nq)
            clear C4 C5
            generalize w1.drewN nq = wq at *
            go_quiet (first | (go_at_call 32; exact Calls.quiet_of_same (unhide (unhide D4 _))) | (go_at_call 26; exact Calls.quiet_of_same (unhide (unhide D5 _))))
            go_wp2
            refine bodyPost_ret (results_tmp2 rfl _ _ _) rfl ?_
            refine ⟨(n : Int), ?_, fun q => absurd (unhide HW2) q, _, unhide HQ _⟩
            rw [unhide HW2]
            rfl
      · have hw : whole l = 0 := by unfold whole; rw [if_pos (Or.inr a2)]
        rw [hw]
        have e1 := ne_i (fun q => a2 (Eq.symm q))
        have e2 := ne_i2 (fun q => a2 (Eq.symm q))
        clear hw HB HT
        generalize num (l.drop 4) = x at *
        generalize crc (l.take 4) = y at *
        generalize (num l).toNat = n at *
        have a3' : decide ((4194304 : Int) < (n : Int)) = false := decide_eq_false (by omega)
        go_enter Tryd.func29, Tryd.ntmps29
        go_wp2_with fail
        refine (unhide C0).mono ?_
        rintro e w1 ⟨rfl, rfl⟩
        clear C0
        go_wp2
        go_quiet (first | (go_at_call 32; exact Calls.quiet_of_same (unhide (C1 _))) | (go_at_call 26; exact Calls.quiet_of_same (unhide (C2 _))))
        go_wp2
        refine bodyPost_ret (results_tmp2 rfl _ _ _) rfl ?_
        exact ⟨0, rfl, fun q => absurd rfl q, nq, rfl⟩

end Go.Proofs.YtgafjbgplcjnnaaDoor.fr
