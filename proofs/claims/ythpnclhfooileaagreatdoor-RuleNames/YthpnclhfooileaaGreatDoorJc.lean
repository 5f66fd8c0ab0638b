/- The reference of package rule: a pattern's parts, read. -/
import Derived.Test.YthpnclhfooileaaGreatDoorJb
namespace Go.Proofs.YthpnclhfooileaaGreatDoor.ru
open Go.RowKit

theorem own_ge {w : World} {B : Nat} {e : TypeId} {sz : Nat} {v : Value} {n : Nat} {xs : List Value} (h : w.ownsRow B e sz v n xs) : ∀ k, v.ownBlock = some k → B ≤ k := by
  obtain ⟨_, ⟨rfl, _⟩ | ⟨g, cap, cur, rfl, hb, _⟩⟩ := h
  · intro k hk; cases hk
  · intro k hk; cases hk; exact hb
theorem bne42 (c : UInt8) (h : ¬ c = 42) : ((c.toNat : Int) == 42) = false := by
  rw [beq_eq_false_iff_ne]
  intro z
  exact h (UInt8.toNat_inj.1 (by show c.toNat = 42; omega))
theorem bne92 (c : UInt8) (h : ¬ c = 92) : ((c.toNat : Int) == 92) = false := by
  rw [beq_eq_false_iff_ne]
  intro z
  exact h (UInt8.toNat_inj.1 (by show c.toNat = 92; omega))
theorem beq42 (c : UInt8) : ((c.toNat : Int) == 42) = (c == 42) := by
  by_cases h : c = 42
  · subst h; rfl
  · rw [bne42 c h]; simp [h]
set_option maxRecDepth 100000 in
set_option maxHeartbeats 3200000 in
theorem rparts_any (s : ByteArray) (w : World) (hs : s.size ≤ 1099511627776) :
    Calls Tryz.prog 19 #[.string s] w fun e w' => ∃ v, e = .returned v ∧ OP w' w.heap.size v (prt s.data.toList) ∧ Below w.heap.size w w' := by
  obtain ⟨i0, hi, hz0, hz1, hz2⟩ := info_parts infoP
  obtain ⟨all, hall⟩ : ∃ a, prt s.data.toList = a := ⟨_, rfl⟩
  have HA := hide hall
  rw [hall]
  clear hall
  go_enter Tryz.func19, Tryz.ntmps19
  go_wp2
  go_loopw [3, 4] (fun v i wr => ∃ (k : Nat) (done : List (Bool × UInt8)), k ≤ s.size ∧ i = .int .i64 (k : Int) ∧ Hid (done ++ prt (s.data.toList.drop k) = all) ∧ done.length ≤ k ∧ OP wr w.heap.size v done ∧ Below w.heap.size w wr)
    (fun _ i _ => s.size - (intOf i).toNat)
  case atStart => exact ⟨0, [], Nat.zero_le _, rfl, by rw [List.drop_zero, List.nil_append]; exact HA, Nat.le_refl _, World.ownsRow_nil _ _ _ _, Below.refl _ _⟩
  case round =>
    clear HA
    obtain ⟨k, done, hk, rfl, HD, hdl, hown, hbel⟩ := hrel
    unfold OP at hown
    by_cases hlt : k < s.size
    · have hlt' : (k : Int) < (s.size : Int) := by omega
      have hb := s[k].toNat_lt
      by_cases hc : s[k] = 92
      · have hc' : ((s[k].toNat : Int) == 92) = true := by rw [hc]; rfl
        by_cases hn : k + 1 < s.size
        · have hn' : (k : Int) + 1 < (s.size : Int) := by omega
          have hb1 := s[k + 1].toNat_lt
          by_cases hd : s[k + 1] = 42
          · skip
            have HS := hide (show done ++ ((false, s[k + 1]) :: prt (s.data.toList.drop (k + 2))) = all by rw [← prt_esc s k hn hc (Or.inl hd)]; exact unhide HD)
            have hd' : ((s[k + 1].toNat : Int) == 42) = true := by rw [hd]; rfl
            clear HD hd hc hb hb1
            go_wp2_with (at_builtin; refine wpList_append_own _ rfl _ _ 59 rfl w.heap.size 64 i0 (.agg #[.bool false, .int .u8 0]) 2 2 Tryz.underlying59 hi hz0 hz1 hz2 rfl (by decide) _ _ _ rfl (hown.alloc _) ⟨wr.heap.size, 0, none⟩ 1 1 (pc (false, s[k + 1])) rfl rfl ?c1 ?c2 ?c3 ?c4 ?c5 ?_)
            case c1 =>
              intro i u hi
              match i, hi with
              | 0, hi => simp [pc] at hi; subst hi; simp [Addr.add]
              | 1, hi => simp [pc] at hi; subst hi; simp [Addr.add]
            case c2 => intro u hu; simp [pc] at hu; rcases hu with rfl | rfl <;> rfl
            case c3 => unfold maxLen; omega
            case c4 => omega
            case c5 => have := hbel.size; simp; omega
            intro v' w1 hown1 hgrow1 _
            go_wp2
            go_roundw
            case rel =>
              refine ⟨k + 2, done ++ [(false, s[k + 1])], by omega, by go_num, by rw [List.append_assoc]; exact unhide HS, by rw [List.length_append]; simp; omega, ?_, (hbel.alloc hbel.size _).grown hgrow1 (by simp; have := hbel.size; omega) (own_ge hown)⟩
              show w1.ownsRow _ _ _ _ _ _
              rw [List.length_append, List.flatMap_append]
              simpa using hown1
            case measure => simp [intOf]; omega

          · by_cases hd2 : s[k + 1] = 92
            · skip
              have HS := hide (show done ++ ((false, s[k + 1]) :: prt (s.data.toList.drop (k + 2))) = all by rw [← prt_esc s k hn hc (Or.inr hd2)]; exact unhide HD)
              have hd' : ((s[k + 1].toNat : Int) == 42) = false := by rw [hd2]; rfl
              have hd2' : ((s[k + 1].toNat : Int) == 92) = true := by rw [hd2]; rfl
              clear HD hd hd2 hc hb hb1
              go_wp2_with (at_builtin; refine wpList_append_own _ rfl _ _ 59 rfl w.heap.size 64 i0 (.agg #[.bool false, .int .u8 0]) 2 2 Tryz.underlying59 hi hz0 hz1 hz2 rfl (by decide) _ _ _ rfl (hown.alloc _) ⟨wr.heap.size, 0, none⟩ 1 1 (pc (false, s[k + 1])) rfl rfl ?c1 ?c2 ?c3 ?c4 ?c5 ?_)
              case c1 =>
                intro i u hi
                match i, hi with
                | 0, hi => simp [pc] at hi; subst hi; simp [Addr.add]
                | 1, hi => simp [pc] at hi; subst hi; simp [Addr.add]
              case c2 => intro u hu; simp [pc] at hu; rcases hu with rfl | rfl <;> rfl
              case c3 => unfold maxLen; omega
              case c4 => omega
              case c5 => have := hbel.size; simp; omega
              intro v' w1 hown1 hgrow1 _
              go_wp2
              go_roundw
              case rel =>
                refine ⟨k + 2, done ++ [(false, s[k + 1])], by omega, by go_num, by rw [List.append_assoc]; exact unhide HS, by rw [List.length_append]; simp; omega, ?_, (hbel.alloc hbel.size _).grown hgrow1 (by simp; have := hbel.size; omega) (own_ge hown)⟩
                show w1.ownsRow _ _ _ _ _ _
                rw [List.length_append, List.flatMap_append]
                simpa using hown1
              case measure => simp [intOf]; omega
  
            · skip
              have HS := hide (show done ++ ((s[k] == 42, s[k]) :: prt (s.data.toList.drop (k + 1))) = all by rw [← prt_one s k hlt (fun z => by obtain ⟨_, _, z2⟩ := z; rcases z2 with q | q <;> contradiction)]; exact unhide HD)
              have hd' : ((s[k + 1].toNat : Int) == 42) = false := bne42 _ hd
              have hd2' : ((s[k + 1].toNat : Int) == 92) = false := bne92 _ hd2
              clear hd hd2 hb1 hc
              have h42 := beq42 s[k]
              generalize (s[k] == 42) = b42 at *
              clear HD hb
              go_wp2_with (at_builtin; refine wpList_append_own _ rfl _ _ 59 rfl w.heap.size 64 i0 (.agg #[.bool false, .int .u8 0]) 2 2 Tryz.underlying59 hi hz0 hz1 hz2 rfl (by decide) _ _ _ rfl (hown.alloc _) ⟨wr.heap.size, 0, none⟩ 1 1 (pc (b42, s[k])) rfl rfl ?c1 ?c2 ?c3 ?c4 ?c5 ?_)
              case c1 =>
                intro i u hi
                match i, hi with
                | 0, hi => simp [pc] at hi; subst hi; simp [Addr.add]
                | 1, hi => simp [pc] at hi; subst hi; simp [Addr.add]
              case c2 => intro u hu; simp [pc] at hu; rcases hu with rfl | rfl <;> rfl
              case c3 => unfold maxLen; omega
              case c4 => omega
              case c5 => have := hbel.size; simp; omega
              intro v' w1 hown1 hgrow1 _
              go_wp2
              go_roundw
              case rel =>
                refine ⟨k + 1, done ++ [(b42, s[k])], by omega, by go_num, by rw [List.append_assoc]; exact unhide HS, by rw [List.length_append]; simp; omega, ?_, (hbel.alloc hbel.size _).grown hgrow1 (by simp; have := hbel.size; omega) (own_ge hown)⟩
                show w1.ownsRow _ _ _ _ _ _
                rw [List.length_append, List.flatMap_append]
                simpa using hown1
              case measure => simp [intOf]; omega

        · have hn' : ¬ (k : Int) + 1 < (s.size : Int) := by omega
          have HS := hide (show done ++ ((s[k] == 42, s[k]) :: prt (s.data.toList.drop (k + 1))) = all by rw [← prt_one s k hlt (fun z => by obtain ⟨_, z1, _⟩ := z; exact hn z1)]; exact unhide HD)
          clear hc
          have h42 := beq42 s[k]
          generalize (s[k] == 42) = b42 at *
          clear HD hb
          go_wp2_with (at_builtin; refine wpList_append_own _ rfl _ _ 59 rfl w.heap.size 64 i0 (.agg #[.bool false, .int .u8 0]) 2 2 Tryz.underlying59 hi hz0 hz1 hz2 rfl (by decide) _ _ _ rfl (hown.alloc _) ⟨wr.heap.size, 0, none⟩ 1 1 (pc (b42, s[k])) rfl rfl ?c1 ?c2 ?c3 ?c4 ?c5 ?_)
          case c1 =>
            intro i u hi
            match i, hi with
            | 0, hi => simp [pc] at hi; subst hi; simp
            | 1, hi => simp [pc] at hi; subst hi; simp
          case c2 => intro u hu; simp [pc] at hu; rcases hu with rfl | rfl <;> rfl
          case c3 => unfold maxLen; omega
          case c4 => omega
          case c5 => have := hbel.size; simp; omega
          intro v' w1 hown1 hgrow1 _
          go_wp2
          go_roundw
          case rel =>
            refine ⟨k + 1, done ++ [(b42, s[k])], by omega, by go_num, by rw [List.append_assoc]; exact unhide HS, by rw [List.length_append]; simp; omega, ?_, (hbel.alloc hbel.size _).grown hgrow1 (by simp; have := hbel.size; omega) (own_ge hown)⟩
            show w1.ownsRow _ _ _ _ _ _
            rw [List.length_append, List.flatMap_append]
            simpa using hown1
          case measure => simp [intOf]; omega

      · have hc' : ((s[k].toNat : Int) == 92) = false := bne92 _ hc
        have HS := hide (show done ++ ((s[k] == 42, s[k]) :: prt (s.data.toList.drop (k + 1))) = all by rw [← prt_one s k hlt (fun z => hc z.1)]; exact unhide HD)
        have h42 := beq42 s[k]
        generalize (s[k] == 42) = b42 at *
        clear HD hb
        go_wp2_with (at_builtin; refine wpList_append_own _ rfl _ _ 59 rfl w.heap.size 64 i0 (.agg #[.bool false, .int .u8 0]) 2 2 Tryz.underlying59 hi hz0 hz1 hz2 rfl (by decide) _ _ _ rfl (hown.alloc _) ⟨wr.heap.size, 0, none⟩ 1 1 (pc (b42, s[k])) rfl rfl ?c1 ?c2 ?c3 ?c4 ?c5 ?_)
        case c1 =>
          intro i u hi
          match i, hi with
          | 0, hi => simp [pc] at hi; subst hi; simp [Addr.add]
          | 1, hi => simp [pc] at hi; subst hi; simp [Addr.add]
        case c2 => intro u hu; simp [pc] at hu; rcases hu with rfl | rfl <;> rfl
        case c3 => unfold maxLen; omega
        case c4 => omega
        case c5 => have := hbel.size; simp; omega
        intro v' w1 hown1 hgrow1 _
        go_wp2
        go_roundw
        case rel =>
          refine ⟨k + 1, done ++ [(b42, s[k])], by omega, by go_num, by rw [List.append_assoc]; exact unhide HS, by rw [List.length_append]; simp; omega, ?_, (hbel.alloc hbel.size _).grown hgrow1 (by simp; have := hbel.size; omega) (own_ge hown)⟩
          show w1.ownsRow _ _ _ _ _ _
          rw [List.length_append, List.flatMap_append]
          simpa using hown1
        case measure => simp [intOf]; omega

    · have hlt' : ¬ (k : Int) < (s.size : Int) := by omega
      have hfin := hide (show done = all by rw [← unhide HD, List.drop_eq_nil_of_le (by rw [blen]; omega)]; exact (List.append_nil _).symm)
      clear HD
      go_wp2
      go_ret
      exact ⟨_, rfl, by rw [← unhide hfin]; exact hown, hbel⟩
end Go.Proofs.YthpnclhfooileaaGreatDoor.ru
