/- The landed disk: turnBits. -/
import Derived.Test.YtbcclolhfogpnaaDoorDk4
import Derived.BigRegion
import Derived.BigQuiet
import Derived.Deep.DeepCutAuto
import Derived.Deep.Cut
namespace Go.Proofs.YtbcclolhfogpnaaDoor.dk
open Go.RowKit mm

theorem shl_nat (t k : Nat) (ht : t < 4294967296) (hk : k ≤ 8) : t * 2 ^ k < 18446744073709551616 := by
  have h1 : 2 ^ k ≤ 2 ^ 8 := Nat.pow_le_pow_right (by decide) hk
  have h2 : t * 2 ^ k ≤ 4294967295 * 2 ^ 8 := Nat.mul_le_mul (by omega) h1
  omega
theorem shl_wrap (t k : Nat) (ht : t < 4294967296) (hk : k ≤ 8) : IntKind.u64.wrap (IntKind.u64.wrap (t : Int) * 2 ^ k) = ((t * 2 ^ k : Nat) : Int) := by
  have h1 : IntKind.u64.wrap (t : Int) = (t : Int) := IntWalk.u64_in _ ⟨by omega, by omega⟩
  rw [h1]
  have h2 : (t : Int) * 2 ^ k = ((t * 2 ^ k : Nat) : Int) := by simp
  rw [h2]
  have := shl_nat t k ht hk
  exact IntWalk.u64_in _ ⟨by omega, by omega⟩
/-- The file while the tail's bytes from o on, T of them, are torn: i of five are done. -/
def tl (at_ tn i o T : Nat) (L : List UInt8) : List UInt8 := L.take o ++ (tk at_ tn i ((L.drop o).take T) ++ L.drop (o + T))
theorem tl_len (at_ tn i o T : Nat) (L : List UInt8) (h : o + T ≤ L.length) : (tl at_ tn i o T L).length = L.length := by
  unfold tl
  simp only [List.length_append, tk_len, List.length_take, List.length_drop]
  omega
theorem tl_zero (at_ tn o T : Nat) (L : List UInt8) : tl at_ tn 0 o T L = L := by
  unfold tl
  rw [tk_zero, ← List.drop_drop, List.take_append_drop, List.take_append_drop]
theorem tl_off (at_ tn i o T : Nat) (L : List UInt8) (_ : o + T ≤ L.length) (hi : T ≤ at_ / 8 + i) : tl at_ tn (i + 1) o T L = tl at_ tn i o T L := by
  unfold tl
  rw [tk_off _ _ _ _ (by rw [List.length_take]; omega)]
theorem tl_on (at_ tn i o T : Nat) (L : List UInt8) (h : o + T ≤ L.length) (ht : tn < 4294967296) (hi : i < 5) (hlt : at_ / 8 + i < T) :
    ∃ b, (tl at_ tn i o T L)[o + (at_ / 8 + i)]? = some b ∧ tl at_ tn (i + 1) o T L = (tl at_ tn i o T L).set (o + (at_ / 8 + i)) (b ^^^ UInt8.ofNat (five at_ tn i)) := by
  have hl : ((L.drop o).take T).length = T := by rw [List.length_take, List.length_drop]; omega
  have ho : (L.take o).length = o := by rw [List.length_take]; omega
  obtain ⟨b, hb⟩ : ∃ b, (tk at_ tn i ((L.drop o).take T))[at_ / 8 + i]? = some b := ⟨_, List.getElem?_eq_getElem (by rw [tk_len, hl]; exact hlt)⟩
  refine ⟨b, ?_, ?_⟩
  · unfold tl
    rw [List.getElem?_append_right (by omega), ho, Nat.add_sub_cancel_left, List.getElem?_append_left (by rw [tk_len, hl]; exact hlt)]
    exact hb
  · unfold tl
    rw [List.set_append_right _ _ (by omega), ho, Nat.add_sub_cancel_left, List.set_append_left _ _ (by rw [tk_len, hl]; exact hlt), tk_on _ _ _ _ ht hi b hb]

set_option maxRecDepth 100000 in
set_option maxHeartbeats 1600000 in
theorem turn_any (w : World) (oa : Option Addr) (g o T c sz : Nat) (L : List UInt8) (at_ tn : Nat) (ha : (at_ : Int) ≤ 9223372036854775807) (ht : tn < 4294967296) (hT : T ≤ 70000000000000)
    (hp : 0 < T → oa = some ⟨g, o, none⟩ ∧ RB w g L sz ∧ o + T ≤ L.length) :
    Calls Tryd.prog 32 #[.slice oa T c, .int .i64 (at_ : Int), .int .u32 (tn : Int)] w fun e w' => e = .returned (.tuple #[]) ∧ (0 < T → RB w' g (tl at_ tn 5 o T L) sz) ∧ Upd g w w' ∧ (T = 0 → ∃ q, w' = w.drewN q) := by
  have HW := hide (shl_wrap tn (8 - at_ % 8) ht (by omega))
  have HON := hide (fun i => tl_on at_ tn i o T L)
  have HOFF := hide (fun i => tl_off at_ tn i o T L)
  obtain ⟨q, hq⟩ : ∃ q, q = at_ / 8 := ⟨_, rfl⟩
  rw [← hq] at HON HOFF
  have q1 : (at_ : Int) / 8 = (q : Int) := by omega
  obtain ⟨r, hr⟩ : ∃ r, r = at_ % 8 := ⟨_, rfl⟩
  rw [← hr] at HW
  have r1 : (at_ : Int) % 8 = (r : Int) := by omega
  have r2 : Int.tmod (at_ : Int) 8 = (r : Int) := by rw [Int.tmod_eq_emod_of_nonneg (by omega)]; omega
  have q2 : Int.tdiv (at_ : Int) 8 = (q : Int) := by rw [Int.tdiv_eq_ediv_of_nonneg (by omega)]; omega
  have r3 : (r : Int) < 8 := by omega
  have r4 : (0 : Int) ≤ (r : Int) := by omega
  have a0 : (0 : Int) ≤ (at_ : Int) := by omega
  have t0 : (0 : Int) ≤ (tn : Int) := by omega
  have HQ := hide (show q ≤ 1152921504606846976 from by omega)
  have HQW := hide (show wrap64 (q : Int) = (q : Int) from IntWalk.wrap64_in _ ⟨by omega, by omega⟩)
  have HTT := hide ht
  have HT := hide hT
  have HP := hide hp
  have H5 := hide (show ∀ i, five at_ tn i = tn * 2 ^ (8 - r) / 2 ^ (32 - 8 * i) % 256 from fun i => by rw [hr]; rfl)
  clear ha ht hq hr hT hp
  generalize (at_ : Int) = ai at *
  generalize (tn : Int) = ti at *
  generalize tn * 2 ^ (8 - r) = wide at *
  obtain ⟨qi, hqi⟩ : ∃ qi, qi = (q : Int) := ⟨_, rfl⟩
  have HQI := hide hqi
  rw [← hqi] at q1 q2 HQW
  clear hqi
  go_enter Tryd.func32, Tryd.ntmps32
  go_upto_region 0 with fail
  go_cut [6, 7] from 17 (fun s6 s7 wc => s6 = .int .i64 qi ∧ s7 = .int .u64 (wide : Int) ∧ ∃ n, wc = w.drewN n)
  case first =>
    go_quiet (fail)
    all_goals go_wp2
    all_goals go_meet
    all_goals exact ⟨by rw [unhide HQW], by rw [unhide HW], ⟨_, rfl⟩⟩
  case rest =>
  obtain ⟨rfl, rfl, n, hwc⟩ := hcut
  have U0 : Hid (Upd g w wc) := by rw [hwc]; exact ⟨rfl, rfl, rfl, rfl, fun _ _ => rfl⟩
  have Z0 : Hid (T = 0 → ∃ q, wc = w.drewN q) := fun _ => ⟨n, hwc⟩
  have P0 : Hid (0 < T → RB wc g (tl at_ tn 0 o T L) sz) := fun h => by rw [tl_zero, hwc]; exact (unhide HP h).2.1
  clear hwc q1 q2 r1 r2 r3 r4 a0 t0 HW
  go_wp2
  go_loopw [17] (fun iv wr => ∃ k : Nat, k ≤ 5 ∧ iv = .int .i64 (k : Int) ∧ Hid (0 < T → RB wr g (tl at_ tn k o T L) sz) ∧ Hid (Upd g w wr) ∧ Hid (T = 0 → ∃ q, wr = w.drewN q)) (fun iv _ => 5 - (intOf iv).toNat)
  case atStart => exact ⟨0, by omega, rfl, P0, U0, Z0⟩
  case round =>
    clear U0 P0 Z0
    obtain ⟨k, hk, rfl, P1, U1, Z1⟩ := hrel
    by_cases hc : k < 5
    · skip
      have k5 : k = 0 ∨ k = 1 ∨ k = 2 ∨ k = 3 ∨ k = 4 := by omega
      rcases k5 with rfl | rfl | rfl | rfl | rfl
      · clear hk hc
        by_cases hlt : q + 0 < T
        · obtain ⟨b, hb, hset⟩ := unhide HON 0 (unhide HP (by omega)).2.2 (unhide HTT) (by omega) hlt
          obtain ⟨rfl, _, hoT⟩ := unhide HP (by omega)
          have hrb := unhide P1 (by omega)
          have c1 := hrb.cell (o + (q + 0)) b hb
          have c2 := hrb.frz (o + (q + 0))
          have hix : qi + 0 = ((q + 0 : Nat) : Int) := by rw [unhide HQI]; omega
          have hx := xor_five b (five at_ tn 0) (five_lt _ _ _)
          rw [unhide H5 0, show ((wide / 2 ^ (32 - 8 * 0) % 256 : Nat) : Int) = (wide : Int) / 4294967296 % 256 from by omega] at hx
          have S1 := hide (show RB ((wr.setCell ⟨g, o + (q + 0), none⟩ (.int .u8 ((b ^^^ UInt8.ofNat (wide / 2 ^ (32 - 8 * 0) % 256)).toNat : Int))).drew) g (tl at_ tn (0 + 1) o T L) sz from by
            have h5 := unhide H5 0
            rw [hset, h5]
            exact hrb.set _ _)
          have S2 := hide (show Upd g w ((wr.setCell ⟨g, o + (q + 0), none⟩ (.int .u8 ((b ^^^ UInt8.ofNat (wide / 2 ^ (32 - 8 * 0) % 256)).toNat : Int))).drew) from ((unhide U1).trans (Upd.setCell g (o + (q + 0)) wr _)).trans ⟨rfl, rfl, rfl, rfl, fun _ _ => rfl⟩)
          generalize b ^^^ UInt8.ofNat (wide / 2 ^ (32 - 8 * 0) % 256) = xx at *
          have i1 : ((q + 0 : Nat) : Int) < (T : Int) := by omega
          have i0 : (0 : Int) ≤ ((q + 0 : Nat) : Int) := by omega
          have hwq : wrap64 ((q + 0 : Nat) : Int) = ((q + 0 : Nat) : Int) := IntWalk.wrap64_in _ ⟨by omega, by have := unhide HT; omega⟩
          generalize q + 0 = ix at *
          clear hb hset hrb hoT hlt HQI
          go_upto_region 5 with fail
          go_region
          go_wp2
          exact ⟨⟨1, by omega, rfl, fun _ => unhide S1, S2, fun h => by omega⟩, by simp [intOf]⟩
        · have P2 : Hid (0 < T → RB wr g (tl at_ tn (0 + 1) o T L) sz) := fun h => by rw [unhide HOFF 0 (unhide HP h).2.2 (by omega)]; exact unhide P1 h
          have hix : qi + 0 = ((q + 0 : Nat) : Int) := by rw [unhide HQI]; omega
          have hwq : wrap64 ((q + 0 : Nat) : Int) = ((q + 0 : Nat) : Int) := IntWalk.wrap64_in _ ⟨by omega, by have := unhide HQ; omega⟩
          have i1 : decide (((q + 0 : Nat) : Int) < (T : Int)) = false := decide_eq_false (by omega)
          have i2 : (T : Int) ≤ ((q + 0 : Nat) : Int) := by omega
          generalize q + 0 = ix at *
          clear hlt HQI
          go_wp2
          exact ⟨⟨1, by omega, rfl, P2, U1, Z1⟩, by simp [intOf]⟩
      · clear hk hc
        by_cases hlt : q + 1 < T
        · obtain ⟨b, hb, hset⟩ := unhide HON 1 (unhide HP (by omega)).2.2 (unhide HTT) (by omega) hlt
          obtain ⟨rfl, _, hoT⟩ := unhide HP (by omega)
          have hrb := unhide P1 (by omega)
          have c1 := hrb.cell (o + (q + 1)) b hb
          have c2 := hrb.frz (o + (q + 1))
          have hix : qi + 1 = ((q + 1 : Nat) : Int) := by rw [unhide HQI]; omega
          have hx := xor_five b (five at_ tn 1) (five_lt _ _ _)
          rw [unhide H5 1, show ((wide / 2 ^ (32 - 8 * 1) % 256 : Nat) : Int) = (wide : Int) / 16777216 % 256 from by omega] at hx
          have S1 := hide (show RB ((wr.setCell ⟨g, o + (q + 1), none⟩ (.int .u8 ((b ^^^ UInt8.ofNat (wide / 2 ^ (32 - 8 * 1) % 256)).toNat : Int))).drew) g (tl at_ tn (1 + 1) o T L) sz from by
            have h5 := unhide H5 1
            rw [hset, h5]
            exact hrb.set _ _)
          have S2 := hide (show Upd g w ((wr.setCell ⟨g, o + (q + 1), none⟩ (.int .u8 ((b ^^^ UInt8.ofNat (wide / 2 ^ (32 - 8 * 1) % 256)).toNat : Int))).drew) from ((unhide U1).trans (Upd.setCell g (o + (q + 1)) wr _)).trans ⟨rfl, rfl, rfl, rfl, fun _ _ => rfl⟩)
          generalize b ^^^ UInt8.ofNat (wide / 2 ^ (32 - 8 * 1) % 256) = xx at *
          have i1 : ((q + 1 : Nat) : Int) < (T : Int) := by omega
          have i0 : (0 : Int) ≤ ((q + 1 : Nat) : Int) := by omega
          have hwq : wrap64 ((q + 1 : Nat) : Int) = ((q + 1 : Nat) : Int) := IntWalk.wrap64_in _ ⟨by omega, by have := unhide HT; omega⟩
          generalize q + 1 = ix at *
          clear hb hset hrb hoT hlt HQI
          go_upto_region 5 with fail
          go_region
          go_wp2
          exact ⟨⟨2, by omega, rfl, fun _ => unhide S1, S2, fun h => by omega⟩, by simp [intOf]⟩
        · have P2 : Hid (0 < T → RB wr g (tl at_ tn (1 + 1) o T L) sz) := fun h => by rw [unhide HOFF 1 (unhide HP h).2.2 (by omega)]; exact unhide P1 h
          have hix : qi + 1 = ((q + 1 : Nat) : Int) := by rw [unhide HQI]; omega
          have hwq : wrap64 ((q + 1 : Nat) : Int) = ((q + 1 : Nat) : Int) := IntWalk.wrap64_in _ ⟨by omega, by have := unhide HQ; omega⟩
          have i1 : decide (((q + 1 : Nat) : Int) < (T : Int)) = false := decide_eq_false (by omega)
          have i2 : (T : Int) ≤ ((q + 1 : Nat) : Int) := by omega
          generalize q + 1 = ix at *
          clear hlt HQI
          go_wp2
          exact ⟨⟨2, by omega, rfl, P2, U1, Z1⟩, by simp [intOf]⟩
      · clear hk hc
        by_cases hlt : q + 2 < T
        · obtain ⟨b, hb, hset⟩ := unhide HON 2 (unhide HP (by omega)).2.2 (unhide HTT) (by omega) hlt
          obtain ⟨rfl, _, hoT⟩ := unhide HP (by omega)
          have hrb := unhide P1 (by omega)
          have c1 := hrb.cell (o + (q + 2)) b hb
          have c2 := hrb.frz (o + (q + 2))
          have hix : qi + 2 = ((q + 2 : Nat) : Int) := by rw [unhide HQI]; omega
          have hx := xor_five b (five at_ tn 2) (five_lt _ _ _)
          rw [unhide H5 2, show ((wide / 2 ^ (32 - 8 * 2) % 256 : Nat) : Int) = (wide : Int) / 65536 % 256 from by omega] at hx
          have S1 := hide (show RB ((wr.setCell ⟨g, o + (q + 2), none⟩ (.int .u8 ((b ^^^ UInt8.ofNat (wide / 2 ^ (32 - 8 * 2) % 256)).toNat : Int))).drew) g (tl at_ tn (2 + 1) o T L) sz from by
            have h5 := unhide H5 2
            rw [hset, h5]
            exact hrb.set _ _)
          have S2 := hide (show Upd g w ((wr.setCell ⟨g, o + (q + 2), none⟩ (.int .u8 ((b ^^^ UInt8.ofNat (wide / 2 ^ (32 - 8 * 2) % 256)).toNat : Int))).drew) from ((unhide U1).trans (Upd.setCell g (o + (q + 2)) wr _)).trans ⟨rfl, rfl, rfl, rfl, fun _ _ => rfl⟩)
          generalize b ^^^ UInt8.ofNat (wide / 2 ^ (32 - 8 * 2) % 256) = xx at *
          have i1 : ((q + 2 : Nat) : Int) < (T : Int) := by omega
          have i0 : (0 : Int) ≤ ((q + 2 : Nat) : Int) := by omega
          have hwq : wrap64 ((q + 2 : Nat) : Int) = ((q + 2 : Nat) : Int) := IntWalk.wrap64_in _ ⟨by omega, by have := unhide HT; omega⟩
          generalize q + 2 = ix at *
          clear hb hset hrb hoT hlt HQI
          go_upto_region 5 with fail
          go_region
          go_wp2
          exact ⟨⟨3, by omega, rfl, fun _ => unhide S1, S2, fun h => by omega⟩, by simp [intOf]⟩
        · have P2 : Hid (0 < T → RB wr g (tl at_ tn (2 + 1) o T L) sz) := fun h => by rw [unhide HOFF 2 (unhide HP h).2.2 (by omega)]; exact unhide P1 h
          have hix : qi + 2 = ((q + 2 : Nat) : Int) := by rw [unhide HQI]; omega
          have hwq : wrap64 ((q + 2 : Nat) : Int) = ((q + 2 : Nat) : Int) := IntWalk.wrap64_in _ ⟨by omega, by have := unhide HQ; omega⟩
          have i1 : decide (((q + 2 : Nat) : Int) < (T : Int)) = false := decide_eq_false (by omega)
          have i2 : (T : Int) ≤ ((q + 2 : Nat) : Int) := by omega
          generalize q + 2 = ix at *
          clear hlt HQI
          go_wp2
          exact ⟨⟨3, by omega, rfl, P2, U1, Z1⟩, by simp [intOf]⟩
      · clear hk hc
        by_cases hlt : q + 3 < T
        · obtain ⟨b, hb, hset⟩ := unhide HON 3 (unhide HP (by omega)).2.2 (unhide HTT) (by omega) hlt
          obtain ⟨rfl, _, hoT⟩ := unhide HP (by omega)
          have hrb := unhide P1 (by omega)
          have c1 := hrb.cell (o + (q + 3)) b hb
          have c2 := hrb.frz (o + (q + 3))
          have hix : qi + 3 = ((q + 3 : Nat) : Int) := by rw [unhide HQI]; omega
          have hx := xor_five b (five at_ tn 3) (five_lt _ _ _)
          rw [unhide H5 3, show ((wide / 2 ^ (32 - 8 * 3) % 256 : Nat) : Int) = (wide : Int) / 256 % 256 from by omega] at hx
          have S1 := hide (show RB ((wr.setCell ⟨g, o + (q + 3), none⟩ (.int .u8 ((b ^^^ UInt8.ofNat (wide / 2 ^ (32 - 8 * 3) % 256)).toNat : Int))).drew) g (tl at_ tn (3 + 1) o T L) sz from by
            have h5 := unhide H5 3
            rw [hset, h5]
            exact hrb.set _ _)
          have S2 := hide (show Upd g w ((wr.setCell ⟨g, o + (q + 3), none⟩ (.int .u8 ((b ^^^ UInt8.ofNat (wide / 2 ^ (32 - 8 * 3) % 256)).toNat : Int))).drew) from ((unhide U1).trans (Upd.setCell g (o + (q + 3)) wr _)).trans ⟨rfl, rfl, rfl, rfl, fun _ _ => rfl⟩)
          generalize b ^^^ UInt8.ofNat (wide / 2 ^ (32 - 8 * 3) % 256) = xx at *
          have i1 : ((q + 3 : Nat) : Int) < (T : Int) := by omega
          have i0 : (0 : Int) ≤ ((q + 3 : Nat) : Int) := by omega
          have hwq : wrap64 ((q + 3 : Nat) : Int) = ((q + 3 : Nat) : Int) := IntWalk.wrap64_in _ ⟨by omega, by have := unhide HT; omega⟩
          generalize q + 3 = ix at *
          clear hb hset hrb hoT hlt HQI
          go_upto_region 5 with fail
          go_region
          go_wp2
          exact ⟨⟨4, by omega, rfl, fun _ => unhide S1, S2, fun h => by omega⟩, by simp [intOf]⟩
        · have P2 : Hid (0 < T → RB wr g (tl at_ tn (3 + 1) o T L) sz) := fun h => by rw [unhide HOFF 3 (unhide HP h).2.2 (by omega)]; exact unhide P1 h
          have hix : qi + 3 = ((q + 3 : Nat) : Int) := by rw [unhide HQI]; omega
          have hwq : wrap64 ((q + 3 : Nat) : Int) = ((q + 3 : Nat) : Int) := IntWalk.wrap64_in _ ⟨by omega, by have := unhide HQ; omega⟩
          have i1 : decide (((q + 3 : Nat) : Int) < (T : Int)) = false := decide_eq_false (by omega)
          have i2 : (T : Int) ≤ ((q + 3 : Nat) : Int) := by omega
          generalize q + 3 = ix at *
          clear hlt HQI
          go_wp2
          exact ⟨⟨4, by omega, rfl, P2, U1, Z1⟩, by simp [intOf]⟩
      · clear hk hc
        by_cases hlt : q + 4 < T
        · obtain ⟨b, hb, hset⟩ := unhide HON 4 (unhide HP (by omega)).2.2 (unhide HTT) (by omega) hlt
          obtain ⟨rfl, _, hoT⟩ := unhide HP (by omega)
          have hrb := unhide P1 (by omega)
          have c1 := hrb.cell (o + (q + 4)) b hb
          have c2 := hrb.frz (o + (q + 4))
          have hix : qi + 4 = ((q + 4 : Nat) : Int) := by rw [unhide HQI]; omega
          have hx := xor_five b (five at_ tn 4) (five_lt _ _ _)
          rw [unhide H5 4, show ((wide / 2 ^ (32 - 8 * 4) % 256 : Nat) : Int) = (wide : Int) % 256 from by omega] at hx
          have S1 := hide (show RB ((wr.setCell ⟨g, o + (q + 4), none⟩ (.int .u8 ((b ^^^ UInt8.ofNat (wide / 2 ^ (32 - 8 * 4) % 256)).toNat : Int))).drew) g (tl at_ tn (4 + 1) o T L) sz from by
            have h5 := unhide H5 4
            rw [hset, h5]
            exact hrb.set _ _)
          have S2 := hide (show Upd g w ((wr.setCell ⟨g, o + (q + 4), none⟩ (.int .u8 ((b ^^^ UInt8.ofNat (wide / 2 ^ (32 - 8 * 4) % 256)).toNat : Int))).drew) from ((unhide U1).trans (Upd.setCell g (o + (q + 4)) wr _)).trans ⟨rfl, rfl, rfl, rfl, fun _ _ => rfl⟩)
          generalize b ^^^ UInt8.ofNat (wide / 2 ^ (32 - 8 * 4) % 256) = xx at *
          have i1 : ((q + 4 : Nat) : Int) < (T : Int) := by omega
          have i0 : (0 : Int) ≤ ((q + 4 : Nat) : Int) := by omega
          have hwq : wrap64 ((q + 4 : Nat) : Int) = ((q + 4 : Nat) : Int) := IntWalk.wrap64_in _ ⟨by omega, by have := unhide HT; omega⟩
          generalize q + 4 = ix at *
          clear hb hset hrb hoT hlt HQI
          go_upto_region 5 with fail
          go_region
          go_wp2
          exact ⟨⟨5, by omega, rfl, fun _ => unhide S1, S2, fun h => by omega⟩, by simp [intOf]⟩
        · have P2 : Hid (0 < T → RB wr g (tl at_ tn (4 + 1) o T L) sz) := fun h => by rw [unhide HOFF 4 (unhide HP h).2.2 (by omega)]; exact unhide P1 h
          have hix : qi + 4 = ((q + 4 : Nat) : Int) := by rw [unhide HQI]; omega
          have hwq : wrap64 ((q + 4 : Nat) : Int) = ((q + 4 : Nat) : Int) := IntWalk.wrap64_in _ ⟨by omega, by have := unhide HQ; omega⟩
          have i1 : decide (((q + 4 : Nat) : Int) < (T : Int)) = false := decide_eq_false (by omega)
          have i2 : (T : Int) ≤ ((q + 4 : Nat) : Int) := by omega
          generalize q + 4 = ix at *
          clear hlt HQI
          go_wp2
          exact ⟨⟨5, by omega, rfl, P2, U1, Z1⟩, by simp [intOf]⟩
    · obtain rfl : k = 5 := by omega
      go_wp2
      refine bodyPost_end (results_none rfl _ _ _) rfl ?_
      exact ⟨rfl, unhide P1, unhide U1, unhide Z1⟩
end Go.Proofs.YtbcclolhfogpnaaDoor.dk
