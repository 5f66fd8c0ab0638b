/- DiskTears, over the calls' contracts. -/
import Derived.Test.YtbcclolhfogpnaaDoorYg
import Derived.Deep.RegionHeld3
import Derived.Deep.RegionHeldLaw
namespace Go.Proofs.YtbcclolhfogpnaaDoor.dk
open Go.RowKit Go.Joins mm

section
variable {a b : Addr} {G : World → Prop} {D : World → Addr → Bl → St → Prop}
/-- Another disk stays as it is. -/
theorem Mv.other (K : DiskOK a b G D) {F F' E : Bl} {w w' : World} {p : Addr} {s : St} (h : Mv F F' w w') (hd : D w p E s) (hj : ∀ k, E k → ¬ F k) : D w' p E s ∧ ∀ k, E k → ¬ F' k :=
  ⟨K.dkeep _ _ _ _ _ hd (fun k hk => h.block k (K.dlt _ _ _ _ hd k hk) (hj k hk)), fun k hk q => by
    rcases h.sub k q with z | z
    · exact hj k hk z
    · have := K.dlt _ _ _ _ hd k hk; omega⟩
theorem dq (K : DiskOK a b G D) {F : Bl} {w w' : World} {p : Addr} {s : St} (h : D w p F s) (hb : Below w.heap.size w w') : D w' p F s := K.dkeep _ _ _ _ _ h (fun k hk => hb.block k (K.dlt _ _ _ _ h k hk))
end
theorem crash_tear (x y : List UInt8) (k a : Int) (t : Nat) : sCrash ⟨x ++ y, x.length, false, 0⟩ k a t = ⟨x ++ tear a t (y.take k.toNat), (x ++ tear a t (y.take k.toNat)).length, false, 0⟩ := by
  unfold sCrash
  simp only [List.take_left', List.drop_left']

set_option maxRecDepth 100000 in
set_option maxHeartbeats 3200000 in
theorem tears_law {a b : Addr} {G : World → Prop} {D : World → Addr → Bl → St → Prop} (K : DiskOK a b G D) (x y : List UInt8) (vx vy : Value) (kp at_ : Int) (tn : Nat) (w : World) (hG : G w) (hx : BY w vx x) (hy : BY w vy y) (lx : x.length ≤ 2000000) (ly : y.length ≤ 2000000)
    (hk0 : -9223372036854775808 ≤ kp) (hk1 : kp ≤ 9223372036854775807) (ha0 : -9223372036854775808 ≤ at_) (ha1 : at_ ≤ 9223372036854775807) (ht : tn < 4294967296) :
    Calls Tryd.prog 6 #[vx, vy, .int .i64 kp, .int .i64 at_, .int .u32 (tn : Int)] w fun e w' => e = .returned (.bool true) ∧ Below w.heap.size w w' := by
  have HK := hide K
  have HG := hide hG
  have HX := hide hx
  have HY := hide hy
  have LX := hide lx
  have LY := hide ly
  have HK0 := hide (And.intro hk0 hk1)
  have HA0 := hide (And.intro ha0 ha1)
  have HT := hide ht
  have C1 := hide (shown_any K w hG)
  obtain ⟨ox, cx, rfl, _, _⟩ := hx.form
  obtain ⟨oy, cy, rfl, _, _⟩ := hy.form
  clear K hG hx hy lx ly hk0 hk1 ha0 ha1 ht
  go_enter Tryd.func6, Tryd.ntmps6
  go_wp2_with fail
  refine (unhide C1).mono ?_
  rintro e w1 ⟨rfl, b1⟩
  have B1 := hide b1
  clear C1 b1
  have C2 := hide ((unhide HK).new w1 ((unhide HK).keep _ _ (unhide HG) (unhide B1)))
  go_wp2_with fail
  refine (unhide C2).mono ?_
  rintro e w2 ⟨p, F2, rfl, d2, f2, b2⟩
  have B2 := hide ((unhide B1).trans (b2.mono (unhide B1).size))
  have D2 := hide d2
  have G2 : Hid (∀ k, F2 k → w.heap.size ≤ k) := fun k hk => by have := f2 k hk; have := (unhide B1).size; omega
  clear C2 d2 f2 b2 B1
  have C3 := hide ((unhide HK).new w2 ((unhide HK).keep _ _ (unhide HG) (unhide B2)))
  go_wp2_with fail
  refine (unhide C3).mono ?_
  rintro e w3 ⟨pe, E, rfl, d3, f3, b3⟩
  have B3 := hide ((unhide B2).trans (b3.mono (unhide B2).size))
  have E3 := hide d3
  have D3 := hide (dq (unhide HK) (unhide D2) b3)
  have J3 : Hid (∀ k, E k → ¬ F2 k) := fun k hk q => by have := f3 k hk; have := (unhide HK).dlt _ _ _ _ (unhide D2) k q; omega
  have GE : Hid (∀ k, E k → w.heap.size ≤ k) := fun k hk => by have := f3 k hk; have := (unhide B2).size; omega
  clear C3 d3 f3 b3 B2 D2
  have C4 := hide ((unhide HK).append w3 p F2 st0 _ x ((unhide HK).keep _ _ (unhide HG) (unhide B3)) (unhide D3) ((unhide HX).keep (unhide B3)) (by have := unhide LX; show 0 + x.length ≤ _; omega))
  rw [show sApp st0 x = (⟨x, 0, false, 0⟩, 0) from rfl] at C4
  simp only [er] at C4
  go_wp2_with fail
  refine (unhide C4).mono ?_
  rintro e w4 ⟨F4, rfl, d4, m4⟩
  obtain ⟨e4, j4⟩ := m4.other (unhide HK) (unhide E3) (unhide J3)
  have B4 := hide (m4.below (unhide B3) (unhide G2) (unhide B3).size)
  have G4 := hide (m4.from (unhide G2) (unhide B3).size)
  have D4 := hide d4
  have E4 := hide e4
  have J4 := hide j4
  clear C4 d4 m4 D3 B3 G2 E3 J3 e4 j4
  have C5 := hide ((unhide HK).sync w4 p F4 _ ((unhide HK).keep _ _ (unhide HG) (unhide B4)) (unhide D4))
  rw [show sSyn ⟨x, 0, false, 0⟩ = (⟨x, x.length, false, 0⟩, 0) from rfl] at C5
  simp only [er] at C5
  go_wp2_with fail
  refine (unhide C5).mono ?_
  rintro e w5 ⟨F5, rfl, d5, m5⟩
  obtain ⟨e5, j5⟩ := m5.other (unhide HK) (unhide E4) (unhide J4)
  have B5 := hide (m5.below (unhide B4) (unhide G4) (unhide B4).size)
  have G5 := hide (m5.from (unhide G4) (unhide B4).size)
  have D5 := hide d5
  have E5 := hide e5
  have J5 := hide j5
  clear C5 d5 m5 D4 B4 G4 E4 J4 e5 j5
  have C6 := hide ((unhide HK).append w5 p F5 _ _ y ((unhide HK).keep _ _ (unhide HG) (unhide B5)) (unhide D5) ((unhide HY).keep (unhide B5)) (by have := unhide LX; have := unhide LY; show x.length + y.length ≤ _; omega))
  rw [show sApp ⟨x, x.length, false, 0⟩ y = (⟨x ++ y, x.length, false, 0⟩, 0) from rfl] at C6
  simp only [er] at C6
  go_wp2_with fail
  refine (unhide C6).mono ?_
  rintro e w6 ⟨F6, rfl, d6, m6⟩
  obtain ⟨e6, j6⟩ := m6.other (unhide HK) (unhide E5) (unhide J5)
  have B6 := hide (m6.below (unhide B5) (unhide G5) (unhide B5).size)
  have G6 := hide (m6.from (unhide G5) (unhide B5).size)
  have D6 := hide d6
  have E6 := hide e6
  have J6 := hide j6
  clear C6 d6 m6 D5 B5 G5 E5 J5 e6 j6
  have C7 := hide ((unhide HK).crash w6 p F6 _ kp at_ tn ((unhide HK).keep _ _ (unhide HG) (unhide B6)) (unhide D6) (by have := unhide LX; have := unhide LY; show (x ++ y).length ≤ _; rw [List.length_append]; omega) (unhide HK0).1 (unhide HK0).2 (unhide HA0).1 (unhide HA0).2 (unhide HT))
  rw [crash_tear] at C7
  -- what stays of the tail, and how many bytes that are
  have hz : (y.take kp.toNat).length = min kp.toNat y.length := List.length_take ..
  have TT := hide (tear_tear at_ tn (y.take kp.toNat))
  have TB := hide (bt_tear at_ tn (y.take kp.toNat))
  have TL := hide (tear_len at_ tn (y.take kp.toNat))
  generalize hty : tear at_ tn (y.take kp.toNat) = t at *
  have HTY := hide hty
  clear hty
  go_wp2_with fail
  refine (unhide C7).mono ?_
  rintro e w7 ⟨F7, rfl, d7, m7⟩
  obtain ⟨e7, j7⟩ := m7.other (unhide HK) (unhide E6) (unhide J6)
  have B7 := hide (m7.below (unhide B6) (unhide G6) (unhide B6).size)
  have G7 := hide (m7.from (unhide G6) (unhide B6).size)
  have D7 := hide d7
  have E7 := hide e7
  clear C7 d7 m7 D6 B6 G6 E6 J6 e7 j7
  have tlen : t.length = min kp.toNat y.length := by rw [unhide TL, hz]
  have C8 := hide ((unhide HK).bytes w7 p F7 _ ((unhide HK).keep _ _ (unhide HG) (unhide B7)) (unhide D7) (by have := unhide LX; have := unhide LY; show (x ++ t).length ≤ _; rw [List.length_append]; omega))
  have HZ := hide hz
  have TLN := hide tlen
  clear hz tlen
  go_wp2_with fail
  refine (unhide C8).mono ?_
  rintro e w8 ⟨vf, rfl, oyf, b8⟩
  have D8 := hide (dq (unhide HK) (unhide D7) b8)
  have E8 := hide (dq (unhide HK) (unhide E7) b8)
  have B8 := hide ((unhide B7).trans (b8.mono (unhide B7).size))
  have Y8 := hide oyf
  clear C8 oyf b8 D7 E7 B7
  have C9 := hide ((unhide HK).synced w8 p F7 _ ((unhide HK).keep _ _ (unhide HG) (unhide B8)) (unhide D8))
  go_wp2_with fail
  refine (unhide C9).mono ?_
  rintro e w9 ⟨rfl, b9⟩
  have E9 := hide (dq (unhide HK) (unhide E8) b9)
  have B9 := hide ((unhide B8).trans (b9.mono (unhide B8).size))
  have Y9 := hide ((unhide Y8).by.keep b9)
  obtain ⟨of, cf, rfl⟩ : ∃ o c, vf = .slice o (x ++ t).length c := by
    obtain ⟨o, c, e, _⟩ := (unhide Y8).by.form
    exact ⟨o, c, e⟩
  clear C9 b9 D8 E8 B8 Y8 G7
  have hxt : (x ++ t).length = x.length + t.length := List.length_append ..
  obtain ⟨vh, sh, yh⟩ := (unhide Y9).h x.length (by omega) (x.length : Int) rfl
  rw [List.take_left'  rfl] at yh
  obtain ⟨oh, ch, rfl⟩ : ∃ o c, vh = .slice o x.length c := by
    obtain ⟨o, c, e, _⟩ := yh.form
    exact ⟨o, c, e⟩
  have ch1 : ∀ n, (convert 27 9 (.slice oh x.length ch)).run Tryd.prog (w9.drewN n) = .ok (.string (str x)) (w9.drewN n) := fun n => by_str (SV.drewN yh n)
  have ch2 : ∀ n, (convert 27 9 (.slice ox x.length cx)).run Tryd.prog (w9.drewN n) = .ok (.string (str x)) (w9.drewN n) := fun n => by_str (SV.drewN (SV.keep (unhide HX) (unhide B9)) n)
  have hwr : IntKind.i64.wrap ((x.length : Int) + (t.length : Int)) = (x.length : Int) + (t.length : Int) := IntWalk.i64_in _ ⟨by omega, by have := unhide LX; have := unhide LY; have := unhide TLN; omega⟩
  rw [hxt] at sh
  have HXT := hide hxt
  clear yh hxt
  generalize hgx : str x = gx at *
  clear hgx
  -- how many stay
  go_upto_if 57 with fail
  go_cut [19] from 25 (fun s19 wx => s19 = .int .i64 (max kp 0) ∧ wx = w9)
  case first =>
    by_cases hk : kp < 0
    · have g := hide (show max kp 0 = 0 by omega)
      have g1 : decide (kp < 0) = true := decide_eq_true hk
      clear sh ch1 ch2 hwr
      go_wp2
      go_meet
      exact ⟨by rw [unhide g], rfl⟩
    · have g := hide (show max kp 0 = kp by omega)
      have g1 : decide (kp < 0) = false := decide_eq_false hk
      clear sh ch1 ch2 hwr
      go_wp2
      go_meet
      exact ⟨by rw [unhide g], rfl⟩
  case rest =>
    obtain ⟨rfl, hwc⟩ := hcut
    obtain rfl := hwc.symm
    go_upto_if 61 with fail
    go_cut [19] from 25 (fun s19 wx => s19 = .int .i64 (t.length : Int) ∧ wx = w9)
    case first =>
      have htl := unhide TLN
      by_cases hk : (y.length : Int) < max kp 0
      · have g := hide (show t.length = y.length by omega)
        generalize max kp 0 = mk at *
        have g1 : decide ((y.length : Int) < mk) = true := decide_eq_true hk
        clear sh ch1 ch2 hwr htl
        go_wp2
        go_meet
        exact ⟨by rw [unhide g], rfl⟩
      · have g := hide (show max kp 0 = (t.length : Int) by omega)
        generalize max kp 0 = mk at *
        have g1 : decide ((y.length : Int) < mk) = false := decide_eq_false hk
        clear sh ch1 ch2 hwr htl
        go_wp2
        go_meet
        exact ⟨by rw [unhide g], rfl⟩
    case rest =>
      obtain ⟨rfl, hwc⟩ := hcut
      obtain rfl := hwc.symm
      go_upto_region 17 with fail
      go_quiet (fail)
      obtain ⟨W, hW⟩ : ∃ W, W = w9.drewN nq := ⟨_, rfl⟩
      rw [← hW]
      have BW : Hid (Below w.heap.size w W) := by rw [hW]; exact (unhide B9).trans (mm.below_drewN _ _ _)
      have YW : Hid (BY W (.slice of (x ++ t).length cf) (x ++ t)) := by rw [hW]; exact SV.drewN (unhide Y9) _
      have EW := hide (dq (unhide HK) (unhide E9) (show Below w9.heap.size w9 W by rw [hW]; exact mm.below_drewN _ _ _))
      clear hW ch1 ch2 sh E9 B9 Y9
      obtain ⟨vt, st, yt⟩ := (unhide YW).l x.length (by rw [List.length_append]; omega) (x.length : Int) rfl
      rw [List.drop_left' rfl] at yt
      rw [unhide HXT] at st
      obtain ⟨ot, ct, rfl⟩ : ∃ o c, vt = .slice o t.length c := by
        obtain ⟨o, c, e, _⟩ := yt.form
        exact ⟨o, c, e⟩
      have YT := hide yt
      have h8 : IntKind.i64.wrap (8 * (t.length : Int)) = 8 * (t.length : Int) := IntWalk.i64_in _ ⟨by omega, by have := unhide LY; have := unhide TLN; omega⟩
      have tb : t.length ≤ 2000000 := by have := unhide LY; have := unhide TLN; omega
      have TBB := hide tb
      clear yt tb
      go_wp2
      go_loopw [20, 21, 22, 23] (fun iv _ _ _ wr => ∃ k : Nat, k ≤ 8 * t.length ∧ iv = .int .i64 (k : Int) ∧ wr = W) (fun iv _ _ _ _ => 8 * t.length - (intOf iv).toNat)
      case atStart => exact ⟨0, by omega, rfl, rfl⟩
      case round =>
        obtain ⟨k, hk, rfl, rfl⟩ := hrel
        by_cases hc : k < 8 * t.length
        · have e1 : (k : Int) < 8 * (t.length : Int) := by omega
          obtain ⟨b1, b2, hb1, hb2, hb3⟩ := unhide TB k (by rw [← unhide TL]; exact hc)
          have hb0 : bt y k = b1.toNat := by rw [bt_take y kp.toNat k (by rw [← unhide TL]; exact hc)]; exact hb1
          have C1 := hide (rbit_any y _ wr k ((unhide HY).keep (unhide BW)) (by have := unhide TLN; omega))
          have C2 := hide (rbit_any t _ wr k (unhide YT) hc)
          rw [hb0] at C1
          rw [hb2] at C2
          have hxo := xor_bits b1 b2
          rw [hb3] at hxo
          clear hb0 hb1 hb2 hb3
          go_wp2_with fail
          refine (unhide C1).mono ?_
          rintro e w10 ⟨rfl, hw⟩
          obtain rfl := hw.symm
          clear C1
          go_wp2_with fail
          refine (unhide C2).mono ?_
          rintro e w10 ⟨rfl, hw⟩
          obtain rfl := hw.symm
          clear C2
          obtain ⟨qa0, qa1⟩ := unhide HA0
          have kb := unhide TBB
          by_cases h1 : 0 ≤ at_
          · by_cases h2 : at_ ≤ (k : Int)
            · by_cases h3 : (k : Int) - at_ ≤ 31
              · obtain ⟨d, hd⟩ : ∃ d : Nat, (k : Int) - at_ = (d : Int) := ⟨((k : Int) - at_).toNat, by omega⟩
                have hd31 : d ≤ 31 := by omega
                rw [bitOn_in at_ tn k d h1 hd hd31] at hxo
                have g1 : decide (0 ≤ at_) = true := decide_eq_true h1
                have g2 : decide (at_ ≤ (k : Int)) = true := decide_eq_true h2
                have g3 : (d : Int) < 32 := by omega
                have g4 : (0 : Int) ≤ 31 - (d : Int) := by omega
                have g5 := unhide HT
                obtain ⟨m, hm⟩ : ∃ m : Int, m = ((tn / 2 ^ (31 - d) % 2 : Nat) : Int) := ⟨_, rfl⟩
                have hwm : wrap64 (Int.tmod ((tn : Int) / 2 ^ (31 - d)) 2) = m := by
                  have e : Int.tmod ((tn : Int) / 2 ^ (31 - d)) 2 = m := by rw [hm]; rfl
                  rw [e]
                  have := Nat.mod_lt (tn / 2 ^ (31 - d)) (show 0 < 2 by decide)
                  exact IntWalk.wrap64_in m ⟨by omega, by omega⟩
                rw [← hm] at hxo
                have hne : (m != m) = false := by simp
                have e2 : (k : Int) < 9223372036854775807 := by omega
                clear h1 h2 h3 qa0 qa1 kb hm
                go_wp2
                exact ⟨⟨k + 1, by omega, by go_num, trivial⟩, by simp [intOf]; omega⟩
              · have hbo := bitOn_out at_ tn k (fun q => h3 q.2.2)
                rw [hbo] at hxo
                have g1 : decide (0 ≤ at_) = true := decide_eq_true h1
                have g2 : decide (at_ ≤ (k : Int)) = true := decide_eq_true h2
                have g3 : decide ((k : Int) - at_ < 32) = false := decide_eq_false (by omega)
                have hxo' : Go.bits .xor .i64 (b1.toNat : Int) (b2.toNat : Int) = 0 := hxo
                clear hbo hxo h3
                go_wp2
                exact ⟨⟨k + 1, by omega, by go_num, trivial⟩, by simp [intOf]; omega⟩
            · have hbo := bitOn_out at_ tn k (fun q => h2 q.2.1)
              rw [hbo] at hxo
              have g1 : decide (0 ≤ at_) = true := decide_eq_true h1
              have g2 : decide (at_ ≤ (k : Int)) = false := decide_eq_false h2
              have hxo' : Go.bits .xor .i64 (b1.toNat : Int) (b2.toNat : Int) = 0 := hxo
              clear hbo hxo h2
              go_wp2
              exact ⟨⟨k + 1, by omega, by go_num, trivial⟩, by simp [intOf]; omega⟩
          · have hbo := bitOn_out at_ tn k (fun q => h1 q.1)
            rw [hbo] at hxo
            have g1 : decide (0 ≤ at_) = false := decide_eq_false h1
            have hxo' : Go.bits .xor .i64 (b1.toNat : Int) (b2.toNat : Int) = 0 := hxo
            clear hbo hxo h1
            go_wp2
            exact ⟨⟨k + 1, by omega, by go_num, trivial⟩, by simp [intOf]; omega⟩
        · have hex : decide ((k : Int) < 8 * (t.length : Int)) = false := decide_eq_false (by omega)
          clear hc
          have C1 := hide ((unhide HK).append wr pe E st0 _ t ((unhide HK).keep _ _ (unhide HG) (unhide BW)) (unhide EW) (unhide YT) (by have := unhide TBB; show 0 + t.length ≤ _; omega))
          rw [show sApp st0 t = (⟨t, 0, false, 0⟩, 0) from rfl] at C1
          simp only [er] at C1
          go_wp2_with fail
          refine (unhide C1).mono ?_
          rintro e w11 ⟨E2, rfl, d11, m11⟩
          have B11 := hide (m11.below (unhide BW) (unhide GE) (unhide BW).size)
          have G11 := hide (m11.from (unhide GE) (unhide BW).size)
          have D11 := hide d11
          clear C1 d11 m11 EW BW YW YT
          have C2 := hide ((unhide HK).crash w11 pe E2 _ ((x.length : Int) + (t.length : Int)) at_ tn ((unhide HK).keep _ _ (unhide HG) (unhide B11)) (unhide D11) (by have := unhide TBB; show t.length ≤ _; omega) (by omega) (by have := unhide TBB; have := unhide LX; omega) (unhide HA0).1 (unhide HA0).2 (unhide HT))
          have hcr : sCrash ⟨t, 0, false, 0⟩ ((x.length : Int) + (t.length : Int)) at_ tn = ⟨y.take kp.toNat, (y.take kp.toNat).length, false, 0⟩ := by
            have := crash_tear [] t ((x.length : Int) + (t.length : Int)) at_ tn
            rw [List.take_of_length_le (by omega)] at this
            have e2 : tear at_ tn t = y.take kp.toNat := by rw [← unhide HTY]; rw [unhide HTY]; exact unhide TT
            rw [e2] at this
            exact this
          rw [hcr] at C2
          clear hcr
          go_wp2_with fail
          refine (unhide C2).mono ?_
          rintro e w12 ⟨E3, rfl, d12, m12⟩
          have B12 := hide (m12.below (unhide B11) (unhide G11) (unhide B11).size)
          have D12 := hide d12
          clear C2 d12 m12 D11 B11 G11
          have hyt : y.take t.length = y.take kp.toNat := by
            have := unhide TLN
            rw [this]
            rcases Nat.le_total kp.toNat y.length with q | q
            · rw [Nat.min_eq_left q]
            · rw [Nat.min_eq_right q, List.take_of_length_le (Nat.le_refl _), List.take_of_length_le q]
          obtain ⟨vz, sz, yz⟩ := ((unhide HY).keep (unhide B12)).h t.length (by have := unhide TLN; omega) (t.length : Int) rfl
          rw [hyt] at yz
          have hzl : (y.take kp.toNat).length = t.length := (unhide TL).symm
          obtain ⟨oz, cz, rfl⟩ : ∃ o c, vz = .slice o t.length c := by
            obtain ⟨o, c, e, _⟩ := yz.form
            exact ⟨o, c, by rw [e, hzl]⟩
          have ct1 : ∀ u : World, u.heap = w12.heap → (convert 27 9 (.slice oz t.length cz)).run Tryd.prog u = .ok (.string (str (y.take kp.toNat))) u := fun u hu => by
            refine by_str ?_
            obtain ⟨q0, oa, c, q1, q2, q3, q4, q5⟩ := yz
            exact ⟨q0, oa, c, q1, q2, q3, q4, fun a ha j v hv => by rw [World.cell?_of_block (w := w12) (by rw [hu])]; exact q5 a ha j v hv⟩
          have CB : Hid (∀ u, Below w12.heap.size w12 u → Calls Tryd.prog 11 #[.pointer (some pe)] u fun e w' => ∃ v, e = .returned v ∧ OY w' u.heap.size v (y.take kp.toNat) ∧ Below u.heap.size u w') := fun u hu =>
            (unhide HK).bytes u pe E3 _ ((unhide HK).keep _ _ (unhide HG) ((unhide B12).trans (hu.mono (unhide B12).size))) (dq (unhide HK) (unhide D12) hu) (by show (y.take kp.toNat).length ≤ _; have := unhide TBB; omega)
          have YZ := hide yz
          clear yz hyt
          have cvt : ∀ (u13 : World) (v13 : Value) (l13 : List UInt8), BY u13 v13 l13 → ∀ u : World, u.heap = u13.heap → (convert 27 9 v13).run Tryd.prog u = .ok (.string (str l13)) u := fun u13 v13 l13 hy u hu => by
            refine by_str ?_
            obtain ⟨q0, oa, c, q1, q2, q3, q4, q5⟩ := hy
            exact ⟨q0, oa, c, q1, q2, q3, q4, fun a ha j v hv => by rw [World.cell?_of_block (w := u13) (by rw [hu])]; exact q5 a ha j v hv⟩
          have CVT := hide cvt
          clear cvt
          go_upto_region 31 with fail
          clear hwr h8 st hex
          have HZL := hide hzl
          clear hzl
          have hT : ∀ u : World, BY u (.slice oz t.length cz) (y.take kp.toNat) → (convert 27 9 (.slice oz t.length cz)).run Tryd.prog u = .ok (.string (str (y.take kp.toNat))) u := fun u hu => by_str hu
          have hS0 : BY w12 (.slice oz t.length cz) (y.take kp.toNat) := unhide YZ
          have hsum := unhide HZL
          clear hsum
          clear ct1
          go_region_held_law (fun u => BY u (.slice oz t.length cz) (y.take kp.toNat)) (first | exact hS0 | exact hS13) (first
            | (go_at_call 11; refine (unhide CB _ (by first | exact (Below.refl _ _).drew | exact (Below.refl _ _).drew.drew | exact (Below.refl _ _).drew.drew.drew | exact mm.below_drewN _ _ _)).mono ?_; rintro e u13 ⟨v13, rfl, o13, b13⟩; obtain ⟨o', c', e'⟩ : ∃ o c, v13 = .slice o t.length c := (by obtain ⟨o, c, e, _⟩ := o13.by.form; exact ⟨o, c, by rw [e, unhide HZL]⟩); subst e'; have hS13 : BY u13 (.slice oz t.length cz) (y.take kp.toNat) := SV.keep (show BY w12.drew (.slice oz t.length cz) (y.take kp.toNat) from hS0) b13; have cb1 : (convert 27 9 (.slice o' t.length c')).run Tryd.prog u13 = .ok (.string (str (y.take kp.toNat))) u13 := by_str o13.by; have B13 := hide (show Below w.heap.size w u13 from (unhide B12).trans (Below.mono (Below.trans (Below.drew (Below.refl w12.heap.size w12)) b13) (unhide B12).size)); clear o13 b13))
          go_wp2
          go_ret
          exact ⟨rfl, unhide B13⟩
end Go.Proofs.YtbcclolhfogpnaaDoor.dk
