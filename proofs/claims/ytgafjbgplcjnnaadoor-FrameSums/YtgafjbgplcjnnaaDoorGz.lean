/- FrameSums, over the calls' contracts. -/
import Derived.Test.YtgafjbgplcjnnaaDoorGy
import Derived.Deep.RegionHeldLaw
import Derived.Deep.RegionHeld3
namespace Go.Proofs.YtgafjbgplcjnnaaDoor.fr
open Go.RowKit Go.Joins

set_option maxRecDepth 100000 in
set_option maxHeartbeats 3200000 in
theorem sums_any {a : Addr} {G : World → Prop} (K : FrameOK a G) (la lb lc : List UInt8) (xa xb xc : Value) (w : World) (hG : G w) (ha : BS w xa la) (hb : BS w xb lb) (hc : BS w xc lc) :
    Calls Tryd.prog 7 #[xa, xb, xc] w fun e w' => e = .returned (.bool true) ∧ Below w.heap.size w w' := by
  have HK := hide K
  have HG := hide hG
  have HA := hide ha
  have HB := hide hb
  have HC := hide hc
  obtain ⟨oa, ca, rfl, a1, a2, _⟩ := ha
  obtain ⟨ob, cb, rfl, b1, b2, _⟩ := hb
  obtain ⟨oc, cc, rfl, c1, c2, _⟩ := hc
  clear K hG
  obtain ⟨n, hn⟩ : ∃ n, n = min (min la.length lb.length) lc.length := ⟨_, rfl⟩
  have na : n ≤ la.length := by omega
  have nb : n ≤ lb.length := by omega
  have nc : n ≤ lc.length := by omega
  go_enter Tryd.func7, Tryd.ntmps7
  go_upto_if 24 with fail
  go_cut [7] from 19 (fun s7 wx => s7 = .int .i64 ((min la.length lb.length : Nat) : Int) ∧ wx = w)
  case first =>
    by_cases q : lb.length < la.length
    · have q1 : (lb.length : Int) < (la.length : Int) := by omega
      go_wp2_with fail
      go_meet
      exact ⟨by rw [show min la.length lb.length = lb.length by omega], rfl⟩
    · have q1 : ¬ (lb.length : Int) < (la.length : Int) := by omega
      go_wp2_with fail
      go_meet
      exact ⟨by rw [show min la.length lb.length = la.length by omega], rfl⟩
  case rest =>
    obtain ⟨rfl, hw⟩ := hcut
    obtain rfl := hw.symm
    obtain ⟨m, hm⟩ : ∃ m, m = min la.length lb.length := ⟨_, rfl⟩
    rw [← hm] at hn ⊢
    go_upto_if 30 with fail
    go_cut [7] from 19 (fun s7 wx => s7 = .int .i64 (n : Int) ∧ wx = w)
    case first =>
      by_cases q : lc.length < m
      · have q1 : (lc.length : Int) < (m : Int) := by omega
        go_wp2_with fail
        go_meet
        exact ⟨by rw [show n = lc.length by omega], rfl⟩
      · have q1 : ¬ (lc.length : Int) < (m : Int) := by omega
        go_wp2_with fail
        go_meet
        exact ⟨by rw [show n = m by omega, hm], rfl⟩
    case rest =>
      obtain ⟨rfl, hw⟩ := hcut
      obtain rfl := hw.symm
      clear hm hn m
      by_cases hlong : 134217728 ≤ n
      · have hl' : (134217728 : Int) ≤ (n : Int) := by omega
        go_wp2
        go_ret
        exact ⟨rfl, Below.refl _ _⟩
      · have hl' : ¬ (134217728 : Int) ≤ (n : Int) := by omega
        have C1 := hide (awake_any (unhide HK) w (unhide HG))
        go_wp2_with fail
        refine (unhide C1).mono ?_
        rintro e w1 ⟨rfl, b1'⟩
        have B1 := hide b1'
        clear C1 b1'
        obtain ⟨L, hL⟩ : ∃ L, Xor3 la lb lc L n := ⟨_, xor3 la lb lc n na nb nc⟩
        have HX := hide hL
        have hLl := hL.len
        clear hL
        have O0 : Hid (OB w1 w.heap.size (.slice none 0 0) (L.take 0)) := OB.nil _ _
        go_wp2
        go_loopw [9, 10] (fun sv iv wr => ∃ (i : Nat) (oo : Option Addr) (nn cv : Nat), i ≤ n ∧ iv = .int .i64 (i : Int) ∧ sv = .slice oo nn cv ∧ Hid (OB wr w.heap.size (.slice oo nn cv) (L.take i)) ∧ Hid (Below w.heap.size w wr)) (fun _ iv _ => n - (intOf iv).toNat)
        case atStart => exact ⟨0, none, 0, 0, by omega, rfl, rfl, O0, B1⟩
        case round =>
          obtain ⟨i, oo, nn, cv, hi, rfl, rfl, hO, hB⟩ := hrel
          clear O0
          by_cases hlt : i < n
          · have e1 : (i : Int) < (n : Int) := by omega
            have ea1 : (i : Int) < (la.length : Int) := by omega
            have eb1 : (i : Int) < (lb.length : Int) := by omega
            have ec1 : (i : Int) < (lc.length : Int) := by omega
            have e0 : (0 : Int) ≤ (i : Int) := by omega
            obtain ⟨aa, ca', ea, hca⟩ := ((unhide HA).keep (unhide hB)).getx (by omega)
            cases ea
            obtain ⟨ab, cb', eb, hcb⟩ := ((unhide HB).keep (unhide hB)).getx (by omega)
            cases eb
            obtain ⟨ac, cc', ec, hcc⟩ := ((unhide HC).keep (unhide hB)).getx (by omega)
            cases ec
            obtain ⟨x, hx⟩ : ∃ x, la[i]? = some x := ⟨_, List.getElem?_eq_getElem (by omega)⟩
            obtain ⟨y, hy⟩ : ∃ x, lb[i]? = some x := ⟨_, List.getElem?_eq_getElem (by omega)⟩
            obtain ⟨z, hz⟩ : ∃ x, lc[i]? = some x := ⟨_, List.getElem?_eq_getElem (by omega)⟩
            have cx := hca i x hx
            have cy := hcb i y hy
            have cz := hcc i z hz
            have hx1 := xor8 x y
            have hx2 := xor8 (x ^^^ y) z
            have HLt := hide (show L.take (i + 1) = L.take i ++ [(x ^^^ y) ^^^ z] by rw [List.take_add_one, (unhide HX).at_ i x y z hlt hx hy hz]; rfl)
            generalize (x ^^^ y) ^^^ z = ch at hx2 HLt
            generalize x ^^^ y = xy at hx1 hx2
            have hbd : Hid ((L.take i).length + 1 ≤ 70000000000001) := by
              show (L.take i).length + 1 ≤ 70000000000001
              rw [List.length_take]; omega
            have hBw := hide (unhide hB).size
            have HW1 : Hid (Below wr.heap.size wr (wr.drew.alloc (.cells #[.int .u8 (ch.toNat : Int)] 5))) := (Below.refl _ _).drew.alloc (Nat.le_refl _) _
            have HN2 : Hid ((wr.drew.alloc (.cells #[.int .u8 (ch.toNat : Int)] 5)).heap[wr.heap.size]? = some (.cells #[vb ch] 5 (0, 0))) := Array.getElem?_push_size
            have hz1 : (wr.drew.alloc (.cells #[.int .u8 (ch.toNat : Int)] 5)).heap.size = wr.heap.size + 1 := World.size_alloc _ _
            clear hca hcb hcc hx hy hz
            go_wp2_with fail
            go_region_law ((refine step_app w.heap.size wr _ _ _ ch (.tmp 41) (.tmp 56) (by rfl) (by rfl) (by rfl) (by rfl) hO hbd hBw (by exact HW1) (by exact hz1) (by exact HN2) ?_
                            intro g' n' cap' w2 HO2 HB2))
            all_goals have HO3 := hide (show OB w2 w.heap.size (.slice (some ⟨g', 0, none⟩) n' cap') (L.take (i + 1)) by rw [unhide HLt]; exact unhide HO2)
            all_goals have HB3 := hide ((unhide hB).trans (unhide HB2))
            all_goals clear HO2 HB2 HW1 HN2 hz1 hbd hBw cx cy cz hx1 hx2 HLt hO hB
            all_goals go_wp2
            all_goals exact ⟨⟨i + 1, _, _, _, by omega, by go_num, rfl, HO3, HB3⟩, by simp [intOf]; omega⟩
          · obtain rfl := (show n = i by omega)
            have hO2 : Hid (OB wr w.heap.size (.slice oo nn cv) L) := by
              have := unhide hO
              rwa [List.take_of_length_le (by omega)] at this
            clear hO
            obtain ⟨sa, ra, sA⟩ := ((unhide HA).keep (unhide hB)).h n na (n : Int) rfl
            obtain ⟨sb, rb, sB⟩ := ((unhide HB).keep (unhide hB)).h n nb (n : Int) rfl
            obtain ⟨sc, rc, sC⟩ := ((unhide HC).keep (unhide hB)).h n nc (n : Int) rfl
            obtain ⟨sm, ⟨m1, m2, m3⟩, hsm⟩ := three_sums (unhide HK) wr ((unhide HK).keep _ _ (unhide HG) (unhide hB)) sa sb sc _ _ _ sA sB sC (by rw [List.length_take]; omega) (by rw [List.length_take]; omega) (by rw [List.length_take]; omega)
            have HSM := hide hsm
            have hcr : crc L = (sm sa ^^^ sm sb) ^^^ sm sc := by rw [(unhide HX).sum, m1, m2, m3]
            have hs1 := xor32 (sm sa) (sm sb)
            have hs2 := xor32 (sm sa ^^^ sm sb) (sm sc)
            generalize (sm sa ^^^ sm sb) ^^^ sm sc = s3 at hcr hs2
            generalize sm sa ^^^ sm sb = s2 at hs1 hs2
            have HCR := hide hcr
            have HOL := hide (unhide hO2).lt
            clear sA sB sC m1 m2 m3 hsm HX hcr
            go_upto_region 14 with fail
            go_cut [11] from 36 (fun s11 wx => s11 = .int .u32 (s3.toNat : Int) ∧ Below wr.heap.size wr wx)
            case first =>
              have hr0 : Below wr.heap.size wr wr.drew := ⟨rfl, rfl, rfl, Nat.le_refl _, fun _ _ => rfl⟩
              go_region_held3 (fun w' => Below wr.heap.size wr w') (first | assumption | exact hr0) (first
                | (go_at_call 10; refine (unhide HSM _ _ (by first | exact Or.inl rfl | exact Or.inr (Or.inl rfl) | exact Or.inr (Or.inr rfl)) (by assumption)).mono ?_; rintro e u2 ⟨rfl, hb2⟩))
              all_goals go_wp2_with fail
              all_goals go_meet
              all_goals exact ⟨by first | rfl | (rw [hs2]), by assumption⟩
            case rest =>
              obtain ⟨rfl, hbc⟩ := hcut
              have B2 := hide ((unhide hB).trans (hbc.mono (unhide hB).size))
              have O2 := hide ((unhide hO2).keep hbc (unhide HOL))
              clear hbc HSM hs1 hs2 ra rb rc hB hO2 HOL
              have C2 := hide ((unhide HK).sum L _ wc ((unhide HK).keep _ _ (unhide HG) (unhide B2)) (unhide O2).bs (by omega))
              rw [unhide HCR] at C2
              go_wp2_with fail
              refine (unhide C2).mono ?_
              rintro e w3 ⟨rfl, b3⟩
              have B3 := hide ((unhide B2).trans (b3.mono (unhide B2).size))
              have O3 := hide ((unhide O2).keep b3 (unhide O2).lt)
              clear C2 b3 O2 B2
              by_cases hbig : 4194304 < n
              · have C4 := hide ((unhide HK).long L _ w3 ((unhide HK).keep _ _ (unhide HG) (unhide B3)) (unhide O3).bs (by omega) (by omega))
                simp only [eL] at C4
                have q1 : (4194304 : Int) < (n : Int) := by omega
                go_wp2_with fail
                refine (unhide C4).mono ?_
                rintro e w4 ⟨r4, rfl, o4, b4⟩
                have B4 := hide ((unhide B3).trans (b4.mono (unhide B3).size))
                have S4 := (unhide HK).sent w4 ((unhide HK).keep _ _ (unhide HG) (unhide B4))
                have s4 := S4.n
                have q4 := eql_same w4 a
                clear C4 o4 b4 S4
                go_wp2
                go_ret
                exact ⟨rfl, unhide B4⟩
              · have q1 : decide ((4194304 : Int) < (n : Int)) = false := decide_eq_false (by omega)
                have C4 := hide ((unhide HK).wrap L _ w3 ((unhide HK).keep _ _ (unhide HG) (unhide B3)) (unhide O3).bs (by omega))
                go_wp2_with fail
                refine (unhide C4).mono ?_
                rintro e w4 ⟨r4, rfl, o4, b4⟩
                have B4 := hide ((unhide B3).trans (b4.mono (unhide B3).size))
                have K4 := hide ((unhide O3).keep b4 (unhide O3).lt)
                have hfl : (frm L).length = n + 12 := by rw [frm_length, hLl]
                obtain ⟨of, cf, ef⟩ := o4.form
                rw [hfl] at ef
                subst ef
                have O4 := hide o4
                obtain ⟨sf, rf, sF⟩ := o4.bs.lh 8 (n + 8) (by omega) (by omega) (8 : Int) ((n : Int) + 8) rfl (by omega)
                clear C4 o4 b4
                rw [show n + 8 = L.length + 8 by omega, frm_mid] at sF
                have C5 := hide (equal_any L L sf _ w4 sF (unhide K4).bs)
                rw [decide_eq_true rfl] at C5
                obtain ⟨h0, h1, h2, h3, p0, p1, p2, p3, t0, t1, t2, t3, hP⟩ := parts L
                rw [hLl] at hP
                obtain ⟨af, cf', ef, hcf⟩ := (unhide O4).bs.getx (by omega)
                rw [hfl] at ef
                cases ef
                have x0 : w4.cell? af = some (.int .u8 (h0.toNat : Int)) := hcf 0 h0 hP.a0
                have x1 : w4.cell? ⟨af.block, af.off + 1, none⟩ = some (.int .u8 (h1.toNat : Int)) := hcf 1 h1 hP.a1
                have x2 : w4.cell? ⟨af.block, af.off + 2, none⟩ = some (.int .u8 (h2.toNat : Int)) := hcf 2 h2 hP.a2
                have x3 : w4.cell? ⟨af.block, af.off + 3, none⟩ = some (.int .u8 (h3.toNat : Int)) := hcf 3 h3 hP.a3
                have y0 : w4.cell? ⟨af.block, af.off + 4, none⟩ = some (.int .u8 (p0.toNat : Int)) := hcf 4 p0 hP.b0
                have y1 : w4.cell? ⟨af.block, af.off + 5, none⟩ = some (.int .u8 (p1.toNat : Int)) := hcf 5 p1 hP.b1
                have y2 : w4.cell? ⟨af.block, af.off + 6, none⟩ = some (.int .u8 (p2.toNat : Int)) := hcf 6 p2 hP.b2
                have y3 : w4.cell? ⟨af.block, af.off + 7, none⟩ = some (.int .u8 (p3.toNat : Int)) := hcf 7 p3 hP.b3
                have z0 := off_at (hcf (n + 8) t0 hP.c0) (by omega)
                have z1 := off_at (hcf (n + 9) t1 hP.c1) (by omega)
                have z2 := off_at (hcf (n + 10) t2 hP.c2) (by omega)
                have z3 := off_at (hcf (n + 11) t3 hP.c3) (by omega)
                have HP := hide hP
                clear hcf hP sF
                go_wp2_with fail
                refine (unhide C5).mono ?_
                rintro e w5 ⟨rfl, hw5⟩
                obtain rfl := hw5.symm
                clear C5
                go_upto_region 23 with fail
                obtain ⟨m, hm⟩ : ∃ m, m = n + 12 := ⟨_, rfl⟩
                rw [← hm]
                have HM := hide hm
                have i0 : (0 : Int) < (m : Int) := by omega
                have j0 : 0 < m := by omega
                have i1 : (1 : Int) < (m : Int) := by omega
                have j1 : 1 < m := by omega
                have i2 : (2 : Int) < (m : Int) := by omega
                have j2 : 2 < m := by omega
                have i3 : (3 : Int) < (m : Int) := by omega
                have j3 : 3 < m := by omega
                have i4 : (4 : Int) < (m : Int) := by omega
                have j4 : 4 < m := by omega
                have i5 : (5 : Int) < (m : Int) := by omega
                have j5 : 5 < m := by omega
                have i6 : (6 : Int) < (m : Int) := by omega
                have j6 : 6 < m := by omega
                have i7 : (7 : Int) < (m : Int) := by omega
                have j7 : 7 < m := by omega
                clear hm
                go_quiet (fail)
                rw [or4 h0 h1 h2 h3, (unhide HP).na]
                clear x0 x1 x2 x3
                go_upto_region 24 with fail
                go_quiet (fail)
                rw [or4 p0 p1 p2 p3, (unhide HP).nb]
                clear y0 y1 y2 y3
                have k8 : (n : Int) + 8 < (m : Int) := by have := unhide HM; omega
                have k9 : (n : Int) + 9 < (m : Int) := by have := unhide HM; omega
                have k10 : (n : Int) + 10 < (m : Int) := by have := unhide HM; omega
                have k11 : (n : Int) + 11 < (m : Int) := by have := unhide HM; omega
                have l8 : n + 8 < m := by omega
                have l9 : n + 9 < m := by omega
                have l10 : n + 10 < m := by omega
                have l11 : n + 11 < m := by omega
                have ww8 : IntKind.i64.wrap ((n : Int) + 8) = (n : Int) + 8 := IntWalk.i64_in _ ⟨by omega, by omega⟩
                have gg8 : (0 : Int) ≤ (n : Int) + 8 := by omega
                have tt8 : ((n : Int) + 8).toNat = n + 8 := by omega
                have ww9 : IntKind.i64.wrap ((n : Int) + 9) = (n : Int) + 9 := IntWalk.i64_in _ ⟨by omega, by omega⟩
                have gg9 : (0 : Int) ≤ (n : Int) + 9 := by omega
                have tt9 : ((n : Int) + 9).toNat = n + 9 := by omega
                have ww10 : IntKind.i64.wrap ((n : Int) + 10) = (n : Int) + 10 := IntWalk.i64_in _ ⟨by omega, by omega⟩
                have gg10 : (0 : Int) ≤ (n : Int) + 10 := by omega
                have tt10 : ((n : Int) + 10).toNat = n + 10 := by omega
                have ww11 : IntKind.i64.wrap ((n : Int) + 11) = (n : Int) + 11 := IntWalk.i64_in _ ⟨by omega, by omega⟩
                have gg11 : (0 : Int) ≤ (n : Int) + 11 := by omega
                have tt11 : ((n : Int) + 11).toNat = n + 11 := by omega
                go_upto_region 25 with fail
                go_quiet (fail)
                rw [or4 t0 t1 t2 t3, (unhide HP).nc, unhide HCR, ofNat_len n (by omega)]
                obtain ⟨s4, r4, sF4⟩ := (unhide O4).bs.h 4 (by omega) (4 : Int) rfl
                rw [(unhide HP).hd] at sF4
                rw [← unhide HM] at r4
                have C6 : Hid (∀ u, Below w4.heap.size w4 u → Calls Tryd.prog 10 #[s4] u fun e u' => e = .returned (.int .u32 ((crc (four (BitVec.ofNat 32 n))).toNat : Int)) ∧ Below w.heap.size w u') := fun u hu =>
                  ((unhide HK).sum _ s4 u ((unhide HK).keep _ _ ((unhide HK).keep _ _ (unhide HG) (unhide B4)) hu) (sF4.keep hu) (by rw [four_length]; omega)).mono fun e u' ⟨q1, q2⟩ => ⟨q1, ((unhide B4).trans (hu.mono (unhide B4).size)).trans (q2.mono (Nat.le_trans (unhide B4).size hu.size))⟩
                have hmod : (n : Int) % 4294967296 = (n : Int) := by omega
                clear z0 z1 z2 z3 HP sF4
                generalize (crc (four (BitVec.ofNat 32 n))).toNat = sh at *
                go_wp2_with fail
                refine (unhide C6 (w4.drewN _) ⟨rfl, rfl, rfl, Nat.le_refl _, fun _ _ => rfl⟩).mono ?_
                rintro e w6 ⟨rfl, b6⟩
                have B6 := hide b6
                clear C6 b6
                go_wp2
                go_ret
                exact ⟨rfl, unhide B6⟩
end Go.Proofs.YtgafjbgplcjnnaaDoor.fr
