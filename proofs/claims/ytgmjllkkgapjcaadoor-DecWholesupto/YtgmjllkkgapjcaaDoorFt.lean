/- The contract of the reference's Floor. -/
import Derived.Test.YtgmjllkkgapjcaaDoorFs
import Derived.Deep.CutBlock
namespace Go.Proofs.YtgmjllkkgapjcaaDoor.rd
open Go.RowKit

theorem drop_le {l : List Int} (hd : Dig10 l) (k : Nat) : 0 ≤ valL (l.drop k) ∧ valL (l.drop k) ≤ valL l := by
  have h1 := valL_nonneg (hd.drop k)
  refine ⟨h1, ?_⟩
  rcases Nat.lt_or_ge k l.length with h | h
  · have h2 := split_val l k (by omega)
    have h3 := valL_nonneg (hd.take k)
    have h4 : (0 : Int) < 10 ^ k := Int.pow_pos (by omega)
    have h5 : 1 * valL (l.drop k) ≤ 10 ^ k * valL (l.drop k) := Int.mul_le_mul_of_nonneg_right (by omega) h1
    omega
  · rw [List.drop_eq_nil_of_le h]
    exact valL_nonneg hd

set_option maxRecDepth 100000 in
set_option maxHeartbeats 6400000 in
theorem rfloor_any (d : Dn) (w : World) (hs : d.dg.size ≤ 1048576) (h0 : -9223372036854775808 ≤ d.ex) (h1 : d.ex ≤ 9223372036854775807) :
    Calls Tryd.prog 22 #[dv d] w fun e w' => e = .returned (.tuple #[.int .i64 (flo (norm d)).1, .bool (flo (norm d)).2]) ∧ Below w.heap.size w w' := by
  have c1 := fun w => rnorm_any d w (by omega) h0 h1
  have hw := norm_formed d
  obtain ⟨g1, g2, g3, g4⟩ := norm_good d
  obtain ⟨dn, dg, dx⟩ := d
  generalize norm ⟨dn, dg, dx⟩ = n at *
  simp only at g1 hs
  have E0 := hide (fun w => ends_any w)
  have k1 := fun w => rcmp_any n topD w (by omega) (by decide) (by omega) (by omega) (by decide) (by decide)
  rw [Whole1.norm_id hw, norm_top] at k1
  have L0 := hide (fun w => lined_any n 0 w (by omega) (by omega) (by omega) (by omega) (by omega))
  have hlen : (linedN n 0).length ≤ 2000000 := by have := linedN_len n 0; omega
  have hdig := linedN_dig n 0
  have hge := fun (h : 0 ≤ n.ex) => lined_whole n g4 h
  have hlt : n.ex < 0 → valL ((linedN n 0).drop (-n.ex).toNat) = wsize n ∧ 0 < (linedN n 0).length ∧ 0 < (linedN n 0).getD 0 0 := fun h => by
    rcases hw with hz | hf
    · rw [hz] at h; exact absurd h (by decide)
    · exact ⟨lined_drop n g4 h, lined_first n hf h⟩
  have CT := hide (fun (h : 0 ≤ n.ex) => cmp_top n hw h)
  have HF := hide (flo_of n)
  have HB : Hid (bump n = if n.neg = true ∧ n.ex < 0 then wsize n + 1 else wsize n) := rfl
  have K2 := hide (fun (neg : Bool) (l : List Int) (hd : Dig10 l) (hl : l.length ≤ 19) w => (show Calls Tryd.prog 17 #[dv (told neg l 0).1, dv lowD] w fun e w' => e = .returned (.int .i64 (refCmp (told neg l 0).1 lowD)) ∧ Below w.heap.size w w' by
    have h1 := (told_short neg l hd hl).1
    have h2 := told_size neg l 0
    have h3 := h1.exbd
    have h := rcmp_any (told neg l 0).1 lowD w (by omega) (by decide) (by omega) (by omega) (by decide) (by decide)
    rw [h1.norm_id, norm_low] at h
    exact h))
  have K3 := hide (fun (neg : Bool) (l : List Int) (hd : Dig10 l) (hl : l.length ≤ 19) w => (show Calls Tryd.prog 17 #[dv (told neg l 0).1, dv topD] w fun e w' => e = .returned (.int .i64 (refCmp (told neg l 0).1 topD)) ∧ Below w.heap.size w w' by
    have h1 := (told_short neg l hd hl).1
    have h2 := told_size neg l 0
    have h3 := h1.exbd
    have h := rcmp_any (told neg l 0).1 topD w (by omega) (by decide) (by omega) (by omega) (by decide) (by decide)
    rw [h1.norm_id, norm_top] at h
    exact h))
  have CC := hide (fun neg l hd hl => cmp_told neg l hd hl)
  generalize flo n = res at *
  generalize refCmp n topD = r1 at *
  generalize lowD = L at *
  generalize topD = T at *
  generalize linedN n 0 = ls at *
  generalize wsize n = ws at *
  generalize bump n = bm at *
  obtain ⟨nn, ng, nx⟩ := n
  obtain ⟨Ln, Lg, Lx⟩ := L
  obtain ⟨Tn, Tg, Tx⟩ := T
  simp only [dv] at c1 k1 E0 L0 ⊢
  simp only at CT HF HB hge hlt
  have C1 := hide c1
  have K1 := hide k1
  have HGE := hide hge
  have HLT := hide hlt
  have HDIG := hide hdig
  clear c1 k1 hw g1 g4 hge hlt hdig h0 h1 hs
  go_enter Tryd.func22, Tryd.ntmps22
  go_wp2_with fail
  refine (unhide C1 _).mono ?_
  rintro e u1 ⟨rfl, hb1⟩
  have B1 : Below w.heap.size w u1 := ((Below.refl _ _).alloc (Nat.le_refl _) _).trans (hb1.mono (by simp))
  have l1 : DLies (u1.alloc (.cells #[.bool nn, .string ng, .int .i64 nx] 23)) u1.heap.size ⟨nn, ng, nx⟩ := dlies_new u1 ⟨nn, ng, nx⟩
  have B1' : Below w.heap.size w (u1.alloc (.cells #[.bool nn, .string ng, .int .i64 nx] 23)) := B1.alloc B1.size _
  clear hb1 C1
  go_wp2_with fail
  refine (unhide E0 _).mono ?_
  rintro e u2 ⟨rfl, hb2⟩
  have l2 := l1.below hb2 (blk_lt l1)
  have B2 : Below w.heap.size w u2 := B1'.trans (hb2.mono B1'.size)
  have hF0 : FlW w ((u2.alloc (.cells #[.bool Ln, .string Lg, .int .i64 Lx] 23)).alloc (.cells #[.bool Tn, .string Tg, .int .i64 Tx] 23)) u1.heap.size u2.heap.size (u2.heap.size + 1) ⟨nn, ng, nx⟩ ⟨Ln, Lg, Lx⟩ ⟨Tn, Tg, Tx⟩ := by
    have hP := PairW.start u2 ⟨Ln, Lg, Lx⟩ ⟨Tn, Tg, Tx⟩
    exact ⟨(l2.alloc _).alloc _, hP.a, hP.b, (B2.alloc B2.size _).alloc ((B2.alloc B2.size _).size) _⟩
  have z12 : u1.heap.size < u2.heap.size := blk_lt l2
  obtain ⟨x0, x1, x2⟩ := l2.cells
  simp only at x0 x1 x2
  clear hb2 E0 l1 B1 B1' l2 B2
  obtain ⟨bad, hbad⟩ : ∃ b, b = decide (0 < r1 ∧ 0 ≤ nx) := ⟨_, rfl⟩
  go_upto_region 3 with fail
  go_cut [28] from 14 (fun s28 wx => s28 = .bool bad ∧ FlW w wx u1.heap.size u2.heap.size (u2.heap.size + 1) ⟨nn, ng, nx⟩ ⟨Ln, Lg, Lx⟩ ⟨Tn, Tg, Tx⟩)
  case first =>
    by_cases h1 : 0 < r1
    · by_cases h2 : 0 ≤ nx
      · have hbt : bad = true := by rw [hbad]; simp [h1, h2]
        go_wp2_with fail
        refine (unhide K1 _).mono ?_
        rintro e u3 ⟨rfl, hb3⟩
        have hF := hF0.call hb3
        clear x0 x1 x2
        obtain ⟨x0, x1, x2⟩ := hF.n.cells
        simp only at x0 x1 x2
        clear hb3
        go_wp2
        go_meet
        exact ⟨by rw [hbt], hF⟩
      · have hbt : bad = false := by rw [hbad]; simp [h2]
        go_wp2_with fail
        refine (unhide K1 _).mono ?_
        rintro e u3 ⟨rfl, hb3⟩
        have hF := hF0.call hb3
        clear x0 x1 x2
        obtain ⟨x0, x1, x2⟩ := hF.n.cells
        simp only at x0 x1 x2
        clear hb3
        go_wp2
        go_meet
        exact ⟨by rw [hbt]; simp [h2], hF⟩
    · have hbt : bad = false := by rw [hbad]; simp [h1]
      go_wp2_with fail
      refine (unhide K1 _).mono ?_
      rintro e u3 ⟨rfl, hb3⟩
      have hF := hF0.call hb3
      clear hb3
      go_wp2
      go_meet
      exact ⟨by rw [hbt], hF⟩
  case rest =>
    clear K1 hF0 x0 x1 x2
    obtain ⟨rfl, hF⟩ := hcut
    obtain ⟨x0, x1, x2⟩ := hF.n.cells
    simp only at x0 x1 x2
    cases bad with
    | true =>
      have hb : 0 < r1 ∧ 0 ≤ nx := of_decide_eq_true hbad.symm
      have hr : res = (0, false) := by
        have h1 := ((unhide CT) hb.2).1 hb.1
        have h2 : bm = ws := by rw [HB.out]; exact if_neg (fun q => by have := q.2; omega)
        rw [HF.out, h2]
        exact fitI_out _ (.inr h1)
      subst hr
      clear HF HB CT CC K2 K3 HGE HLT HDIG hbad
      go_wp2
      go_ret2
      exact ⟨rfl, hF.below⟩
    | false =>
      have hnb : ¬ (0 < r1 ∧ 0 ≤ nx) := fun q => by
        have := hbad.symm
        rw [decide_eq_true q] at this
        cases this
      have HNB := hide hnb
      clear hbad hnb
      go_wp2_with fail
      refine (unhide L0 _).mono ?_
      rintro e u4 ⟨v0, rfl, I0, hb4⟩
      have hF4 := hF.call hb4
      have J0 := hide I0
      clear hb4 hF L0 x0 x1 x2 I0
      obtain ⟨x0, x1, x2⟩ := hF4.n.cells
      simp only at x0 x1 x2
      go_upto_block 0 with fail
      go_cut [7, 8] from 14 (fun s7 s8 wx => (∃ zs, Hid (IntsO wx s7 zs) ∧ Hid (Dig10 zs) ∧ Hid (valL zs = ws) ∧ zs.length ≤ 2000000) ∧ s8 = .bool (decide (nx < 0)) ∧ FlW w wx u1.heap.size u2.heap.size (u2.heap.size + 1) ⟨nn, ng, nx⟩ ⟨Ln, Lg, Lx⟩ ⟨Tn, Tg, Tx⟩)
      case first =>
        by_cases hx : nx < 0
        · obtain ⟨hv1, hv2, hv3⟩ := unhide HLT hx
          go_wp2_with fail
          go_loopw [7, 8, 9] (fun v lf i wr => ∃ t : Nat, t ≤ (-nx).toNat ∧ i = .int .i64 (nx + t) ∧ lf = .bool (decide (0 < t)) ∧ Hid (IntsO wr v (ls.drop t)) ∧ FlW w wr u1.heap.size u2.heap.size (u2.heap.size + 1) ⟨nn, ng, nx⟩ ⟨Ln, Lg, Lx⟩ ⟨Tn, Tg, Tx⟩) (fun _ _ i _ => (- intOf i).toNat)
          case atStart => exact ⟨0, by omega, by simp, rfl, (unhide J0).any, hF4⟩
          case round =>
            obtain ⟨t, ht, rfl, rfl, hI, hFr⟩ := hrel
            by_cases hlt : nx + (t : Int) < 0
            · rcases unhide hI with ⟨rfl, hnil⟩ | ⟨g, o, cap, rfl, i2, i3, i4⟩
              · have hnx : ls.drop (t + 1) = [] := List.drop_eq_nil_of_le (by have := congrArg List.length hnil; rw [List.length_drop] at this; simp at this; omega)
                have ht0 : 0 < t := by
                  rcases Nat.eq_zero_or_pos t with h | h
                  · subst h; rw [List.drop_zero] at hnil; rw [hnil] at hv2; simp at hv2
                  · exact h
                have HNX := hide hnx
                clear hnil hnx
                go_wp2
                go_roundw
                case rel => exact ⟨t + 1, by omega, by go_num, by simp [ht0], .inl ⟨rfl, unhide HNX⟩, hFr⟩
                case measure => simp [intOf]; omega
              · generalize hlenT : (ls.drop t).length = m at *
                rcases Nat.eq_zero_or_pos m with hm | hm
                · subst hm
                  have hnx : ls.drop (t + 1) = [] := List.drop_eq_nil_of_le (by rw [List.length_drop] at hlenT; omega)
                  have ht0 : 0 < t := by
                    rcases Nat.eq_zero_or_pos t with h | h
                    · subst h; rw [List.drop_zero] at hlenT; omega
                    · exact h
                  have HI : Hid (IntsO wr (.slice (some ⟨g, o, none⟩) 0 cap) (ls.drop (t + 1))) := by
                    show IntsO _ _ _
                    rw [hnx]
                    exact .inr ⟨g, o, cap, rfl, by simp, i3, fun j hj => by simp at hj⟩
                  clear i4 hnx hI
                  go_wp2
                  go_roundw
                  case rel => exact ⟨t + 1, by omega, by go_num, by simp [ht0], HI, hFr⟩
                  case measure => simp [intOf]; omega
                · obtain ⟨n1, n2⟩ := IntsO.next hlenT.symm i3 i2 i4 hm
                  have N1 := hide n1
                  have N2 := hide n2
                  have hm' : (0 : Int) < (m : Int) := by omega
                  have hm1 : (1 : Int) ≤ (m : Int) := by omega
                  have q0 := i4 0 hm
                  rw [Nat.add_zero] at q0
                  clear n1 n2 i4 hI hlenT
                  have NX : Hid (IntsO wr (.slice (if cap = 1 then some ⟨g, o, none⟩ else some ⟨g, o + 1, none⟩) (m - 1) (cap - 1)) (ls.drop (t + 1))) := by
                    show IntsO _ _ _
                    by_cases hcap : cap = 1
                    · rw [if_pos hcap]; exact unhide N2 hcap
                    · rw [if_neg hcap]; exact unhide N1
                  clear N1 N2
                  rcases Nat.eq_zero_or_pos t with h0 | h0
                  · subst h0
                    rw [List.drop_zero] at q0
                    generalize ls.getD 0 0 = z at *
                    by_cases hcap : cap = 1
                    · subst hcap
                      obtain rfl : m = 1 := by omega
                      rw [if_pos rfl] at NX
                      go_wp2
                      go_roundw
                      case rel => exact ⟨1, by omega, by go_num, by simp, NX, hFr⟩
                      case measure => simp [intOf]; omega
                    · rw [if_neg hcap] at NX
                      go_wp2
                      go_roundw
                      case rel => exact ⟨1, by omega, by go_num, by simp, NX, hFr⟩
                      case measure => simp [intOf]; omega
                  · have hdt : decide (0 < t) = true := by simpa using h0
                    by_cases hcap : cap = 1
                    · subst hcap
                      obtain rfl : m = 1 := by omega
                      rw [if_pos rfl] at NX
                      go_wp2
                      go_roundw
                      case rel => exact ⟨t + 1, by omega, by go_num, by simp, NX, hFr⟩
                      case measure => simp [intOf]; omega
                    · rw [if_neg hcap] at NX
                      go_wp2
                      go_roundw
                      case rel => exact ⟨t + 1, by omega, by go_num, by simp, NX, hFr⟩
                      case measure => simp [intOf]; omega
            · have htk : t = (-nx).toNat := by omega
              have hV : Hid (valL (ls.drop t) = ws) := by show valL _ = _; rw [htk]; exact hv1
              have ht0 : decide (0 < t) = true := by simp; omega
              have hl2 : (ls.drop t).length ≤ 2000000 := by rw [List.length_drop]; omega
              have HDD := hide ((unhide HDIG).drop t)
              clear htk
              go_wp2
              go_meet
              exact ⟨⟨_, hI, HDD, hV, hl2⟩, by simp [hx], hFr⟩
        · have hV : Hid (valL ls = ws) := unhide HGE (by omega)
          have HI := hide (unhide J0).any
          go_wp2
          refine wp_loop_rounds 1 ?_
          rw [rounds_succ]
          go_wp2
          go_meet
          exact ⟨⟨ls, HI, HDIG, hV, hlen⟩, by simp [hx], hF4⟩
      case rest =>
        clear J0 HGE HLT HDIG x0 x1 x2 hF4
        obtain ⟨⟨zs, J1, D1, V1, hl1⟩, rfl, hF5⟩ := hcut
        obtain ⟨x0, x1, x2⟩ := hF5.n.cells
        simp only at x0 x1 x2
        obtain ⟨pb, hpb⟩ : ∃ b, b = (nn && decide (nx < 0)) := ⟨_, rfl⟩
        have HPB := hide hpb
        clear hpb
        go_upto_region 13 with fail
        go_cut [53] from 14 (fun s53 wx => s53 = .bool pb ∧ wx = wc)
        case first =>
          cases nn with
          | true =>
            have hq : pb = decide (nx < 0) := by rw [unhide HPB]; simp
            go_wp2
            go_meet
            exact ⟨by rw [hq], rfl⟩
          | false =>
            have hq : pb = false := by rw [unhide HPB]; simp
            go_wp2
            go_meet
            exact ⟨by rw [hq], rfl⟩
        case rest =>
          obtain ⟨rfl, rfl⟩ := hcut
          go_upto_if 53 with fail
          go_cut [7] from 14 (fun s7 wx => (∃ zs', Hid (IntsO wx s7 zs') ∧ Hid (Dig10 zs') ∧ Hid (valL zs' = bm) ∧ zs'.length ≤ 3000000) ∧ FlW w wx u1.heap.size u2.heap.size (u2.heap.size + 1) ⟨nn, ng, nx⟩ ⟨Ln, Lg, Lx⟩ ⟨Tn, Tg, Tx⟩)
          case first =>
            cases pb with
            | true =>
              have hq := (unhide HPB).symm
              rw [Bool.and_eq_true] at hq
              have hbm : bm = ws + 1 := by rw [HB.out]; exact if_pos ⟨hq.1, of_decide_eq_true hq.2⟩
              have HBM := hide hbm
              clear hq hbm HB HF HPB
              go_wp2_with fail
              refine (plus_off _ _ zs [1] _ ((unhide J1).alloc _) (one_ints _) (unhide D1) (fun z hz => by simp at hz; omega) (by omega) (by simp)).mono ?_
              rintro e u6 ⟨v2, z2, rfl, I2, Dz, Vz, Lz, hb6⟩
              have hF6 := (hF5.alloc (.cells #[.int .i64 1] 3)).call hb6
              have J2 := hide I2.any
              have D2 := hide Dz
              have V2 : Hid (valL z2 = bm) := by
                show valL z2 = _
                rw [Vz, unhide V1, unhide HBM]
                rfl
              have L2 : z2.length ≤ 3000000 := by
                have : [(1 : Int)].length = 1 := rfl
                omega
              clear I2 Dz Vz Lz hb6
              go_wp2
              go_meet
              exact ⟨⟨z2, J2, D2, V2, L2⟩, hF6⟩
            | false =>
              have hbm : bm = ws := by
                rw [HB.out]
                apply if_neg
                rintro ⟨h1, h2⟩
                have := unhide HPB
                rw [h1, decide_eq_true h2] at this
                cases this
              have V2 : Hid (valL zs = bm) := by show valL zs = _; rw [unhide V1, hbm]
              clear hbm HB HF HPB
              go_wp2
              go_meet
              exact ⟨⟨zs, J1, D1, V2, by omega⟩, hF5⟩
          case rest =>
            clear J1 D1 V1 hl1 HB HPB x0 x1 x2 hF5
            obtain ⟨⟨z3, J3, D3, V3, hl3⟩, hF6⟩ := hcut
            obtain ⟨x0, x1, x2⟩ := hF6.n.cells
            simp only at x0 x1 x2
            go_wp2_with fail
            refine (cut_anyO _ z3 _ (unhide J3)).mono ?_
            rintro e u7 ⟨cu, rfl, Ic, hu7⟩
            obtain rfl := hu7.symm
            have Du := hide (unhide D3).cut
            have Vu : Hid (valL (cutN z3) = bm) := by show valL _ = _; rw [valL_cutN]; exact unhide V3
            have hlong := fun h => cut_long (unhide D3) h
            rw [unhide V3] at hlong
            have hlu : (cutN z3).length ≤ 3000000 := by have := cutN_len z3; omega
            have JU := hide Ic
            clear D3 V3 J3 hu7 Ic
            generalize cutN z3 = us at *
            obtain ⟨ou, cp, hcu, fu1, fu2, fu3⟩ := (unhide JU).form
            subst hcu
            have FU := hide fu3
            clear fu3
            by_cases hL : 19 < us.length
            · have hr : res = (0, false) := by
                have hb := hlong hL
                rw [HF.out]
                apply fitI_out
                unfold sgn
                cases nn
                · simp only [Bool.false_eq_true, if_false]; omega
                · simp only [if_true]; omega
              subst hr
              have hL' : (19 : Int) < (us.length : Int) := by omega
              clear HF hlong
              go_wp2
              go_ret2
              exact ⟨rfl, hF6.below⟩
            · have hL' : ¬ (19 : Int) < (us.length : Int) := by omega
              have T1 := hide (fun (v : Value) (w : World) h => told_anyO nn v us 0 w h (by omega) (unhide Du) (by omega) (by omega))
              have k2 := fun w => unhide K2 nn us (unhide Du) (by omega) w
              have k3 := fun w => unhide K3 nn us (unhide Du) (by omega) w
              have cc := unhide CC nn us (unhide Du) (by omega)
              rw [unhide Vu] at cc
              clear K2 K3 CC hlong
              generalize refCmp (told nn us 0).1 ⟨Ln, Lg, Lx⟩ = r2 at *
              generalize refCmp (told nn us 0).1 ⟨Tn, Tg, Tx⟩ = r3 at *
              generalize told nn us 0 = td at *
              obtain ⟨⟨en, eg, ex⟩, eok⟩ := td
              simp only [dv] at T1 k2 k3
              have KA := hide k2
              have KB := hide k3
              have HCC := hide cc
              clear k2 k3 cc
              go_wp2_with fail
              refine (unhide T1 _ _ (unhide JU)).mono ?_
              rintro e u8 ⟨rfl, hb8⟩
              have hF8 := hF6.call hb8
              have z8 : u1.heap.size < u8.heap.size := blk_lt hF8.n
              have z9 : u2.heap.size < u8.heap.size := blk_lt hF8.l
              have z10 : u2.heap.size + 1 < u8.heap.size := blk_lt hF8.t
              have JU8 := hide ((unhide JU).keep hb8)
              clear x0 x1 x2 hb8 hF6 T1 JU
              obtain ⟨y0, y1, y2⟩ := hF8.l.cells
              simp only at y0 y1 y2
              have lD : DLies (u8.alloc (.cells #[.bool en, .string eg, .int .i64 ex] 23)) u8.heap.size ⟨en, eg, ex⟩ := dlies_new u8 ⟨en, eg, ex⟩
              have hF8' := hF8.alloc (.cells #[.bool en, .string eg, .int .i64 ex] 23)
              have JU8' := hide ((unhide JU8).alloc (.cells #[.bool en, .string eg, .int .i64 ex] 23))
              clear hF8 JU8
              by_cases h2 : r2 < 0
              · have hr : res = (0, false) := by
                  rw [HF.out]
                  exact fitI_out _ (.inl ((unhide HCC).1.1 h2))
                subst hr
                clear HF HCC
                go_wp2_with fail
                refine (unhide KA _).mono ?_
                rintro e u9 ⟨rfl, hb9⟩
                have hF9 := hF8'.call hb9
                clear hb9
                go_wp2
                go_ret2
                exact ⟨rfl, hF9.below⟩
              · go_wp2_with fail
                refine (unhide KA _).mono ?_
                rintro e u9 ⟨rfl, hb9⟩
                have hF9 := hF8'.call hb9
                have lD9 := lD.below hb9 (blk_lt lD)
                have JU9 := hide ((unhide JU8').keep hb9)
                clear hb9 hF8' lD JU8' y0 y1 y2
                obtain ⟨y0, y1, y2⟩ := hF9.t.cells
                obtain ⟨x0, x1, x2⟩ := lD9.cells
                simp only at y0 y1 y2 x0 x1 x2
                go_wp2_with fail
                refine (unhide KB _).mono ?_
                rintro e u10 ⟨rfl, hb10⟩
                have hF10 := hF9.call hb10
                have JU10 := hide ((unhide JU9).keep hb10)
                clear hb10 hF9 lD9 JU9 y0 y1 y2 x0 x1 x2
                by_cases h3 : 0 < r3
                · have hr : res = (0, false) := by
                    rw [HF.out]
                    exact fitI_out _ (.inr ((unhide HCC).2.1 h3))
                  subst hr
                  clear HF HCC
                  go_wp2
                  go_ret2
                  exact ⟨rfl, hF10.below⟩
                · have hlo : -9223372036854775808 ≤ sgn nn bm := by
                    have := (unhide HCC).1
                    omega
                  have hhi : sgn nn bm ≤ 9223372036854775807 := by
                    have := (unhide HCC).2
                    omega
                  have hr : res = (sgn nn bm, true) := by rw [HF.out]; exact fitI_in _ hlo hhi
                  subst hr
                  have DL := hide (fun k => drop_le (unhide Du) k)
                  rw [unhide Vu] at DL
                  obtain ⟨x0, x1, x2⟩ := hF10.n.cells
                  simp only at x0 x1 x2
                  clear HF HCC KA KB x0 x1 x2 FU
                  go_wp2
                  go_loopw [12, 13] (fun v i wr => ∃ k : Nat, k ≤ us.length ∧ i = .int .i64 ((k : Int) - 1) ∧ v = .int .i64 (sgn nn (valL (us.drop k))) ∧ Hid (IntsO wr (.slice ou us.length cp) us) ∧ FlW w wr u1.heap.size u2.heap.size (u2.heap.size + 1) ⟨nn, ng, nx⟩ ⟨Ln, Lg, Lx⟩ ⟨Tn, Tg, Tx⟩) (fun _ i _ => (intOf i + 1).toNat)
                  case atStart => exact ⟨us.length, Nat.le_refl _, rfl, by rw [List.drop_length]; cases nn <;> rfl, JU10, hF10⟩
                  case round =>
                    obtain ⟨k, hk, rfl, rfl, hI, hFr⟩ := hrel
                    obtain ⟨x0, x1, x2⟩ := hFr.n.cells
                    simp only at x0 x1 x2
                    cases k with
                    | zero =>
                      have HE : Hid (sgn nn (valL (us.drop 0)) = sgn nn bm) := by
                        show sgn _ _ = _
                        rw [List.drop_zero, unhide Vu]
                      generalize sgn nn (valL (us.drop 0)) = q at *
                      go_wp2
                      go_ret2
                      exact ⟨by rw [← unhide HE]; rfl, hFr.below⟩
                    | succ j =>
                      have hj : j < us.length := by omega
                      obtain ⟨o', cap', heq, _, _, hcell⟩ := (unhide hI).form
                      obtain ⟨g, b, ho, hc⟩ := hcell j hj
                      injection heq with e1 e2 e3
                      obtain rfl : ou = some ⟨g, b, none⟩ := e1.trans ho
                      have hd := drop_val us j
                      have hd1 := unhide DL j
                      have hd2 := unhide DL (j + 1)
                      have hz := getD_bd (unhide Du) j
                      have HD := hide hd
                      generalize us.getD j 0 = z at *
                      rw [show ((j + 1 : Nat) : Int) - 1 = (j : Int) by omega]
                      clear hcell e1 e2 e3 ho
                      cases nn with
                      | true =>
                        have hs1 : sgn true (valL (us.drop (j + 1))) = - valL (us.drop (j + 1)) := rfl
                        have hb1 : bm ≤ 9223372036854775808 := by
                          have : sgn true bm = - bm := rfl
                          omega
                        rw [hs1]
                        rw [hd] at hd1
                        have HS : Hid (sgn true (valL (us.drop j)) = 10 * - valL (us.drop (j + 1)) - z) := by
                          show sgn _ _ = _
                          rw [unhide HD]
                          show - _ = _
                          omega
                        generalize valL (us.drop (j + 1)) = q at *
                        clear hd hs1
                        go_wp2
                        go_roundw
                        case rel => exact ⟨j, by omega, by go_num, by rw [unhide HS], hI, hFr⟩
                        case measure => simp [intOf]
                      | false =>
                        have hs1 : sgn false (valL (us.drop (j + 1))) = valL (us.drop (j + 1)) := rfl
                        have hb1 : bm ≤ 9223372036854775807 := by
                          have : sgn false bm = bm := rfl
                          omega
                        rw [hs1]
                        rw [hd] at hd1
                        have HS : Hid (sgn false (valL (us.drop j)) = 10 * valL (us.drop (j + 1)) + z) := by
                          show sgn _ _ = _
                          rw [unhide HD]
                          show _ + _ = _
                          omega
                        generalize valL (us.drop (j + 1)) = q at *
                        clear hd hs1
                        go_wp2
                        go_roundw
                        case rel => exact ⟨j, by omega, by go_num, by rw [unhide HS], hI, hFr⟩
                        case measure => simp [intOf]
end Go.Proofs.YtgmjllkkgapjcaaDoor.rd
