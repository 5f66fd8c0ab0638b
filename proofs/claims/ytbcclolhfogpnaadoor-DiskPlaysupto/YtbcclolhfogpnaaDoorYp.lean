/- The reference's disk: Crash. -/
import Derived.Test.YtbcclolhfogpnaaDoorYn
import Derived.Test.YtbcclolhfogpnaaDoorYo
import Derived.BigRegion
import Derived.Deep.DeepCutAuto
import Derived.Deep.Cut
namespace Go.Proofs.YtbcclolhfogpnaaDoor.dk
open Go.RowKit mm

/-- Where a bit of the tail lies. -/
theorem ix_facts (j syn T nf : Nat) (hj : j < 8 * T) (hn : nf = syn + T) (hb : nf ≤ 70000000000000) : ∃ jq r ix : Nat, jq = j / 8 ∧ r = j % 8 ∧ ix = syn + jq ∧ (j : Int) / 8 = (jq : Int) ∧ (j : Int) % 8 = (r : Int) ∧ Int.tdiv (j : Int) 8 = (jq : Int) ∧ Int.tmod (j : Int) 8 = (r : Int) ∧
    (syn : Int) + (jq : Int) = (ix : Int) ∧ (ix : Int) < (nf : Int) ∧ (0 : Int) ≤ (ix : Int) ∧ (r : Int) < 8 ∧ (0 : Int) ≤ (r : Int) ∧ wrap64 (jq : Int) = (jq : Int) ∧ wrap64 (ix : Int) = (ix : Int) ∧ wrap64 (r : Int) = (r : Int) ∧ jq < T ∧ r < 8 :=
  ⟨j / 8, j % 8, syn + j / 8, rfl, rfl, rfl, by omega, by omega, by rw [Int.tdiv_eq_ediv_of_nonneg (by omega)]; omega, by rw [Int.tmod_eq_emod_of_nonneg (by omega)]; omega, by omega, by omega, by omega, by omega, by omega,
    IntWalk.wrap64_in _ ⟨by omega, by omega⟩, IntWalk.wrap64_in _ ⟨by omega, by omega⟩, IntWalk.wrap64_in _ ⟨by omega, by omega⟩, by omega, by omega⟩

set_option maxRecDepth 100000 in
set_option maxHeartbeats 3200000 in
theorem rcrash_any (w : World) (p : Addr) (F : Bl) (s : St) (kp at_ : Int) (tn : Nat) (h : RD w p F s) (hb : s.file.length ≤ 70000000000000) (k0 : -9223372036854775808 ≤ kp) (k1 : kp ≤ 9223372036854775807) (a0 : -9223372036854775808 ≤ at_) (a1 : at_ ≤ 9223372036854775807) (ht : tn < 4294967296) :
    Calls Tryd.prog 29 #[.pointer (some p), .int .i64 kp, .int .i64 at_, .int .u32 (tn : Int)] w fun e w' => ∃ F', e = .returned (.tuple #[]) ∧ RD w' p F' (sCrash s kp at_ tn) ∧ Mv F F' w w' := by
  obtain ⟨g, v0, rfl, h4, hy, hn, hF, hw, ha⟩ := h
  obtain ⟨file, syn, off, arm⟩ := s
  simp only at h4 hy hb ha
  have hw' : syn ≤ file.length := hw
  have H4 := hide h4
  have HY := hide hy
  have HN := hide hn
  have HF := hide hF
  have A0 := hide (And.intro a0 a1)
  have HT := hide ht
  obtain ⟨ov, nv, cv, ev⟩ : ∃ ov nv cv, v0 = .slice ov nv cv ∧ nv = file.length := by
    obtain ⟨ov, cv, e, _⟩ := (OY.by hy).form
    exact ⟨ov, _, cv, e, rfl⟩
  obtain ⟨rfl, rfl⟩ := ev
  have c0 := h4.c0
  have c1 := h4.c1
  have cf := h4.f
  obtain ⟨t0, et0⟩ : ∃ t0 : Nat, t0 = file.length - syn := ⟨_, rfl⟩
  have hsub : wrap64 ((file.length : Int) - (syn : Int)) = (t0 : Int) := by
    have : (file.length : Int) - (syn : Int) = (t0 : Int) := by omega
    rw [this]
    exact IntWalk.wrap64_in _ ⟨by omega, by omega⟩
  have HWT := hide (show wrap64 (t0 : Int) = (t0 : Int) from IntWalk.wrap64_in _ ⟨by omega, by omega⟩)
  have hsub' : (file.length : Int) - (syn : Int) = (t0 : Int) := by omega
  obtain ⟨T, eT⟩ : ∃ T : Nat, T = min kp.toNat t0 := ⟨_, rfl⟩
  have ET0 := hide et0
  have ET := hide eT
  have HB := hide (And.intro hb hw')
  have K0 := hide (And.intro k0 k1)
  have HCR := hide (show sCrash ⟨file, syn, off, arm⟩ kp at_ tn = ⟨file.take syn ++ tear at_ tn ((file.drop syn).take T), syn + T, false, 0⟩ from by
    have e : (file.drop syn).take kp.toNat = (file.drop syn).take T := by
      rw [eT, et0]
      rcases Nat.le_total kp.toNat (file.length - syn) with q | q
      · rw [Nat.min_eq_left q]
      · rw [Nat.min_eq_right q, List.take_of_length_le (by rw [List.length_drop]; omega), List.take_of_length_le (by rw [List.length_drop]; omega)]
    unfold sCrash
    simp only [e, List.length_append, tear_len, List.length_take, List.length_drop]
    congr 1
    omega)
  generalize sCrash ⟨file, syn, off, arm⟩ kp at_ tn = sN at *
  clear h4 hy hn hF hw ha a0 a1 ht et0 eT hb hw' k0 k1
  go_enter Tryd.func29, Tryd.ntmps29
  go_upto_region 0 with fail
  go_cut [8] from 13 (fun s8 wc => s8 = .int .i64 (t0 : Int) ∧ ∃ q, wc = w.drewN q)
  case first =>
    go_quiet (fail)
    all_goals go_wp2
    all_goals go_meet
    all_goals exact ⟨by rw [unhide HWT], ⟨_, rfl⟩⟩
  case rest =>
    obtain ⟨rfl, q0, rfl⟩ := hcut
    go_upto_if 24 with fail
    go_cut [1] from 13 (fun s1 wc => s1 = .int .i64 (kp.toNat : Int) ∧ wc = w.drewN q0)
    case first =>
      by_cases hk : kp < 0
      · have hd : decide (kp < 0) = true := decide_eq_true hk
        have e : kp.toNat = 0 := by omega
        have E := hide e
        clear hk e
        rw [hd]
        go_wp2
        go_meet
        exact ⟨by rw [unhide E]; rfl, rfl⟩
      · have hd : decide (kp < 0) = false := decide_eq_false hk
        have e : (kp.toNat : Int) = kp := by omega
        have E := hide e
        clear hk e
        rw [hd]
        go_wp2
        go_meet
        exact ⟨by rw [unhide E], rfl⟩
    case rest =>
      obtain ⟨rfl, rfl⟩ := hcut
      generalize kp.toNat = kn at *
      go_upto_if 27 with fail
      go_cut [8] from 13 (fun s8 wc => s8 = .int .i64 (T : Int) ∧ wc = w.drewN q0)
      case first =>
        by_cases hk : kn < t0
        · have hd : decide (kn < t0) = true := decide_eq_true hk
          have E := hide (show T = kn from by have := unhide ET; omega)
          rw [hd]
          go_wp2
          go_meet
          exact ⟨by rw [unhide E], rfl⟩
        · have hd : decide (kn < t0) = false := decide_eq_false hk
          have E := hide (show T = t0 from by have := unhide ET; omega)
          rw [hd]
          go_wp2
          go_meet
          exact ⟨by rw [unhide E], rfl⟩
      case rest =>
        obtain ⟨rfl, rfl⟩ := hcut
        have TL := hide (show syn + T ≤ file.length ∧ T ≤ t0 from by have := unhide ET; have := unhide ET0; have := unhide HB; omega)
        clear hsub hsub' HWT
        have HL2 := hide (show OY (w.drewN q0) w.heap.size (.slice none 0 0) (file.take 0) from World.ownsRow_nil _ _ _ _)
        obtain ⟨N, hN⟩ : ∃ N : Nat, N = syn + T := ⟨_, rfl⟩
        have NB := hide (show N ≤ 70000000000000 ∧ N ≤ file.length from by have := unhide TL; have := unhide HB; omega)
        have hadd : wrap64 ((syn : Int) + (T : Int)) = (N : Int) := by
          have := unhide NB
          have e : (syn : Int) + (T : Int) = (N : Int) := by omega
          rw [e]
          exact IntWalk.wrap64_in _ ⟨by omega, by omega⟩
        have hadd' : (syn : Int) + (T : Int) = (N : Int) := by omega
        have NE := hide hN
        clear hN
        go_wp2_with fail
        go_loopw [9, 10] (fun f i wr => ∃ (k n c : Nat) (o : Option Addr), i = .int .i64 (k : Int) ∧ k ≤ N ∧ f = .slice o n c ∧ Hid (OY wr w.heap.size (.slice o n c) (file.take k)) ∧ Hid (Below w.heap.size w wr)) (fun _ i _ => N - (intOf i).toNat)
        case atStart => exact ⟨0, 0, 0, none, rfl, by omega, rfl, HL2, hide (show Below w.heap.size w (w.drewN q0) from ⟨rfl, rfl, rfl, Nat.le_refl _, fun _ _ => rfl⟩)⟩
        case round =>
          clear HL2
          obtain ⟨k, nf, cf', o, rfl, hk, rfl, O1, B1⟩ := hrel
          have r1 := (unhide H4).keep ((unhide B1).block g (unhide H4).lt)
          have d0 := r1.c0
          have d1 := r1.c1
          have y1 : OY wr 0 (.slice ov file.length cv) file := row_below (unhide HY) (unhide B1) (Nat.le_refl _)
          have R1 := hide r1
          clear r1 c0 c1 cf
          have hnb := unhide NB
          by_cases hlt : k < N
          · have hd : decide (k < N) = true := decide_eq_true hlt
            have hd' : decide ((k : Int) < (N : Int)) = true := decide_eq_true (by omega)
            obtain ⟨av, cv', e2, _, _, hcell⟩ := (OY.by y1).at (by omega)
            cases e2
            have hkf : k < file.length := by omega
            have hc := hcell k file[k] (List.getElem?_eq_getElem hkf)
            have HCK := hide (show file.take (k + 1) = file.take k ++ [file[k]] from by rw [List.take_add_one, List.getElem?_eq_getElem hkf]; rfl)
            generalize file[k] = ch at *
            have hi1 : (k : Int) < (file.length : Int) := by omega
            have hi0 : (0 : Int) ≤ (k : Int) := by omega
            clear hcell y1
            have O2 := hide (show (wr.alloc (.cells #[.int .u8 (ch.toNat : Int)] 5)).ownsRow w.heap.size 5 1 (.slice o nf cf') (file.take k).length ((file.take k).map vb) from row_below (unhide O1) ((Below.refl _ _).alloc (Nat.le_refl _) _) (Nat.le_refl _))
            have n2 := hide (show SV (wr.alloc (.cells #[.int .u8 (ch.toNat : Int)] 5)) (.slice (some ⟨wr.heap.size, 0, none⟩) 1 1) 1 1 [vb ch] from sv_cells (heap_alloc_new wr _) 1 1 rfl (by unfold maxLen; omega))
            have B2 := hide (show Below w.heap.size w (wr.alloc (.cells #[.int .u8 (ch.toNat : Int)] 5)) from (unhide B1).alloc (unhide B1).size _)
            have hlk : (file.take k).length = k := by rw [List.length_take]; omega
            have HLK := hide hlk
            clear hlk
            go_wp2_with (at_builtin; refine wpList_append_sv (P := Tryd.prog) rfl _ _ 27 rfl w.heap.size 5 _ 1 1 undU infoU rfl (by decide) _ _ (file.take k).length 1 ((file.take k).map vb) [vb ch] rfl rfl (unhide O2) (unhide n2) ?b1 ?b2 ?b3 (unhide B2).size ?_)
            case b1 => exact one_by [ch]
            case b2 => rw [unhide HLK]; unfold maxLen; omega
            case b3 => rw [unhide HLK]; omega
            intro v3 w3 o3 g3 l3
            have O3 := hide (show OY w3 w.heap.size v3 (file.take (k + 1)) from by rw [unhide HCK]; refine oy_append (m := [ch]) ?_; rw [List.length_take, List.map_take]; exact o3)
            have B3 := hide (row_bl (unhide O2) g3 (unhide B2) (Nat.le_refl _) (unhide B2).size)
            obtain ⟨o3', n3, c3, e3⟩ : ∃ o n c, v3 = .slice o n c := by
              obtain ⟨o, c, e, _⟩ := (OY.by (unhide O3)).form
              exact ⟨o, _, c, e⟩
            subst e3
            clear o3 g3 l3 O2 n2 B2 O1 B1 R1 HCK d0 d1 hc
            have e2 : (k : Int) < 9223372036854775807 := by omega
            go_wp2
            exact ⟨⟨k + 1, n3, c3, o3', by go_num, by omega, rfl, O3, B3⟩, by simp [intOf]; omega⟩
          · have hke : k = N := by omega
            subst hke
            have hd : decide (k < k) = false := decide_eq_false (by omega)
            have hd' : decide ((k : Int) < (k : Int)) = false := decide_eq_false (by omega)
            have hln : (file.take k).length = k := by rw [List.length_take]; omega
            have hnf : nf = k := by
              obtain ⟨o', c', e, _⟩ := (OY.by (unhide O1)).form
              rw [hln] at e
              cases e
              rfl
            subst hnf
            have hkn := unhide NE
            obtain ⟨tl, htl⟩ : ∃ tl, tl = (file.drop syn).take T := ⟨_, rfl⟩
            obtain ⟨pre, hpre⟩ : ∃ pre, pre = file.take syn := ⟨_, rfl⟩
            have PL := hide (show pre.length = syn ∧ tl.length = T from by
              have := unhide TL
              rw [hpre, htl, List.length_take, List.length_take, List.length_drop]
              omega)
            have O5 := hide (show OY wr w.heap.size (.slice o nf cf') (pre ++ tearTo at_ tn 0 tl) from by
              rw [tearTo_zero, hpre, htl, ← List.take_add, ← hkn]
              exact unhide O1)
            have HS := hide (show sN = ⟨pre ++ tear at_ tn tl, nf, false, 0⟩ from by rw [unhide HCR, hpre, htl, hkn])
            have HTB := hide (show T ≤ 70000000000000 from by omega)
            have hm8 : wrap64 (8 * (T : Int)) = 8 * (T : Int) := IntWalk.wrap64_in _ ⟨by omega, by omega⟩
            clear hln htl hpre hkn O1 R1 y1 HCR hlt hk
            go_wp2_with fail
            clear d0 d1 hadd hadd' hd hd'
            go_loopw [11, 12] (fun i _ wr => ∃ j : Nat, i = .int .i64 (j : Int) ∧ j ≤ 8 * T ∧ Hid (OY wr w.heap.size (.slice o nf cf') (pre ++ tearTo at_ tn j tl)) ∧ Hid (Below w.heap.size w wr)) (fun i _ _ => 8 * T - (intOf i).toNat)
            case atStart => exact ⟨0, rfl, by omega, O5, B1⟩
            case round =>
              clear O5 B1
              obtain ⟨j, rfl, hj, O5, B1⟩ := hrel
              have hTb := unhide HTB
              by_cases hlt : j < 8 * T
              · have hd : decide ((j : Int) < 8 * (T : Int)) = true := decide_eq_true (by omega)
                by_cases h1 : 0 ≤ at_
                · by_cases h2 : at_ ≤ (j : Int)
                  · by_cases h3 : (j : Int) - at_ ≤ 31
                    · obtain ⟨d, hjd⟩ : ∃ d : Nat, (j : Int) - at_ = (d : Int) := ⟨((j : Int) - at_).toNat, by omega⟩
                      have hd31 : d ≤ 31 := by omega
                      have hbi := bitOn_in at_ tn j d h1 hjd hd31
                      obtain ⟨qa0, qa1⟩ := unhide A0
                      have g1 : decide (at_ < 0) = false := decide_eq_false (by omega)
                      have g2 : decide ((j : Int) < at_) = false := decide_eq_false (by omega)
                      have g3 : decide (31 < (d : Int)) = false := decide_eq_false (by omega)
                      have g4 : (0 : Int) ≤ 31 - (d : Int) := by omega
                      have g5 := unhide HT
                      have HBI := hide hbi
                      clear hbi qa0 qa1 h1 h2 h3
                      by_cases hbit : tn / 2 ^ (31 - d) % 2 = 1
                      · have hon : bitOn at_ tn j = true := by
                          have := unhide HBI
                          rw [hbit] at this
                          cases hq : bitOn at_ tn j with
                          | true => rfl
                          | false => rw [hq] at this; cases this
                        have hq1 : (Int.tmod ((tn : Int) / 2 ^ (31 - d)) 2 == 1) = true := by
                          have e : Int.tmod ((tn : Int) / 2 ^ (31 - d)) 2 = ((tn / 2 ^ (31 - d) % 2 : Nat) : Int) := rfl
                          rw [e, hbit]; rfl
                        go_upto_region 14 with fail
                        go_cut [75] from 49 to 93 (fun s75 wx => s75 = .bool true ∧ wx = wr)
                        case first =>
                          go_wp2_with fail
                          go_meet
                          exact ⟨by first | rfl | (rw [hq1]), rfl⟩
                        case rest =>
                        obtain ⟨rfl, hwc⟩ := hcut
                        obtain rfl := hwc.symm
                        clear hq1 g4 g5
                        have HON := hide hon
                        clear hon hbit
                        obtain ⟨jq, r, ix, hjq, hr, hix, f1, f2, f1', f2', f3, f4, f5, f6, f7, f8, f9, fr, b1, b2⟩ := ix_facts j syn T nf hlt (unhide NE) (unhide NB).1
                        have HJ := hide (And.intro hjq (And.intro hr (And.intro hix (And.intro b1 b2))))
                        have r1 := (unhide H4).keep ((unhide B1).block g (unhide H4).lt)
                        have d1 := r1.c1
                        have HF := hide (And.intro f2 (And.intro f2' (And.intro f4 (And.intro f5 (And.intro f6 (And.intro f7 fr))))))
                        have k1 : (0 : Int) ≤ (jq : Int) := Int.natCast_nonneg _
                        clear hjq hr hix b1 b2 r1 f2 f2' f4 f6 f7 fr g1 g2 g3 hd31 hjd hm8 hd hTb hj
                        go_upto_region 16 with fail
                        obtain ⟨hjq, hr, hix, b1, b2⟩ := unhide HJ
                        obtain ⟨f2, f2', f4, f5, f6, f7, fr⟩ := unhide HF
                        have hpl := unhide PL
                        obtain ⟨g2', c2', ev2, hg2⟩ : ∃ g2 c2, Value.slice o nf cf' = .slice (some ⟨g2, 0, none⟩) nf c2 ∧ w.heap.size ≤ g2 := by
                          obtain ⟨hl, ⟨q, h0⟩ | ⟨g', cap, cur, q, hb', _⟩⟩ := unhide O5
                          · exfalso
                            rw [List.length_append, tearTo_len, hpl.1, hpl.2] at h0
                            rw [(Nat.add_eq_zero_iff.mp h0).2] at b1
                            exact absurd b1 (Nat.not_lt_zero _)
                          · cases q
                            exact ⟨g', _, rfl, hb'⟩
                        cases ev2
                        obtain ⟨b, hb⟩ : ∃ b, (tearTo at_ tn j tl)[jq]? = some b := ⟨_, List.getElem?_eq_getElem (by rw [tearTo_len, hpl.2]; exact b1)⟩
                        have hbn : (pre ++ tearTo at_ tn j tl)[ix]? = some b := by
                          rw [hix, List.getElem?_append_right (by rw [hpl.1]; exact Nat.le_add_right _ _), hpl.1, Nat.add_sub_cancel_left]; exact hb
                        have hcell : wr.cell? ⟨g2', ix, none⟩ = some (.int .u8 (b.toNat : Int)) := by
                          obtain ⟨a', c', e', _, _, hc⟩ := (OY.by (unhide O5)).at (by rw [List.length_append, tearTo_len, hpl.2]; exact Nat.lt_of_lt_of_le (Nat.lt_of_le_of_lt (Nat.zero_le _) b1) (Nat.le_add_left _ _))
                          simp only [Value.slice.injEq, Option.some.injEq] at e'
                          obtain ⟨rfl, _, _⟩ := e'
                          have := hc ix b hbn
                          rwa [add0] at this
                        have hfrz : wr.frozen? ⟨g2', ix, none⟩ = false := row_frz (unhide O5) _
                        have hx := xor_bm b r b2
                        have O6 := hide (show OY (wr.setCell ⟨g2', ix, none⟩ (.int .u8 ((b ^^^ bm r).toNat : Int))) w.heap.size (.slice (some ⟨g2', 0, none⟩) nf cf') (pre ++ tearTo at_ tn (j + 1) tl) from by
                          have := row_set (unhide O5) ix (vb (b ^^^ bm r))
                          unfold OY
                          rw [tearTo_on _ _ _ _ (unhide HON) b (by rw [← hjq]; exact hb), ← hjq, ← hr]
                          rw [show pre ++ (tearTo at_ tn j tl).set jq (b ^^^ bm r) = (pre ++ tearTo at_ tn j tl).set ix (b ^^^ bm r) from by rw [hix, List.set_append_right _ _ (by rw [hpl.1]; exact Nat.le_add_right _ _), hpl.1, Nat.add_sub_cancel_left]]
                          rw [List.length_set, List.map_set]
                          exact this)
                        have B6 := hide ((unhide B1).setCell (p := ⟨g2', ix, none⟩) hg2 (.int .u8 ((b ^^^ bm r).toNat : Int)))
                        generalize b ^^^ bm r = xx at *
                        clear hb hbn O5 hpl hjq hr hix HBI HON HJ HF d1 f1 f1' f3 f8 b1 b2 k1
                        have HLT := hide hlt
                        clear hlt
                        go_region
                        have hlt := unhide HLT
                        have e2 : (j : Int) < 9223372036854775807 := by have := unhide HTB; omega
                        go_wp2
                        exact ⟨⟨j + 1, by go_num, by omega, O6, (unhide B6).drew⟩, by simp [intOf]; omega⟩
                      · have hoff : bitOn at_ tn j = false := by
                          have := unhide HBI
                          cases hq : bitOn at_ tn j with
                          | false => rfl
                          | true => rw [hq] at this; exact absurd this.symm hbit
                        have hq1 : (Int.tmod ((tn : Int) / 2 ^ (31 - d)) 2 == 1) = false := by
                          have e : Int.tmod ((tn : Int) / 2 ^ (31 - d)) 2 = ((tn / 2 ^ (31 - d) % 2 : Nat) : Int) := rfl
                          rcases Nat.mod_two_eq_zero_or_one (tn / 2 ^ (31 - d)) with q | q
                          · rw [e, q]; rfl
                          · exact absurd q hbit
                        have O6 := hide (show OY wr w.heap.size (.slice o nf cf') (pre ++ tearTo at_ tn (j + 1) tl) from by rw [tearTo_off _ _ _ _ hoff]; exact unhide O5)
                        clear hbit hoff O5 HBI
                        go_upto_region 14 with fail
                        go_cut [75] from 49 to 93 (fun s75 wx => s75 = .bool false ∧ wx = wr)
                        case first =>
                          go_wp2_with fail
                          go_meet
                          exact ⟨by first | rfl | (rw [hq1]), rfl⟩
                        case rest =>
                        obtain ⟨rfl, hwc⟩ := hcut
                        obtain rfl := hwc.symm
                        clear hq1 g4 g5 g1 g2 g3 hd31 hjd hm8 hd
                        have e2 : (j : Int) < 9223372036854775807 := by omega
                        go_wp2
                        exact ⟨⟨j + 1, by go_num, by omega, O6, B1⟩, by simp [intOf]; omega⟩
                    · have hbo := bitOn_out at_ tn j (fun q => h3 q.2.2)
                      have O6 := hide (show OY wr w.heap.size (.slice o nf cf') (pre ++ tearTo at_ tn (j + 1) tl) from by rw [tearTo_off _ _ _ _ hbo]; exact unhide O5)
                      obtain ⟨qa0, qa1⟩ := unhide A0
                      have g1 : decide (at_ < 0) = false := decide_eq_false (by omega)
                      have g2 : decide ((j : Int) < at_) = false := decide_eq_false (by omega)
                      have g3 : decide (31 < (j : Int) - at_) = true := decide_eq_true (by omega)
                      have e2 : (j : Int) < 9223372036854775807 := by omega
                      have hw : wrap64 ((j : Int) - at_) = (j : Int) - at_ := IntWalk.wrap64_in _ ⟨by omega, by omega⟩
                      clear hbo h3 O5 qa0 qa1
                      go_wp2
                      exact ⟨⟨j + 1, by go_num, by omega, O6, B1⟩, by simp [intOf]; omega⟩
                  · have hbo := bitOn_out at_ tn j (fun q => h2 q.2.1)
                    have O6 := hide (show OY wr w.heap.size (.slice o nf cf') (pre ++ tearTo at_ tn (j + 1) tl) from by rw [tearTo_off _ _ _ _ hbo]; exact unhide O5)
                    have g1 : decide (at_ < 0) = false := decide_eq_false (by omega)
                    have g2 : decide ((j : Int) < at_) = true := decide_eq_true (by omega)
                    have e2 : (j : Int) < 9223372036854775807 := by omega
                    clear hbo h2 O5
                    go_wp2
                    exact ⟨⟨j + 1, by go_num, by omega, O6, B1⟩, by simp [intOf]; omega⟩
                · have hbo := bitOn_out at_ tn j (fun q => h1 q.1)
                  have O6 := hide (show OY wr w.heap.size (.slice o nf cf') (pre ++ tearTo at_ tn (j + 1) tl) from by rw [tearTo_off _ _ _ _ hbo]; exact unhide O5)
                  have g1 : decide (at_ < 0) = true := decide_eq_true (by omega)
                  have e2 : (j : Int) < 9223372036854775807 := by omega
                  clear hbo h1 O5
                  go_wp2
                  exact ⟨⟨j + 1, by go_num, by omega, O6, B1⟩, by simp [intOf]; omega⟩
              · have hje : j = 8 * T := by omega
                have hd : decide ((j : Int) < 8 * (T : Int)) = false := decide_eq_false (by omega)
                have O6 := hide (show OY wr w.heap.size (.slice o nf cf') (pre ++ tear at_ tn tl) from by
                  have := unhide O5
                  rwa [tearTo_all _ _ _ _ (by have := (unhide PL).2; omega)] at this)
                have r1 := (unhide H4).keep ((unhide B1).block g (unhide H4).lt)
                have d0 := r1.c0
                have d1 := r1.c1
                have d2 := r1.c2
                have d3 := r1.c3
                have df := r1.f
                have R1 := hide r1
                clear r1 O5 hje hlt
                go_wp2
                first
                | refine bodyPost_end (results_none rfl _ _ _) rfl ?_
                | go_ret
                have hne : (Value.slice o nf cf').ownBlock ≠ some g := fun q => by have := (row_lt (unhide O6) g q).1; have := (unhide H4).lt; omega
                have U := (((Upd.setCell g 0 wr (.slice o nf cf')).trans (Upd.setCell g 1 _ (.int .i64 (nf : Int)))).trans (Upd.setCell g 2 _ (.bool false))).trans (Upd.setCell g 3 _ (.int .i64 0))
                refine ⟨fun q => q = g ∨ (Value.slice o nf cf').ownBlock = some q, rfl, ?_, U.os.trans (unhide B1).os, U.tape.trans (unhide B1).tape, U.output.trans (unhide B1).output, by rw [U.size]; exact (unhide B1).size, fun q hq hn => (U.block q (fun z => hn ((unhide HF q).mpr (Or.inl z)))).trans ((unhide B1).block q hq), fun q hq => ?_⟩
                · rw [unhide HS]
                  refine ⟨g, .slice o nf cf', rfl, ((((unhide R1).s0 _).s1 _).s2 _).s3 _, OY.upd (row_mono (unhide O6) (Nat.zero_le _)) U hne, hne, fun _ => Iff.rfl, ?_, by simp⟩
                  unfold Wf
                  simp only [List.length_append, tear_len]
                  have := unhide PL
                  have := unhide NE
                  omega
                · rcases hq with z | z
                  · exact Or.inl ((unhide HF q).mpr (Or.inl z))
                  · exact Or.inr (row_lt (unhide O6) q z).1
end Go.Proofs.YtbcclolhfogpnaaDoor.dk
