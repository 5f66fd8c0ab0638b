/- FrameBursts, over the calls' contracts. -/
import Derived.Test.YtgafjbgplcjnnaaDoorGp
import Derived.BigRegion
import Derived.RegionTactic
import Derived.ChangeAlike
namespace Go.Proofs.YtgafjbgplcjnnaaDoor.fr
open Go.RowKit Go.Joins

theorem shr_bm (r : Nat) (h : r < 8) : BitVec.ofInt 8 ((128 : Int) / 2 ^ r) = (bm r).toBitVec := by
  have : r = 0 ∨ r = 1 ∨ r = 2 ∨ r = 3 ∨ r = 4 ∨ r = 5 ∨ r = 6 ∨ r = 7 := by omega
  rcases this with rfl | rfl | rfl | rfl | rfl | rfl | rfl | rfl <;> decide
theorem xor_bm (b : UInt8) (r : Nat) (h : r < 8) : Go.bits .xor .u8 (b.toNat : Int) (128 / 2 ^ r) = ((b ^^^ bm r).toNat : Int) := by
  show IntKind.u8.wrap ((BitVec.ofInt 8 (b.toNat : Int) ^^^ BitVec.ofInt 8 (128 / 2 ^ r)).toNat : Int) = _
  rw [ofInt8, shr_bm r h, ← UInt8.toBitVec_xor]
  have := (b ^^^ bm r).toNat_lt
  exact IntWalk.u8_in _ ⟨by omega, by show ((b ^^^ bm r).toNat : Int) ≤ 255; omega⟩

set_option maxRecDepth 100000 in
set_option maxHeartbeats 3200000 in
theorem bursts_any {a : Addr} {G : World → Prop} (K : FrameOK a G) (ls : List (List UInt8)) (v : Value) (from_ t : Int) (w : World) (hG : G w) (h : LS w v ls) (hc0 : -9223372036854775808 ≤ from_) (hc1 : from_ ≤ 9223372036854775807) :
    Calls Tryd.prog 6 #[v, .int .i64 from_, .int .u32 t] w fun e w' => e = .returned (.bool true) ∧ Below w.heap.size w w' := by
  have HK := hide K
  have HG := hide hG
  have HL := hide h
  have C1 := hide (heavy_any ls v w h)
  obtain ⟨oa, c, rfl, h1, h2, _⟩ := h.form
  clear h K hG
  go_enter Tryd.func6, Tryd.ntmps6
  go_wp2_with fail
  refine (unhide C1).mono ?_
  rintro e w1 ⟨⟨b, rfl, hb⟩, rfl⟩
  clear C1
  cases b with
  | true =>
    go_wp2
    go_ret
    exact ⟨rfl, Below.refl _ _⟩
  | false =>
    obtain ⟨hs, ht⟩ := hb rfl
    have HS := hide hs
    clear hb hs
    have C2 := hide (awake_any (unhide HK) w1 (unhide HG))
    go_wp2_with fail
    refine (unhide C2).mono ?_
    rintro e w2 ⟨rfl, b2⟩
    have B2 := hide b2
    clear C2 b2
    have C3 := hide (laid_any (unhide HK) ls _ w2 ((unhide HK).keep _ _ (unhide HG) (unhide B2)) ((unhide HL).keep (unhide B2)) (unhide HS) ht)
    go_wp2_with fail
    refine (unhide C3).mono ?_
    rintro e w3 ⟨⟨bv, av, rfl, o3, i3, d3⟩, b3⟩
    have B3 := hide ((unhide B2).trans (b3.mono (unhide B2).size))
    have O3 := hide (o3.mono (unhide B2).size)
    have I3 := hide i3
    have D3 := hide d3
    obtain ⟨ob, bc, hbv⟩ := o3.form
    subst hbv
    obtain ⟨g, ac, hav, hac, _⟩ := i3.form (by simp)
    rw [List.length_map, List.length_range] at hav hac
    subst hav
    clear C3 o3 i3 b3 d3 B2
    have C6 := hide (pick_any from_ (8 * ((frms ls).length : Int) + 1) w3 hc0 hc1 (by omega) (by omega))
    have hpk := pk_in from_ (8 * ((frms ls).length : Int) + 1) (by omega)
    obtain ⟨st, hst⟩ : ∃ kk : Nat, pk from_ (8 * ((frms ls).length : Int) + 1) = (kk : Int) := ⟨_, (Int.toNat_of_nonneg hpk.1).symm⟩
    rw [hst] at C6 hpk
    clear hst
    go_wp2_with fail
    refine (unhide C6).mono ?_
    rintro e w6 ⟨rfl, rfl⟩
    clear C6
    go_wp2
    go_loopw [12, 14] (fun fv iv wr => ∃ (i : Nat) (E : List UInt8) (first : Int), i ≤ 32 ∧ iv = .int .i64 (i : Int) ∧ fv = .int .i64 first ∧ E.length = (frms ls).length ∧ Hid (Trn E st i first) ∧ -1 ≤ first ∧ first < 8 * ((frms ls).length : Int) ∧ Hid (OB wr w1.heap.size (.slice ob (frms ls).length bc) (xorL (frms ls) E)) ∧
        Hid (OI wr w2.heap.size (.slice (some ⟨g, 0, none⟩) (ls.length + 1) ac) ((List.range (ls.length + 1)).map (fat ls))) ∧ Hid (Below w1.heap.size w1 wr)) (fun _ iv _ => 32 - (intOf iv).toNat)
    case atStart =>
      refine ⟨0, List.replicate (frms ls).length 0, -1, by omega, rfl, rfl, by simp, Trn.none _ _, by omega, by omega, ?_, unhide I3, unhide B3⟩
      have hz : true ∉ bitsL (List.replicate (frms ls).length 0) := fun q => by
        obtain ⟨k, hk⟩ := List.mem_iff_getElem?.mp q
        have := (Trn.none (frms ls).length 0).1 k hk
        omega
      rw [xorL_zero _ hz _ (by simp)]
      exact O3
    case round =>
      obtain ⟨i, E, first, hi, rfl, rfl, hE, hT, hf0, hf1, hO, hI, hB⟩ := hrel
      by_cases hc : i < 32
      · have e1 : decide ((i : Int) < 32) = true := decide_eq_true (by omega)
        by_cases hd : st + i < 8 * (frms ls).length
        · have e2 : decide ((st : Int) + (i : Int) < 8 * ((frms ls).length : Int)) = true := decide_eq_true (by omega)
          by_cases hbit : (Go.bits .and .u32 t (2147483648 / 2 ^ i) != 0) = true
          · have hlen : 0 < (xorL (frms ls) E).length := by rw [xorL_length _ _ hE.symm]; omega
            obtain ⟨gb, bc', hv, hbc, hgb, hcells⟩ := (unhide hO).get hlen
            have hxl : (xorL (frms ls) E).length = (frms ls).length := xorL_length _ _ hE.symm
            rw [hxl] at hv hbc
            cases hv
            obtain ⟨j, hj⟩ : ∃ j, j = (st + i) / 8 := ⟨_, rfl⟩
            obtain ⟨r, hr⟩ : ∃ r, r = (st + i) % 8 := ⟨_, rfl⟩
            have hjl : j < (frms ls).length := by omega
            obtain ⟨bb, hbb⟩ : ∃ b, (xorL (frms ls) E)[j]? = some b := ⟨_, List.getElem?_eq_getElem (by omega)⟩
            have cell := hcells j bb hbb
            have frz := (unhide hO).frz j
            have f1 : Int.tdiv ((st : Int) + (i : Int)) 8 = (j : Int) := by rw [Int.tdiv_eq_ediv_of_nonneg (by omega)]; omega
            have f2 : Int.tmod ((st : Int) + (i : Int)) 8 = (r : Int) := by rw [Int.tmod_eq_emod_of_nonneg (by omega)]; omega
            have f3 : IntKind.i64.wrap (j : Int) = (j : Int) := IntWalk.i64_in _ ⟨by omega, by omega⟩
            have f4 : IntKind.i64.wrap (r : Int) = (r : Int) := IntWalk.i64_in _ ⟨by omega, by omega⟩
            have f5 : (j : Int) < ((frms ls).length : Int) := by omega
            have f6 : (0 : Int) ≤ (j : Int) := by omega
            have f7 : (0 : Int) ≤ (r : Int) := by omega
            have f8 : (r : Int) < 8 := by omega
            have HBB := hide hbb
            have HJ := hide hj
            have HR := hide hr
            clear hbb hj hr hcells
            obtain ⟨xx, hxx⟩ : ∃ x, x = bb ^^^ bm r := ⟨_, rfl⟩
            have f9 := xor_bm bb r (by omega)
            rw [← hxx] at f9
            have HXX := hide hxx
            clear hxx
            by_cases hff : first < 0
            · have hfd : decide (first < 0) = true := decide_eq_true hff
              have HF : Hid (Trn (flp E (st + i)) st (i + 1) ((st : Int) + (i : Int))) := by have := (unhide hT).turn (by omega); rwa [if_pos hff, show ((st + i : Nat) : Int) = (st : Int) + (i : Int) by omega] at this
              have O1 : Hid (OB (wr.setCell ⟨gb, j, none⟩ (.int .u8 (xx.toNat : Int))) w1.heap.size (.slice (some ⟨gb, 0, none⟩) (frms ls).length bc) (xorL (frms ls) (flp E (st + i)))) := by
                have := (unhide hO).set j xx
                have e : (xorL (frms ls) E).set j xx = xorL (frms ls) (flp E (st + i)) := by
                  rw [xorL_flp _ _ _ hE.symm (by omega)]
                  unfold flp
                  rw [← unhide HJ, ← unhide HR, List.getD_eq_getElem?_getD, unhide HBB, unhide HXX]
                  rfl
                rw [e] at this
                exact this
              have I1 : Hid (OI (wr.setCell ⟨gb, j, none⟩ (.int .u8 (xx.toNat : Int))) w2.heap.size (.slice (some ⟨g, 0, none⟩) (ls.length + 1) ac) ((List.range (ls.length + 1)).map (fat ls))) :=
                row_keep (unhide hI) (fun q hq => Below.heap_setCell wr _ _ q (by cases hq; intro z; exact unhide D3 gb rfl (by cases z; rfl)))
              have B1 := hide ((unhide hB).setCell (p := ⟨gb, j, none⟩) hgb (.int .u8 (xx.toNat : Int)))
              clear hO hI hB hT HBB HJ HR HXX O3 I3 B3
              go_wp2
              go_region
              go_wp2
              exact ⟨⟨i + 1, flp E (st + i), ((st : Int) + (i : Int)), by omega, by go_num, by go_num, by rw [flp_length]; exact hE, HF, by omega, by omega, O1, I1, (unhide B1).drew⟩, by simp [intOf]; omega⟩
            · have hfd : decide (first < 0) = false := decide_eq_false hff
              have HF : Hid (Trn (flp E (st + i)) st (i + 1) first) := by have := (unhide hT).turn (by omega); rwa [if_neg hff] at this
              have O1 : Hid (OB (wr.setCell ⟨gb, j, none⟩ (.int .u8 (xx.toNat : Int))) w1.heap.size (.slice (some ⟨gb, 0, none⟩) (frms ls).length bc) (xorL (frms ls) (flp E (st + i)))) := by
                have := (unhide hO).set j xx
                have e : (xorL (frms ls) E).set j xx = xorL (frms ls) (flp E (st + i)) := by
                  rw [xorL_flp _ _ _ hE.symm (by omega)]
                  unfold flp
                  rw [← unhide HJ, ← unhide HR, List.getD_eq_getElem?_getD, unhide HBB, unhide HXX]
                  rfl
                rw [e] at this
                exact this
              have I1 : Hid (OI (wr.setCell ⟨gb, j, none⟩ (.int .u8 (xx.toNat : Int))) w2.heap.size (.slice (some ⟨g, 0, none⟩) (ls.length + 1) ac) ((List.range (ls.length + 1)).map (fat ls))) :=
                row_keep (unhide hI) (fun q hq => Below.heap_setCell wr _ _ q (by cases hq; intro z; exact unhide D3 gb rfl (by cases z; rfl)))
              have B1 := hide ((unhide hB).setCell (p := ⟨gb, j, none⟩) hgb (.int .u8 (xx.toNat : Int)))
              clear hO hI hB hT HBB HJ HR HXX O3 I3 B3
              go_wp2
              go_region
              go_wp2
              exact ⟨⟨i + 1, flp E (st + i), first, by omega, by go_num, by go_num, by rw [flp_length]; exact hE, HF, by omega, by omega, O1, I1, (unhide B1).drew⟩, by simp [intOf]; omega⟩
          · have hbit' : (Go.bits .and .u32 t (2147483648 / 2 ^ i) != 0) = false := by simpa using hbit
            have HT := hide (unhide hT).stay
            clear hbit O3 I3 B3 hT
            go_wp2
            exact ⟨⟨i + 1, E, first, by omega, by go_num, rfl, hE, HT, by omega, by omega, hO, hI, hB⟩, by simp [intOf]; omega⟩
        · have e2 : decide ((st : Int) + (i : Int) < 8 * ((frms ls).length : Int)) = false := decide_eq_false (by omega)
          clear O3 I3 B3
          have hW := hide ((unhide hT).within hi)
          by_cases hff : first < 0
          · have hfd : decide (0 ≤ first) = false := decide_eq_false (by omega)
            have HSC : Hid (scan (xorL (frms ls) E) = (ls.take ls.length, fat ls ls.length)) := by
              rcases (unhide hT).2 with ⟨_, z⟩ | ⟨f, z, _⟩
              · show _ = _
                rw [scan_same ls (unhide HS) E hE z, List.take_length, fat_all]
              · omega
            have hn : ls.length ≤ ls.length := Nat.le_refl _
            have hmx : (ls.length : Int) ≤ 9223372036854775807 := by unfold maxLen at h2; omega
            have hLL : (xorL (frms ls) E).length = (frms ls).length := xorL_length _ _ hE.symm
            have C7 := hide ((unhide HK).scan _ _ wr ((unhide HK).keep _ _ (unhide HG) (unhide hB)) (unhide hO).bs (by omega))
            rw [unhide HSC] at C7
            obtain ⟨g', ac', hav, _, hai⟩ := (unhide hI).form (by simp)
            rw [List.length_map, List.length_range] at hav
            cases hav
            have HA := hide (hai ls.length _ (fat_at ls ls.length hn))
            clear hai hO hI HSC hT
            go_wp2_with fail
            refine (unhide C7).mono ?_
            rintro e w8 ⟨r8, rfl, o8, b8⟩
            have B8 := hide ((unhide hB).trans (b8.mono (unhide hB).size))
            have a0 : w8.cell? ⟨g, ls.length, none⟩ = some (.int .i64 (fat ls ls.length : Int)) := by
              have := unhide HA
              rw [add0] at this
              rw [b8.cell (cell_lt' this)]; exact this
            obtain ⟨v9, s9, b9⟩ := ((unhide HL).keep (unhide B8)).h ls.length hn (ls.length : Int) rfl
            have C9 := hide (same_any (ls.take ls.length) (ls.take ls.length) r8 v9 w8 o8.ls b9)
            rw [decide_eq_true rfl] at C9
            clear b9 o8 b8 HA C7 hB
            go_wp2_with fail
            refine (unhide C9).mono ?_
            rintro e w10 ⟨rfl, m10, hw10⟩
            have a0' : w10.cell? ⟨g, ls.length, none⟩ = some (.int .i64 (fat ls ls.length : Int)) := by rw [hw10]; exact a0
            have B10 : Hid (Below w1.heap.size w1 w10) := by rw [hw10]; exact (unhide B8).trans (below_drewN _ _ _)
            clear C9 hw10 a0 B8
            go_wp2
            go_ret
            exact ⟨rfl, unhide B10⟩
          · have hfd : decide (0 ≤ first) = true := decide_eq_true (by omega)
            obtain ⟨f, hf, HF1, HF2⟩ : ∃ f : Nat, first = (f : Int) ∧ Hid ((bitsL E)[f]? = some true) ∧ Hid (∀ k : Nat, k < f → (bitsL E)[k]? ≠ some true) := by
              rcases (unhide hT).2 with ⟨z, _⟩ | ⟨f, z1, z2, z3⟩
              · omega
              · exact ⟨f, z1, z2, z3⟩
            subst hf
            obtain ⟨g', ac', hav, _, hai⟩ := (unhide hI).form (by simp)
            rw [List.length_map, List.length_range] at hav
            cases hav
            have HA0 : Hid (∀ j, j ≤ ls.length → wr.cell? ⟨g, j, none⟩ = some (.int .i64 (fat ls j : Int))) := fun j hj => by
              have := hai j _ (fat_at ls j hj)
              rw [add0] at this
              exact this
            have hmx : ls.length ≤ 9223372036854775800 := by
              have : ls.length ≤ (frms ls).length := by
                have : ∀ k, k ≤ ls.length → k ≤ fat ls k := by
                  intro k
                  induction k with
                  | zero => intro _; omega
                  | succ k ih => intro q; have := ih (by omega); have := fat_succ ls k (by omega); omega
                have := this ls.length (Nat.le_refl _)
                rwa [fat_all] at this
              omega
            clear hai
            go_wp2
            go_loopw [16] (fun nv wq => ∃ n : Nat, n ≤ ls.length ∧ nv = .int .i64 (n : Int) ∧ 8 * fat ls n ≤ f ∧ wq = wr) (fun nv _ => ls.length - (intOf nv).toNat)
            case atStart => exact ⟨0, by omega, rfl, by rw [fat_zero]; omega, rfl⟩
            case round =>
              obtain ⟨n, hn, rfl, hfn, rfl⟩ := hrel
              have hnl : n < ls.length := by
                rcases Nat.lt_or_ge n ls.length with q | q
                · exact q
                · have : n = ls.length := by omega
                  rw [this, fat_all] at hfn
                  omega
              have a1 := unhide HA0 (n + 1) (by omega)
              have hfl : fat ls (n + 1) ≤ (frms ls).length := by rw [← fat_all]; exact fat_mono ls (n + 1) ls.length hnl (Nat.le_refl _)
              by_cases hq : fat ls (n + 1) * 8 ≤ f
              · have e2 : decide ((fat ls (n + 1) : Int) * 8 ≤ (f : Int)) = true := decide_eq_true (by omega)
                go_wp2
                exact ⟨⟨n + 1, by omega, by go_num, by omega, trivial⟩, by simp [intOf]; omega⟩
              · have e2 : decide ((fat ls (n + 1) : Int) * 8 ≤ (f : Int)) = false := decide_eq_false (by omega)
                have HSC : Hid (scan (xorL (frms ls) E) = (ls.take n, fat ls n)) := scan_burst ls (unhide HS) E hE (unhide hW) n hnl f (unhide HF1) (unhide HF2) hfn (by omega)
                have hLL : (xorL (frms ls) E).length = (frms ls).length := xorL_length _ _ hE.symm
                have C7 := hide ((unhide HK).scan _ _ wr ((unhide HK).keep _ _ (unhide HG) (unhide hB)) (unhide hO).bs (by omega))
                rw [unhide HSC] at C7
                obtain ⟨g', ac', hav, _, hai⟩ := (unhide hI).form (by simp)
                rw [List.length_map, List.length_range] at hav
                cases hav
                have HA := hide (hai n _ (fat_at ls n hn))
                clear hai hO hI HSC hT
                go_wp2_with fail
                refine (unhide C7).mono ?_
                rintro e w8 ⟨r8, rfl, o8, b8⟩
                have B8 := hide ((unhide hB).trans (b8.mono (unhide hB).size))
                have a0 : w8.cell? ⟨g, n, none⟩ = some (.int .i64 (fat ls n : Int)) := by
                  have := unhide HA
                  rw [add0] at this
                  rw [b8.cell (cell_lt' this)]; exact this
                obtain ⟨v9, s9, b9⟩ := ((unhide HL).keep (unhide B8)).h n hn (n : Int) rfl
                have C9 := hide (same_any (ls.take n) (ls.take n) r8 v9 w8 o8.ls b9)
                rw [decide_eq_true rfl] at C9
                clear b9 o8 b8 HA C7 hB
                go_wp2_with fail
                refine (unhide C9).mono ?_
                rintro e w10 ⟨rfl, m10, hw10⟩
                have a0' : w10.cell? ⟨g, n, none⟩ = some (.int .i64 (fat ls n : Int)) := by rw [hw10]; exact a0
                have B10 : Hid (Below w1.heap.size w1 w10) := by rw [hw10]; exact (unhide B8).trans (below_drewN _ _ _)
                clear C9 hw10 a0 B8
                go_wp2
                go_ret
                exact ⟨rfl, unhide B10⟩
      · have e1 : decide ((i : Int) < 32) = false := decide_eq_false (by omega)
        clear O3 I3 B3
        have hW := hide ((unhide hT).within hi)
        by_cases hff : first < 0
        · have hfd : decide (0 ≤ first) = false := decide_eq_false (by omega)
          have HSC : Hid (scan (xorL (frms ls) E) = (ls.take ls.length, fat ls ls.length)) := by
            rcases (unhide hT).2 with ⟨_, z⟩ | ⟨f, z, _⟩
            · show _ = _
              rw [scan_same ls (unhide HS) E hE z, List.take_length, fat_all]
            · omega
          have hn : ls.length ≤ ls.length := Nat.le_refl _
          have hmx : (ls.length : Int) ≤ 9223372036854775807 := by unfold maxLen at h2; omega
          have hLL : (xorL (frms ls) E).length = (frms ls).length := xorL_length _ _ hE.symm
          have C7 := hide ((unhide HK).scan _ _ wr ((unhide HK).keep _ _ (unhide HG) (unhide hB)) (unhide hO).bs (by omega))
          rw [unhide HSC] at C7
          obtain ⟨g', ac', hav, _, hai⟩ := (unhide hI).form (by simp)
          rw [List.length_map, List.length_range] at hav
          cases hav
          have HA := hide (hai ls.length _ (fat_at ls ls.length hn))
          clear hai hO hI HSC hT
          go_wp2_with fail
          refine (unhide C7).mono ?_
          rintro e w8 ⟨r8, rfl, o8, b8⟩
          have B8 := hide ((unhide hB).trans (b8.mono (unhide hB).size))
          have a0 : w8.cell? ⟨g, ls.length, none⟩ = some (.int .i64 (fat ls ls.length : Int)) := by
            have := unhide HA
            rw [add0] at this
            rw [b8.cell (cell_lt' this)]; exact this
          obtain ⟨v9, s9, b9⟩ := ((unhide HL).keep (unhide B8)).h ls.length hn (ls.length : Int) rfl
          have C9 := hide (same_any (ls.take ls.length) (ls.take ls.length) r8 v9 w8 o8.ls b9)
          rw [decide_eq_true rfl] at C9
          clear b9 o8 b8 HA C7 hB
          go_wp2_with fail
          refine (unhide C9).mono ?_
          rintro e w10 ⟨rfl, m10, hw10⟩
          have a0' : w10.cell? ⟨g, ls.length, none⟩ = some (.int .i64 (fat ls ls.length : Int)) := by rw [hw10]; exact a0
          have B10 : Hid (Below w1.heap.size w1 w10) := by rw [hw10]; exact (unhide B8).trans (below_drewN _ _ _)
          clear C9 hw10 a0 B8
          go_wp2
          go_ret
          exact ⟨rfl, unhide B10⟩
        · have hfd : decide (0 ≤ first) = true := decide_eq_true (by omega)
          obtain ⟨f, hf, HF1, HF2⟩ : ∃ f : Nat, first = (f : Int) ∧ Hid ((bitsL E)[f]? = some true) ∧ Hid (∀ k : Nat, k < f → (bitsL E)[k]? ≠ some true) := by
            rcases (unhide hT).2 with ⟨z, _⟩ | ⟨f, z1, z2, z3⟩
            · omega
            · exact ⟨f, z1, z2, z3⟩
          subst hf
          obtain ⟨g', ac', hav, _, hai⟩ := (unhide hI).form (by simp)
          rw [List.length_map, List.length_range] at hav
          cases hav
          have HA0 : Hid (∀ j, j ≤ ls.length → wr.cell? ⟨g, j, none⟩ = some (.int .i64 (fat ls j : Int))) := fun j hj => by
            have := hai j _ (fat_at ls j hj)
            rw [add0] at this
            exact this
          have hmx : ls.length ≤ 9223372036854775800 := by
            have : ls.length ≤ (frms ls).length := by
              have : ∀ k, k ≤ ls.length → k ≤ fat ls k := by
                intro k
                induction k with
                | zero => intro _; omega
                | succ k ih => intro q; have := ih (by omega); have := fat_succ ls k (by omega); omega
              have := this ls.length (Nat.le_refl _)
              rwa [fat_all] at this
            omega
          clear hai
          go_wp2
          go_loopw [16] (fun nv wq => ∃ n : Nat, n ≤ ls.length ∧ nv = .int .i64 (n : Int) ∧ 8 * fat ls n ≤ f ∧ wq = wr) (fun nv _ => ls.length - (intOf nv).toNat)
          case atStart => exact ⟨0, by omega, rfl, by rw [fat_zero]; omega, rfl⟩
          case round =>
            obtain ⟨n, hn, rfl, hfn, rfl⟩ := hrel
            have hnl : n < ls.length := by
              rcases Nat.lt_or_ge n ls.length with q | q
              · exact q
              · have : n = ls.length := by omega
                rw [this, fat_all] at hfn
                omega
            have a1 := unhide HA0 (n + 1) (by omega)
            have hfl : fat ls (n + 1) ≤ (frms ls).length := by rw [← fat_all]; exact fat_mono ls (n + 1) ls.length hnl (Nat.le_refl _)
            by_cases hq : fat ls (n + 1) * 8 ≤ f
            · have e2 : decide ((fat ls (n + 1) : Int) * 8 ≤ (f : Int)) = true := decide_eq_true (by omega)
              go_wp2
              exact ⟨⟨n + 1, by omega, by go_num, by omega, trivial⟩, by simp [intOf]; omega⟩
            · have e2 : decide ((fat ls (n + 1) : Int) * 8 ≤ (f : Int)) = false := decide_eq_false (by omega)
              have HSC : Hid (scan (xorL (frms ls) E) = (ls.take n, fat ls n)) := scan_burst ls (unhide HS) E hE (unhide hW) n hnl f (unhide HF1) (unhide HF2) hfn (by omega)
              have hLL : (xorL (frms ls) E).length = (frms ls).length := xorL_length _ _ hE.symm
              have C7 := hide ((unhide HK).scan _ _ wr ((unhide HK).keep _ _ (unhide HG) (unhide hB)) (unhide hO).bs (by omega))
              rw [unhide HSC] at C7
              obtain ⟨g', ac', hav, _, hai⟩ := (unhide hI).form (by simp)
              rw [List.length_map, List.length_range] at hav
              cases hav
              have HA := hide (hai n _ (fat_at ls n hn))
              clear hai hO hI HSC hT
              go_wp2_with fail
              refine (unhide C7).mono ?_
              rintro e w8 ⟨r8, rfl, o8, b8⟩
              have B8 := hide ((unhide hB).trans (b8.mono (unhide hB).size))
              have a0 : w8.cell? ⟨g, n, none⟩ = some (.int .i64 (fat ls n : Int)) := by
                have := unhide HA
                rw [add0] at this
                rw [b8.cell (cell_lt' this)]; exact this
              obtain ⟨v9, s9, b9⟩ := ((unhide HL).keep (unhide B8)).h n hn (n : Int) rfl
              have C9 := hide (same_any (ls.take n) (ls.take n) r8 v9 w8 o8.ls b9)
              rw [decide_eq_true rfl] at C9
              clear b9 o8 b8 HA C7 hB
              go_wp2_with fail
              refine (unhide C9).mono ?_
              rintro e w10 ⟨rfl, m10, hw10⟩
              have a0' : w10.cell? ⟨g, n, none⟩ = some (.int .i64 (fat ls n : Int)) := by rw [hw10]; exact a0
              have B10 : Hid (Below w1.heap.size w1 w10) := by rw [hw10]; exact (unhide B8).trans (below_drewN _ _ _)
              clear C9 hw10 a0 B8
              go_wp2
              go_ret
              exact ⟨rfl, unhide B10⟩

end Go.Proofs.YtgafjbgplcjnnaaDoor.fr
