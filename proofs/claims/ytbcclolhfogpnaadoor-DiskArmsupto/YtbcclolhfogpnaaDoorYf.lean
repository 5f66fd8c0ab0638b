/- DiskArms, over the calls' contracts. -/
import Derived.Test.YtbcclolhfogpnaaDoorYe
namespace Go.Proofs.YtbcclolhfogpnaaDoor.dk
open Go.RowKit Go.Joins mm

def abc : List UInt8 := [97, 98, 99]
/-- How long a file may be. -/
def Len (s : St) (l : List Op) (k : Nat) : Prop := s.file.length ≤ 3 + tot (l.take k)
theorem Len.le {s : St} {l : List Op} {k : Nat} (h : Len s l k) (ht : tot l ≤ 1048576) : s.file.length ≤ 1048579 := by
  have := tot_le l k
  unfold Len at h
  omega

set_option maxRecDepth 100000 in
set_option maxHeartbeats 3200000 in
theorem arms_law {a b : Addr} {G : World → Prop} {D : World → Addr → Bl → St → Prop} (K : DiskOK a b G D) (n : Int) (l : List Op) (v : Value) (w : World) (hG : G w) (h : OPS w v l) (hn0 : -9223372036854775808 ≤ n) (hn1 : n ≤ 9223372036854775807) (hl : l.length ≤ 2000000) (hb : ∀ o ∈ l, OB 2000000 o) (ht : tot l ≤ 1048576) :
    Calls Tryd.prog 5 #[.int .i64 n, v] w fun e w' => e = .returned (.bool true) ∧ Below w.heap.size w w' := by
  have HK := hide K
  have HG := hide hG
  have H := hide h
  have HL := hide hl
  have HB := hide hb
  have HT := hide ht
  have C1 := hide (shown_any K w hG)
  obtain ⟨oa, c, rfl, h1, h2⟩ := h.form
  have H2 := hide h2
  obtain ⟨M, hM, hM1, hM2⟩ : ∃ M : Nat, 1 + pk n 12 = (M : Int) ∧ 1 ≤ M ∧ M ≤ 12 := by
    have := pk_in n 12 (by decide)
    exact ⟨(1 + pk n 12).toNat, by omega, by omega, by omega⟩
  have HP := hide (show ∀ u : World, Calls Tryd.prog 14 #[.int .i64 n, .int .i64 12] u fun e w' => e = .returned (.int .i64 (pk n 12)) ∧ w' = u from fun u => pick_any n 12 u hn0 hn1 (by decide) (by decide))
  clear K hG h hl hb h2 ht hn0 hn1
  go_enter Tryd.func5, Tryd.ntmps5
  go_wp2_with fail
  refine (unhide C1).mono ?_
  rintro e w1 ⟨rfl, b1⟩
  have B1 := hide b1
  clear C1 b1
  have C2 := hide ((unhide HK).new w1 ((unhide HK).keep _ _ (unhide HG) (unhide B1)))
  go_wp2_with fail
  refine (unhide C2).mono ?_
  rintro e w2 ⟨p, F0, rfl, d2, f2, b2⟩
  have B2 := hide ((unhide B1).trans (b2.mono (unhide B1).size))
  have D2 := hide d2
  have F2 : Hid (∀ k, F0 k → w.heap.size ≤ k) := fun k hk => by have := f2 k hk; have := (unhide B1).size; omega
  clear C2 d2 f2 b2 B1
  have C3 := hide (unhide HP w2)
  have hpn : (1 : Int) + pk n 12 = (M : Int) := hM
  have HM := hide hM
  clear hM HP
  generalize pk n 12 = q at *
  have hqb : 0 ≤ q ∧ q ≤ 11 := by omega
  obtain ⟨hq0, hq1⟩ := hqb
  go_wp2_with fail
  refine (unhide C3).mono ?_
  rintro e w2' ⟨rfl, hw⟩
  obtain rfl := hw.symm
  clear C3
  have hcv := run_convert_bytes_const_at (P := Tryd.prog) w2 27 5 #[.int .u8 97, .int .u8 98, .int .u8 99] 3 3 w2.heap.size rfl Tryd.underlying27 Tryd.underlying5
  have al := hide ((Below.refl w2.heap.size w2).alloc (Nat.le_refl _) (.cells #[.int .u8 97, .int .u8 98, .int .u8 99] 5 (3, 4)))
  have Y3 : Hid (BY (w2.alloc (.cells #[.int .u8 97, .int .u8 98, .int .u8 99] 5 (3, 4))) (.slice (some ⟨w2.heap.size, 0, none⟩) 3 3) abc) := by_cells (heap_alloc_new w2 _) abc rfl (by unfold maxLen; decide)
  have D3 := hide ((unhide HK).dkeep _ _ _ _ _ (unhide D2) (fun k hk => (unhide al).block k ((unhide HK).dlt _ _ _ _ (unhide D2) k hk)))
  have B3 := hide ((unhide B2).trans ((unhide al).mono (unhide B2).size))
  have C4 := hide ((unhide HK).append _ p F0 st0 _ abc ((unhide HK).keep _ _ (unhide HG) (unhide B3)) (unhide D3) (unhide Y3) (by decide))
  rw [show sApp st0 abc = (⟨abc, 0, false, 0⟩, 0) from rfl] at C4
  simp only [er] at C4
  clear D2 B2 al Y3
  go_wp2_with fail
  refine (unhide C4).mono ?_
  rintro e w4 ⟨F4, rfl, d4, m4⟩
  have B4 := hide (m4.below (unhide B3) (unhide F2) (unhide B3).size)
  have G4 := hide (m4.from (unhide F2) (unhide B3).size)
  have D4 := hide d4
  clear C4 d4 m4 D3 B3 F2
  have C5 := hide ((unhide HK).sync _ p F4 _ ((unhide HK).keep _ _ (unhide HG) (unhide B4)) (unhide D4))
  rw [show sSyn ⟨abc, 0, false, 0⟩ = (⟨abc, 3, false, 0⟩, 0) from rfl] at C5
  simp only [er] at C5
  go_wp2_with fail
  refine (unhide C5).mono ?_
  rintro e w5 ⟨F5, rfl, d5, m5⟩
  have B5 := hide (m5.below (unhide B4) (unhide G4) (unhide B4).size)
  have G5 := hide (m5.from (unhide G4) (unhide B4).size)
  have D5 := hide d5
  clear C5 d5 m5 D4 B4 G4
  have C6 := hide ((unhide HK).arm _ p F5 _ (M : Int) ((unhide HK).keep _ _ (unhide HG) (unhide B5)) (unhide D5) (by omega) (by omega))
  rw [show sArm ⟨abc, 3, false, 0⟩ (M : Int) = ⟨abc, 3, false, M⟩ from rfl] at C6
  go_wp2_with fail
  refine (unhide C6).mono ?_
  rintro e w6 ⟨F6, rfl, d6, m6⟩
  have B6 := hide (m6.below (unhide B5) (unhide G5) (unhide B5).size)
  have G6 := hide (m6.from (unhide G5) (unhide B5).size)
  have D6 := hide d6
  clear C6 d6 m6 D5 B5 G5 hcv
  go_wp2
  go_loopw [10, 11, 12] (fun av fv iv wr => ∃ (k A : Nat) (s : St) (F : Bl), k ≤ l.length ∧ A ≤ 12 ∧ iv = .int .i64 (k : Int) ∧ av = .int .i64 (A : Int) ∧ fv = .string (str s.file) ∧ Hid (Arms M A s) ∧ Hid (D wr p F s) ∧ Hid (Wf s) ∧ Hid (Len s l k) ∧ Hid (∀ k, F k → w.heap.size ≤ k) ∧ Hid (Below w.heap.size w wr)) (fun _ _ iv _ => l.length - (intOf iv).toNat)
  case atStart => exact ⟨0, 0, ⟨abc, 3, false, M⟩, F6, by omega, by omega, rfl, rfl, rfl, ⟨by omega, Or.inl ⟨by omega, rfl, rfl⟩⟩, D6, (by show (3 : Nat) ≤ 3; omega), (by show (3 : Nat) ≤ _; omega), G6, B6⟩
  case round =>
    obtain ⟨k, A, s, F, hk, hA, rfl, rfl, rfl, hAr, hD, hWf, hLn, hF, hB⟩ := hrel
    by_cases hc : k < l.length
    · have e1 : (k : Int) < (l.length : Int) := by omega
      obtain ⟨oo, hoo⟩ : ∃ o, l[k]? = some o := ⟨l[k], List.getElem?_eq_getElem hc⟩
      obtain ⟨aa, c', e, _, _, hcell⟩ := (unhide H).at (by omega)
      cases e
      have hC := hcell k oo hoo
      have kc : ∀ (q : Addr) (x : Value), w.cell? q = some x → wr.cell? q = some x := fun q x hq => by rw [(unhide hB).cell (cell_lt hq)]; exact hq
      obtain ⟨ev, hev, hby⟩ := hC.c2
      have f0 := kc _ _ hC.c0
      have f1 := kc _ _ (at1 1 (by omega) hC.c1)
      have f2 := kc _ _ (at1 2 (by omega) hev)
      have f3 := kc _ _ (at1 3 (by omega) hC.c3)
      have f4 := kc _ _ (at1 4 (by omega) hC.c4)
      have f5 := kc _ _ (at1 5 (by omega) hC.c5)
      obtain ⟨oe, ce, rfl⟩ : ∃ oe ce, ev = .slice oe oo.data.length ce := by
        obtain ⟨oe, ce, e, _⟩ := hby.form
        exact ⟨oe, ce, e⟩
      have HBY := hide hby
      have HO := hide (unhide HB oo (List.mem_of_getElem? hoo))
      have LN1 := hide (tot_take l k oo hoo)
      clear hcell hC hev hby hoo kc
      go_upto_region 15 with fail
      obtain ⟨W2, hW2⟩ : ∃ W2, W2 = wr.alloc (.cells #[.int .i64 oo.kind, .bool oo.other, .slice oe oo.data.length ce, .int .i64 oo.n, .int .i64 oo.at_, .int .u32 (oo.turn : Int)] 36) := ⟨_, rfl⟩
      rw [← hW2]
      have k2 : Hid (Below wr.heap.size wr W2) := by rw [hW2]; exact (Below.refl _ _).alloc (Nat.le_refl _) _
      have hbk : Hid (W2.heap[wr.heap.size]? = some (.cells #[.int .i64 oo.kind, .bool oo.other, .slice oe oo.data.length ce, .int .i64 oo.n, .int .i64 oo.at_, .int .u32 (oo.turn : Int)] 36)) := by rw [hW2]; exact heap_alloc_new wr _
      have dl := hide ((unhide HK).dlt _ _ _ _ (unhide hD))
      have D3 := hide ((unhide HK).dkeep _ W2 _ _ _ (unhide hD) (fun q hq => (unhide k2).block q (unhide dl q hq)))
      have B3 := hide ((unhide hB).trans ((unhide k2).mono (unhide hB).size))
      have s2 : Hid (W2.heap.size = wr.heap.size + 1) := by rw [hW2]; exact World.size_alloc _ _
      obtain ⟨x0, x2, x3⟩ : W2.cell? ⟨wr.heap.size, 0, none⟩ = some (.int .i64 oo.kind) ∧ W2.cell? ⟨wr.heap.size, 2, none⟩ = some (.slice oe oo.data.length ce) ∧ W2.cell? ⟨wr.heap.size, 3, none⟩ = some (.int .i64 oo.n) :=
        ⟨blk_cell (unhide hbk) 0, blk_cell (unhide hbk) 2, blk_cell (unhide hbk) 3⟩
      clear f0 f1 f2 f3 f4 f5 hW2 D6 G6 B6
      have C3 := hide (pick_any oo.kind 3 W2 (unhide HO).kind.1 (unhide HO).kind.2 (by decide) (by decide))
      have hpk := pk_in oo.kind 3 (by decide)
      generalize hpg : pk oo.kind 3 = kk at *
      clear hpg
      go_wp2_with fail
      refine (unhide C3).mono ?_
      rintro e w3 ⟨rfl, hw⟩
      obtain rfl := hw.symm
      clear C3
      have hszA : (str s.file).size = s.file.length := str_size _
      have OB2 : Hid (OB 2000000 ⟨kk, false, oo.data, oo.n, 0, 0⟩) := ⟨⟨by show _ ≤ kk; omega, by show kk ≤ _; omega⟩, (unhide HO).n, ⟨by show _ ≤ (0 : Int); decide, by show (0 : Int) ≤ _; decide⟩, by show (0 : Nat) < _; decide, (unhide HO).data⟩
      obtain ⟨s', er', hdo, hcs⟩ := arms_step (unhide hAr) kk ⟨kk, false, oo.data, oo.n, 0, 0⟩ hpk.1 hpk.2
      have hp6 : pk kk 6 = kk := by unfold pk; rw [if_neg (by omega)]; exact Int.emod_eq_of_lt hpk.1 (by omega)
      have C4 := hide (does_any (unhide HK) W2 p F s ⟨kk, false, oo.data, oo.n, 0, 0⟩ _ ((unhide HK).keep _ _ (unhide HG) (unhide B3)) (unhide D3) ((unhide HBY).keep (unhide B3)) (unhide OB2) (by have := (unhide hLn).le (unhide HT); have := (unhide HO).data; show _ + oo.data.length ≤ _; omega))
      have W5 := hide (wf_do (unhide hWf) kk ⟨kk, false, oo.data, oo.n, 0, 0⟩)
      have L5 := hide (do_len (unhide hWf) kk ⟨kk, false, oo.data, oo.n, 0, 0⟩)
      simp only [hp6] at C4
      rw [hdo] at C4 W5 L5
      unfold opv at C4
      simp only [show ((0 : Nat) : Int) = 0 from rfl] at C4
      have HCS := hide hcs
      have HPK := hide hpk
      clear hdo hcs OB2 hp6 hpk
      -- behind does
      go_wp2_with fail
      refine (unhide C4).mono ?_
      rintro e w5 ⟨F', rfl, d5, m5⟩
      have D5 := hide d5
      have B5 := hide (m5.below (unhide B3) (unhide hF) (unhide B3).size)
      have F5 := hide (m5.from (unhide hF) (unhide B3).size)
      have hb5 := hide ((m5.block wr.heap.size (by have := unhide s2; omega) (fun q => by have := unhide dl _ q; omega)).trans (unhide hbk))
      have z5 := hide (show wr.heap.size < w5.heap.size by have := m5.size; have := unhide s2; omega)
      have l5 : Hid (Len s' l (k + 1)) := by show _ ≤ _; have q1 : s'.file.length ≤ s.file.length + oo.data.length := unhide L5; have q2 := unhide hLn; unfold Len at q2; have q3 := unhide LN1; omega
      clear C4 d5 m5 D3 B3 hbk k2 s2 x0 x2 x3 hF L5 LN1 HBY dl
      have C5 := hide ((unhide HK).bytes w5 p F' s' ((unhide HK).keep _ _ (unhide HG) (unhide B5)) (unhide D5) (by have := (unhide l5).le (unhide HT); omega))
      go_wp2_with fail
      refine (unhide C5).mono ?_
      rintro e w6 ⟨vb6, rfl, oy6, b6⟩
      have hcv6 := by_str oy6.by
      obtain ⟨oa6, c6, rfl⟩ : ∃ o c, vb6 = .slice o s'.file.length c := by
        obtain ⟨o, c, e, _⟩ := oy6.by.form
        exact ⟨o, c, e⟩
      have dl5 := hide ((unhide HK).dlt _ _ _ _ (unhide D5))
      have D6 := hide ((unhide HK).dkeep _ w6 _ _ _ (unhide D5) (fun q hq => b6.block q (unhide dl5 q hq)))
      have B6 := hide ((unhide B5).trans (b6.mono (unhide B5).size))
      have hb6 := hide ((b6.block _ (unhide z5)).trans (unhide hb5))
      have z6 := hide (show wr.heap.size < w6.heap.size by have := unhide z5; have := b6.size; omega)
      clear C5 oy6 b6 D5 B5 hb5 z5 dl5
      have C6 := hide ((unhide HK).up w6 p F' s' ((unhide HK).keep _ _ (unhide HG) (unhide B6)) (unhide D6))
      go_wp2_with fail
      refine (unhide C6).mono ?_
      rintro e w7 ⟨rfl, b7⟩
      have dl6 := hide ((unhide HK).dlt _ _ _ _ (unhide D6))
      have D7 := hide ((unhide HK).dkeep _ w7 _ _ _ (unhide D6) (fun q hq => b7.block q (unhide dl6 q hq)))
      have B7 := hide ((unhide B6).trans (b7.mono (unhide B6).size))
      have hb7 := (b7.block _ (unhide z6)).trans (unhide hb6)
      have x3 : w7.cell? ⟨wr.heap.size, 3, none⟩ = some (.int .i64 oo.n) := blk_cell hb7 3
      obtain ⟨cA, cD, ne, la, lb⟩ := (unhide HK).sent _ ((unhide HK).keep _ _ (unhide HG) (unhide B7))
      have n1 := neq_same w7 a
      have n2 := neq_same w7 b
      have n3 := eql_same w7 b
      have n4 := run_eql_iface_nil_left (P := Tryd.prog) w7 66 (.pointer (some b)) Tryd.underlying42
      clear C6 b7 D6 B6 hb6 z6 dl6 hb7 ne la lb hcv6
      have e2 : (k : Int) < 9223372036854775807 := by have := unhide HL; omega
      have LK : Hid (Len s' l (k + 1)) := l5
      rcases unhide HCS with ⟨hAM, rfl, rfl, hoff⟩ | ⟨hAM, hk2, hr, rfl, rfl, hoff⟩ | ⟨hAM, hnr, hAr2, hee⟩
      · obtain rfl : A = M := by omega
        have g1 : decide ((A : Int) ≤ (A : Int)) = true := decide_eq_true (by omega)
        rw [hoff]
        simp only [er, Bool.not_true]
        clear HCS HPK HT HL HB HO hLn l5 hWf hM1 hM2 hpn hAM hoff hA
        generalize hgF : str s'.file = gF at *
        have HGF := hide hgF
        clear hgF
        go_wp2
        exact ⟨⟨k + 1, A, s', F', by omega, by have := (unhide hAr).1; have := unhide HM; omega, by go_num, rfl, by rw [unhide HGF], hAr, D7, W5, LK, F5, B7⟩, by simp [intOf]; omega⟩
      · have g1 : decide ((M : Int) ≤ (A : Int)) = false := decide_eq_false (by omega)
        have g1n : decide (M ≤ A) = false := decide_eq_false (by omega)
        subst hk2
        rw [hoff]
        simp only [er, Bool.not_false]
        by_cases hneg : oo.n < 0
        · have g2 : decide (oo.n < 0) = true := decide_eq_true hneg
          clear HCS HPK HT HL HB HO hLn l5 hWf hM1 hM2 hpn hAM hoff hneg hr
          generalize hgF : str s'.file = gF at *
          have HGF := hide hgF
          clear hgF
          go_wp2
          exact ⟨⟨k + 1, A, s', F', by omega, hA, by go_num, rfl, by rw [unhide HGF], hAr, D7, W5, LK, F5, B7⟩, by simp [intOf]; omega⟩
        · have g2 : decide (oo.n < 0) = false := decide_eq_false hneg
          have g3 : decide ((s'.file.length : Int) < oo.n) = true := decide_eq_true (by rcases hr with q | q; exact absurd q hneg; exact q)
          clear HCS HPK HT HL HB HO hLn l5 hWf hM1 hM2 hpn hAM hoff hneg hr
          generalize hgF : str s'.file = gF at *
          have HGF := hide hgF
          clear hgF
          go_wp2
          exact ⟨⟨k + 1, A, s', F', by omega, hA, by go_num, rfl, by rw [unhide HGF], hAr, D7, W5, LK, F5, B7⟩, by simp [intOf]; omega⟩
      · have g1 : decide ((M : Int) ≤ (A : Int)) = false := decide_eq_false (by omega)
        have g1n : decide (M ≤ A) = false := decide_eq_false (by omega)
        have HAR := hide hAr2
        have hkc : (kk == 2) = false ∨ (kk = 2 ∧ decide (oo.n < 0) = false ∧ decide ((s.file.length : Int) < oo.n) = false) := by
          by_cases q : kk = 2
          · refine Or.inr ⟨q, decide_eq_false (fun z => hnr ⟨q, Or.inl z⟩), decide_eq_false (fun z => hnr ⟨q, Or.inr z⟩)⟩
          · exact Or.inl (by rw [beq_eq_false_iff_ne]; exact q)
        clear hAr2 hnr
        rcases hee with ⟨hlt, rfl, hoff⟩ | ⟨heq, rfl, hoff⟩
        · rw [hoff]
          simp only [er, Bool.not_false]
          have g4 : decide ((A : Int) + 1 < (M : Int)) = true := decide_eq_true (by omega)
          have g5 : ((A : Int) + 1 == (M : Int)) = false := by rw [beq_eq_false_iff_ne]; omega
          have hA2 : A + 1 ≤ 12 := by omega
          have HA2 := hide hA2
          have hA3 : (A : Int) < 100 := by omega
          clear HCS HPK HT HL HB HO hLn l5 hWf hM1 hM2 hpn hAM hoff hA2
          generalize hgF : str s'.file = gF at *
          generalize str s.file = gA at *
          have HGF := hide hgF
          clear hgF
          rcases hkc with hk2 | ⟨rfl, g6, g7⟩
          · go_wp2
            exact ⟨⟨k + 1, A + 1, s', F', by omega, unhide HA2, by go_num, by go_num, by rw [unhide HGF], HAR, D7, W5, LK, F5, B7⟩, by simp [intOf]; omega⟩
          · go_wp2
            exact ⟨⟨k + 1, A + 1, s', F', by omega, unhide HA2, by go_num, by go_num, by rw [unhide HGF], HAR, D7, W5, LK, F5, B7⟩, by simp [intOf]; omega⟩
        · rw [hoff]
          simp only [er, Bool.not_true]
          have g4 : decide ((A : Int) + 1 < (M : Int)) = false := decide_eq_false (by omega)
          have g5 : ((A : Int) + 1 == (M : Int)) = true := by rw [beq_iff_eq]; omega
          have hA2 : A + 1 ≤ 12 := by omega
          have HA2 := hide hA2
          have hA3 : (A : Int) < 100 := by omega
          clear HCS HPK HT HL HB HO hLn l5 hWf hM1 hM2 hpn hAM hoff hA2
          generalize hgF : str s'.file = gF at *
          generalize str s.file = gA at *
          have HGF := hide hgF
          clear hgF
          rcases hkc with hk2 | ⟨rfl, g6, g7⟩
          · go_wp2
            exact ⟨⟨k + 1, A + 1, s', F', by omega, unhide HA2, by go_num, by go_num, by rw [unhide HGF], HAR, D7, W5, LK, F5, B7⟩, by simp [intOf]; omega⟩
          · go_wp2
            exact ⟨⟨k + 1, A + 1, s', F', by omega, unhide HA2, by go_num, by go_num, by rw [unhide HGF], HAR, D7, W5, LK, F5, B7⟩, by simp [intOf]; omega⟩
    · obtain rfl : k = l.length := by omega
      have hle := (unhide hLn).le (unhide HT)
      have C7 := hide ((unhide HK).crash wr p F s 1099511627776 (-1) 0 ((unhide HK).keep _ _ (unhide HG) (unhide hB)) (unhide hD) (by omega) (by decide) (by decide) (by decide) (by decide) (by decide))
      rw [crash_all s (by omega)] at C7
      simp only [show ((0 : Nat) : Int) = 0 from rfl] at C7
      have HLE := hide hle
      have hex : decide ((l.length : Int) < (l.length : Int)) = false := decide_eq_false (by omega)
      clear hle D6 G6 B6 hM1 hM2 hpn HM hA
      go_wp2_with fail
      refine (unhide C7).mono ?_
      rintro e w8 ⟨F8, rfl, d8, m8⟩
      have B8 := hide (m8.below (unhide hB) (unhide hF) (unhide hB).size)
      have G8 := hide (m8.from (unhide hF) (unhide hB).size)
      have D8 := hide d8
      clear C7 d8 m8 hD hB hF
      have hcz := run_convert_bytes_const_at (P := Tryd.prog) w8 27 5 #[.int .u8 122] 1 1 w8.heap.size rfl Tryd.underlying27 Tryd.underlying5
      have al := hide ((Below.refl w8.heap.size w8).alloc (Nat.le_refl _) (.cells #[.int .u8 122] 5 (1, 2)))
      have Y9 : Hid (BY (w8.alloc (.cells #[.int .u8 122] 5 (1, 2))) (.slice (some ⟨w8.heap.size, 0, none⟩) 1 1) [122]) := by_cells (heap_alloc_new w8 _) [122] rfl (by unfold maxLen; decide)
      have D9 := hide ((unhide HK).dkeep _ _ _ _ _ (unhide D8) (fun k hk => (unhide al).block k ((unhide HK).dlt _ _ _ _ (unhide D8) k hk)))
      have B9 := hide ((unhide B8).trans ((unhide al).mono (unhide B8).size))
      have C9 := hide ((unhide HK).append _ p F8 _ _ [122] ((unhide HK).keep _ _ (unhide HG) (unhide B9)) (unhide D9) (unhide Y9) (by have := unhide HLE; show s.file.length + 1 ≤ _; omega))
      rw [show sApp ⟨s.file, s.file.length, false, 0⟩ [122] = (⟨s.file ++ [122], s.file.length, false, 0⟩, 0) from rfl] at C9
      simp only [er] at C9
      clear D8 B8 al Y9
      go_wp2_with fail
      refine (unhide C9).mono ?_
      rintro e w10 ⟨F10, rfl, d10, m10⟩
      have B10 := hide (m10.below (unhide B9) (unhide G8) (unhide B9).size)
      have D10 := hide d10
      clear C9 d10 m10 D9 B9 G8 hcz
      have C10 := hide ((unhide HK).up w10 p F10 _ ((unhide HK).keep _ _ (unhide HG) (unhide B10)) (unhide D10))
      simp only [Bool.not_false] at C10
      go_wp2_with fail
      refine (unhide C10).mono ?_
      rintro e w11 ⟨rfl, b11⟩
      have D11 := hide ((unhide HK).dkeep _ w11 _ _ _ (unhide D10) (fun q hq => b11.block q ((unhide HK).dlt _ _ _ _ (unhide D10) q hq)))
      have B11 := hide ((unhide B10).trans (b11.mono (unhide B10).size))
      clear C10 b11 D10 B10
      have C11 := hide ((unhide HK).bytes w11 p F10 _ ((unhide HK).keep _ _ (unhide HG) (unhide B11)) (unhide D11) (by have := unhide HLE; show (s.file ++ [122]).length ≤ _; rw [List.length_append]; show s.file.length + 1 ≤ _; omega))
      go_wp2_with fail
      refine (unhide C11).mono ?_
      rintro e w12 ⟨vb, rfl, oy, b12⟩
      have hcv12 := by_str oy.by
      obtain ⟨o12, c12, rfl⟩ : ∃ o c, vb = .slice o (s.file ++ [122]).length c := by
        obtain ⟨o, c, e, _⟩ := oy.by.form
        exact ⟨o, c, e⟩
      have B12 := hide ((unhide B11).trans (b12.mono (unhide B11).size))
      have hadd := add_str s.file [122] (by have := unhide HLE; show s.file.length + 1 ≤ _; omega)
      have hz : str [122] = (⟨#[122]⟩ : ByteArray) := rfl
      rw [hz] at hadd
      simp only [List.length_append, List.length_cons, List.length_nil, Nat.zero_add] at hcv12
      clear C11 oy b12 D11 B11 hz
      generalize str (s.file ++ [122]) = gZ at *
      generalize str s.file = gA at *
      go_wp2
      go_ret
      exact ⟨rfl, unhide B12⟩
end Go.Proofs.YtbcclolhfogpnaaDoor.dk
