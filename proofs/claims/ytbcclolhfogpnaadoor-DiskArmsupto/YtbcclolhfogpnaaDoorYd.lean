/- DiskSafe, over the calls' contracts: what it leans on. -/
import Derived.Test.YtbcclolhfogpnaaDoorYc
namespace Go.Proofs.YtbcclolhfogpnaaDoor.dk
open Go.RowKit Go.Joins mm

theorem at1 {w : World} {a : Addr} {v : Value} (i : Nat) (hi : i ≠ 0) (h : w.cell? (a.add i) = some v) : w.cell? ⟨a.block, a.off + i, none⟩ = some v := by
  unfold Addr.add at h
  rwa [if_neg hi] at h
theorem str_take (l : List UInt8) (k : Nat) : (str l).extract 0 k = str (l.take k) := by
  have e := Lib.extract_data (str l) 0 k
  apply ByteArray.ext
  apply Array.toList_inj.mp
  rw [e]
  unfold str
  simp
set_option maxRecDepth 100000 in
theorem sl_str (l : List UInt8) (k : Nat) (h : k ≤ l.length) (n : Int) (e : n = (k : Int)) : ∀ u : World, (Instr.slice 9 (.string (str l)) none (some (.int .i64 n)) none).run Tryd.prog u = .ok (.string (str (l.take k))) u := fun u => by
  subst e
  rw [run_slice_string_h (P := Tryd.prog) (ht := Tryd.underlying9) (h0 := by omega) (h2 := by rw [str_size]; omega)]
  rw [Int.toNat_natCast, str_take l k]
theorem add_str (l m : List UInt8) (h : l.length + m.length ≤ 9223372036854775807) : ∀ u : World, (Op.stringOp .add (str l) (str m)).run Tryd.prog u = .ok (.string (str (l ++ m))) u := fun u => by
  rw [run_string_add_sum u _ _ (by rw [str_size, str_size]; exact h)]
  congr 2
/-- How long a file may be behind k steps. -/
def Bnd (s : St) (k : Nat) : Prop := s.file.length ≤ k * 2000000
/-- What stays safe. -/
def Sf (s s' : St) : Prop := s'.file.take s'.syn = s.file.take s.syn
theorem do_cases (s : St) (h : Wf s) (k : Int) (o : Op) (h0 : 0 ≤ k) (h6 : k < 6) : ∃ s' e, sDo s k o = (s', e) ∧
    ((k = 0 ∧ e = 0 ∧ s'.file = s.file ++ o.data ∧ Sf s s') ∨ (k = 0 ∧ e = 2 ∧ Sf s s') ∨ (k = 1 ∧ e = 0 ∧ s'.file = s.file ∧ s'.syn = s.file.length) ∨ (k = 1 ∧ e = 2 ∧ Sf s s') ∨
     (k = 2 ∧ e = 0 ∧ ∃ n : Nat, o.n = (n : Int) ∧ n ≤ s.file.length ∧ s'.file = s.file.take n ∧ s'.syn = min s.syn n) ∨ (k = 2 ∧ e = 1 ∧ Sf s s') ∨ (k = 2 ∧ e = 2 ∧ Sf s s') ∨ (k = 3 ∧ e = 0 ∧ Sf s s') ∨
     (k = 4 ∧ e = 0 ∧ s'.file.length ≤ s.file.length ∧ s'.syn = s'.file.length) ∨ (k = 5 ∧ e = 0 ∧ Sf s s')) := by
  have hc : k = 0 ∨ k = 1 ∨ k = 2 ∨ k = 3 ∨ k = 4 ∨ k = 5 := by omega
  have tk : ∀ b : List UInt8, (s.file ++ b).take s.syn = s.file.take s.syn := fun b => List.take_append_of_le_length h
  rcases hc with rfl | rfl | rfl | rfl | rfl | rfl
  · show ∃ s' e, sApp s o.data = (s', e) ∧ _
    unfold sApp
    by_cases h1 : s.off = true
    · rw [if_pos h1]; exact ⟨s, 2, rfl, Or.inr (Or.inl ⟨rfl, rfl, rfl⟩)⟩
    · rw [if_neg h1]
      by_cases h2 : s.arm = 1
      · rw [if_pos h2]; exact ⟨_, 2, rfl, Or.inr (Or.inl ⟨rfl, rfl, tk _⟩)⟩
      · rw [if_neg h2]; exact ⟨_, 0, rfl, Or.inl ⟨rfl, rfl, rfl, tk _⟩⟩
  · show ∃ s' e, sSyn s = (s', e) ∧ _
    unfold sSyn
    by_cases h1 : s.off = true
    · rw [if_pos h1]; exact ⟨s, 2, rfl, Or.inr (Or.inr (Or.inr (Or.inl ⟨rfl, rfl, rfl⟩)))⟩
    · rw [if_neg h1]
      by_cases h2 : s.arm = 1
      · rw [if_pos h2]; exact ⟨_, 2, rfl, Or.inr (Or.inr (Or.inr (Or.inl ⟨rfl, rfl, rfl⟩)))⟩
      · rw [if_neg h2]; exact ⟨_, 0, rfl, Or.inr (Or.inr (Or.inl ⟨rfl, rfl, rfl, rfl⟩))⟩
  · show ∃ s' e, sCut s o.n = (s', e) ∧ _
    unfold sCut
    by_cases h1 : s.off = true
    · rw [if_pos h1]; exact ⟨s, 2, rfl, Or.inr (Or.inr (Or.inr (Or.inr (Or.inr (Or.inr (Or.inl ⟨rfl, rfl, rfl⟩))))))⟩
    · rw [if_neg h1]
      by_cases h3 : o.n < 0 ∨ (s.file.length : Int) < o.n
      · rw [if_pos h3]; exact ⟨s, 1, rfl, Or.inr (Or.inr (Or.inr (Or.inr (Or.inr (Or.inl ⟨rfl, rfl, rfl⟩)))))⟩
      · rw [if_neg h3]
        by_cases h2 : s.arm = 1
        · rw [if_pos h2]; exact ⟨_, 2, rfl, Or.inr (Or.inr (Or.inr (Or.inr (Or.inr (Or.inr (Or.inl ⟨rfl, rfl, rfl⟩))))))⟩
        · rw [if_neg h2]; exact ⟨_, 0, rfl, Or.inr (Or.inr (Or.inr (Or.inr (Or.inl ⟨rfl, rfl, o.n.toNat, by omega, by omega, rfl, rfl⟩))))⟩
  · exact ⟨sArm s o.n, 0, rfl, Or.inr (Or.inr (Or.inr (Or.inr (Or.inr (Or.inr (Or.inr (Or.inl ⟨rfl, rfl, rfl⟩)))))))⟩
  · exact ⟨sCrash s o.n o.at_ o.turn, 0, rfl, Or.inr (Or.inr (Or.inr (Or.inr (Or.inr (Or.inr (Or.inr (Or.inr (Or.inl ⟨rfl, rfl, crash_len h _ _ _, rfl⟩))))))))⟩
  · exact ⟨s, 0, rfl, Or.inr (Or.inr (Or.inr (Or.inr (Or.inr (Or.inr (Or.inr (Or.inr (Or.inr ⟨rfl, rfl, rfl⟩))))))))⟩

set_option maxRecDepth 100000 in
set_option maxHeartbeats 3200000 in
theorem safe_law {a b : Addr} {G : World → Prop} {D : World → Addr → Bl → St → Prop} (K : DiskOK a b G D) (l : List Op) (v : Value) (w : World) (hG : G w) (h : OPS w v l) (hl : l.length ≤ 2000000) (hb : ∀ o ∈ l, OB 2000000 o) :
    Calls Tryd.prog 4 #[v] w fun e w' => e = .returned (.bool true) ∧ Below w.heap.size w w' := by
  have HK := hide K
  have HG := hide hG
  have H := hide h
  have HL := hide hl
  have HB := hide hb
  have C1 := hide (shown_any K w hG)
  obtain ⟨oa, c, rfl, h1, h2⟩ := h.form
  have H2 := hide h2
  clear K hG h hl hb h2
  go_enter Tryd.func4, Tryd.ntmps4
  go_wp2_with fail
  refine (unhide C1).mono ?_
  rintro e w1 ⟨rfl, b1⟩
  have B1 := hide b1
  clear C1 b1
  have C2 := hide ((unhide HK).new w1 ((unhide HK).keep _ _ (unhide HG) (unhide B1)))
  go_wp2_with fail
  refine (unhide C2).mono ?_
  rintro e w2 ⟨p, F0, rfl, d2, f2, b2⟩
  have B2 := hide ((unhide B1).trans (b2.mono (unhide B1).size))
  have D2 := hide d2
  have F2 : Hid (∀ k, F0 k → w.heap.size ≤ k) := fun k hk => by have := f2 k hk; have := (unhide B1).size; omega
  clear C2 d2 f2 b2 B1
  go_wp2
  go_loopw [5, 6] (fun sv iv wr => ∃ (k : Nat) (s : St) (F : Bl), k ≤ l.length ∧ iv = .int .i64 (k : Int) ∧ sv = .string (str (s.file.take s.syn)) ∧ Hid (D wr p F s) ∧ Hid (Wf s) ∧ Hid (Bnd s k) ∧ Hid (∀ k, F k → w.heap.size ≤ k) ∧ Hid (Below w.heap.size w wr)) (fun _ iv _ => l.length - (intOf iv).toNat)
  case atStart => exact ⟨0, st0, F0, by omega, rfl, rfl, D2, wf0, Nat.zero_le _, F2, B2⟩
  case round =>
    obtain ⟨k, s, F, hk, rfl, rfl, hD, hWf, hLn, hF, hB⟩ := hrel
    by_cases hc : k < l.length
    · have e1 : (k : Int) < (l.length : Int) := by omega
      obtain ⟨oo, hoo⟩ : ∃ o, l[k]? = some o := ⟨l[k], List.getElem?_eq_getElem hc⟩
      obtain ⟨aa, c', e, _, _, hcell⟩ := (unhide H).at (by omega)
      cases e
      have hC := hcell k oo hoo
      have kc : ∀ (q : Addr) (x : Value), w.cell? q = some x → wr.cell? q = some x := fun q x hq => by rw [(unhide hB).cell (cell_lt hq)]; exact hq
      obtain ⟨ev, hev, hby⟩ := hC.c2
      have f0 := kc _ _ hC.c0
      have f1 := kc _ _ (at1 1 (by omega) hC.c1)
      have f2 := kc _ _ (at1 2 (by omega) hev)
      have f3 := kc _ _ (at1 3 (by omega) hC.c3)
      have f4 := kc _ _ (at1 4 (by omega) hC.c4)
      have f5 := kc _ _ (at1 5 (by omega) hC.c5)
      obtain ⟨oe, ce, rfl⟩ : ∃ oe ce, ev = .slice oe oo.data.length ce := by
        obtain ⟨oe, ce, e, _⟩ := hby.form
        exact ⟨oe, ce, e⟩
      have HBY := hide hby
      have HO := hide (unhide HB oo (List.mem_of_getElem? hoo))
      clear hcell hC hev hby hoo kc
      go_upto_region 10 with fail
      obtain ⟨W2, hW2⟩ : ∃ W2, W2 = wr.alloc (.cells #[.int .i64 oo.kind, .bool oo.other, .slice oe oo.data.length ce, .int .i64 oo.n, .int .i64 oo.at_, .int .u32 (oo.turn : Int)] 36) := ⟨_, rfl⟩
      rw [← hW2]
      have k2 : Hid (Below wr.heap.size wr W2) := by rw [hW2]; exact (Below.refl _ _).alloc (Nat.le_refl _) _
      have hbk : Hid (W2.heap[wr.heap.size]? = some (.cells #[.int .i64 oo.kind, .bool oo.other, .slice oe oo.data.length ce, .int .i64 oo.n, .int .i64 oo.at_, .int .u32 (oo.turn : Int)] 36)) := by rw [hW2]; exact heap_alloc_new wr _
      have dl := hide ((unhide HK).dlt _ _ _ _ (unhide hD))
      have D3 := hide ((unhide HK).dkeep _ W2 _ _ _ (unhide hD) (fun q hq => (unhide k2).block q (unhide dl q hq)))
      have B3 := hide ((unhide hB).trans ((unhide k2).mono (unhide hB).size))
      have s2 : Hid (W2.heap.size = wr.heap.size + 1) := by rw [hW2]; exact World.size_alloc _ _
      have hkk : Hid (k * 2000000 ≤ 4000000000000) := by show _ ≤ _; have := unhide HL; omega
      clear f0 f1 f2 f3 f4 f5 hW2 D2 F2 B2
      -- the bytes ahead
      have C3 := hide ((unhide HK).bytes W2 p F s ((unhide HK).keep _ _ (unhide HG) (unhide B3)) (unhide D3) (by have hz := unhide hLn; unfold Bnd at hz; have := unhide hkk; omega))
      go_wp2_with fail
      refine (unhide C3).mono ?_
      rintro e w3 ⟨va, rfl, oy, b3⟩
      have hcv := by_str oy.by
      obtain ⟨oa3, c3, rfl, _, _⟩ := oy.by.form
      have D4 := hide ((unhide HK).dkeep _ w3 _ _ _ (unhide D3) (fun q hq => b3.block q (by have := unhide dl q hq; have := unhide s2; omega)))
      have B4 := hide ((unhide B3).trans (b3.mono (unhide B3).size))
      have Y4 := hide ((unhide HBY).keep (unhide B4))
      have hb4 := hide ((b3.block _ (by have := unhide s2; omega)).trans (unhide hbk))
      have z3 := hide (show wr.heap.size < w3.heap.size by have := b3.size; have := unhide s2; omega)
      clear C3 oy b3 D3 B3 hbk k2 s2
      obtain ⟨x0, x1, x2, x3, x4, x5⟩ : w3.cell? ⟨wr.heap.size, 0, none⟩ = some (.int .i64 oo.kind) ∧ w3.cell? ⟨wr.heap.size, 1, none⟩ = some (.bool oo.other) ∧ w3.cell? ⟨wr.heap.size, 2, none⟩ = some (.slice oe oo.data.length ce) ∧ w3.cell? ⟨wr.heap.size, 3, none⟩ = some (.int .i64 oo.n) ∧ w3.cell? ⟨wr.heap.size, 4, none⟩ = some (.int .i64 oo.at_) ∧ w3.cell? ⟨wr.heap.size, 5, none⟩ = some (.int .u32 (oo.turn : Int)) :=
        ⟨blk_cell (unhide hb4) 0, blk_cell (unhide hb4) 1, blk_cell (unhide hb4) 2, blk_cell (unhide hb4) 3, blk_cell (unhide hb4) 4, blk_cell (unhide hb4) 5⟩
      obtain ⟨s', er', hdo, hcs⟩ := do_cases s (unhide hWf) (pk oo.kind 6) oo (pk_in oo.kind 6 (by decide)).1 (pk_in oo.kind 6 (by decide)).2
      have C4 := hide (does_any (unhide HK) w3 p F s oo _ ((unhide HK).keep _ _ (unhide HG) (unhide B4)) (unhide D4) (unhide Y4) (unhide HO) (by have hz := unhide hLn; unfold Bnd at hz; have := unhide hkk; have := (unhide HO).data; omega))
      have W5 := hide (wf_do (unhide hWf) (pk oo.kind 6) oo)
      have L5 := hide (do_len (unhide hWf) (pk oo.kind 6) oo)
      rw [hdo] at C4 W5 L5
      unfold opv at C4
      have HCS := hide hcs
      clear hdo hcs
      go_wp2_with fail
      refine (unhide C4).mono ?_
      rintro e w5 ⟨F', rfl, d5, m5⟩
      have D5 := hide d5
      have M5 := hide m5
      clear C4 d5 m5
      have B5 := hide ((unhide M5).below (unhide B4) (unhide hF) (unhide B4).size)
      have F5 := hide ((unhide M5).from (unhide hF) (unhide B4).size)
      have hb5 := hide (((unhide M5).block wr.heap.size (unhide z3) (fun q => by have := unhide dl _ q; omega)).trans (unhide hb4))
      have z5 := hide (show wr.heap.size < w5.heap.size by have := unhide z3; have := (unhide M5).size; omega)
      have l5 : Hid (Bnd s' (k + 1)) := by show _ ≤ _; have := unhide L5; have q1 := unhide L5; have q2 := unhide hLn; unfold Bnd at q2; have q3 := (unhide HO).data; omega
      have hkk5 : Hid ((k + 1) * 2000000 ≤ 4000000000000) := by show _ ≤ _; have := unhide HL; omega
      clear M5 D4 B4 Y4 hb4 z3 x0 x1 x2 x3 x4 x5 hF L5
      have C5 := hide ((unhide HK).bytes w5 p F' s' ((unhide HK).keep _ _ (unhide HG) (unhide B5)) (unhide D5) (by have hz := unhide l5; unfold Bnd at hz; have := unhide hkk5; omega))
      go_wp2_with fail
      refine (unhide C5).mono ?_
      rintro e w6 ⟨vb6, rfl, oy6, b6⟩
      have hcv6 := by_str oy6.by
      obtain ⟨oa6, c6, rfl, _, _⟩ := oy6.by.form
      have dl5 := hide ((unhide HK).dlt _ _ _ _ (unhide D5))
      have D6 := hide ((unhide HK).dkeep _ w6 _ _ _ (unhide D5) (fun q hq => b6.block q (unhide dl5 q hq)))
      have B6 := hide ((unhide B5).trans (b6.mono (unhide B5).size))
      have hb6 := hide ((b6.block _ (unhide z5)).trans (unhide hb5))
      have z6 := hide (show wr.heap.size < w6.heap.size by have := unhide z5; have := b6.size; omega)
      clear C5 oy6 b6 D5 B5 hb5 z5 dl5
      have C6 := hide ((unhide HK).synced w6 p F' s' ((unhide HK).keep _ _ (unhide HG) (unhide B6)) (unhide D6))
      go_wp2_with fail
      refine (unhide C6).mono ?_
      rintro e w7 ⟨rfl, b7⟩
      have dl6 := hide ((unhide HK).dlt _ _ _ _ (unhide D6))
      have D7 := hide ((unhide HK).dkeep _ w7 _ _ _ (unhide D6) (fun q hq => b7.block q (unhide dl6 q hq)))
      have B7 := hide ((unhide B6).trans (b7.mono (unhide B6).size))
      have hb7 := (b7.block _ (unhide z6)).trans (unhide hb6)
      have x0 : w7.cell? ⟨wr.heap.size, 0, none⟩ = some (.int .i64 oo.kind) := blk_cell hb7 0
      have x2 : w7.cell? ⟨wr.heap.size, 2, none⟩ = some (.slice oe oo.data.length ce) := blk_cell hb7 2
      have x3 : w7.cell? ⟨wr.heap.size, 3, none⟩ = some (.int .i64 oo.n) := blk_cell hb7 3
      have hcd := by_str ((unhide HBY).keep (unhide B7))
      clear C6 b7 D6 B6 hb6 z6 dl6 hb7 HBY
      have C7 := hide (pick_any oo.kind 6 w7 (unhide HO).kind.1 (unhide HO).kind.2 (by decide) (by decide))
      generalize hpk : pk oo.kind 6 = kk at *
      clear hpk
      go_wp2_with fail
      refine (unhide C7).mono ?_
      rintro e w8 ⟨rfl, hw⟩
      obtain rfl := hw.symm
      clear C7
      have hszS : (str (s'.file.take s'.syn)).size = s'.syn := by rw [str_size, List.length_take]; exact Nat.min_eq_left (unhide W5)
      have hszF : (str s'.file).size = s'.file.length := str_size _
      have hszA : (str s.file).size = s.file.length := str_size _
      have hslF := sl_str s'.file s'.syn (unhide W5) (s'.syn : Int) rfl
      have kq1 : decide ((s'.file.length : Int) < (s'.syn : Int)) = false := decide_eq_false (by have := unhide W5; unfold Wf at this; omega)
      have kq2 : decide (s'.file.length < s'.syn) = false := decide_eq_false (by have := unhide W5; unfold Wf at this; omega)
      have e2 : (k : Int) < 9223372036854775807 := by have := unhide HL; omega
      rcases unhide HCS with ⟨rfl, rfl, q1, q2⟩ | ⟨rfl, rfl, q2⟩ | ⟨rfl, rfl, q1, q2⟩ | ⟨rfl, rfl, q2⟩ | ⟨rfl, rfl, n, qn, qn2, q1, q2⟩ | ⟨rfl, rfl, q2⟩ | ⟨rfl, rfl, q2⟩ | ⟨rfl, rfl, q2⟩ | ⟨rfl, rfl, q1, q2⟩ | ⟨rfl, rfl, q2⟩
      ·
        have hadd := add_str s.file oo.data (by have hz := unhide hLn; unfold Bnd at hz; have := unhide hkk; have := (unhide HO).data; omega)
        rw [← q1] at hadd
        have q2' : str (s.file.take s.syn) = str (s'.file.take s'.syn) := by rw [← q2]
        rw [q2']
        simp only [er]
        clear q1 q2 q2' HCS hcv hcv6 hszA hLn hkk hkk5 HL HB HO
        generalize hgS : str (s'.file.take s'.syn) = gS at *
        generalize str s'.file = gF at *
        generalize str s.file = gA at *
        generalize str oo.data = gD at *
        have HGS := hide hgS
        clear hgS
        go_wp2
        exact ⟨⟨k + 1, s', F', by omega, by go_num, by rw [unhide HGS], D7, W5, l5, F5, B7⟩, by simp [intOf]; omega⟩
      ·
        have q2' : str (s.file.take s.syn) = str (s'.file.take s'.syn) := by rw [← q2]
        rw [q2']
        simp only [er]
        clear q2 q2' HCS hcv hcv6 hszA hLn hkk hkk5 HL HB HO
        generalize hgS : str (s'.file.take s'.syn) = gS at *
        generalize str s'.file = gF at *
        generalize str s.file = gA at *
        generalize str oo.data = gD at *
        have HGS := hide hgS
        clear hgS
        go_wp2
        exact ⟨⟨k + 1, s', F', by omega, by go_num, by rw [unhide HGS], D7, W5, l5, F5, B7⟩, by simp [intOf]; omega⟩
      ·
        simp only [er]
        have hq : s'.syn = s'.file.length := by rw [q2, q1]
        have hsf : str (s'.file.take s'.syn) = str s'.file := by rw [List.take_of_length_le (by omega)]
        have HT := hide hsf
        rw [hsf, hszF] at hszS
        rw [hsf] at hslF
        have ne0 : ((s'.syn : Int) != (s'.file.length : Int)) = false := by rw [hq]; simp
        have ne1 : (s'.syn != s'.file.length) = false := by rw [hq]; simp
        clear hsf hszS q1 q2 HCS hcv hcv6 hLn hkk hkk5 HL HB HO hq
        generalize hgF : str s'.file = gF at *
        generalize str (s.file.take s.syn) = gO at *
        generalize str s.file = gA at *
        generalize str oo.data = gD at *
        have HGF := hide hgF
        clear hgF
        go_wp2
        exact ⟨⟨k + 1, s', F', by omega, by go_num, by rw [unhide HT], D7, W5, l5, F5, B7⟩, by simp [intOf]; omega⟩
      ·
        have q2' : str (s.file.take s.syn) = str (s'.file.take s'.syn) := by rw [← q2]
        rw [q2']
        simp only [er]
        clear q2 q2' HCS hcv hcv6 hszA hLn hkk hkk5 HL HB HO
        generalize hgS : str (s'.file.take s'.syn) = gS at *
        generalize str s'.file = gF at *
        generalize str s.file = gA at *
        generalize str oo.data = gD at *
        have HGS := hide hgS
        clear hgS
        go_wp2
        exact ⟨⟨k + 1, s', F', by omega, by go_num, by rw [unhide HGS], D7, W5, l5, F5, B7⟩, by simp [intOf]; omega⟩
      ·
        simp only [er]
        have hslA := sl_str s.file n qn2 (n : Int) rfl
        rw [← q1] at hslA
        rw [qn] at x3
        have g1 : decide ((n : Int) < 0) = false := decide_eq_false (by omega)
        have g2 : decide ((s.file.length : Int) < (n : Int)) = false := decide_eq_false (by omega)
        have g3 : decide (s.file.length < n) = false := decide_eq_false (by omega)
        have hszO : (str (s.file.take s.syn)).size = s.syn := by rw [str_size, List.length_take]; exact Nat.min_eq_left (unhide hWf)
        have hwS := unhide hWf
        unfold Wf at hwS
        by_cases hns : n < s.syn
        · have g4 : decide ((n : Int) < (s.syn : Int)) = true := decide_eq_true (by omega)
          have g5 : decide (n < s.syn) = true := decide_eq_true hns
          have hslO := sl_str (s.file.take s.syn) n (by rw [List.length_take]; omega) (n : Int) rfl
          have hq : (s.file.take s.syn).take n = s'.file.take s'.syn := by rw [q1, q2, Nat.min_eq_right (by omega), List.take_take, List.take_take, Nat.min_eq_left (by omega), Nat.min_self]
          rw [hq] at hslO
          clear q1 q2 hq HCS hcv hcv6 hLn hkk hkk5 HL HB HO qn hns hwS
          generalize hgS : str (s'.file.take s'.syn) = gS at *
          generalize str s'.file = gF at *
          generalize str (s.file.take s.syn) = gO at *
          generalize str s.file = gA at *
          generalize str oo.data = gD at *
          have HGS := hide hgS
          clear hgS
          go_wp2
          exact ⟨⟨k + 1, s', F', by omega, by go_num, by rw [unhide HGS], D7, W5, l5, F5, B7⟩, by simp [intOf]; omega⟩
        · have g4 : decide ((n : Int) < (s.syn : Int)) = false := decide_eq_false (by omega)
          have g5 : decide (n < s.syn) = false := decide_eq_false hns
          have hq : str (s.file.take s.syn) = str (s'.file.take s'.syn) := by rw [q1, q2, Nat.min_eq_left (by omega), List.take_take, Nat.min_eq_left (by omega)]
          rw [hq] at hszO ⊢
          have hsy : s'.syn = s.syn := by rw [q2]; omega
          rw [← hsy] at g4 g5
          clear q1 q2 hq HCS hcv hcv6 hLn hkk hkk5 HL HB HO qn hns hwS hszO hsy
          generalize hgS : str (s'.file.take s'.syn) = gS at *
          generalize str s'.file = gF at *
          generalize str s.file = gA at *
          generalize str oo.data = gD at *
          have HGS := hide hgS
          clear hgS
          go_wp2
          exact ⟨⟨k + 1, s', F', by omega, by go_num, by rw [unhide HGS], D7, W5, l5, F5, B7⟩, by simp [intOf]; omega⟩
      ·
        have q2' : str (s.file.take s.syn) = str (s'.file.take s'.syn) := by rw [← q2]
        rw [q2']
        simp only [er]
        clear q2 q2' HCS hcv hcv6 hszA hLn hkk hkk5 HL HB HO
        generalize hgS : str (s'.file.take s'.syn) = gS at *
        generalize str s'.file = gF at *
        generalize str s.file = gA at *
        generalize str oo.data = gD at *
        have HGS := hide hgS
        clear hgS
        go_wp2
        exact ⟨⟨k + 1, s', F', by omega, by go_num, by rw [unhide HGS], D7, W5, l5, F5, B7⟩, by simp [intOf]; omega⟩
      ·
        have q2' : str (s.file.take s.syn) = str (s'.file.take s'.syn) := by rw [← q2]
        rw [q2']
        simp only [er]
        clear q2 q2' HCS hcv hcv6 hszA hLn hkk hkk5 HL HB HO
        generalize hgS : str (s'.file.take s'.syn) = gS at *
        generalize str s'.file = gF at *
        generalize str s.file = gA at *
        generalize str oo.data = gD at *
        have HGS := hide hgS
        clear hgS
        go_wp2
        exact ⟨⟨k + 1, s', F', by omega, by go_num, by rw [unhide HGS], D7, W5, l5, F5, B7⟩, by simp [intOf]; omega⟩
      ·
        have q2' : str (s.file.take s.syn) = str (s'.file.take s'.syn) := by rw [← q2]
        rw [q2']
        simp only [er]
        clear q2 q2' HCS hcv hcv6 hszA hLn hkk hkk5 HL HB HO
        generalize hgS : str (s'.file.take s'.syn) = gS at *
        generalize str s'.file = gF at *
        generalize str s.file = gA at *
        generalize str oo.data = gD at *
        have HGS := hide hgS
        clear hgS
        go_wp2
        exact ⟨⟨k + 1, s', F', by omega, by go_num, by rw [unhide HGS], D7, W5, l5, F5, B7⟩, by simp [intOf]; omega⟩
      ·
        simp only [er]
        have hq : s'.syn = s'.file.length := q2
        have kq3 : decide (s.file.length < s'.file.length) = false := decide_eq_false (by omega)
        have kq4 : decide ((s.file.length : Int) < (s'.file.length : Int)) = false := decide_eq_false (by omega)
        have hsf : str (s'.file.take s'.syn) = str s'.file := by rw [List.take_of_length_le (by omega)]
        have HT := hide hsf
        rw [hsf, hszF] at hszS
        rw [hsf] at hslF
        have ne0 : ((s'.syn : Int) != (s'.file.length : Int)) = false := by rw [hq]; simp
        have ne1 : (s'.syn != s'.file.length) = false := by rw [hq]; simp
        clear hsf hszS q1 q2 HCS hcv hcv6 hLn hkk hkk5 HL HB HO hq
        generalize hgF : str s'.file = gF at *
        generalize str (s.file.take s.syn) = gO at *
        generalize str s.file = gA at *
        generalize str oo.data = gD at *
        have HGF := hide hgF
        clear hgF
        go_wp2
        exact ⟨⟨k + 1, s', F', by omega, by go_num, by rw [unhide HT], D7, W5, l5, F5, B7⟩, by simp [intOf]; omega⟩
      ·
        have q2' : str (s.file.take s.syn) = str (s'.file.take s'.syn) := by rw [← q2]
        rw [q2']
        simp only [er]
        clear q2 q2' HCS hcv hcv6 hszA hLn hkk hkk5 HL HB HO
        generalize hgS : str (s'.file.take s'.syn) = gS at *
        generalize str s'.file = gF at *
        generalize str s.file = gA at *
        generalize str oo.data = gD at *
        have HGS := hide hgS
        clear hgS
        go_wp2
        exact ⟨⟨k + 1, s', F', by omega, by go_num, by rw [unhide HGS], D7, W5, l5, F5, B7⟩, by simp [intOf]; omega⟩
    · obtain rfl : k = l.length := by omega
      clear D2 F2 B2
      go_wp2
      go_ret
      exact ⟨rfl, unhide hB⟩
end Go.Proofs.YtbcclolhfogpnaaDoor.dk
