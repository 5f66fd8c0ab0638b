/- Package stamp: Parse. -/
import Derived.Test.YtemcilikchlaiabDoorTg
import Derived.Test.YtemcilikchlaiabDoorTc
import Derived.BigRegion
namespace Go.Proofs.YtemcilikchlaiabDoor.st
open Go.RowKit

/-- What the reader comes to. -/
def e7 (s : ByteArray) : ByteArray := frS (rdS s 6)
def e8 (s : ByteArray) : ByteArray := offS (e7 s)
def x8 (s : ByteArray) : Bool := offX (e7 s) (frX (rdS s 6) (rdX s 6))
def okP (s : ByteArray) : Prop := x8 s = false ∧ (e8 s).size = 0 ∧ isD (rdV s 0) (rdV s 1) (rdV s 2) ∧ rdV s 3 ≤ 23 ∧ rdV s 4 ≤ 59 ∧ rdV s 5 ≤ 59
instance (s : ByteArray) : Decidable (okP s) := by unfold okP; infer_instance
def prsV (a : Addr) (s : ByteArray) : Value :=
  if okP s then .tuple #[iv (dn (rdV s 0) (rdV s 1) (rdV s 2) * 86400 + ((rdV s 3 : Int) * 3600 + (rdV s 4 : Int) * 60 + (rdV s 5 : Int) - offV (e7 s))) (frV (rdS s 6) : Int), .nilIface]
  else .tuple #[iv 0 0, eT a]
theorem ret_parse {m : Nat} (w : World) (s n : Int) (v : Value) (h : IL w m s n) (tmps : Array Value) (h2 : tmps.getD 2 undef = .pointer (some ⟨m, 0, none⟩)) (h3 : tmps.getD 3 undef = v) :
    (results Tryd.f9 tmps).run Tryd.prog w = .ok (.tuple #[iv s n, v]) w := by
  obtain ⟨q0, q1⟩ := h.cells
  rw [results_cell_tmp Tryd.results9, h2, h3]
  simp [go_sem, q0, q1, iv]
theorem rdV_lt (s : ByteArray) (k : Nat) : rdV s k < 10000 := by
  unfold rdV partV
  have := dgV_lt (lkK k) 0 (cutP (rdS s k) (lkM k)).data.toList
  have h4 : lkK k ≤ 4 := by unfold lkK; split <;> omega
  have := Nat.pow_le_pow_right (n := 10) (by omega) h4
  omega
theorem offV_in (s : ByteArray) : -100000000 ≤ offV s ∧ offV s ≤ 100000000 := by
  have h1 := partV_lt m0 (ofS s)
  have h2 := partV_lt (m1 58) (ofT s)
  unfold offV ofO ofH ofM
  split
  · omega
  · split
    · split <;> omega
    · split <;> omega
theorem emp_iff (t : ByteArray) : t.toList.isEmpty = decide (t.size = 0) := by
  rw [ByteArray.toList_eq]
  have e := blen t
  cases hx : t.data.toList with
  | nil => rw [hx] at e; simp at e; simp [← e]
  | cons c l => rw [hx] at e; simp at e; simp [← e]

set_option maxRecDepth 100000 in
set_option maxHeartbeats 6400000 in
theorem parse_core (s : ByteArray) (w : World) (a : Addr) (hS : Sent w a) (y mo d hh mi se nano : Nat) (s6 s7 s8 : ByteArray) (x6 x7 xw : Bool) (off : Int)
    (P1 : ∀ w1, RL w1 (w.heap.size + 1) s false → Calls Tryd.prog 18 #[.pointer (some ⟨w.heap.size + 1, 0, none⟩)] w1 fun e w' => e = .returned (.agg #[.int .i64 (y : Int), .int .i64 (mo : Int), .int .i64 (d : Int), .int .i64 (hh : Int), .int .i64 (mi : Int), .int .i64 (se : Int)]) ∧ RL w' (w.heap.size + 1) s6 x6 ∧ Mv (w.heap.size + 1) w1 w')
    (P2 : ∀ w1, RL w1 (w.heap.size + 1) s6 x6 → Calls Tryd.prog 19 #[.pointer (some ⟨w.heap.size + 1, 0, none⟩)] w1 fun e w' => e = .returned (.int .i64 (nano : Int)) ∧ RL w' (w.heap.size + 1) s7 x7 ∧ Mv (w.heap.size + 1) w1 w')
    (P3 : ∀ w1, RL w1 (w.heap.size + 1) s7 x7 → Calls Tryd.prog 20 #[.pointer (some ⟨w.heap.size + 1, 0, none⟩)] w1 fun e w' => e = .returned (.int .i64 off) ∧ RL w' (w.heap.size + 1) s8 xw ∧ Mv (w.heap.size + 1) w1 w')
    (ho : -100000000 ≤ off ∧ off ≤ 100000000) (i0 : y < 10000) (i3 : hh < 10000) (i4 : mi < 10000) (i5 : se < 10000) :
    Calls Tryd.prog 9 #[.string s] w fun e w' => e = .returned (if xw = false ∧ s8.size = 0 ∧ isD y mo d ∧ hh ≤ 23 ∧ mi ≤ 59 ∧ se ≤ 59 then .tuple #[iv (dn y mo d * 86400 + ((hh : Int) * 3600 + (mi : Int) * 60 + (se : Int) - off)) (nano : Int), .nilIface] else .tuple #[iv 0 0, eT a]) ∧ Below w.heap.size w w' := by
  have D := hide (fun w1 (h1 : Sent w1 a) => sdays_any y mo d w1 a h1)
  have Q := hide (fun w1 => seconds_any hh mi se w1 (by omega) (by omega) (by omega))
  have hdb := dby_in (y : Int) (by omega) (by omega)
  unfold daysE at D
  have HD : Hid (∃ (dv : Int) (ev : Value) (b : Bool), (if isD y mo d ∧ -999999 ≤ (y : Int) ∧ (y : Int) ≤ 999999 then (Value.tuple #[.int .i64 (dn y mo d), .nilIface]) else Value.tuple #[.int .i64 0, eT a]) = Value.tuple #[.int .i64 dv, ev] ∧ decide (isD y mo d) = b ∧ (b = true → ev = .nilIface ∧ dv = dn y mo d) ∧ (b = false → ev = eT a) ∧ -1000000000 ≤ dv ∧ dv ≤ 1000000000) := by
    by_cases q : isD y mo d
    · have c := cum_in (y : Int) (mo : Int) q.1 (by have := q.2.1; omega)
      have c2 := mon_ge (y : Int) (mo : Int) q.1 q.2.1
      have c3 := q.2.2
      refine ⟨dn y mo d, .nilIface, true, by rw [if_pos ⟨q, by omega, by omega⟩], decide_eq_true q, fun _ => ⟨rfl, rfl⟩, (fun z => by cases z), ?_, ?_⟩
      · unfold dn; omega
      · unfold dn; omega
    · exact ⟨0, eT a, false, by rw [if_neg (fun z => q z.1)], decide_eq_false q, (fun z => by cases z), fun _ => rfl, by omega, by omega⟩
  obtain ⟨dv, ev, b, hd1, hd2, hd3, hd4, hd5, hd6⟩ := unhide HD
  simp only [hd1] at D
  clear HD hd1 hdb
  have HQ : Hid (∃ (cl : Int) (ok : Bool), secV hh mi se = Value.tuple #[.int .i64 cl, .bool ok] ∧ decide (hh ≤ 23 ∧ mi ≤ 59 ∧ se ≤ 59) = ok ∧ (ok = true → cl = (hh : Int) * 3600 + mi * 60 + se) ∧ 0 ≤ cl ∧ cl ≤ 1000000000) := by
    unfold secV
    by_cases q : hh ≤ 23 ∧ mi ≤ 59 ∧ se ≤ 59
    · exact ⟨_, true, by rw [if_pos (by omega)], decide_eq_true q, fun _ => rfl, by omega, by omega⟩
    · exact ⟨0, false, by rw [if_neg (by omega)], decide_eq_false q, (fun z => by cases z), by omega, by omega⟩
  obtain ⟨cl, ok, hq1, hq2, hq3, hq4, hq5⟩ := unhide HQ
  simp only [hq1] at Q
  clear HQ hq1
  have HP1 := hide P1
  have HP2 := hide P2
  have HP3 := hide P3
  obtain ⟨res, hres⟩ : ∃ r, (if xw = false ∧ s8.size = 0 ∧ isD y mo d ∧ hh ≤ 23 ∧ mi ≤ 59 ∧ se ≤ 59 then Value.tuple #[iv (dn y mo d * 86400 + ((hh : Int) * 3600 + (mi : Int) * 60 + (se : Int) - off)) (nano : Int), .nilIface] else .tuple #[iv 0 0, eT a]) = r := ⟨_, rfl⟩
  rw [hres]
  have HR : Hid ((xw = false ∧ s8.size = 0 ∧ b = true ∧ ok = true → res = .tuple #[iv (dv * 86400 + (cl - off)) (nano : Int), .nilIface]) ∧ (¬ (xw = false ∧ s8.size = 0 ∧ b = true ∧ ok = true) → res = .tuple #[iv 0 0, eT a])) := by
    subst hd2 hq2
    refine ⟨fun z => ?_, fun z => ?_⟩
    · have z3 := of_decide_eq_true z.2.2.1
      have z4 := of_decide_eq_true z.2.2.2
      rw [← hres, if_pos ⟨z.1, z.2.1, z3, z4⟩, (hd3 z.2.2.1).2, hq3 z.2.2.2]
    · rw [← hres, if_neg (fun q => z ⟨q.1, q.2.1, decide_eq_true q.2.2.1, decide_eq_true q.2.2.2⟩)]
  have HE : Hid ((b = true → ev = .nilIface) ∧ (b = false → ev = eT a)) := ⟨fun z => (hd3 z).1, hd4⟩
  clear P1 P2 P3 hres hd2 hd3 hd4 hq2 hq3 i0 i3 i4 i5
  have HW0 : Hid (RL ((w.alloc (.cells #[.int .i64 0, .int .i64 0] 23)).alloc (.cells #[.string s, .bool false] 50)) (w.heap.size + 1) s false) := by
    have := Array.getElem?_push_size (xs := (w.alloc (.cells #[.int .i64 0, .int .i64 0] 23)).heap) (x := (.cells #[.string s, .bool false] 50 (0, 0) : Obj))
    rw [World.size_alloc] at this
    exact this
  have HI0 : Hid (IL ((w.alloc (.cells #[.int .i64 0, .int .i64 0] 23)).alloc (.cells #[.string s, .bool false] 50)) w.heap.size 0 0) := (IL.new w 0 0).alloc _
  have HB0 := hide (((Below.refl w.heap.size w).alloc (Nat.le_refl _) (.cells #[.int .i64 0, .int .i64 0] 23)).alloc (by simp) (.cells #[.string s, .bool false] 50))
  have HS := hide hS
  clear hS
  go_enter Tryd.func9, Tryd.ntmps9
  go_wp2_with fail
  refine (unhide HP1 _ (unhide HW0)).mono ?_
  rintro e w1 ⟨rfl, h1, hm1⟩
  have hz1 := hm1.size
  simp only [World.size_alloc] at hz1
  have HB1 := hide (hm1.below (unhide HB0) (by omega) (Nat.le_refl _))
  have HI1 := hide ((hm1.block w.heap.size (by simp; omega) (by omega)).trans (unhide HI0))
  have HL1 := hide (h1.alloc (.cells #[.int .i64 (y : Int), .int .i64 (mo : Int), .int .i64 (d : Int), .int .i64 (hh : Int), .int .i64 (mi : Int), .int .i64 (se : Int)] 46))
  have HI1' := hide (IL.alloc (show IL w1 w.heap.size 0 0 from unhide HI1) (.cells #[.int .i64 (y : Int), .int .i64 (mo : Int), .int .i64 (d : Int), .int .i64 (hh : Int), .int .i64 (mi : Int), .int .i64 (se : Int)] 46))
  have HB1' := hide ((unhide HB1).alloc (unhide HB1).size (.cells #[.int .i64 (y : Int), .int .i64 (mo : Int), .int .i64 (d : Int), .int .i64 (hh : Int), .int .i64 (mi : Int), .int .i64 (se : Int)] 46))
  have HC1 : Hid ((w1.alloc (.cells #[.int .i64 (y : Int), .int .i64 (mo : Int), .int .i64 (d : Int), .int .i64 (hh : Int), .int .i64 (mi : Int), .int .i64 (se : Int)] 46)).heap[w1.heap.size]? = some (.cells #[.int .i64 (y : Int), .int .i64 (mo : Int), .int .i64 (d : Int), .int .i64 (hh : Int), .int .i64 (mi : Int), .int .i64 (se : Int)] 46 (0, 0))) := Array.getElem?_push_size
  clear HP1 HW0 HI0 HB0 hm1 h1 HB1 HI1
  go_wp2_with fail
  refine (unhide HP2 _ (unhide HL1)).mono ?_
  rintro e w2 ⟨rfl, h2, hm2⟩
  have hz2 := hm2.size
  simp only [World.size_alloc] at hz2
  have HB2 := hide (hm2.below (unhide HB1') (by omega) (Nat.le_refl _))
  have HI2 := hide ((hm2.block w.heap.size (by simp; omega) (by omega)).trans (unhide HI1'))
  have HC2 := hide ((hm2.block w1.heap.size (by simp) (by omega)).trans (unhide HC1))
  clear HP2 HL1 HI1' HB1' HC1 hm2
  go_wp2_with fail
  refine (unhide HP3 _ h2).mono ?_
  rintro e w3 ⟨rfl, h3, hm3⟩
  have hz3 := hm3.size
  have HB3 := hide (hm3.below (unhide HB2) (by omega) (Nat.le_refl _))
  have HI3 := hide ((hm3.block w.heap.size (by omega) (by omega)).trans (unhide HI2))
  have HC3 := hide ((hm3.block w1.heap.size (by omega) (by omega)).trans (unhide HC2))
  have HL3 := hide h3
  clear HP3 HB2 HI2 HC2 hm3 h2 h3
  have c0 : w3.cell? ⟨w1.heap.size, 0, none⟩ = some (.int .i64 (y : Int)) := blk_cell (unhide HC3) 0
  have c1 : w3.cell? ⟨w1.heap.size, 1, none⟩ = some (.int .i64 (mo : Int)) := blk_cell (unhide HC3) 1
  have c2 : w3.cell? ⟨w1.heap.size, 2, none⟩ = some (.int .i64 (d : Int)) := blk_cell (unhide HC3) 2
  have D' := hide (unhide D w3 ((unhide HS).keep (unhide HB3)))
  clear D
  go_wp2_with fail
  refine (unhide D').mono ?_
  rintro e w4 ⟨rfl, hb4⟩
  have hz4 := hb4.size
  have HB4 := hide ((unhide HB3).trans (hb4.mono (unhide HB3).size))
  have HI4 := hide ((hb4.block w.heap.size (by omega)).trans (unhide HI3))
  have HC4 := hide ((hb4.block w1.heap.size (by omega)).trans (unhide HC3))
  have HL4 := hide ((hb4.block (w.heap.size + 1) (by omega)).trans (unhide HL3))
  clear D' HB3 HI3 HC3 HL3 hb4 c0 c1 c2
  have c3 : w4.cell? ⟨w1.heap.size, 3, none⟩ = some (.int .i64 (hh : Int)) := blk_cell (unhide HC4) 3
  have c4 : w4.cell? ⟨w1.heap.size, 4, none⟩ = some (.int .i64 (mi : Int)) := blk_cell (unhide HC4) 4
  have c5 : w4.cell? ⟨w1.heap.size, 5, none⟩ = some (.int .i64 (se : Int)) := blk_cell (unhide HC4) 5
  go_wp2_with fail
  refine (unhide Q _).mono ?_
  rintro e w5 ⟨rfl, hw5⟩
  obtain rfl := hw5.symm
  clear hw5 Q c3 c4 c5
  have k0 : w4.cell? ⟨w.heap.size + 1, 0, none⟩ = some (.string s8) := blk_cell (unhide HL4) 0
  have k1 : w4.cell? ⟨w.heap.size + 1, 1, none⟩ = some (.bool xw) := blk_cell (unhide HL4) 1
  have hN := ((unhide HS).keep (unhide HB4)).n
  obtain ⟨j0, j1⟩ := IL.cells (unhide HI4)
  obtain ⟨f0, f1⟩ := IL.frees (unhide HI4)
  have HF : Hid (∀ t u : Int, IL ((w4.setCell ⟨w.heap.size, 0, none⟩ (.int .i64 t)).setCell ⟨w.heap.size, 1, none⟩ (.int .i64 u)) w.heap.size t u) := fun t u => IL.set (unhide HI4) t u
  have HG : Hid (∀ t u : Value, Below w.heap.size w ((w4.setCell ⟨w.heap.size, 0, none⟩ t).setCell ⟨w.heap.size, 1, none⟩ u)) := fun t u => below2 (unhide HB4) (Nat.le_refl _) t u
  clear HB4 HI4 HC4 HL4
  have hg : 0 < w.heap.size := cell_lt (unhide HS).n
  cases xw
  · have hemp := emp_iff s8
    by_cases hz : s8.size = 0
    · rw [decide_eq_true hz] at hemp
      cases b
      · obtain rfl := (unhide HE).2 rfl
        have HR2 := hide ((unhide HR).2 (by intro q; exact Bool.false_ne_true q.2.2.1))
        clear HR HE
        unfold eT at *
        go_wp2
        go_region
        all_goals go_wp2
        all_goals refine bodyPost_ret (ret_parse (m := w.heap.size) (World.drew _) 0 0 _ (by exact unhide HF 0 0) _ rfl rfl) rfl ?_
        all_goals exact ⟨by rw [unhide HR2]; rfl, (unhide HG _ _).drew⟩
      · obtain rfl := (unhide HE).1 rfl
        cases ok
        · have HR2 := hide ((unhide HR).2 (by intro q; exact Bool.false_ne_true q.2.2.2))
          clear HR HE
          unfold eT at *
          go_wp2
          go_region
          all_goals go_wp2
          all_goals refine bodyPost_ret (ret_parse (m := w.heap.size) (World.drew _) 0 0 _ (by exact unhide HF 0 0) _ rfl rfl) rfl ?_
          all_goals exact ⟨by rw [unhide HR2]; rfl, (unhide HG _ _).drew⟩
        · have HR2 := hide ((unhide HR).1 ⟨rfl, hz, rfl, rfl⟩)
          clear HR HE
          go_wp2
          refine bodyPost_ret (ret_parse (m := w.heap.size) _ _ _ _ (unhide HF _ _) _ rfl rfl) rfl ?_
          exact ⟨by rw [unhide HR2]; rfl, unhide HG _ _⟩
    · rw [decide_eq_false hz] at hemp
      have HR2 := hide ((unhide HR).2 (by intro q; exact hz q.2.1))
      clear HR HE
      unfold eT at *
      go_wp2
      go_region
      all_goals go_wp2
      all_goals refine bodyPost_ret (ret_parse (m := w.heap.size) (World.drew _) 0 0 _ (by exact unhide HF 0 0) _ rfl rfl) rfl ?_
      all_goals exact ⟨by rw [unhide HR2]; rfl, (unhide HG _ _).drew⟩
  · have HR2 := hide ((unhide HR).2 (by intro q; exact Bool.false_ne_true q.1.symm))
    clear HR HE
    unfold eT at *
    go_wp2
    go_region
    all_goals go_wp2
    all_goals refine bodyPost_ret (ret_parse (m := w.heap.size) (World.drew _) 0 0 _ (by exact unhide HF 0 0) _ rfl rfl) rfl ?_
    all_goals exact ⟨by rw [unhide HR2]; rfl, (unhide HG _ _).drew⟩

theorem parse_any (s : ByteArray) (w : World) (a : Addr) (hs : s.size ≤ 9223372036854775807) (hS : Sent w a) :
    Calls Tryd.prog 9 #[.string s] w fun e w' => e = .returned (prsV a s) ∧ Below w.heap.size w w' := by
  have h6 := Nat.le_trans (rdS_le s 6) hs
  have h7 : (e7 s).size ≤ 9223372036854775807 := by
    unfold e7 frS
    split
    · exact Nat.le_trans (Nat.le_trans (dropB_le _ _) (cutP_le _ _)) h6
    · exact Nat.le_trans (cutP_le _ _) h6
  have e : prsV a s = if x8 s = false ∧ (e8 s).size = 0 ∧ isD (rdV s 0) (rdV s 1) (rdV s 2) ∧ rdV s 3 ≤ 23 ∧ rdV s 4 ≤ 59 ∧ rdV s 5 ≤ 59 then .tuple #[iv (dn (rdV s 0) (rdV s 1) (rdV s 2) * 86400 + ((rdV s 3 : Int) * 3600 + (rdV s 4 : Int) * 60 + (rdV s 5 : Int) - offV (e7 s))) (frV (rdS s 6) : Int), .nilIface] else .tuple #[iv 0 0, eT a] := by
    unfold prsV
    by_cases q : x8 s = false ∧ (e8 s).size = 0 ∧ isD (rdV s 0) (rdV s 1) (rdV s 2) ∧ rdV s 3 ≤ 23 ∧ rdV s 4 ≤ 59 ∧ rdV s 5 ≤ 59
    · rw [if_pos q, if_pos (show okP s from q)]
    · rw [if_neg q, if_neg (show ¬ okP s from q)]
  rw [e]
  exact parse_core s w a hS (rdV s 0) (rdV s 1) (rdV s 2) (rdV s 3) (rdV s 4) (rdV s 5) (frV (rdS s 6)) (rdS s 6) (e7 s) (e8 s) (rdX s 6) (frX (rdS s 6) (rdX s 6)) (x8 s) (offV (e7 s))
    (fun w1 h1 => parts_any (w.heap.size + 1) s w1 h1 hs) (fun w1 h1 => fraction_any (w.heap.size + 1) _ _ w1 h1 h6) (fun w1 h1 => offset_any (w.heap.size + 1) _ _ w1 h1 h7) (offV_in _) (rdV_lt s 0) (rdV_lt s 3) (rdV_lt s 4) (rdV_lt s 5)
end Go.Proofs.YtemcilikchlaiabDoor.st
