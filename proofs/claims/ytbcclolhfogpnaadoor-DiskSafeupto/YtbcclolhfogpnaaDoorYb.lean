/- The laws' head: shown; pick. -/
import Derived.Test.YtbcclolhfogpnaaDoorYa
namespace Go.Proofs.YtbcclolhfogpnaaDoor.dk
open Go.RowKit Go.Joins mm

/-- A disk, and all that was there when the law began. -/
structure DW (D : World → Addr → Bl → St → Prop) (w0 w : World) (p : Addr) (s : St) : Prop where
  d : ∃ F, D w p F s ∧ ∀ k, F k → w0.heap.size ≤ k
  below : Below w0.heap.size w0 w
section
variable {a b : Addr} {G : World → Prop} {D : World → Addr → Bl → St → Prop}
theorem DW.quiet (K : DiskOK a b G D) {w0 w w' : World} {p : Addr} {s : St} (h : DW D w0 w p s) (hb : Below w.heap.size w w') : DW D w0 w' p s := by
  obtain ⟨⟨F, h1, h2⟩, h3⟩ := h
  exact ⟨⟨F, K.dkeep w w' p F s h1 (fun k hk => hb.block k (K.dlt w p F s h1 k hk)), h2⟩, h3.trans (hb.mono h3.size)⟩
theorem DW.mv {w0 w w' : World} {p : Addr} {s' : St} {F F' : Bl} (hb : Below w0.heap.size w0 w) (hF : ∀ k, F k → w0.heap.size ≤ k) (h : D w' p F' s') (hm : Mv F F' w w') : DW D w0 w' p s' :=
  ⟨⟨F', h, hm.from hF hb.size⟩, hm.below hb hF hb.size⟩
theorem dw_new (K : DiskOK a b G D) (w0 w : World) (hG : G w0) (hb : Below w0.heap.size w0 w) : Calls Tryd.prog 8 #[] w fun e w' => ∃ p, e = .returned (.pointer (some p)) ∧ DW D w0 w' p st0 := by
  refine (K.new w (K.keep _ _ hG hb)).mono ?_
  rintro e w' ⟨p, F, rfl, h1, h2, h3⟩
  exact ⟨p, rfl, ⟨F, h1, fun k hk => by have := h2 k hk; have := hb.size; omega⟩, hb.trans (h3.mono hb.size)⟩
theorem dw_append (K : DiskOK a b G D) (w0 w : World) (p : Addr) (s : St) (v : Value) (l : List UInt8) (hG : G w0) (h : DW D w0 w p s) (hv : BY w v l) (hl : s.file.length + l.length ≤ 70000000000000) :
    Calls Tryd.prog 15 #[.pointer (some p), v] w fun e w' => e = .returned (er a b (sApp s l).2) ∧ DW D w0 w' p (sApp s l).1 := by
  obtain ⟨⟨F, h1, h2⟩, h3⟩ := h
  refine (K.append w p F s v l (K.keep _ _ hG h3) h1 hv hl).mono ?_
  rintro e w' ⟨F', rfl, q1, q2⟩
  exact ⟨rfl, DW.mv h3 h2 q1 q2⟩
theorem dw_sync (K : DiskOK a b G D) (w0 w : World) (p : Addr) (s : St) (hG : G w0) (h : DW D w0 w p s) :
    Calls Tryd.prog 16 #[.pointer (some p)] w fun e w' => e = .returned (er a b (sSyn s).2) ∧ DW D w0 w' p (sSyn s).1 := by
  obtain ⟨⟨F, h1, h2⟩, h3⟩ := h
  refine (K.sync w p F s (K.keep _ _ hG h3) h1).mono ?_
  rintro e w' ⟨F', rfl, q1, q2⟩
  exact ⟨rfl, DW.mv h3 h2 q1 q2⟩
theorem dw_cut (K : DiskOK a b G D) (w0 w : World) (p : Addr) (s : St) (n : Int) (hG : G w0) (h : DW D w0 w p s) (hn : -9223372036854775808 ≤ n) (hn' : n ≤ 9223372036854775807) :
    Calls Tryd.prog 21 #[.pointer (some p), .int .i64 n] w fun e w' => e = .returned (er a b (sCut s n).2) ∧ DW D w0 w' p (sCut s n).1 := by
  obtain ⟨⟨F, h1, h2⟩, h3⟩ := h
  refine (K.cut w p F s n (K.keep _ _ hG h3) h1 hn hn').mono ?_
  rintro e w' ⟨F', rfl, q1, q2⟩
  exact ⟨rfl, DW.mv h3 h2 q1 q2⟩
theorem dw_arm (K : DiskOK a b G D) (w0 w : World) (p : Addr) (s : St) (n : Int) (hG : G w0) (h : DW D w0 w p s) (hn : -9223372036854775808 ≤ n) (hn' : n ≤ 9223372036854775807) :
    Calls Tryd.prog 17 #[.pointer (some p), .int .i64 n] w fun e w' => e = .returned (.tuple #[]) ∧ DW D w0 w' p (sArm s n) := by
  obtain ⟨⟨F, h1, h2⟩, h3⟩ := h
  refine (K.arm w p F s n (K.keep _ _ hG h3) h1 hn hn').mono ?_
  rintro e w' ⟨F', rfl, q1, q2⟩
  exact ⟨rfl, DW.mv h3 h2 q1 q2⟩
theorem dw_crash (K : DiskOK a b G D) (w0 w : World) (p : Addr) (s : St) (k t : Int) (u : Nat) (hG : G w0) (h : DW D w0 w p s) (hl : s.file.length ≤ 70000000000000) (hk : -9223372036854775808 ≤ k) (hk' : k ≤ 9223372036854775807) (ht : -9223372036854775808 ≤ t) (ht' : t ≤ 9223372036854775807) (hu : u < 4294967296) :
    Calls Tryd.prog 19 #[.pointer (some p), .int .i64 k, .int .i64 t, .int .u32 (u : Int)] w fun e w' => e = .returned (.tuple #[]) ∧ DW D w0 w' p (sCrash s k t u) := by
  obtain ⟨⟨F, h1, h2⟩, h3⟩ := h
  refine (K.crash w p F s k t u (K.keep _ _ hG h3) h1 hl hk hk' ht ht' hu).mono ?_
  rintro e w' ⟨F', rfl, q1, q2⟩
  exact ⟨rfl, DW.mv h3 h2 q1 q2⟩
theorem dw_bytes (K : DiskOK a b G D) (w0 w : World) (p : Addr) (s : St) (hG : G w0) (h : DW D w0 w p s) (hl : s.file.length ≤ 70000000000000) :
    Calls Tryd.prog 11 #[.pointer (some p)] w fun e w' => ∃ v, e = .returned v ∧ OY w' w.heap.size v s.file ∧ Below w.heap.size w w' ∧ DW D w0 w' p s := by
  have h' := h
  obtain ⟨⟨F, h1, h2⟩, h3⟩ := h
  refine (K.bytes w p F s (K.keep _ _ hG h3) h1 hl).mono ?_
  rintro e w' ⟨v, rfl, q1, q2⟩
  exact ⟨v, rfl, q1, q2, h'.quiet K q2⟩
theorem dw_synced (K : DiskOK a b G D) (w0 w : World) (p : Addr) (s : St) (hG : G w0) (h : DW D w0 w p s) :
    Calls Tryd.prog 13 #[.pointer (some p)] w fun e w' => e = .returned (.int .i64 (s.syn : Int)) ∧ Below w.heap.size w w' ∧ DW D w0 w' p s := by
  have h' := h
  obtain ⟨⟨F, h1, h2⟩, h3⟩ := h
  refine (K.synced w p F s (K.keep _ _ hG h3) h1).mono ?_
  rintro e w' ⟨rfl, q2⟩
  exact ⟨rfl, q2, h'.quiet K q2⟩
theorem dw_up (K : DiskOK a b G D) (w0 w : World) (p : Addr) (s : St) (hG : G w0) (h : DW D w0 w p s) :
    Calls Tryd.prog 18 #[.pointer (some p)] w fun e w' => e = .returned (.bool (!s.off)) ∧ Below w.heap.size w w' ∧ DW D w0 w' p s := by
  have h' := h
  obtain ⟨⟨F, h1, h2⟩, h3⟩ := h
  refine (K.up w p F s (K.keep _ _ hG h3) h1).mono ?_
  rintro e w' ⟨rfl, q2⟩
  exact ⟨rfl, q2, h'.quiet K q2⟩
theorem DW.al (K : DiskOK a b G D) {w0 w : World} {p : Addr} {s : St} (h : DW D w0 w p s) (o : Obj) : DW D w0 (w.alloc o) p s := h.quiet K ((Below.refl _ _).alloc (Nat.le_refl _) o)
end

set_option maxRecDepth 100000 in
set_option maxHeartbeats 3200000 in
theorem shown_any {a b : Addr} {G : World → Prop} {D : World → Addr → Bl → St → Prop} (K : DiskOK a b G D) (w : World) (hG : G w) :
    Calls Tryd.prog 7 #[] w fun e w' => e = .returned (.bool true) ∧ Below w.heap.size w w' := by
  have HK := hide K
  have HG := hide hG
  have C0 := hide (dw_new K w w hG (Below.refl _ _))
  clear K hG
  go_enter Tryd.func7, Tryd.ntmps7
  go_wp2_with fail
  refine (unhide C0).mono ?_
  rintro e w0 ⟨p, rfl, h⟩
  have H0 := hide h
  clear C0 h
  have A0 := hide ((unhide H0).al (unhide HK) (.cells #[.int .u8 1, .int .u8 2] 5))
  have C1 := hide (dw_append (unhide HK) w _ p ⟨[], 0, false, 0⟩ (.slice (some ⟨w0.heap.size, 0, none⟩) 2 2) [1, 2] (unhide HG) (unhide A0) (by_cells (heap_alloc_new w0 _) [1, 2] rfl (by unfold maxLen; decide)) (by decide))
  rw [show sApp ⟨[], 0, false, 0⟩ [1, 2] = (⟨[1, 2], 0, false, 0⟩, 0) from rfl] at C1
  simp only [er] at C1
  go_wp2_with fail
  refine (unhide C1).mono ?_
  rintro e w1 ⟨rfl, h⟩
  have H1 := hide h
  clear C1 h A0 H0
  have C2 := hide (dw_synced (unhide HK) w _ p ⟨[1, 2], 0, false, 0⟩ (unhide HG) (unhide H1))
  go_wp2_with fail
  refine (unhide C2).mono ?_
  rintro e w2 ⟨rfl, _, h⟩
  have H2 := hide h
  clear C2 h H1
  have C3 := hide (dw_sync (unhide HK) w _ p ⟨[1, 2], 0, false, 0⟩ (unhide HG) (unhide H2))
  rw [show sSyn ⟨[1, 2], 0, false, 0⟩ = (⟨[1, 2], 2, false, 0⟩, 0) from rfl] at C3
  simp only [er] at C3
  go_wp2_with fail
  refine (unhide C3).mono ?_
  rintro e w3 ⟨rfl, h⟩
  have H3 := hide h
  clear C3 h H2
  have C4 := hide (dw_synced (unhide HK) w _ p ⟨[1, 2], 2, false, 0⟩ (unhide HG) (unhide H3))
  go_wp2_with fail
  refine (unhide C4).mono ?_
  rintro e w4 ⟨rfl, _, h⟩
  have H4 := hide h
  clear C4 h H3
  have A4 := hide ((unhide H4).al (unhide HK) (.cells #[.int .u8 3, .int .u8 4, .int .u8 5] 5))
  have C5 := hide (dw_append (unhide HK) w _ p ⟨[1, 2], 2, false, 0⟩ (.slice (some ⟨w4.heap.size, 0, none⟩) 3 3) [3, 4, 5] (unhide HG) (unhide A4) (by_cells (heap_alloc_new w4 _) [3, 4, 5] rfl (by unfold maxLen; decide)) (by decide))
  rw [show sApp ⟨[1, 2], 2, false, 0⟩ [3, 4, 5] = (⟨[1, 2, 3, 4, 5], 2, false, 0⟩, 0) from rfl] at C5
  simp only [er] at C5
  go_wp2_with fail
  refine (unhide C5).mono ?_
  rintro e w5 ⟨rfl, h⟩
  have H5 := hide h
  clear C5 h A4 H4
  have C6 := hide (dw_cut (unhide HK) w _ p ⟨[1, 2, 3, 4, 5], 2, false, 0⟩ 6 (unhide HG) (unhide H5) (by decide) (by decide))
  rw [show sCut ⟨[1, 2, 3, 4, 5], 2, false, 0⟩ 6 = (⟨[1, 2, 3, 4, 5], 2, false, 0⟩, 1) from rfl] at C6
  simp only [er] at C6
  go_wp2_with fail
  refine (unhide C6).mono ?_
  rintro e w6 ⟨rfl, h⟩
  have H6 := hide h
  clear C6 h H5
  have C7 := hide (dw_cut (unhide HK) w _ p ⟨[1, 2, 3, 4, 5], 2, false, 0⟩ 4 (unhide HG) (unhide H6) (by decide) (by decide))
  rw [show sCut ⟨[1, 2, 3, 4, 5], 2, false, 0⟩ 4 = (⟨[1, 2, 3, 4], 2, false, 0⟩, 0) from rfl] at C7
  simp only [er] at C7
  go_wp2_with fail
  refine (unhide C7).mono ?_
  rintro e w7 ⟨rfl, h⟩
  have H7 := hide h
  clear C7 h H6
  have C8 := hide (dw_cut (unhide HK) w _ p ⟨[1, 2, 3, 4], 2, false, 0⟩ 1 (unhide HG) (unhide H7) (by decide) (by decide))
  rw [show sCut ⟨[1, 2, 3, 4], 2, false, 0⟩ 1 = (⟨[1], 1, false, 0⟩, 0) from rfl] at C8
  simp only [er] at C8
  go_wp2_with fail
  refine (unhide C8).mono ?_
  rintro e w8 ⟨rfl, h⟩
  have H8 := hide h
  clear C8 h H7
  have A8 := hide ((unhide H8).al (unhide HK) (.cells #[.int .u8 15, .int .u8 255, .int .u8 0] 5))
  have C9 := hide (dw_append (unhide HK) w _ p ⟨[1], 1, false, 0⟩ (.slice (some ⟨w8.heap.size, 0, none⟩) 3 3) [15, 255, 0] (unhide HG) (unhide A8) (by_cells (heap_alloc_new w8 _) [15, 255, 0] rfl (by unfold maxLen; decide)) (by decide))
  rw [show sApp ⟨[1], 1, false, 0⟩ [15, 255, 0] = (⟨[1, 15, 255, 0], 1, false, 0⟩, 0) from rfl] at C9
  simp only [er] at C9
  go_wp2_with fail
  refine (unhide C9).mono ?_
  rintro e w9 ⟨rfl, h⟩
  have H9 := hide h
  clear C9 h A8 H8
  have C10 := hide (dw_crash (unhide HK) w _ p ⟨[1, 15, 255, 0], 1, false, 0⟩ 2 4 4294967295 (unhide HG) (unhide H9) (by decide) (by decide) (by decide) (by decide) (by decide) (by decide))
  rw [show sCrash ⟨[1, 15, 255, 0], 1, false, 0⟩ 2 4 4294967295 = ⟨[1, 0, 0], 3, false, 0⟩ from by kernel_rfl] at C10
  go_wp2_with fail
  refine (unhide C10).mono ?_
  rintro e w10 ⟨rfl, h⟩
  have H10 := hide h
  clear C10 h H9
  have C11 := hide (dw_bytes (unhide HK) w _ p ⟨[1, 0, 0], 3, false, 0⟩ (unhide HG) (unhide H10) (by decide))
  go_wp2_with fail
  refine (unhide C11).mono ?_
  rintro e w11 ⟨v, rfl, o, _, h⟩
  obtain ⟨oy, cy, hvy, _⟩ := o.by.form
  subst hvy
  have hcv : (convert 27 9 (.slice oy 3 cy)).run Tryd.prog w11 = .ok (.string (str [1, 0, 0])) w11 := by_str o.by
  have hsl : (str [1, 0, 0]).toList = [1, 0, 0] := str_list _
  generalize str [1, 0, 0] = sg at *
  clear o
  have H11 := hide h
  clear C11 h H10
  have C12 := hide (dw_arm (unhide HK) w _ p ⟨[1, 0, 0], 3, false, 0⟩ 1 (unhide HG) (unhide H11) (by decide) (by decide))
  rw [show sArm ⟨[1, 0, 0], 3, false, 0⟩ 1 = ⟨[1, 0, 0], 3, false, 1⟩ from rfl] at C12
  go_wp2_with fail
  refine (unhide C12).mono ?_
  rintro e w12 ⟨rfl, h⟩
  have H12 := hide h
  clear C12 h H11
  have C13 := hide (dw_sync (unhide HK) w _ p ⟨[1, 0, 0], 3, false, 1⟩ (unhide HG) (unhide H12))
  rw [show sSyn ⟨[1, 0, 0], 3, false, 1⟩ = (⟨[1, 0, 0], 3, true, 0⟩, 2) from rfl] at C13
  simp only [er] at C13
  go_wp2_with fail
  refine (unhide C13).mono ?_
  rintro e w13 ⟨rfl, h⟩
  have H13 := hide h
  clear C13 h H12
  have C14 := hide (dw_up (unhide HK) w _ p ⟨[1, 0, 0], 3, true, 0⟩ (unhide HG) (unhide H13))
  simp only [Bool.not_true] at C14
  go_wp2_with fail
  refine (unhide C14).mono ?_
  rintro e w14 ⟨rfl, _, h⟩
  have H14 := hide h
  clear C14 h H13
  obtain ⟨c1, c2, _, _, _⟩ := (unhide HK).sent _ ((unhide HK).keep _ _ (unhide HG) (unhide H14).below)
  have q1 := eql_same w14 a
  have q2 := eql_same w14 b
  have B := hide (unhide H14).below
  clear HK HG H14
  go_wp2
  go_ret
  exact ⟨rfl, unhide B⟩
end Go.Proofs.YtbcclolhfogpnaaDoor.dk
