/- The landed disk: Sync, Cut, Bytes, parts. -/
import Derived.Test.YtbcclolhfogpnaaDoorDk3
import Derived.Laws.CopyOwn
import Derived.Deep.OwnRows
import Derived.BigQuiet
namespace Go.Proofs.YtbcclolhfogpnaaDoor.dk
open Go.RowKit mm

theorem infoU1 : (Tryd.prog.info? 5).map (·.size) = some 1 := by kernel_rfl
/-- Bytes that fill a block. -/
def PB (w : World) (g : Nat) (L : List UInt8) : Prop := w.heap[g]? = some (.cells (L.map vb).toArray 5 (0, 0))
theorem pb_made (w : World) (n : Nat) : PB (w.alloc (.cells (madeCells #[Value.int .u8 0] n) 5)) w.heap.size (List.replicate n 0) := by
  have := heap_alloc_new w (.cells (madeCells #[Value.int .u8 0] n) 5)
  unfold PB
  rw [this, List.map_replicate]
  have e : madeCells #[Value.int .u8 0] n = (List.replicate n (vb 0)).toArray := by
    apply Array.toList_inj.mp
    rw [toList_madeCells_one]
    rfl
  rw [e]
theorem oy_pb {w : World} {g B : Nat} {l : List UInt8} (h : PB w g l) (hm : l.length ≤ maxLen) (hB : B ≤ g) : OY w B (.slice (some ⟨g, 0, none⟩) l.length l.length) l := by
  refine ⟨by simp, Or.inr ⟨g, l.length, (l.map vb).toArray, rfl, hB, h, Nat.le_refl _, hm, by simp, ?_⟩⟩
  rw [List.take_of_length_le (by simp)]
/-- copy of all bytes into a block that they fill. -/
theorem wpList_copy_all {w : World} {ops : Array Oper} {rest : List Oper} {o : Oper} {a : Act} {Q : Exit → Act → World → Prop} (hgd : o.guard = none) (d s : Operand)
    (ho : o.op = .call { callee := .builtin .copy, args := #[d, s], argTypes := #[27, 27] }) (vs : Value) (m : List UInt8) (g : Nat) (hd : a.eval d = .slice (some ⟨g, 0, none⟩) m.length m.length) (hs : a.eval s = vs) (hb : Hid (BY w vs m))
    (hp : Hid (PB w g (List.replicate m.length 0))) (B : Nat) (w0 : World) (hB : Hid (Below B w0 w)) (hBg : Hid (B ≤ g))
    (h : ∀ w' r, Hid (PB w' g m) → Hid (Below B w0 w') → wpList Tryd.prog ops Q rest (a.put o.dst r) w') : wpList Tryd.prog ops Q (o :: rest) a w := by
  obtain ⟨_, oa, c, rfl, h1, h2, h3, h4⟩ := unhide hb
  refine wpList_copy_splice (P := Tryd.prog) hgd d s 27 27 ho 5 Tryd.underlying27 infoU1 (some ⟨g, 0, none⟩) oa m.length m.length m.length c hd hs g 0 ((List.replicate m.length (0 : UInt8)).map vb) 5 (unhide hp) (m.map vb) (by simp) (fun q => ?_) (by simp)
    (fun v hv => by obtain ⟨x, _, rfl⟩ := List.mem_map.mp hv; rfl) B w0 (unhide hB) (unhide hBg) (fun w' hg hb' => h w' _ ?_ hb')
  · rw [List.length_map] at q
    refine ⟨rfl, ?_⟩
    cases oa with
    | none => rw [(h3 rfl).1] at q; simp at q
    | some ad => exact ⟨ad, rfl, h4 ad rfl⟩
  · have := unhide hg
    have e : splice ((List.replicate m.length (0 : UInt8)).map vb) 0 (m.map vb) = m.map vb := by
      have hd : List.drop m.length ((List.replicate m.length (0 : UInt8)).map vb) = [] := List.drop_eq_nil_of_le (by simp)
      unfold splice
      rw [List.length_map, Nat.zero_add, List.take_zero, List.nil_append, hd, List.append_nil]
    rw [e] at this
    exact this

set_option maxRecDepth 100000 in
set_option maxHeartbeats 1600000 in
theorem bytes_any (w : World) (p : Addr) (F : Bl) (s : St) (h : LD w p F s) (hb : s.file.length ≤ 70000000000000) :
    Calls Tryd.prog 11 #[.pointer (some p)] w fun e w' => ∃ v, e = .returned v ∧ OY w' w.heap.size v s.file ∧ Below w.heap.size w w' := by
  obtain ⟨g, v0, rfl, h4, hy, hn, hF, hw, ha, hg2⟩ := h
  obtain ⟨o0, c0', ev0, _, _⟩ := (FR.by hy).form
  subst ev0
  have c0 := h4.c0
  have hglt := h4.lt
  have hmk := run_make_row' (P := Tryd.prog) 27 5 (.int .u8 0) 1 Tryd.underlying27 infoU rfl .i64 .i64 s.file.length (by omega) (by omega) w
  have K3 := hide ((Below.refl w.heap.size w).alloc (Nat.le_refl _) (.cells (madeCells #[Value.int .u8 0] s.file.length) 5))
  have P3 := hide (pb_made w s.file.length)
  have S3 := hide ((FR.by hy).keep (unhide K3))
  have LM := hide (show s.file.length ≤ maxLen from by unfold maxLen; omega)
  have ZZ := hide (Nat.le_refl w.heap.size)
  clear h4 hy hn hF hw ha hg2 hb
  generalize s.file = file at *
  go_enter Tryd.func11, Tryd.ntmps11
  go_upto_region 2 with fail
  go_wp2_with (refine wpList_copy_all rfl _ _ rfl _ file w.heap.size rfl rfl S3 P3 w.heap.size w K3 ZZ ?_)
  intro w2 r2 P4 B4
  clear K3 P3 S3 hmk c0
  go_wp2
  go_ret
  exact ⟨_, rfl, oy_pb (unhide P4) (unhide LM) (Nat.le_refl _), unhide B4⟩

theorem go_syn (m : Nat) (file : List UInt8) (syn : Nat) : sSyn ⟨file, syn, false, m⟩ = if m = 1 then (⟨file, syn, true, 0⟩, 2) else (⟨file, file.length, false, m - 1⟩, 0) := rfl

set_option maxRecDepth 100000 in
set_option maxHeartbeats 1600000 in
theorem sync_any (a b : Addr) (w : World) (p : Addr) (F : Bl) (s : St) (hs : Sent w a b) (h : LD w p F s) :
    Calls Tryd.prog 16 #[.pointer (some p)] w fun e w' => ∃ F', e = .returned (er a b (sSyn s).2) ∧ LD w' p F' (sSyn s).1 ∧ Mv F F' w w' := by
  obtain ⟨g, v0, rfl, h4, hy, hn, hF, hw, ha, hg2⟩ := h
  obtain ⟨file, syn, off, arm⟩ := s
  simp only at h4 hy ha
  have c3 := h4.c3
  have hd := hs.cd
  have H4 := hide h4
  have HY := hide hy
  have HN := hide hn
  have HF := hide hF
  have HW := hide hw
  have HA := hide ha
  have HG := hide hg2
  cases off with
  | true =>
    have e : sSyn ⟨file, syn, true, arm⟩ = (⟨file, syn, true, arm⟩, 2) := rfl
    rw [e]
    have e2 : er a b 2 = .iface 66 (.pointer (some b)) := rfl
    simp only [e2]
    clear h4 hy hn hF hw ha hs e e2 hg2
    go_enter Tryd.func16, Tryd.ntmps16
    go_wp2
    go_ret
    exact ⟨F, rfl, ⟨g, _, rfl, unhide H4, unhide HY, unhide HN, unhide HF, unhide HW, unhide HA, unhide HG⟩, Mv.quiet F (Below.refl _ _)⟩
  | false =>
    rw [go_syn]
    obtain ⟨o0, c0', ev0, _, _⟩ := (FR.by hy).form
    subst ev0
    have hgg : 2 ≤ g := hg2 g ((hF g).mpr (Or.inl rfl))
    have C1 := hide (spend_any a b w g _ _ arm hd hgg h4 ha)
    by_cases h1 : arm = 1
    · subst h1
      rw [if_pos rfl]
      have e2 : er a b (goN 1) = .iface 66 (.pointer (some b)) := rfl
      have e3 : er a b 2 = .iface 66 (.pointer (some b)) := rfl
      rw [e2] at C1
      simp only [e3]
      clear h4 hy hn hF hw ha hs e2 e3 hg2 hgg
      go_enter Tryd.func16, Tryd.ntmps16
      go_wp2_with fail
      refine (unhide C1).mono ?_
      rintro e w1 ⟨rfl, r1, u1⟩
      have R1 := hide r1
      have U1 := hide u1
      clear r1 u1 C1
      go_wp2
      go_ret
      exact ⟨F, rfl, ⟨g, _, rfl, unhide R1, (unhide HY).upd (unhide U1) (unhide HN), unhide HN, unhide HF, unhide HW, (by show (0 : Int) ≤ _; omega), unhide HG⟩, mvU (unhide U1) ((unhide HF g).mpr (Or.inl rfl))⟩
    · rw [if_neg h1]
      have e2 : er a b (goN arm) = .nilIface := by unfold goN; rw [if_neg h1]; rfl
      have e3 : er a b 0 = .nilIface := rfl
      have e4 : (arm == 1) = false := by simpa using h1
      rw [e2, e4] at C1
      simp only [e3]
      clear h4 hy hn hF hw ha hs e2 e3 e4 hg2 hgg
      go_enter Tryd.func16, Tryd.ntmps16
      go_wp2_with fail
      refine (unhide C1).mono ?_
      rintro e w1 ⟨rfl, r1, u1⟩
      have R1 := hide r1
      have U1 := hide u1
      have d0 := r1.c0
      have d1 := r1.c1
      have df := r1.f
      clear r1 u1 C1 c3
      go_wp2
      go_ret
      have UU := (unhide U1).trans (Upd.setCell g 1 w1 (.int .i64 (file.length : Int)))
      exact ⟨F, rfl, ⟨g, _, rfl, (unhide R1).s1 _, (unhide HY).upd UU (unhide HN), unhide HN, unhide HF, Nat.le_refl _, by have := unhide HA; simp only at this ⊢; omega, unhide HG⟩, mvU UU ((unhide HF g).mpr (Or.inl rfl))⟩

theorem go_cut (n : Int) (m : Nat) (file : List UInt8) (syn : Nat) : sCut ⟨file, syn, false, m⟩ n = if n < 0 ∨ (file.length : Int) < n then (⟨file, syn, false, m⟩, 1) else if m = 1 then (⟨file, syn, true, 0⟩, 2) else (⟨file.take n.toNat, min syn n.toNat, false, m - 1⟩, 0) := rfl

set_option maxRecDepth 100000 in
set_option maxHeartbeats 1600000 in
theorem cut_any (a b : Addr) (w : World) (p : Addr) (F : Bl) (s : St) (n : Int) (hs : Sent w a b) (h : LD w p F s) (n0 : -9223372036854775808 ≤ n) (n1 : n ≤ 9223372036854775807) :
    Calls Tryd.prog 21 #[.pointer (some p), .int .i64 n] w fun e w' => ∃ F', e = .returned (er a b (sCut s n).2) ∧ LD w' p F' (sCut s n).1 ∧ Mv F F' w w' := by
  obtain ⟨g, v0, rfl, h4, hy, hn, hF, hw, ha, hg2⟩ := h
  obtain ⟨file, syn, off, arm⟩ := s
  simp only at h4 hy ha
  obtain ⟨o0, c0', ev0, _, _⟩ := (FR.by hy).form
  subst ev0
  have c0 := h4.c0
  have c3 := h4.c3
  have hd := hs.cd
  have hda := hs.ca
  have H4 := hide h4
  have HY := hide hy
  have HN := hide hn
  have HF := hide hF
  have HW := hide hw
  have HA := hide ha
  have HG := hide hg2
  cases off with
  | true =>
    have e : sCut ⟨file, syn, true, arm⟩ n = (⟨file, syn, true, arm⟩, 2) := rfl
    rw [e]
    have e2 : er a b 2 = .iface 66 (.pointer (some b)) := rfl
    simp only [e2]
    clear h4 hy hn hF hw ha hs e e2 hg2
    go_enter Tryd.func21, Tryd.ntmps21
    go_wp2
    go_ret
    exact ⟨F, rfl, ⟨g, _, rfl, unhide H4, unhide HY, unhide HN, unhide HF, unhide HW, unhide HA, unhide HG⟩, Mv.quiet F (Below.refl _ _)⟩
  | false =>
    rw [go_cut]
    have hgg : 2 ≤ g := hg2 g ((hF g).mpr (Or.inl rfl))
    by_cases hq : n < 0 ∨ (file.length : Int) < n
    · rw [if_pos hq]
      have e2 : er a b 1 = .iface 66 (.pointer (some a)) := rfl
      simp only [e2]
      clear h4 hy hn hF hw ha hs e2 hg2 hgg
      by_cases hz : n < 0
      · go_enter Tryd.func21, Tryd.ntmps21
        go_wp2
        go_ret
        exact ⟨F, rfl, ⟨g, _, rfl, unhide H4, unhide HY, unhide HN, unhide HF, unhide HW, unhide HA, unhide HG⟩, Mv.quiet F (Below.refl _ _)⟩
      · have hz1 : decide (n < 0) = false := decide_eq_false hz
        have hz2 : (file.length : Int) < n := by omega
        have hz3 : decide ((file.length : Int) < n) = true := decide_eq_true hz2
        clear hq hz
        go_enter Tryd.func21, Tryd.ntmps21
        go_wp2
        go_ret
        exact ⟨F, rfl, ⟨g, _, rfl, unhide H4, unhide HY, unhide HN, unhide HF, unhide HW, unhide HA, unhide HG⟩, Mv.quiet F (Below.refl _ _)⟩
    · rw [if_neg hq]
      have hz1 : decide (n < 0) = false := decide_eq_false (by omega)
      have hz3 : decide ((file.length : Int) < n) = false := decide_eq_false (by omega)
      have C1 := hide (spend_any a b w g _ _ arm hd hgg h4 ha)
      by_cases h1 : arm = 1
      · subst h1
        rw [if_pos rfl]
        have e2 : er a b (goN 1) = .iface 66 (.pointer (some b)) := rfl
        have e3 : er a b 2 = .iface 66 (.pointer (some b)) := rfl
        rw [e2] at C1
        simp only [e3]
        clear h4 hy hn hF hw ha hs e2 e3 hg2 hgg hq
        go_enter Tryd.func21, Tryd.ntmps21
        go_wp2_with fail
        refine (unhide C1).mono ?_
        rintro e w1 ⟨rfl, r1, u1⟩
        have R1 := hide r1
        have U1 := hide u1
        clear r1 u1 C1
        go_wp2
        go_ret
        exact ⟨F, rfl, ⟨g, _, rfl, unhide R1, (unhide HY).upd (unhide U1) (unhide HN), unhide HN, unhide HF, unhide HW, (by show (0 : Int) ≤ _; omega), unhide HG⟩, mvU (unhide U1) ((unhide HF g).mpr (Or.inl rfl))⟩
      · rw [if_neg h1]
        have e2 : er a b (goN arm) = .nilIface := by unfold goN; rw [if_neg h1]; rfl
        have e3 : er a b 0 = .nilIface := rfl
        have e4 : (arm == 1) = false := by simpa using h1
        rw [e2, e4] at C1
        simp only [e3]
        obtain ⟨c, hsl, hfr, hob⟩ := hy.hm n.toNat (by omega) n (by omega)
        have HFR := hide hfr
        have HOB := hide hob
        have HSY := hide (show ∀ x : Int, (x = n ∧ n ≤ (syn : Int)) ∨ (x = (syn : Int) ∧ (syn : Int) ≤ n) → x = ((min syn n.toNat : Nat) : Int) from fun x hx => by omega)
        have HWF := hide (show Wf ⟨file.take n.toNat, min syn n.toNat, false, arm - 1⟩ from by unfold Wf at hw ⊢; simp only [List.length_take] at hw ⊢; omega)
        have HNN := hide (show (n.toNat : Int) = n from by omega)
        clear h4 hy hn hF hw ha hs e2 e3 e4 hg2 hgg hq hfr hob h1
        generalize min syn n.toNat = sy at *
        go_enter Tryd.func21, Tryd.ntmps21
        go_wp2_with fail
        refine (unhide C1).mono ?_
        rintro e w1 ⟨rfl, r1, u1⟩
        have R1 := hide r1
        have U1 := hide u1
        have d0 := r1.c0
        have d1 := r1.c1
        have df := r1.f
        clear r1 u1 C1 c3
        have FIN := hide (show ∀ x : Int, x = (sy : Int) → ∃ F', LD ((w1.setCell ⟨g, 0, none⟩ (.slice c n.toNat n.toNat)).setCell ⟨g, 1, none⟩ (.int .i64 x)) ⟨g, 0, none⟩ F' ⟨file.take n.toNat, sy, false, arm - 1⟩ ∧ Mv F F' w ((w1.setCell ⟨g, 0, none⟩ (.slice c n.toNat n.toNat)).setCell ⟨g, 1, none⟩ (.int .i64 x)) from fun x hx => by
          subst hx
          have UU := ((unhide U1).trans (Upd.setCell g 0 w1 (.slice c n.toNat n.toNat))).trans (Upd.setCell g 1 (w1.setCell ⟨g, 0, none⟩ (.slice c n.toNat n.toNat)) (.int .i64 (sy : Int)))
          have hne : (Value.slice c n.toNat n.toNat).ownBlock ≠ some g := by rw [unhide HOB]; exact unhide HN
          refine ⟨F, ⟨g, _, rfl, ((unhide R1).s0 _).s1 _, (unhide HFR).upd UU hne, hne, fun k => ?_, unhide HWF, by have := unhide HA; simp only at this ⊢; omega, unhide HG⟩, mvU UU ((unhide HF g).mpr (Or.inl rfl))⟩
          rw [unhide HOB]
          exact unhide HF k)
        go_wp2
        all_goals go_ret
        all_goals exact ⟨rfl, unhide FIN _ (unhide HSY _ (by omega))⟩
end Go.Proofs.YtbcclolhfogpnaaDoor.dk
