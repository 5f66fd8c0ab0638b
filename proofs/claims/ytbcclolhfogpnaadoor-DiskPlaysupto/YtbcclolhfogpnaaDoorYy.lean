/- DiskPlays, over the calls' contracts: the law. -/
import Derived.Test.YtbcclolhfogpnaaDoorYx
namespace Go.Proofs.YtbcclolhfogpnaaDoor.dk
open Go.RowKit mm

def opT : Op := ⟨5, false, [], 0, 0, 0⟩
theorem opT_ok : OB 2000000 opT := ⟨⟨by decide, by decide⟩, ⟨by decide, by decide⟩, ⟨by decide, by decide⟩, by decide, by decide⟩
theorem by_nil (w : World) : BY w (.slice none 0 0) [] := ⟨rfl, none, 0, rfl, Nat.le_refl _, by unfold maxLen; omega, fun _ => ⟨rfl, rfl⟩, fun a ha => by cases ha⟩

theorem len_up {x i : Nat} (h : x ≤ i * 2000000) : x ≤ (i + 1) * 2000000 := Nat.le_trans h (Nat.mul_le_mul_right _ (Nat.le_succ i))
theorem len_all {x i : Nat} (h : x ≤ i * 2000000) (hi : i ≤ 2000000) : x + ([] : List UInt8).length ≤ 70000000000000 := by simp; omega

set_option maxRecDepth 100000 in
set_option maxHeartbeats 3200000 in
theorem plays_law {a b : Addr} {G : World → Prop} {D : World → Addr → Bl → St → Prop} (K : DiskOK a b G D) (l : List Op) (v : Value) (w : World) (hG : G w) (h : OPS w v l) (hl : l.length ≤ 2000000) (hb : ∀ o ∈ l, OB 2000000 o) :
    Calls Tryd.prog 3 #[v] w fun e w' => e = .returned (.bool true) ∧ Below w.heap.size w w' := by
  have HK := hide K
  have HG := hide hG
  have H := hide h
  have HL := hide hl
  have HB := hide hb
  have C1 := hide (shown_any K w hG)
  obtain ⟨oa, c, rfl, h1, h2⟩ := h.form
  have H2 := hide h2
  clear K hG h hl hb h2
  go_enter Tryd.func3, Tryd.ntmps3
  go_wp2_with fail
  refine (unhide C1).mono ?_
  rintro e w1 ⟨rfl, b1⟩
  have B1 := hide b1
  clear C1 b1
  have C2 := hide ((unhide HK).new w1 ((unhide HK).keep _ _ (unhide HG) (unhide B1)))
  go_wp2_with fail
  refine (unhide C2).mono ?_
  rintro e w2 ⟨pd, Fd0, rfl, d2, f2, b2⟩
  have B2 := hide ((unhide B1).trans (b2.mono (unhide B1).size))
  have C3 := hide ((unhide HK).new w2 ((unhide HK).keep _ _ (unhide HG) (unhide B2)))
  have D2 := hide d2
  have F2 := hide f2
  have E2 := hide b2
  clear C2 d2 f2 b2
  go_wp2_with fail
  refine (unhide C3).mono ?_
  rintro e w3 ⟨pe, Fe0, rfl, d3, f3, b3⟩
  have B3 := hide ((unhide B2).trans (b3.mono (unhide B2).size))
  obtain ⟨tw0, bw0⟩ := TW.start (unhide HK) (unhide B1).size (unhide D2) (unhide F2) (unhide E2) d3 f3 b3 _ rfl
  have TW0 := hide tw0
  have BW0 := hide ((unhide B3).trans (bw0.mono (unhide B3).size))
  clear C3 d3 f3 b3 tw0 bw0 D2 F2 E2 B1 B2 B3
  go_wp2
  go_loopw [9, 10] (fun iv _ wr => ∃ (i : Nat) (Fd Frd Fe Fre Fo : Bl) (sd se : St), i ≤ l.length ∧ iv = .int .i64 (i : Int) ∧ Hid (TW D wr w.heap.size pd ⟨w3.heap.size, 0, none⟩ pe ⟨w3.heap.size + 1, 0, none⟩ (w3.heap.size + 2) Fd Frd Fe Fre Fo sd se (2 * i)) ∧
    Hid (sd.file.length ≤ i * 2000000 ∧ se.file.length ≤ i * 2000000) ∧ Hid (Below w.heap.size w wr)) (fun iv _ _ => l.length - (intOf iv).toNat)
  case atStart => exact ⟨0, _, _, _, _, _, st0, st0, Nat.zero_le _, rfl, TW0, ⟨Nat.zero_le _, Nat.zero_le _⟩, BW0⟩
  case round =>
    clear TW0 BW0
    obtain ⟨i, Fd, Frd, Fe, Fre, Fo, sd, se, hi, rfl, hT, hLn, hB⟩ := hrel
    by_cases hc : i < l.length
    · have e1 : (i : Int) < (l.length : Int) := by omega
      obtain ⟨oo, hoo⟩ : ∃ o, l[i]? = some o := ⟨l[i], List.getElem?_eq_getElem hc⟩
      obtain ⟨aa, c', e, _, _, hcell⟩ := (unhide H).at (by omega)
      cases e
      have hC := hcell i oo hoo
      have kc : ∀ (q : Addr) (x : Value), w.cell? q = some x → wr.cell? q = some x := fun q x hq => by rw [(unhide hB).cell (cell_lt hq)]; exact hq
      obtain ⟨ev, hev, hby⟩ := hC.c2
      have f0 := kc _ _ hC.c0
      have f1 := kc _ _ (at1 1 (by omega) hC.c1)
      have f2 := kc _ _ (at1 2 (by omega) hev)
      have f3 := kc _ _ (at1 3 (by omega) hC.c3)
      have f4 := kc _ _ (at1 4 (by omega) hC.c4)
      have f5 := kc _ _ (at1 5 (by omega) hC.c5)
      have hob := unhide HB oo (List.mem_of_getElem? hoo)
      have hll := unhide HL
      have hdl := hob.data
      have e2 : (i : Int) < 9223372036854775807 := by omega
      cases hot : oo.other with
      | true =>
        have CS := hide (step_any (unhide HK) w wr pe _ _ Fe Fre Fo se (2 * i) oo ev (unhide HG) (unhide hB) (unhide hT).y hby hob (by have := (unhide hLn).2; omega) (by omega))
        have HLN := hide (show (sDo se (pk oo.kind 6) oo).1.file.length ≤ (i + 1) * 2000000 by have := do_len (PS.d (unhide hT).y |> (unhide HK).wf _ _ _ _) (pk oo.kind 6) oo; have := (unhide hLn).2; omega)
        obtain ⟨oe, ce, rfl⟩ : ∃ oe ce, ev = .slice oe oo.data.length ce := by
          obtain ⟨oe, ce, e, _⟩ := hby.form
          exact ⟨oe, ce, e⟩
        unfold opv at CS
        rw [hot] at f1
        rw [hot] at CS
        clear hcell hC kc hoo hob hby hev hll hdl
        go_wp2_with fail
        refine (unhide CS).mono ?_
        rintro e w5 ⟨rfl, F', Fr', Fo', ps, mm⟩
        have T5 := hide (TW.swap (TW.step (unhide HK) (TW.swap (unhide hT)) ps mm))
        have B5 := hide (PS.below (unhide hT).y mm (unhide hB))
        have L5 := hide (And.intro (len_up (unhide hLn).1) (unhide HLN))
        clear CS ps mm hT hB hLn HLN f0 f1 f2 f3 f4 f5
        go_wp2
        exact ⟨⟨i + 1, _, _, _, _, _, _, _, by omega, by go_num, T5, L5, B5⟩, by simp [intOf]; omega⟩
      | false =>
        have CS := hide (step_any (unhide HK) w wr pd _ _ Fd Frd Fo sd (2 * i) oo ev (unhide HG) (unhide hB) (unhide hT).x hby hob (by have := (unhide hLn).1; omega) (by omega))
        have HLN := hide (show (sDo sd (pk oo.kind 6) oo).1.file.length ≤ (i + 1) * 2000000 by have := do_len (PS.d (unhide hT).x |> (unhide HK).wf _ _ _ _) (pk oo.kind 6) oo; have := (unhide hLn).1; omega)
        obtain ⟨oe, ce, rfl⟩ : ∃ oe ce, ev = .slice oe oo.data.length ce := by
          obtain ⟨oe, ce, e, _⟩ := hby.form
          exact ⟨oe, ce, e⟩
        unfold opv at CS
        rw [hot] at f1
        rw [hot] at CS
        clear hcell hC kc hoo hob hby hev hll hdl
        go_wp2_with fail
        refine (unhide CS).mono ?_
        rintro e w5 ⟨rfl, F', Fr', Fo', ps, mm⟩
        have T5 := hide (TW.step (unhide HK) (unhide hT) ps mm)
        have B5 := hide (PS.below (unhide hT).x mm (unhide hB))
        have L5 := hide (And.intro (unhide HLN) (len_up (unhide hLn).2))
        clear CS ps mm hT hB hLn HLN f0 f1 f2 f3 f4 f5
        go_wp2
        exact ⟨⟨i + 1, _, _, _, _, _, _, _, by omega, by go_num, T5, L5, B5⟩, by simp [intOf]; omega⟩
    · obtain rfl := (show l.length = i by omega)
      have hll := unhide HL
      have N1 := hide (show 2 * l.length ≤ 1000000000 by omega)
      have N2 := hide (show 2 * l.length + 2 ≤ 1000000000 by omega)
      have N3 := hide (show 2 * l.length + 2 + 2 ≤ 1000000000 by omega)
      have S1 := hide (step_any (unhide HK) w wr pd _ _ Fd Frd Fo sd (2 * l.length) opT (.slice none 0 0) (unhide HG) (unhide hB) (unhide hT).x (by_nil w) opT_ok (len_all (unhide hLn).1 hll) (unhide N1))
      have HSE := hide (len_all (unhide hLn).2 hll)
      clear hll
      generalize (sDo sd (pk opT.kind 6) opT).1 = sd' at S1
      unfold opv opT at S1
      simp only at S1
      go_wp2_with fail
      refine (unhide S1).mono ?_
      rintro e w5 ⟨rfl, F1, Fr1, Fo1, ps1, mm1⟩
      have T5 := hide (TW.step (unhide HK) (unhide hT) ps1 mm1)
      have B5 := hide (PS.below (unhide hT).x mm1 (unhide hB))
      clear S1 ps1 mm1 hT hB
      have S2 := hide (step_any (unhide HK) w w5 pe _ _ Fe Fre Fo1 se (2 * l.length + 2) opT (.slice none 0 0) (unhide HG) (unhide B5) (unhide T5).y (by_nil w) opT_ok (unhide HSE) (unhide N2))
      generalize (sDo se (pk opT.kind 6) opT).1 = se' at S2
      unfold opv opT at S2
      simp only at S2
      go_wp2_with fail
      refine (unhide S2).mono ?_
      rintro e w6 ⟨rfl, F2, Fr2, Fo2, ps2, mm2⟩
      have P6 := hide ps2
      have B6 := hide (PS.below (unhide T5).y mm2 (unhide B5))
      clear S2 ps2 mm2 T5 B5
      obtain ⟨lv, es, hv, hl2, how, hFo, hes, hhl⟩ := (unhide P6).ow
      have S3 := hide (takes_any w.heap.size (w3.heap.size + 2) lv hv (.slice none 0 0) (.slice none 0 0) es hl2 [] w6 how (World.ownsRow_nil _ _ _ _) (by_nil w6) (fun k q => by cases q) (fun q => absurd rfl q) (unhide B6).size (Nat.le_trans hes (unhide N3)) hhl)
      have HFO := hide hFo
      clear how hes hhl hFo
      go_wp2_with fail
      refine (unhide S3).mono ?_
      rintro e w7 ⟨rfl, lv', es', _, _, ⟨o1, o2, o3, o4⟩, hblk, _⟩
      have B7 := hide (show Below w.heap.size w w7 from ⟨o1.trans (unhide B6).os, o2.trans (unhide B6).tape, o3.trans (unhide B6).output, Nat.le_trans (unhide B6).size o4, fun k hk => (hblk k (Nat.lt_of_lt_of_le hk (unhide B6).size) (fun q => absurd ((unhide P6).ge k (Or.inr (Or.inr ((unhide HFO k).mpr q)))) (Nat.not_le.mpr hk))).trans ((unhide B6).block k hk)⟩)
      clear S3 o1 o2 o3 o4 hblk
      go_wp2
      go_ret
      exact ⟨rfl, unhide B7⟩
end Go.Proofs.YtbcclolhfogpnaaDoor.dk
