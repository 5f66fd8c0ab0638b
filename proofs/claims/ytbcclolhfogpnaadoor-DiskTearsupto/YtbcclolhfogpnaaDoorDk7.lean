/- The landed disk: Crash. -/
import Derived.Test.YtbcclolhfogpnaaDoorDk6
namespace Go.Proofs.YtbcclolhfogpnaaDoor.dk
open Go.RowKit mm

theorem keep_h (ot : Option Addr) (nt T : Nat) (hT : T ≤ nt) (x : Int) (hx : x = (T : Int)) (u : World) : (Instr.slice 27 (.slice ot nt nt) none (some (.int .i64 x)) none).run Tryd.prog u = .ok (.slice ot T nt) u := by
  subst hx
  rw [run_slice_h (P := Tryd.prog) (ht := undU) (h0 := by omega) (h2 := by omega), size_u]
  show Result.ok (sliced ot 0 T nt 1) u = _
  unfold sliced
  cases ot with
  | none => simp
  | some a => simp [Addr.add]
theorem by_h {w : World} {ot : Option Addr} {nt : Nat} {l : List UInt8} (h : BY w (.slice ot nt nt) l) (hl : l.length = nt) (T : Nat) (hT : T ≤ nt) : BY w (.slice ot T nt) (l.take T) := by
  obtain ⟨h0, oa, c, e, h1, h2, h3, h4⟩ := h
  cases e
  refine ⟨by simp, _, _, by rw [List.length_take, Nat.min_eq_left (by omega)], by rw [List.length_take]; omega, h2, fun q => ?_, fun a ha j u hu => h4 a ha j u ?_⟩
  · have := h3 q
    rw [List.length_take]
    exact ⟨by omega, this.2⟩
  · rw [List.map_take, List.getElem?_take] at hu
    split at hu
    · exact hu
    · cases hu

set_option maxRecDepth 100000 in
set_option maxHeartbeats 3200000 in
theorem crash_any (w : World) (p : Addr) (F : Bl) (s : St) (kp at_ : Int) (tn : Nat) (hsz : 2 ≤ w.heap.size) (h : LD w p F s) (hb : s.file.length ≤ 70000000000000) (k0 : -9223372036854775808 ≤ kp) (k1 : kp ≤ 9223372036854775807) (a0 : -9223372036854775808 ≤ at_) (a1 : at_ ≤ 9223372036854775807) (ht : tn < 4294967296) :
    Calls Tryd.prog 19 #[.pointer (some p), .int .i64 kp, .int .i64 at_, .int .u32 (tn : Int)] w fun e w' => ∃ F', e = .returned (.tuple #[]) ∧ LD w' p F' (sCrash s kp at_ tn) ∧ Mv F F' w w' := by
  obtain ⟨g, v0, rfl, h4, hy, hn, hF, hw, ha, hg2⟩ := h
  obtain ⟨file, syn, off, arm⟩ := s
  simp only at h4 hy ha hb
  have hw' : syn ≤ file.length := hw
  obtain ⟨o0, c0', ev0, _, _⟩ := (FR.by hy).form
  subst ev0
  obtain ⟨o1, r1, f1, b1⟩ := hy.hm syn hw' (syn : Int) rfl
  obtain ⟨o2, r2, f2, b2⟩ := hy.lhm syn hw'
  obtain ⟨nt, ent⟩ : ∃ nt, nt = file.length - syn := ⟨_, rfl⟩
  rw [← ent] at r2 f2 b2
  have C1 := hide (parts_any w g o0 file.length c0' syn nt _ _ o1 o2 h4 r1 r2)
  obtain ⟨T, eT⟩ : ∃ T : Nat, T = min kp.toNat nt := ⟨_, rfl⟩
  have hTn : T ≤ nt := by omega
  have hdl : (file.drop syn).length = nt := by rw [List.length_drop]; omega
  have hkept : BY w (.slice o2 T nt) ((file.drop syn).take T) := by_h f2 hdl T hTn
  have HCR := hide (show sCrash ⟨file, syn, off, arm⟩ kp at_ tn = ⟨file.take syn ++ tear at_ tn ((file.drop syn).take T), syn + T, false, 0⟩ from by
    have e : (file.drop syn).take kp.toNat = (file.drop syn).take T := by
      rw [eT]
      rcases Nat.le_total kp.toNat nt with q | q
      · rw [Nat.min_eq_left q]
      · rw [Nat.min_eq_right q, List.take_of_length_le (by omega), List.take_of_length_le (by omega)]
    unfold sCrash
    simp only [e, List.length_append, tear_len, List.length_take, List.length_drop]
    congr 1
    omega)
  generalize sCrash ⟨file, syn, off, arm⟩ kp at_ tn = sN at *
  have hmx : maxLen = 9223372036854775807 := rfl
  have HTURN : Hid (0 ≤ at_ → ∀ q, Calls Tryd.prog 32 #[.slice o2 T nt, .int .i64 at_, .int .u32 (tn : Int)] (w.drewN q) fun e w' => e = .returned (.tuple #[]) ∧ AT w w' (.slice o0 file.length c0') (.slice o1 syn syn) (.slice o2 T nt) (file.take syn) (tear at_ tn ((file.drop syn).take T))) := by
    intro hq q
    obtain ⟨an, rfl⟩ : ∃ an : Nat, at_ = (an : Int) := ⟨at_.toNat, by omega⟩
    rcases (by omega : T = 0 ∨ 0 < T) with h0 | h0
    · refine (turn_any (w.drewN q) o2 0 0 T nt 0 [] an tn a1 ht (by omega) (fun z => by omega)).mono ?_
      rintro e w' ⟨rfl, _, _, z⟩
      obtain ⟨q', rfl⟩ := z h0
      refine ⟨rfl, ?_⟩
      have he : (file.drop syn).take T = [] := by rw [h0]; rfl
      have := at_none (v0 := .slice o0 file.length c0') (q + q') f1 hkept
      rw [he] at this ⊢
      exact ⟨this.fr, this.by', rfl, rfl, rfl, rfl, fun _ _ => rfl⟩
    · obtain ⟨gf, cap, sz, ev, eo, hrb⟩ := b2 (by omega)
      cases ev
      refine (turn_any (w.drewN q) o2 gf syn T nt sz file an tn a1 ht (by omega) (fun _ => ⟨eo, hrb.keep rfl, by omega⟩)).mono ?_
      rintro e w' ⟨rfl, z1, z2, _⟩
      refine ⟨rfl, at_turn (by omega) h0 rfl ?_ eo hTn (by omega) (by omega) (z1 h0) ⟨z2.os, z2.tape, z2.output, z2.size, z2.block⟩⟩
      rcases f1 with ⟨z, _⟩ | ⟨g', cap', sz', z, _⟩
      · cases z; cases b1
      · simp only [Value.slice.injEq] at z
        obtain ⟨rfl, _, _⟩ := z
        simp only [Value.ownBlock, Option.some.injEq] at b1
        rw [b1]
  have HNEG : Hid (at_ < 0 → ∀ q, AT w (w.drewN q) (.slice o0 file.length c0') (.slice o1 syn syn) (.slice o2 T nt) (file.take syn) (tear at_ tn ((file.drop syn).take T))) := by
    intro hq q
    rw [tear_neg _ _ _ hq]
    exact at_none q f1 hkept
  have H4 := hide h4
  have HN := hide hn
  have HF := hide hF
  have HG := hide hg2
  have HB1 := hide b1
  have HSZ := hide hsz
  have HLEN := hide (show (file.take syn).length + (tear at_ tn ((file.drop syn).take T)).length = syn + T ∧ syn + T ≤ 70000000000000 from by
    rw [tear_len, List.length_take, List.length_take, hdl]; omega)
  have KH := hide (keep_h o2 nt T hTn)
  have ETI := hide (show ((kp < 0 ∧ (T : Int) = 0) ∨ (0 ≤ kp ∧ kp ≤ (nt : Int) ∧ (T : Int) = kp) ∨ ((nt : Int) < kp ∧ (T : Int) = (nt : Int))) from by omega)
  have hnt0 : (0 : Int) ≤ (nt : Int) := by omega
  have hglt := h4.lt
  clear h4 hy hn hF hw ha hb hw' r1 r2 f1 f2 b1 b2 ent eT hTn hdl hkept hmx k0 k1 a0 a1 ht hg2 hsz
  go_enter Tryd.func19, Tryd.ntmps19
  go_wp2_with fail
  refine (unhide C1).mono ?_
  rintro e w1 ⟨rfl, q1, rfl⟩
  clear C1
  go_upto_region 1 with fail
  go_cut [8, 10] from 16 (fun s8 s10 wx => s8 = .slice o1 syn syn ∧ s10 = .slice o2 T nt ∧ wx = w.drewN q1)
  case first =>
    rcases unhide ETI with ⟨z1, z2⟩ | ⟨z1, z2, z3⟩ | ⟨z1, z2⟩
    · have hs := fun u => unhide KH 0 z2.symm u
      clear z2
      go_wp2
      all_goals go_meet
      all_goals exact ⟨rfl, rfl, rfl⟩
    · have hs := fun u => unhide KH kp z3.symm u
      clear z3
      go_wp2
      all_goals go_meet
      all_goals exact ⟨rfl, rfl, rfl⟩
    · have hs := fun u => unhide KH (nt : Int) z2.symm u
      clear z2
      go_wp2
      all_goals go_meet
      all_goals exact ⟨rfl, rfl, rfl⟩
  case rest =>
  obtain ⟨rfl, rfl, hwx⟩ := hcut
  obtain rfl := hwx
  have FIN : Hid (∀ w2 w3 o3 n3 c3, AT w w2 (.slice o0 file.length c0') (.slice o1 syn syn) (.slice o2 T nt) (file.take syn) (tear at_ tn ((file.drop syn).take T)) → Apf w2 w3 (.slice o1 syn syn) (.slice o3 n3 c3) (file.take syn ++ tear at_ tn ((file.drop syn).take T)) →
      n3 = syn + T ∧ ∃ F', LD ((((w3.setCell ⟨g, 0, none⟩ (.slice o3 n3 c3)).setCell ⟨g, 1, none⟩ (.int .i64 (n3 : Int))).setCell ⟨g, 2, none⟩ (.int .i64 0)).setCell ⟨g, 3, none⟩ (.bool false)) ⟨g, 0, none⟩ F' sN ∧
        Mv F F' w ((((w3.setCell ⟨g, 0, none⟩ (.slice o3 n3 c3)).setCell ⟨g, 1, none⟩ (.int .i64 (n3 : Int))).setCell ⟨g, 2, none⟩ (.int .i64 0)).setCell ⟨g, 3, none⟩ (.bool false))) := by
    intro w2 w3 o3 n3 c3 hA hP
    have hl := unhide HLEN
    have hn3 : n3 = syn + T := by
      obtain ⟨oo, cc, e, _⟩ := (FR.by hP.row).form
      simp only [Value.slice.injEq] at e
      rw [e.2.1, List.length_append]
      exact hl.1
    refine ⟨hn3, ?_⟩
    have hne0 : (Value.slice o0 file.length c0').ownBlock ≠ some g := unhide HN
    have hne1 : (Value.slice o1 syn syn).ownBlock ≠ some g := by rw [unhide HB1]; exact hne0
    have k1 : w3.heap[g]? = w.heap[g]? := (hP.block g (by rw [hA.size]; exact hglt) hne1).trans (hA.block g hne0)
    have hne3 : (Value.slice o3 n3 c3).ownBlock ≠ some g := fun q => by
      rcases hP.blk g q with z | z
      · exact hne1 z
      · rw [hA.size] at z; omega
    have U := (((Upd.setCell g 0 w3 (.slice o3 n3 c3)).trans (Upd.setCell g 1 _ (.int .i64 (n3 : Int)))).trans (Upd.setCell g 2 _ (.int .i64 0))).trans (Upd.setCell g 3 _ (.bool false))
    have r := ((((unhide H4).keep k1).s0 (.slice o3 n3 c3)).s1 (n3 : Int)).s2 0
    have r := r.s3 false
    rw [unhide HCR]
    refine LD.fin (w := w) (s := ⟨file.take syn ++ tear at_ tn ((file.drop syn).take T), syn + T, false, 0⟩) (unhide HF) (by rw [← hn3]; exact r) (FR.upd hP.row U hne3) hne3 (by unfold Wf; simp only [List.length_append]; omega) (by show (0 : Int) ≤ _; omega) (unhide HG) (unhide HSZ)
      (U.os.trans (hP.os.trans hA.os)) (U.tape.trans (hP.tape.trans hA.tape)) (U.output.trans (hP.output.trans hA.output)) (by rw [U.size, ← hA.size]; exact hP.size) (fun k hk hkg hko => (U.block k hkg).trans ((hP.block k (by rw [hA.size]; exact hk) (by rw [unhide HB1]; exact hko)).trans (hA.block k hko))) (fun k hk => ?_)
    rcases hP.blk k hk with z | z
    · exact Or.inl (by rw [← unhide HB1]; exact z)
    · exact Or.inr (by rw [← hA.size]; exact z)
  have HCELLS : Hid (∀ w2 w3 o3 n3 c3, AT w w2 (.slice o0 file.length c0') (.slice o1 syn syn) (.slice o2 T nt) (file.take syn) (tear at_ tn ((file.drop syn).take T)) → Apf w2 w3 (.slice o1 syn syn) (.slice o3 n3 c3) (file.take syn ++ tear at_ tn ((file.drop syn).take T)) → L4 w3 g (.slice o0 file.length c0') (syn : Int) (arm : Int) off) := by
    intro w2 w3 o3 n3 c3 hA hP
    have hne0 : (Value.slice o0 file.length c0').ownBlock ≠ some g := unhide HN
    exact (unhide H4).keep ((hP.block g (by rw [hA.size]; exact hglt) (by rw [unhide HB1]; exact hne0)).trans (hA.block g hne0))
  have HLB := hide (show (file.take syn).length + (tear at_ tn ((file.drop syn).take T)).length ≤ 70000000000000 from by have := unhide HLEN; omega)
  clear HCR HLEN HB1 HN HG HSZ HF H4 KH ETI
  generalize hX : file.take syn = X at *
  generalize hY : tear at_ tn ((file.drop syn).take T) = Y at *
  clear hX hY
  by_cases hat : 0 ≤ at_
  · have C2 := hide (unhide HTURN hat q1)
    have hd : decide (0 ≤ at_) = true := decide_eq_true hat
    clear HTURN HNEG
    go_upto_region 3 with fail
    go_wp2_with fail
    refine (unhide C2).mono ?_
    rintro e w2 ⟨rfl, hA⟩
    have HA2 := hide hA
    have HFR := hide hA.fr
    have HBY := hide hA.by'
    clear hA C2
    go_upto_region 4 with fail
    go_wp2_with (at_builtin; refine wpList_append_fr rfl _ _ rfl _ _ X Y rfl rfl HFR HBY HLB ?_; intro o3 n3 c3 w3 HP3; have L3 := unhide HCELLS _ _ _ _ _ (unhide HA2) (unhide HP3); have d0 := L3.c0; have d1 := L3.c1; have d2 := L3.c2; have d3 := L3.c3; have df := L3.f; clear L3)
    all_goals first | refine bodyPost_end (results_none rfl _ _ _) rfl ?_ | go_ret
    all_goals obtain ⟨e3, F', f1, f2⟩ := unhide FIN _ _ _ _ _ (unhide HA2) (unhide HP3)
    all_goals first | exact ⟨rfl, F', f1, f2⟩ | exact ⟨F', rfl, f1, f2⟩
  · have hA := unhide HNEG (by omega) q1
    have HA2 := hide hA
    have HFR := hide hA.fr
    have HBY := hide hA.by'
    have hd : decide (0 ≤ at_) = false := decide_eq_false hat
    have hat2 : at_ < 0 := by omega
    clear HTURN HNEG hA hat
    go_upto_region 4 with fail
    go_wp2_with (at_builtin; refine wpList_append_fr rfl _ _ rfl _ _ X Y rfl rfl HFR HBY HLB ?_; intro o3 n3 c3 w3 HP3; have L3 := unhide HCELLS _ _ _ _ _ (unhide HA2) (unhide HP3); have d0 := L3.c0; have d1 := L3.c1; have d2 := L3.c2; have d3 := L3.c3; have df := L3.f; clear L3)
    all_goals first | refine bodyPost_end (results_none rfl _ _ _) rfl ?_ | go_ret
    all_goals obtain ⟨e3, F', f1, f2⟩ := unhide FIN _ _ _ _ _ (unhide HA2) (unhide HP3)
    all_goals first | exact ⟨rfl, F', f1, f2⟩ | exact ⟨F', rfl, f1, f2⟩
end Go.Proofs.YtbcclolhfogpnaaDoor.dk
