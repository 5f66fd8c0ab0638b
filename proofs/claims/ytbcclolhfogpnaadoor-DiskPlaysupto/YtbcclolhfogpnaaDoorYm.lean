/- The reference's disk: Cut, Arm. -/
import Derived.Test.YtbcclolhfogpnaaDoorYl
namespace Go.Proofs.YtbcclolhfogpnaaDoor.dk
open Go.RowKit mm

theorem OY.h {w : World} {B : Nat} {v : Value} {l : List UInt8} (h : OY w B v l) (hi : Nat) (h2 : hi ≤ l.length) (kh : Int) (eh : kh = (hi : Int)) :
    ∃ v', (∀ u : World, (Instr.slice 27 v none (some (.int .i64 kh)) none).run Tryd.prog u = .ok v' u) ∧ OY w B v' (l.take hi) ∧ v'.ownBlock = v.ownBlock := by
  have h0 := h
  obtain ⟨hl, ⟨rfl, h0⟩ | ⟨g, cap, cur, rfl, hb, hg, hc, hm, hs, ht⟩⟩ := h
  · have : hi = 0 := by omega
    subst this
    subst eh
    refine ⟨.slice none 0 0, fun u => ?_, World.ownsRow_nil _ _ _ _, rfl⟩
    rw [run_slice_h (P := Tryd.prog) (ht := undU) (h0 := by omega) (h2 := by omega), size_u]
    rfl
  · refine ⟨.slice (some ⟨g, 0, none⟩) hi cap, fun u => ?_, ?_, rfl⟩
    · subst eh
      rw [run_slice_h (P := Tryd.prog) (ht := undU) (h0 := by omega) (h2 := by omega), size_u]
      show Result.ok (sliced (some ⟨g, 0, none⟩) 0 hi cap 1) u = _
      unfold sliced
      simp [Addr.add]
    · have := row_take h0 hi h2
      unfold OY
      rw [List.length_take, Nat.min_eq_left h2, List.map_take]
      simpa using this

theorem rarm_any (w : World) (p : Addr) (F : Bl) (s : St) (n : Int) (h : RD w p F s) (n0 : -9223372036854775808 ≤ n) (n1 : n ≤ 9223372036854775807) :
    Calls Tryd.prog 28 #[.pointer (some p), .int .i64 n] w fun e w' => ∃ F', e = .returned (.tuple #[]) ∧ RD w' p F' (sArm s n) ∧ Mv F F' w w' := by
  obtain ⟨g, v, rfl, h4, hy, hn, hF, hw, ha⟩ := h
  obtain ⟨file, syn, off, arm⟩ := s
  have c3 := h4.c3
  have hf := h4.f
  have H4 := hide h4
  have HY := hide hy
  have HN := hide hn
  have HF := hide hF
  have HW := hide hw
  have N1 := hide n1
  simp only [sArm] at c3 ⊢
  by_cases h1 : n < 1
  · have hd : decide (n < 1) = true := decide_eq_true h1
    have e : n.toNat = 0 := by omega
    rw [e]
    clear h4 hy hn hF hw ha n0 n1 h1 e
    go_enter Tryd.func28, Tryd.ntmps28
    go_wp2
    first
    | refine bodyPost_end (results_none rfl _ _ _) rfl ?_
    | go_ret
    exact ⟨rfl, F, ⟨g, v, rfl, ((unhide H4).s3 _).s3 _, OY.upd (OY.upd (unhide HY) (Upd.setCell _ _ _ _) (unhide HN)) (Upd.setCell _ _ _ _) (unhide HN), unhide HN, unhide HF, unhide HW, by simp⟩, mvU ((Upd.setCell _ _ _ _).trans (Upd.setCell _ _ _ _)) ((unhide HF g).mpr (Or.inl rfl))⟩
  · have hd : decide (n < 1) = false := decide_eq_false h1
    have e : ((n.toNat : Nat) : Int) = n := by omega
    have E := hide e
    clear h4 hy hn hF hw ha n0 n1 h1 e
    go_enter Tryd.func28, Tryd.ntmps28
    go_wp2
    first
    | refine bodyPost_end (results_none rfl _ _ _) rfl ?_
    | go_ret
    exact ⟨rfl, F, ⟨g, v, rfl, by show R4 _ g v _ _ ((n.toNat : Nat) : Int); rw [unhide E]; exact (unhide H4).s3 _, OY.upd (unhide HY) (Upd.setCell _ _ _ _) (unhide HN), unhide HN, unhide HF, unhide HW, by show ((n.toNat : Nat) : Int) ≤ _; rw [unhide E]; exact unhide N1⟩, mvU (Upd.setCell _ _ _ _) ((unhide HF g).mpr (Or.inl rfl))⟩

theorem rcut_any (w : World) (p : Addr) (F : Bl) (s : St) (n : Int) (h : RD w p F s) (n0 : -9223372036854775808 ≤ n) (n1 : n ≤ 9223372036854775807) :
    Calls Tryd.prog 27 #[.pointer (some p), .int .i64 n] w fun e w' => ∃ F', e = .returned (.int .i64 (cd (sCut s n).2)) ∧ RD w' p F' (sCut s n).1 ∧ Mv F F' w w' := by
  obtain ⟨g, v, rfl, h4, hy, hn, hF, hw, ha⟩ := h
  obtain ⟨file, syn, off, arm⟩ := s
  have c0 := h4.c0
  have c2 := h4.c2
  have H4 := hide h4
  have HY := hide hy
  have HN := hide hn
  have HF := hide hF
  have HW := hide hw
  have HA := hide ha
  obtain ⟨oa, c, rfl, _, _⟩ := (OY.by hy).form
  have QU := hide (show ∀ G : Bl, (∀ k, G k ↔ (k = g ∨ (Value.slice oa file.length c).ownBlock = some k)) → Mv F G w w → True from fun _ _ _ => trivial)
  clear QU
  cases off with
  | true =>
    have e : sCut ⟨file, syn, true, arm⟩ n = (⟨file, syn, true, arm⟩, 2) := rfl
    rw [e]
    clear h4 hy hn hF hw ha
    simp only [cd] at c2 ⊢
    go_enter Tryd.func27, Tryd.ntmps27
    go_wp2
    go_ret
    exact ⟨rfl, F, ⟨g, _, rfl, unhide H4, unhide HY, unhide HN, unhide HF, unhide HW, unhide HA⟩, Mv.quiet F (Below.refl _ _)⟩
  | false =>
    by_cases hb : n < 0 ∨ (file.length : Int) < n
    · have e : sCut ⟨file, syn, false, arm⟩ n = (⟨file, syn, false, arm⟩, 1) := by unfold sCut; simp [hb]
      rw [e]
      simp only [cd] at c2 ⊢
      by_cases hb0 : n < 0
      · have hd : decide (n < 0) = true := decide_eq_true hb0
        clear h4 hy hn hF hw ha hb hb0
        go_enter Tryd.func27, Tryd.ntmps27
        go_wp2
        go_ret
        exact ⟨rfl, F, ⟨g, _, rfl, unhide H4, unhide HY, unhide HN, unhide HF, unhide HW, unhide HA⟩, Mv.quiet F (Below.refl _ _)⟩
      · have hd : decide (n < 0) = false := decide_eq_false hb0
        have hd2 : decide ((file.length : Int) < n) = true := decide_eq_true (by omega)
        clear h4 hy hn hF hw ha hb hb0
        go_enter Tryd.func27, Tryd.ntmps27
        go_wp2
        go_ret
        exact ⟨rfl, F, ⟨g, _, rfl, unhide H4, unhide HY, unhide HN, unhide HF, unhide HW, unhide HA⟩, Mv.quiet F (Below.refl _ _)⟩
    · have hd : decide (n < 0) = false := decide_eq_false (by omega)
      have hd2 : decide ((file.length : Int) < n) = false := decide_eq_false (by omega)
      have C1 := hide (goes_any w g _ _ _ _ h4 (by omega) ha)
      by_cases h1 : arm = 1
      · subst h1
        have e : sCut ⟨file, syn, false, 1⟩ n = (⟨file, syn, true, 0⟩, 2) := by unfold sCut; simp [hb]
        rw [e]
        clear h4 hy hn hF hw ha hb e
        simp only [cd] at c2 C1 ⊢
        go_enter Tryd.func27, Tryd.ntmps27
        go_wp2_with fail
        refine (unhide C1).mono ?_
        rintro e w1 ⟨rfl, r1, u1⟩
        have R1 := hide r1
        have U1 := hide u1
        clear r1 u1 C1
        go_wp2
        go_ret
        exact ⟨F, rfl, ⟨g, _, rfl, unhide R1, OY.upd (unhide HY) (unhide U1) (unhide HN), unhide HN, unhide HF, unhide HW, by simp⟩, mvU (unhide U1) ((unhide HF g).mpr (Or.inl rfl))⟩
      · have e : sCut ⟨file, syn, false, arm⟩ n = (⟨file.take n.toNat, min syn n.toNat, false, arm - 1⟩, 0) := by unfold sCut; simp [hb, h1]
        rw [e]
        have hq : ((arm : Int) == 1) = false := by simp; omega
        have hm : (arm : Int) - (if (0 : Int) < (arm : Int) then 1 else 0) = ((arm - 1 : Nat) : Int) := by split <;> omega
        rw [hm] at C1
        rw [hq] at C1
        have hnn : n.toNat ≤ file.length := by omega
        have hni : n = ((n.toNat : Nat) : Int) := by omega
        obtain ⟨v', sl, y', b'⟩ := OY.h hy n.toNat hnn n hni
        obtain ⟨o2, k2, m2, rfl⟩ : ∃ o2 k2 m2, v' = .slice o2 m2 k2 := by
          obtain ⟨o2, k2, e2, _, _⟩ := (OY.by y').form
          exact ⟨o2, k2, _, e2⟩
        have Y' := hide (And.intro y' b')
        have HS := hide (show (((min syn n.toNat : Nat) : Int) = if n < (syn : Int) then n else (syn : Int)) from by split <;> omega)
        have WF := hide (show Wf ⟨file.take n.toNat, min syn n.toNat, false, arm - 1⟩ from by unfold Wf at hw ⊢; simp only [List.length_take] at hw ⊢; omega)
        clear h4 hy hn hF hw ha hm hq hnn hni hb e y' b'
        simp only [cd] at c2 ⊢
        by_cases hs : n < (syn : Int)
        · rw [if_pos hs] at HS
          have hd3 : decide (n < (syn : Int)) = true := decide_eq_true hs
          clear hs
          go_enter Tryd.func27, Tryd.ntmps27
          go_wp2_with fail
          refine (unhide C1).mono ?_
          rintro e w1 ⟨rfl, r1, u1⟩
          have R1 := hide r1
          have U1 := hide u1
          have d0 := r1.c0
          have d1 := r1.c1
          have df := r1.f
          clear r1 u1 C1 c0 c2
          go_wp2
          go_ret
          have y2 := row_keep (w' := w1) (unhide Y').1 (fun k hk => (unhide U1).block k (fun q => unhide HN (by rw [← (unhide Y').2, hk, q])))
          exact ⟨F, rfl, ⟨g, _, rfl, by show R4 _ g _ ((min syn n.toNat : Nat) : Int) _ _; rw [unhide HS]; exact ((unhide R1).s0 _).s1 _, OY.upd (OY.upd y2 (Upd.setCell _ _ _ _) (by rw [(unhide Y').2]; exact unhide HN)) (Upd.setCell _ _ _ _) (by rw [(unhide Y').2]; exact unhide HN), by rw [(unhide Y').2]; exact unhide HN, by rw [(unhide Y').2]; exact unhide HF, unhide WF, by have := unhide HA; simp only at this ⊢; omega⟩, mvU (((unhide U1).trans (Upd.setCell _ _ _ _)).trans (Upd.setCell _ _ _ _)) ((unhide HF g).mpr (Or.inl rfl))⟩
        · rw [if_neg hs] at HS
          have hd3 : decide (n < (syn : Int)) = false := decide_eq_false hs
          clear hs
          go_enter Tryd.func27, Tryd.ntmps27
          go_wp2_with fail
          refine (unhide C1).mono ?_
          rintro e w1 ⟨rfl, r1, u1⟩
          have R1 := hide r1
          have U1 := hide u1
          have d0 := r1.c0
          have d1 := r1.c1
          have df := r1.f
          clear r1 u1 C1 c0 c2
          go_wp2
          go_ret
          have y2 := row_keep (w' := w1) (unhide Y').1 (fun k hk => (unhide U1).block k (fun q => unhide HN (by rw [← (unhide Y').2, hk, q])))
          exact ⟨F, rfl, ⟨g, _, rfl, by show R4 _ g _ ((min syn n.toNat : Nat) : Int) _ _; rw [unhide HS]; exact (unhide R1).s0 _, OY.upd y2 (Upd.setCell _ _ _ _) (by rw [(unhide Y').2]; exact unhide HN), by rw [(unhide Y').2]; exact unhide HN, by rw [(unhide Y').2]; exact unhide HF, unhide WF, by have := unhide HA; simp only at this ⊢; omega⟩, mvU ((unhide U1).trans (Upd.setCell _ _ _ _)) ((unhide HF g).mpr (Or.inl rfl))⟩
end Go.Proofs.YtbcclolhfogpnaaDoor.dk
