/- DiskPlays' small functions: back. -/
import Derived.Test.YtbcclolhfogpnaaDoorYr
namespace Go.Proofs.YtbcclolhfogpnaaDoor.dk
open Go.RowKit mm

theorem by_upd {w w' : World} {g : Nat} {v : Value} {l : List UInt8} (h : BY w v l) (hu : Upd g w w') (hn : l ≠ [] → v.ownBlock ≠ some g) : BY w' v l := by
  obtain ⟨hl, oa, c, rfl, h1, h2, h3, h4⟩ := h
  refine ⟨hl, oa, c, rfl, h1, h2, h3, fun a ha j u hu' => ?_⟩
  have := h4 a ha j u hu'
  have hne : l ≠ [] := fun q => by subst q; simp at hu'
  subst ha
  have hb : (a.add j).block ≠ g := fun q => hn hne (by
    have e : (a.add j).block = a.block := by unfold Addr.add; split <;> rfl
    rw [e] at q
    rw [← q]
    rfl)
  rw [World.cell?_of_block (w := w) (hu.block _ hb)]
  exact this
theorem drop_at {M T : List UInt8} {i : Nat} (h : M.drop i = T.drop i) : M[i]? = T[i]? := by
  have := congrArg (fun l : List UInt8 => l[0]?) h
  simpa using this
theorem drop_next {M T : List UInt8} {i : Nat} (x : UInt8) (h : M.drop i = T.drop i) : (M.set i x).drop (i + 1) = T.drop (i + 1) := by
  have e : M.drop (i + 1) = T.drop (i + 1) := by
    have := congrArg (fun l : List UInt8 => l.drop 1) h
    simpa [List.drop_drop] using this
  rw [List.drop_set_of_lt (by omega), e]

set_option maxRecDepth 100000 in
set_option maxHeartbeats 3200000 in
theorem back_any (b : List UInt8) (g B : Nat) (u : Value) (w : World) (hO : OY w B (.slice (some ⟨g, 0, none⟩) (b.length + 8) (b.length + 8)) (b ++ eight)) (hu : BY w u b) (hne : b ≠ [] → u.ownBlock ≠ some g) (hl : b.length ≤ 70000000000000) :
    Calls Tryd.prog 24 #[.slice (some ⟨g, 0, none⟩) b.length (b.length + 8), u] w fun e w' => e = .returned (.bool true) ∧ Upd g w w' := by
  have HU := hide hu
  have HNE := hide hne
  obtain ⟨oa, c, rfl, h1, h2⟩ := hu.form
  obtain ⟨N, hN⟩ : ∃ N, N = b.length + 8 := ⟨_, rfl⟩
  rw [← hN] at hO ⊢
  have hN' : (b.length : Int) + 8 = (N : Int) := by omega
  have hsl : ∀ u : World, (Instr.slice 27 (.slice (some ⟨g, 0, none⟩) b.length N) none (some (.int .i64 (N : Int))) none).run Tryd.prog u = .ok (.slice (some ⟨g, 0, none⟩) N N) u := fun u => by
    rw [run_slice_h (P := Tryd.prog) (ht := undU) (h0 := by omega) (h2 := by omega), size_u]
    simp [sliced, Addr.add]
  have HO := hide hO
  have HNN := hide hN
  have HM0 := hide (show (b ++ eight).length = N by rw [List.length_append, eight_len, hN])
  clear hu hne hO hN
  go_enter Tryd.func24, Tryd.ntmps24
  go_wp2
  go_loopw [6, 7] (fun kv iv wr => ∃ (i : Nat) (M : List UInt8), i ≤ N ∧ kv = .bool true ∧ iv = .int .i64 (i : Int) ∧ Hid (M.drop i = (b ++ eight).drop i ∧ M.length = N) ∧ Hid (OY wr B (.slice (some ⟨g, 0, none⟩) N N) M) ∧ Hid (Upd g w wr)) (fun _ iv _ => N - (intOf iv).toNat)
  case atStart => exact ⟨0, b ++ eight, Nat.zero_le _, rfl, rfl, hide (And.intro rfl (unhide HM0)), HO, Upd.refl _ _⟩
  case round =>
    clear HM0 HO hsl hN'
    obtain ⟨i, M, hi, rfl, rfl, hM, hO, hUp⟩ := hrel
    by_cases hlt : i < N
    · have e1 : (i : Int) < (N : Int) := by omega
      have e0 : (0 : Int) ≤ (i : Int) := by omega
      have fx := row_frz (unhide hO) i
      have M2 := hide (And.intro (drop_next 202 (unhide hM).1) (show (M.set i 202).length = N by rw [List.length_set]; exact (unhide hM).2))
      have hat := drop_at (unhide hM).1
      by_cases hib : i < b.length
      · obtain ⟨x, hx⟩ : ∃ x, b[i]? = some x := ⟨_, List.getElem?_eq_getElem hib⟩
        have hxM : M[i]? = some x := by rw [hat, List.getElem?_append_left hib]; exact hx
        have cx := oy_cell (unhide hO) i x hxM
        obtain ⟨a, c', e, _, _, hc⟩ := (by_upd (unhide HU) (unhide hUp) (unhide HNE)).at (by omega)
        cases e
        have cy := hc i x hx
        have e3 : (i : Int) < (b.length : Int) := by omega
        have E2 := hide (show (i : Int) < 9223372036854775807 by have := unhide HNN; omega)
        have HLT := hide (And.intro hlt hi)
        clear hM hx hxM hc hat hlt hi
        go_upto_region 6 with fail
        go_quiet (fail)
        have O2 := hide (oy_set (show OY (wr.drewN nq) B (.slice (some ⟨g, 0, none⟩) N N) M from unhide hO) i 202)
        have U2 := hide (((unhide hUp).trans (Upd.drewN g wr nq)).trans (Upd.setCell g i (wr.drewN nq) (.int .u8 ((202 : UInt8).toNat : Int))))
        have e2 := unhide E2
        clear hO hUp
        go_wp2
        exact ⟨⟨i + 1, M.set i 202, by have := unhide HLT; omega, rfl, by go_num, M2, O2, U2⟩, by have := unhide HLT; simp [intOf]; omega⟩
      · have hxM : M[i]? = some 201 := by rw [hat]; exact eight_at b i (by omega) (by have := unhide HNN; omega)
        have cx := oy_cell (unhide hO) i 201 hxM
        have e3 : ¬ (i : Int) < (b.length : Int) := by omega
        have e4 : (b.length : Int) ≤ (i : Int) := by omega
        have E2 := hide (show (i : Int) < 9223372036854775807 by have := unhide HNN; omega)
        have HLT := hide (And.intro hlt hi)
        clear hM hxM hat hlt hi
        go_upto_region 6 with fail
        go_quiet (fail)
        have O2 := hide (oy_set (show OY (wr.drewN nq) B (.slice (some ⟨g, 0, none⟩) N N) M from unhide hO) i 202)
        have U2 := hide (((unhide hUp).trans (Upd.drewN g wr nq)).trans (Upd.setCell g i (wr.drewN nq) (.int .u8 ((202 : UInt8).toNat : Int))))
        have e2 := unhide E2
        clear hO hUp
        go_wp2
        exact ⟨⟨i + 1, M.set i 202, by have := unhide HLT; omega, rfl, by go_num, M2, O2, U2⟩, by have := unhide HLT; simp [intOf]; omega⟩
    · obtain rfl := (show N = i by omega)
      clear hM hO
      go_wp2
      go_ret
      exact ⟨rfl, unhide hUp⟩
end Go.Proofs.YtbcclolhfogpnaaDoor.dk
