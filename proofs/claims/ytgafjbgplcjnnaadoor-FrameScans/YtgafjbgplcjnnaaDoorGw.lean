/- The laws' small functions: outer. -/
import Derived.Test.YtgafjbgplcjnnaaDoorGv
namespace Go.Proofs.YtgafjbgplcjnnaaDoor.fr
open Go.RowKit Go.Joins

theorem SR.form {w : World} {B : Nat} {v : Value} {n i : Nat} {K : Nat → Int} (h : SR w B v n i K) : ∃ oa c, v = .slice oa n c := by
  obtain ⟨xs, ⟨_, ⟨rfl, rfl⟩ | ⟨g, cap, cur, rfl, _⟩⟩, _⟩ := h
  · exact ⟨_, _, rfl⟩
  · exact ⟨_, _, rfl⟩
theorem SR.got {w : World} {B : Nat} {v : Value} {n i : Nat} {K : Nat → Int} (h : SR w B v n i K) (hn : 0 < n) : ∃ g c, v = .slice (some ⟨g, 0, none⟩) n c ∧ n ≤ c ∧ B ≤ g ∧ g < w.heap.size ∧
    (∀ j, j < n → (∃ u, w.cell? ⟨g, j, none⟩ = some u) ∧ w.frozen? ⟨g, j, none⟩ = false) ∧ ∀ j, j < n → j < i → ∃ p, w.cell? ⟨g, j, none⟩ = some (.slice (some ⟨p, 0, none⟩) 1 1) ∧ w.cell? ⟨p, 0, none⟩ = some (.int .u8 (K j)) := by
  obtain ⟨xs, ⟨hl, ⟨rfl, h0⟩ | ⟨g, cap, cur, rfl, hb, hg, hc, hm, hs, ht⟩⟩, h2⟩ := h
  · omega
  · have cell : ∀ j, j < n → w.cell? ⟨g, j, none⟩ = xs[j]? := fun j hj => by
      rw [blk_cell hg]
      have : (cur.toList.take (n * 1))[j]? = xs[j]? := by rw [ht]
      rw [List.getElem?_take, if_pos (by omega)] at this
      simpa using this
    refine ⟨g, cap, rfl, hc, hb, blk_lt hg, fun j hj => ⟨⟨xs[j]'(by omega), by rw [cell j hj]; exact List.getElem?_eq_getElem (by omega)⟩, blk_free hg j⟩, fun j hj hi => ?_⟩
    obtain ⟨p, e, hp⟩ := h2 j (xs[j]'(by omega)) hi (List.getElem?_eq_getElem (by omega))
    refine ⟨p, by rw [cell j hj, List.getElem?_eq_getElem (by omega), e], ?_⟩
    rw [blk_cell hp]; rfl
theorem SR.own {w : World} {B : Nat} {v : Value} {n i : Nat} {K : Nat → Int} (h : SR w B v n i K) : ∀ q, v.ownBlock = some q → (B ≤ q ∧ q < w.heap.size) ∧ ∃ cur, w.heap[q]? = some (.cells cur 22 (0, 0)) := by
  obtain ⟨xs, h1, _⟩ := h
  exact fun q hq => ⟨row_lt h1 q hq, row_type h1 q hq⟩

set_option maxRecDepth 100000 in
set_option maxHeartbeats 3200000 in
theorem outer_any (n m : Nat) (av bv : Value) (xs ys : List Value) (B : Nat) (w : World) (ha : w.ownsRow B 22 1 av n xs) (hb : w.ownsRow B 22 1 bv m ys) (hd : ∀ q, av.ownBlock = some q → bv.ownBlock ≠ some q) (hB : B ≤ w.heap.size) (hn : n ≤ 1000000000) (hm : m ≤ 1000000000) :
    Calls Tryd.prog 21 #[av, bv] w fun e w' => e = .returned (.bool true) ∧ Below B w w' := by
  have A0 : Hid (SR w B av n 0 (fun _ => 1)) := ⟨xs, ha, fun j x hj => by omega⟩
  have B0 : Hid (SR w B bv m 0 (fun _ => 2)) := ⟨ys, hb, fun j x hj => by omega⟩
  have HD := hide hd
  have HD' : Hid (∀ q, bv.ownBlock = some q → av.ownBlock ≠ some q) := fun q hq z => hd q z hq
  obtain ⟨oa, ca, rfl⟩ := (unhide A0).form
  obtain ⟨ob, cb, rfl⟩ := (unhide B0).form
  clear ha hb hd
  go_enter Tryd.func21, Tryd.ntmps21
  go_wp2
  go_loopw [5] (fun iv wr => ∃ i : Nat, i ≤ n ∧ iv = .int .i64 (i : Int) ∧ Hid (SR wr B (.slice oa n ca) n i (fun _ => 1)) ∧ Hid (SR wr B (.slice ob m cb) m 0 (fun _ => 2)) ∧ Hid (Below B w wr)) (fun iv _ => n - (intOf iv).toNat)
  case atStart => exact ⟨0, by omega, rfl, A0, B0, Below.refl _ _⟩
  case round =>
    obtain ⟨i, hi, rfl, hA, hO, hBl⟩ := hrel
    by_cases hlt : i < n
    · have e1 : (i : Int) < (n : Int) := by omega
      have e0 : (0 : Int) ≤ (i : Int) := by omega
      have T := hide ((unhide hA).keep (But.alloc none wr (.cells #[.int .u8 1] 5)) (fun q hq => by cases hq) (fun q hq z => by cases z))
      obtain ⟨g, c', hv, _, hBg, _, hcell, _⟩ := (unhide T).got (by omega)
      cases hv
      obtain ⟨⟨u, cell⟩, frz⟩ := hcell i hlt
      have A2 := hide ((unhide hA).put 1 rfl)
      have own := (unhide hA).own
      have O2 := hide (((unhide hO).keep (But.alloc none wr (.cells #[.int .u8 1] 5)) (fun q hq => by cases hq) (fun q hq z => by cases z)).keep (setBut (wr.alloc (.cells #[.int .u8 1] 5)) g i (.slice (some ⟨wr.heap.size, 0, none⟩) 1 1)) (fun q hq => by cases hq; exact ((unhide T).own g rfl).2) (fun q hq z => by cases z; exact unhide HD g rfl hq))
      have B2 := hide (((unhide hBl).alloc (Nat.le_trans hB (unhide hBl).size) (.cells #[.int .u8 1] 5)).setCell (p := ⟨g, i, none⟩) hBg (.slice (some ⟨wr.heap.size, 0, none⟩) 1 1))
      clear hA hO hBl T hcell own
      go_wp2
      exact ⟨⟨i + 1, by omega, by go_num, A2, O2, B2⟩, by simp [intOf]; omega⟩
    · have e1 : ¬ (i : Int) < (n : Int) := by omega
      obtain rfl : n = i := by omega
      clear hi hlt
      have A1 := hA
      have B1 := hO
      have W1 := hBl
      clear hA hO hBl A0 B0
      go_wp2
      go_loopw [6] (fun iv wr => ∃ i : Nat, i ≤ m ∧ iv = .int .i64 (i : Int) ∧ Hid (SR wr B (.slice ob m cb) m i (fun _ => 2)) ∧ Hid (SR wr B (.slice oa n ca) n n (fun _ => 1)) ∧ Hid (Below B w wr)) (fun iv _ => m - (intOf iv).toNat)
      case atStart => exact ⟨0, by omega, rfl, B1, A1, W1⟩
      case round =>
        obtain ⟨i, hi, rfl, hA, hO, hBl⟩ := hrel
        by_cases hlt : i < m
        · have e1 : (i : Int) < (m : Int) := by omega
          have e0 : (0 : Int) ≤ (i : Int) := by omega
          have T := hide ((unhide hA).keep (But.alloc none wr (.cells #[.int .u8 2] 5)) (fun q hq => by cases hq) (fun q hq z => by cases z))
          obtain ⟨g, c', hv, _, hBg, _, hcell, _⟩ := (unhide T).got (by omega)
          cases hv
          obtain ⟨⟨u, cell⟩, frz⟩ := hcell i hlt
          have A2 := hide ((unhide hA).put 2 rfl)
          have own := (unhide hA).own
          have O2 := hide (((unhide hO).keep (But.alloc none wr (.cells #[.int .u8 2] 5)) (fun q hq => by cases hq) (fun q hq z => by cases z)).keep (setBut (wr.alloc (.cells #[.int .u8 2] 5)) g i (.slice (some ⟨wr.heap.size, 0, none⟩) 1 1)) (fun q hq => by cases hq; exact ((unhide T).own g rfl).2) (fun q hq z => by cases z; exact unhide HD' g rfl hq))
          have B2 := hide (((unhide hBl).alloc (Nat.le_trans hB (unhide hBl).size) (.cells #[.int .u8 2] 5)).setCell (p := ⟨g, i, none⟩) hBg (.slice (some ⟨wr.heap.size, 0, none⟩) 1 1))
          clear hA hO hBl T hcell own
          go_wp2
          exact ⟨⟨i + 1, by omega, by go_num, A2, O2, B2⟩, by simp [intOf]; omega⟩
        · have e1 : ¬ (i : Int) < (m : Int) := by omega
          obtain rfl : m = i := by omega
          clear hi hlt
          have hB2 := hA
          have hA2 := hO
          have hW2 := hBl
          clear hA hO hBl
          go_wp2
          have S0 : Hid (XS wr B (.slice oa n ca) (.slice oa n ca) n 0 1 3 wr) := by
            refine ⟨unhide hA2, ?_, ?_, But.refl _ _, Below.refl _ _, fun q hq => ((unhide hA2).own q hq).1.2⟩
            · obtain ⟨zs, z1, z2⟩ := unhide hA2
              exact ⟨zs, z1, fun j x hj hx => by have := z2 j x hj hx; show EL wr x (if j < n then 1 else 3); rwa [if_pos (show j < n from hj)]⟩
            · cases oa with
              | none => right; intro q hq; cases hq
              | some ad =>
                left
                obtain ⟨zs, ⟨_, ⟨h0, _⟩ | ⟨g', cap, cur, hv, _⟩⟩, _⟩ := unhide hA2
                · cases h0
                · cases hv; exact ⟨g', ca, rfl, rfl⟩
          have hBW := Nat.le_trans hB (unhide hW2).size
          go_loopw [7, 8] (fun xv kv wq => ∃ k : Nat, k ≤ 6 ∧ kv = .int .i64 (k : Int) ∧ Hid (XS wr B (.slice oa n ca) xv n k 1 3 wq)) (fun _ kv _ => 6 - (intOf kv).toNat)
          case atStart => exact ⟨0, by omega, rfl, S0⟩
          case round =>
            obtain ⟨k, hk, rfl, hX⟩ := hrel
            by_cases hk6 : k < 6
            · have d1 : (k : Int) < 6 := by omega
              obtain ⟨zs, z1, z2⟩ := (unhide hX).x1
              have Z1 : Hid ((wr.alloc (.cells #[.int .u8 3] 5)).ownsRow B 22 1 u7 (n + k) zs) := row_keep z1 (fun q hq => Below.heap_alloc wr _ q (row_lt z1 q hq).2)
              have hsz : B ≤ (wr.alloc (.cells #[.int .u8 3] 5)).heap.size := by rw [World.size_alloc]; have := (unhide hX).x4.size; omega
              have X1 := hide z1
              have X2 := hide z2
              clear z1 z2
              go_wp2_with (at_builtin; refine wpList_append_el2 rfl _ _ rfl (wr.alloc (.cells #[.int .u8 3] 5)) B u7 _ (n + k) zs rfl rfl rfl (congrArg (fun q => Value.slice (some ⟨q, 0, none⟩) 1 1) (World.size_alloc _ _).symm) (unhide Z1) ?a1 hsz ?_)
              case a1 => omega
              intro v' w4 hr hd4
              have T := hide ((unhide hX).step hBW (unhide X1) (unhide X2) hr (by rw [World.size_alloc]; exact hd4))
              clear hr hd4 hX X1 X2 Z1
              go_wp2
              exact ⟨⟨k + 1, by omega, by go_num, T⟩, by simp [intOf]; omega⟩
            · have d1 : ¬ (k : Int) < 6 := by omega
              obtain rfl : k = 6 := by omega
              obtain ⟨xo, xc, hxv⟩ := (unhide hX).x1.form
              subst hxv
              have hA3 := hide (unhide hX).a1
              have hX3 := hide (unhide hX).x1
              have gty := fun q (hq : (Value.slice oa n ca).ownBlock = some q) => ((unhide hA2).own q hq).2
              have hB3 := hide ((unhide hB2).keep (unhide hX).x3 gty (fun q hq => unhide HD' q hq))
              have hW3 := hide ((unhide hW2).trans (unhide hX).x4)
              have DX : Hid (∀ q, (Value.slice xo (n + 6) xc).ownBlock = some q → (Value.slice ob m cb).ownBlock ≠ some q) := fun q hq z => by
                rcases (unhide hX).x2 with ⟨g, cc, e1, e2⟩ | e
                · rw [e2] at hq; cases hq; exact unhide HD g (by rw [e1]; rfl) z
                · have := e q hq; have := ((unhide hB2).own q z).1.2; omega
              clear hX S0 hA2 hB2 hW2 gty
              go_wp2
              have S0 : Hid (XS wr B (.slice ob m cb) (.slice ob m cb) m 0 2 4 wr) := by
                refine ⟨unhide hB3, ?_, ?_, But.refl _ _, Below.refl _ _, fun q hq => ((unhide hB3).own q hq).1.2⟩
                · obtain ⟨zs, z1, z2⟩ := unhide hB3
                  exact ⟨zs, z1, fun j x hj hx => by have := z2 j x hj hx; show EL wr x (if j < m then 2 else 4); rwa [if_pos (show j < m from hj)]⟩
                · cases ob with
                  | none => right; intro q hq; cases hq
                  | some ad =>
                    left
                    obtain ⟨zs, ⟨_, ⟨h0, _⟩ | ⟨g', cap, cur, hv, _⟩⟩, _⟩ := unhide hB3
                    · cases h0
                    · cases hv; exact ⟨g', cb, rfl, rfl⟩
              have hBW := Nat.le_trans hB (unhide hW3).size
              go_loopw [9, 10] (fun xv kv wq => ∃ k : Nat, k ≤ 6 ∧ kv = .int .i64 (k : Int) ∧ Hid (XS wr B (.slice ob m cb) xv m k 2 4 wq)) (fun _ kv _ => 6 - (intOf kv).toNat)
              case atStart => exact ⟨0, by omega, rfl, S0⟩
              case round =>
                obtain ⟨k, hk, rfl, hX⟩ := hrel
                by_cases hk6 : k < 6
                · have d1 : (k : Int) < 6 := by omega
                  obtain ⟨zs, z1, z2⟩ := (unhide hX).x1
                  have Z1 : Hid ((wr.alloc (.cells #[.int .u8 4] 5)).ownsRow B 22 1 u9 (m + k) zs) := row_keep z1 (fun q hq => Below.heap_alloc wr _ q (row_lt z1 q hq).2)
                  have hsz : B ≤ (wr.alloc (.cells #[.int .u8 4] 5)).heap.size := by rw [World.size_alloc]; have := (unhide hX).x4.size; omega
                  have X1 := hide z1
                  have X2 := hide z2
                  clear z1 z2
                  go_wp2_with (at_builtin; refine wpList_append_el2 rfl _ _ rfl (wr.alloc (.cells #[.int .u8 4] 5)) B u9 _ (m + k) zs rfl rfl rfl (congrArg (fun q => Value.slice (some ⟨q, 0, none⟩) 1 1) (World.size_alloc _ _).symm) (unhide Z1) ?a1 hsz ?_)
                  case a1 => omega
                  intro v' w4 hr hd4
                  have T := hide ((unhide hX).step hBW (unhide X1) (unhide X2) hr (by rw [World.size_alloc]; exact hd4))
                  clear hr hd4 hX X1 X2 Z1
                  go_wp2
                  exact ⟨⟨k + 1, by omega, by go_num, T⟩, by simp [intOf]; omega⟩
                · have d1 : ¬ (k : Int) < 6 := by omega
                  obtain rfl : k = 6 := by omega
                  obtain ⟨yo, yc, hyv⟩ := (unhide hX).x1.form
                  subst hyv
                  have FB := hide (unhide hX).a1
                  have FY := hide (unhide hX).x1
                  have gty := fun q (hq : (Value.slice ob m cb).ownBlock = some q) => ((unhide hB3).own q hq).2
                  have FA := hide ((unhide hA3).keep (unhide hX).x3 gty (fun q hq => unhide HD q hq))
                  have FX := hide ((unhide hX3).keep (unhide hX).x3 gty (unhide DX))
                  have FW := hide ((unhide hW3).trans (unhide hX).x4)
                  clear hX S0 hB3 hA3 hX3 hW3 gty
                  go_wp2
                  go_loopw [11] (fun iv w5 => ∃ i : Nat, i ≤ n + 6 ∧ iv = .int .i64 (i : Int) ∧ w5 = wr) (fun iv _ => n + 6 - (intOf iv).toNat)
                  case atStart => exact ⟨0, by omega, rfl, rfl⟩
                  case round =>
                    obtain ⟨i, hi, rfl, hw5⟩ := hrel
                    obtain rfl := hw5.symm
                    clear hw5
                    by_cases hlt : i < n + 6
                    · have e1 : (i : Int) < (n : Int) + 6 := by omega
                      have e0 : (0 : Int) ≤ (i : Int) := by omega
                      obtain ⟨gx, cx', hvx, hcx, _, _, _, hpx⟩ := (unhide FX).got (by omega)
                      cases hvx
                      obtain ⟨px, x1, x2⟩ := hpx i hlt hlt
                      clear hpx
                      by_cases hin : i < n
                      · have g1 : decide ((i : Int) < (n : Int)) = true := decide_eq_true (by omega)
                        rw [if_pos hin] at x2
                        obtain ⟨ga, ca', hva, hca, _, _, _, hpa⟩ := (unhide FA).got (by omega)
                        cases hva
                        obtain ⟨pa, y1, y2⟩ := hpa i hin hin
                        clear hpa
                        go_wp2
                        all_goals first
                          | (exfalso; omega)
                          | exact ⟨⟨i + 1, by omega, by go_num, trivial⟩, by simp [intOf]; omega⟩
                      · have g1 : decide ((i : Int) < (n : Int)) = false := decide_eq_false (by omega)
                        have g2 : decide ((n : Int) ≤ (i : Int)) = true := decide_eq_true (by omega)
                        rw [if_neg hin] at x2
                        go_wp2
                        all_goals first
                          | (exfalso; omega)
                          | exact ⟨⟨i + 1, by omega, by go_num, trivial⟩, by simp [intOf]; omega⟩
                    · have e1 : ¬ (i : Int) < (n : Int) + 6 := by omega
                      go_wp2
                      go_loopw [12] (fun iv w5 => ∃ i : Nat, i ≤ m + 6 ∧ iv = .int .i64 (i : Int) ∧ w5 = wr) (fun iv _ => m + 6 - (intOf iv).toNat)
                      case atStart => exact ⟨0, by omega, rfl, rfl⟩
                      case round =>
                        obtain ⟨i, hi, rfl, hw5⟩ := hrel
                        obtain rfl := hw5.symm
                        clear hw5
                        by_cases hlt : i < m + 6
                        · have e1 : (i : Int) < (m : Int) + 6 := by omega
                          have e0 : (0 : Int) ≤ (i : Int) := by omega
                          obtain ⟨gx, cx', hvx, hcx, _, _, _, hpx⟩ := (unhide FY).got (by omega)
                          cases hvx
                          obtain ⟨px, x1, x2⟩ := hpx i hlt hlt
                          clear hpx
                          by_cases hin : i < m
                          · have g1 : decide ((i : Int) < (m : Int)) = true := decide_eq_true (by omega)
                            rw [if_pos hin] at x2
                            obtain ⟨ga, ca', hva, hca, _, _, _, hpa⟩ := (unhide FB).got (by omega)
                            cases hva
                            obtain ⟨pa, y1, y2⟩ := hpa i hin hin
                            clear hpa
                            go_wp2
                            all_goals first
                              | (exfalso; omega)
                              | exact ⟨⟨i + 1, by omega, by go_num, trivial⟩, by simp [intOf]; omega⟩
                          · have g1 : decide ((i : Int) < (m : Int)) = false := decide_eq_false (by omega)
                            have g2 : decide ((m : Int) ≤ (i : Int)) = true := decide_eq_true (by omega)
                            rw [if_neg hin] at x2
                            go_wp2
                            all_goals first
                              | (exfalso; omega)
                              | exact ⟨⟨i + 1, by omega, by go_num, trivial⟩, by simp [intOf]; omega⟩
                        · have e1 : ¬ (i : Int) < (m : Int) + 6 := by omega
                          go_wp2
                          go_ret
                          exact ⟨rfl, unhide FW⟩

end Go.Proofs.YtgafjbgplcjnnaaDoor.fr
