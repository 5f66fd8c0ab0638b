/- The laws' small functions: apart. -/
import Derived.Test.YtgafjbgplcjnnaaDoorGt
namespace Go.Proofs.YtgafjbgplcjnnaaDoor.fr
open Go.RowKit Go.Joins

set_option maxRecDepth 100000 in
set_option maxHeartbeats 3200000 in
theorem apart_any (ls : List (List UInt8)) (vs : List Value) (oa : Option Addr) (c B : Nat) (w : World) (hvl : vs.length = ls.length) (hno : oa = none → ls = []) (hR : RF w B vs ls (fun _ l => l)) (hD : DS vs) (hH : HD w oa vs) (hA : AW oa vs)
    (hB : B ≤ w.heap.size) (hn : ls.length ≤ 1000000000) (hm : ∀ l ∈ ls, l.length ≤ 1000000000) :
    Calls Tryd.prog 17 #[.slice oa ls.length c] w fun e w' => e = .returned (.bool true) ∧ Below B w w' ∧ Oth w w' vs := by
  have HR := hide hR
  have HDs := hide hD
  have HH := hide hH
  have HA := hide hA
  have HM := hide hm
  have HN := hide hno
  have HV := hide hvl
  clear hR hD hH hA hm hno hvl
  go_enter Tryd.func17, Tryd.ntmps17
  go_wp2
  go_loopw [3] (fun iv wr => ∃ i : Nat, i ≤ ls.length ∧ iv = .int .i64 (i : Int) ∧ Hid (RF wr B vs ls (f1 i)) ∧ Hid (HD wr oa vs) ∧ Hid (Below B w wr) ∧ Hid (Oth w wr vs)) (fun iv _ => ls.length - (intOf iv).toNat)
  case atStart => exact ⟨0, by omega, rfl, (unhide HR).congr (fun j l _ => by simp [f1]), HH, Below.refl _ _, fun _ _ _ => rfl⟩
  case round =>
    obtain ⟨i, hi, rfl, hR, hH, hBl, hOt⟩ := hrel
    clear HR HH
    by_cases hlt : i < ls.length
    · have e1 : (i : Int) < (ls.length : Int) := by omega
      have e0 : (0 : Int) ≤ (i : Int) := by omega
      obtain ⟨a, rfl⟩ : ∃ a, oa = some a := by
        cases oa with
        | none => have := unhide HN rfl; rw [this] at hlt; simp at hlt
        | some a => exact ⟨a, rfl⟩
      obtain ⟨x, hx⟩ : ∃ x, vs[i]? = some x := ⟨vs[i]'(by have := unhide HV; omega), List.getElem?_eq_getElem (by have := unhide HV; omega)⟩
      obtain ⟨l, hl⟩ : ∃ l, ls[i]? = some l := ⟨_, List.getElem?_eq_getElem hlt⟩
      have ob := unhide hR i x l hx hl
      obtain ⟨ox, cx, fx⟩ := ob.form
      rw [f1_length] at fx
      subst fx
      have hll : l.length ≤ 1000000000 := unhide HM l (List.mem_iff_getElem?.mpr ⟨i, hl⟩)
      have HX := hide hx
      have HL := hide hl
      have hb := hide (b1_wrap i)
      clear hx hl ob
      go_wp2
      go_loopw [4] (fun kv wr' => ∃ k : Nat, k ≤ l.length ∧ kv = .int .i64 (k : Int) ∧ Hid (RF wr' B vs ls (f2 i k)) ∧ Hid (HD wr' (some a) vs) ∧ Hid (Below B w wr') ∧ Hid (Oth w wr' vs)) (fun kv _ => l.length - (intOf kv).toNat)
      case atStart => exact ⟨0, by omega, rfl, (unhide hR).congr (fun j l _ => f2_start i j l), hH, hBl, hOt⟩
      case round =>
        obtain ⟨k, hk, rfl, hR2, hH2, hB2, hO2⟩ := hrel
        clear hR hH hBl hOt
        have cellx := unhide hH2 a rfl i _ (unhide HX)
        by_cases hkl : k < l.length
        · have d1 : (k : Int) < (l.length : Int) := by omega
          have d0 : (0 : Int) ≤ (k : Int) := by omega
          have obk := unhide hR2 i _ l (unhide HX) (unhide HL)
          have hf2 : (f2 i k i l).length = l.length := by
            unfold f2; rw [if_neg (Nat.lt_irrefl _), if_pos rfl]; simp; omega
          obtain ⟨g, c', hv, _, hBg, hcc⟩ := obk.get (by omega)
          rw [hf2] at hv
          cases hv
          have frz := obk.frz k
          obtain ⟨ob, hob⟩ : ∃ b, (f2 i k i l)[k]? = some b := ⟨_, List.getElem?_eq_getElem (by omega)⟩
          have cellk := hcc k ob hob
          clear hcc hob obk hf2
          have R3 := hide ((unhide hR2).set (unhide HDs) (k := k) (b := b1 i) (f' := f2 i (k + 1)) (unhide HX) (fun j l' _ hj => f2_far i k j l' hj) (fun l' hl' => by cases (unhide HL).symm.trans hl'; exact f2_set i k l hkl))
          have H3 := hide ((unhide hH2).far (w' := wr.setCell ⟨g, k, none⟩ (vb (b1 i))) (fun a' ha' _ => Below.heap_setCell wr _ _ _ (by cases ha'; exact unhide HA a rfl i _ g (unhide HX) rfl)))
          have B3 := hide ((unhide hB2).setCell (p := ⟨g, k, none⟩) hBg (vb (b1 i)))
          have O3 : Hid (Oth w (wr.setCell ⟨g, k, none⟩ (vb (b1 i))) vs) := fun q hq hn => (Below.heap_setCell wr _ _ q (fun z => hn i _ (unhide HX) (by rw [z]; rfl))).trans (unhide hO2 q hq hn)
          have hb' := unhide hb
          simp only [vb] at R3 H3 B3 O3
          clear hR2 hH2 hB2 hb hO2
          go_wp2
          exact ⟨⟨k + 1, by omega, by go_num, R3, H3, B3, O3⟩, by simp [intOf]; omega⟩
        · have d1 : ¬ (k : Int) < (l.length : Int) := by omega
          have R3 := hide ((unhide hR2).congr (g := f1 (i + 1)) (fun j l' hl' => f2_end i j l' k (fun q => by subst q; cases (unhide HL).symm.trans hl'; omega)))
          clear hR2 hb
          go_wp2
          exact ⟨⟨i + 1, by omega, by go_num, R3, hH2, hB2, hO2⟩, by simp [intOf]; omega⟩
    · have e1 : ¬ (i : Int) < (ls.length : Int) := by omega
      obtain rfl : i = ls.length := by omega
      clear hi hlt
      have V0 : Hid (∀ (j : Nat) (y : Value) (k : Nat), vs[j]? = some y → y.ownBlock = some k → k < wr.heap.size) := fun j y k hy hk => by
        obtain ⟨lj, hlj⟩ : ∃ l, ls[j]? = some l := ⟨_, List.getElem?_eq_getElem (by have := (List.getElem?_eq_some_iff.mp hy).1; have := unhide HV; omega)⟩
        exact (unhide hR j y lj hy hlj).lt k hk
      have HO : Hid (∀ a, oa = some a → 0 < ls.length → a.block < wr.heap.size) := fun a ha h0 => by
        obtain ⟨y, hy⟩ : ∃ y, vs[0]? = some y := ⟨_, List.getElem?_eq_getElem (by have := unhide HV; omega)⟩
        have := cell_lt' (unhide hH a ha 0 y hy)
        exact this
      have hBs := Nat.le_trans hB (unhide hBl).size
      obtain ⟨F0, hF0⟩ : ∃ F, F = wr.heap.size := ⟨_, rfl⟩
      rw [← hF0] at V0 HO
      have S0 : Hid (S3 w B F0 vs ls oa ls.length 0 (.slice none 0 0) [] wr) := ⟨unhide hR, LG.nil _ _ _ _ _, unhide hH, unhide hBl, by omega, unhide hOt, by have := (unhide hBl).size; omega⟩
      have hBF : B ≤ F0 := by omega
      clear hR hH hBl hF0 hOt
      go_wp2
      go_loopw [5, 6] (fun lv iv w3 => ∃ (i : Nat) (xs : List Value), i ≤ ls.length ∧ iv = .int .i64 (i : Int) ∧ Hid (S3 w B F0 vs ls oa ls.length i lv xs w3)) (fun _ iv _ => ls.length - (intOf iv).toNat)
      case atStart => exact ⟨0, [], by omega, rfl, S0⟩
      case round =>
        obtain ⟨i, xs, hi, rfl, hS⟩ := hrel
        clear S0
        by_cases hlt : i < ls.length
        · have e1 : (i : Int) < (ls.length : Int) := by omega
          have e0 : (0 : Int) ≤ (i : Int) := by omega
          obtain ⟨a, rfl⟩ : ∃ a, oa = some a := by
            cases oa with
            | none => have := unhide HN rfl; rw [this] at hlt; simp at hlt
            | some a => exact ⟨a, rfl⟩
          obtain ⟨y, hy⟩ : ∃ x, vs[i]? = some x := ⟨vs[i]'(by have := unhide HV; omega), List.getElem?_eq_getElem (by have := unhide HV; omega)⟩
          obtain ⟨l, hl⟩ : ∃ l, ls[i]? = some l := ⟨_, List.getElem?_eq_getElem hlt⟩
          have celly := (unhide hS).x5 a rfl i y hy
          have ob := (unhide hS).x3 i y l hy hl
          have hf : f1 ls.length i l = List.replicate l.length (b1 i) := by unfold f1; rw [if_pos hlt]
          rw [hf] at ob
          obtain ⟨ox, cx, fx⟩ := ob.form
          rw [List.length_replicate] at fx
          have hll : l.length ≤ 1000000000 := unhide HM l (List.mem_iff_getElem?.mpr ⟨i, hl⟩)
          have hb := b4_wrap i
          have CC : Hid (C4 B F0 wr.heap.size vs ls (some a) i ls.length l u5 xs y) :=
            ⟨hy, hl, unhide HDs, unhide V0, fun k hk => (row_lt (unhide hS).x4.row k hk).2, fun j x k hx hk => by
              obtain ⟨lj, hlj⟩ : ∃ l, ls[j]? = some l := ⟨_, List.getElem?_eq_getElem (by have := (List.getElem?_eq_some_iff.mp hx).1; have := (unhide hS).x4.len; omega)⟩
              exact ((unhide hS).x4.own j x lj hx hlj).lt k hk, (unhide hS).x7, unhide HA, fun a' ha' => unhide HO a' ha' (by omega), hBF, (unhide hS).x4.len, unhide HV, hlt⟩
          have S40 : Hid (S4 w B F0 wr.heap.size vs ls (some a) i ls.length 0 l u5 xs y y wr) := ⟨by simpa using ob, by
              rw [fx]
              cases ox with
              | none => right; intro q hq; cases hq
              | some ad =>
                left
                obtain ⟨_, ⟨h0, _⟩ | ⟨g', cap, cur, hv, _⟩⟩ := ob
                · rw [fx] at h0; cases h0
                · rw [fx, List.length_replicate] at hv; cases hv; exact ⟨g', cx, rfl, rfl⟩, (unhide hS).x3, (unhide hS).x4, (unhide hS).x5, (unhide hS).x6, Nat.le_refl _, (unhide hS).x8, (unhide hS).x9⟩
          rw [fx] at celly
          clear ob hf
          obtain ⟨Fi, hFi⟩ : ∃ F, F = wr.heap.size := ⟨_, rfl⟩
          rw [← hFi] at CC S40
          rw [fx] at S40
          have HCC := hide (unhide CC)
          rw [fx] at HCC
          clear hFi hy hl hS CC fx
          go_wp2
          go_loopw [7, 8] (fun xv kv wq => ∃ k : Nat, k ≤ 20 ∧ kv = .int .i64 (k : Int) ∧ Hid (S4 w B F0 Fi vs ls (some a) i ls.length k l u5 xs (.slice ox l.length cx) xv wq)) (fun _ kv _ => 20 - (intOf kv).toNat)
          case atStart => exact ⟨0, by omega, rfl, S40⟩
          case round =>
            obtain ⟨k, hk, rfl, hS4⟩ := hrel
            clear S40
            by_cases hk20 : k < 20
            · have d1 : (k : Int) < 20 := by omega
              have hlen : (List.replicate l.length (b1 i) ++ List.replicate k (b4 i)).length = l.length + k := by simp
              have O1 := hide ((unhide hS4).x1.keep ((Below.refl wr.heap.size wr).alloc (Nat.le_refl _) (.cells #[vb (b4 i)] 5)) (unhide hS4).x1.lt)
              have D1 : Hid ((wr.alloc (.cells #[vb (b4 i)] 5)).cell? ⟨wr.heap.size, 0, none⟩ = some (vb (b4 i))) := by
                show _ = _
                rw [blk_cell (heap_alloc_new wr _)]; rfl
              have hsz : B ≤ (wr.alloc (.cells #[vb (b4 i)] 5)).heap.size := by rw [World.size_alloc]; have := (unhide hS4).x7; have := (unhide HCC).le; omega
              go_wp2_with (at_builtin; refine wpList_append_two rfl _ _ rfl B u7 _ (b4 i) ⟨wr.heap.size, 0, none⟩ 1 rfl rfl (unhide O1) (unhide D1) ?a1 hsz ?_)
              case a1 => rw [hlen]; omega
              intro v' w2 h2 h3
              have T := hide ((unhide hS4).step (unhide HCC) (o := .cells #[vb (b4 i)] 5) (v' := v') (w2 := w2) (by rw [List.append_assoc]; exact h2) (by rw [hlen, World.size_alloc]; exact h3))
              clear h2 h3 O1 D1 hS4 hsz hlen
              go_wp2
              exact ⟨⟨k + 1, by omega, by go_num, T⟩, by simp [intOf]; omega⟩
            · have d1 : ¬ (k : Int) < 20 := by omega
              obtain rfl : k = 20 := by omega
              obtain ⟨xo, xc, hxv⟩ := (unhide hS4).x1.form
              rw [show (List.replicate l.length (b1 i) ++ List.replicate 20 (b4 i)).length = l.length + 20 by simp] at hxv
              subst hxv
              have hsz : B ≤ wr.heap.size := by have := (unhide hS4).x7; have := (unhide HCC).le; omega
              go_wp2_with (at_builtin; refine wpList_append_el rfl _ _ rfl wr B u5 _ i xs rfl rfl rfl rfl (unhide hS4).x4.row ?a1 hsz ?_)
              case a1 => omega
              intro v' w4 hr hg hd
              have T := hide ((unhide hS4).push (unhide HCC) hr hg hd)
              clear hr hg hd hS4
              go_wp2
              exact ⟨⟨i + 1, _, by omega, by go_num, T⟩, by simp [intOf]; omega⟩
        · have e1 : ¬ (i : Int) < (ls.length : Int) := by omega
          obtain rfl : i = ls.length := by omega
          clear hi hlt
          have HB6 := hide (unhide hS).x6
          have HB8 := hide (unhide hS).x8
          go_wp2
          go_loopw [9] (fun iv w5 => ∃ i : Nat, i ≤ ls.length ∧ iv = .int .i64 (i : Int) ∧ w5 = wr) (fun iv _ => ls.length - (intOf iv).toNat)
          case atStart => exact ⟨0, by omega, rfl, rfl⟩
          case round =>
            obtain ⟨i, hi, rfl, hw5⟩ := hrel
            obtain rfl := hw5.symm
            clear hw5
            by_cases hlt : i < ls.length
            · have e1 : (i : Int) < (ls.length : Int) := by omega
              have e0 : (0 : Int) ≤ (i : Int) := by omega
              obtain ⟨a, rfl⟩ : ∃ a, oa = some a := by
                cases oa with
                | none => have := unhide HN rfl; rw [this] at hlt; simp at hlt
                | some a => exact ⟨a, rfl⟩
              obtain ⟨y, hy⟩ : ∃ x, vs[i]? = some x := ⟨vs[i]'(by have := unhide HV; omega), List.getElem?_eq_getElem (by have := unhide HV; omega)⟩
              obtain ⟨l, hl⟩ : ∃ l, ls[i]? = some l := ⟨_, List.getElem?_eq_getElem hlt⟩
              obtain ⟨x, hx⟩ : ∃ x, xs[i]? = some x := ⟨xs[i]'(by have := (unhide hS).x4.len; omega), List.getElem?_eq_getElem (by have := (unhide hS).x4.len; omega)⟩
              have celly := (unhide hS).x5 a rfl i y hy
              have oby := (unhide hS).x3 i y l hy hl
              have hf : f1 ls.length i l = List.replicate l.length (b1 i) := by unfold f1; rw [if_pos hlt]
              rw [hf] at oby
              obtain ⟨oy, cy, fy⟩ := oby.form
              rw [List.length_replicate] at fy
              have obx := (unhide hS).x4.own i x l hx hl
              have hlx : (List.replicate l.length (b1 i) ++ List.replicate 20 (b4 i)).length = l.length + 20 := by simp
              obtain ⟨gx, cx, fx, hcx, _, hxc⟩ := obx.get (by omega)
              rw [hlx] at fx hcx
              obtain ⟨gl, cl, fl, hcl, hlc⟩ : ∃ gl cl, u5 = .slice (some ⟨gl, 0, none⟩) ls.length cl ∧ ls.length ≤ cl ∧ wr.cell? ⟨gl, i, none⟩ = some x := by
                obtain ⟨_, ⟨_, h0⟩ | ⟨g, cap, cur, hv, _, hg, hcc, _, _, ht⟩⟩ := (unhide hS).x4.row
                · omega
                · refine ⟨g, cap, hv, hcc, ?_⟩
                  rw [blk_cell hg]
                  have : (cur.toList.take (ls.length * 1))[i]? = xs[i]? := by rw [ht]
                  rw [List.getElem?_take, if_pos (by omega), hx] at this
                  simpa using this
              have hll : l.length ≤ 1000000000 := unhide HM l (List.mem_iff_getElem?.mpr ⟨i, hl⟩)
              have hb1 := b1_wrap i
              have hb4 := b4_wrap i
              have HXC := hide hxc
              have HOY := hide oby
              subst fy fx fl
              clear hy hl hx oby obx hxc hlx hf
              go_wp2
              go_loopw [10] (fun kv w6 => ∃ k : Nat, k ≤ l.length + 20 ∧ kv = .int .i64 (k : Int) ∧ w6 = wr) (fun kv _ => l.length + 20 - (intOf kv).toNat)
              case atStart => exact ⟨0, by omega, rfl, rfl⟩
              case round =>
                obtain ⟨k, hk, rfl, hw6⟩ := hrel
                obtain rfl := hw6.symm
                clear hw6
                by_cases hkl : k < l.length + 20
                · have d1 : decide ((k : Int) < ((l.length + 20 : Nat) : Int)) = true := decide_eq_true (by omega)
                  have d2 : (k : Int) < (l.length : Int) + 20 := by omega
                  have d0 : (0 : Int) ≤ (k : Int) := by omega
                  by_cases hks : k < l.length
                  · have g1 : decide ((k : Int) < (l.length : Int)) = true := decide_eq_true (by omega)
                    have g2 : decide ((l.length : Int) ≤ (k : Int)) = false := decide_eq_false (by omega)
                    have cx1 := unhide HXC k (b1 i) (by rw [List.getElem?_append_left (by simpa using hks)]; simp [hks])
                    obtain ⟨gy, cy', fy, _, _, hyc⟩ := (unhide HOY).get (by simp; omega)
                    rw [List.length_replicate] at fy
                    cases fy
                    have cy1 := hyc k (b1 i) (by simp [hks])
                    clear hyc
                    go_wp2
                    all_goals first
                      | (exfalso; omega)
                      | exact ⟨⟨k + 1, by omega, by go_num, trivial⟩, by simp [intOf]; omega⟩
                  · have g1 : decide ((k : Int) < (l.length : Int)) = false := decide_eq_false (by omega)
                    have g2 : decide ((l.length : Int) ≤ (k : Int)) = true := decide_eq_true (by omega)
                    have cx1 := unhide HXC k (b4 i) (by rw [List.getElem?_append_right (by simp; omega), List.length_replicate, List.getElem?_replicate, if_pos (by omega)])
                    go_wp2
                    all_goals first
                      | (exfalso; omega)
                      | exact ⟨⟨k + 1, by omega, by go_num, trivial⟩, by simp [intOf]; omega⟩
                · have d1 : decide ((k : Int) < ((l.length + 20 : Nat) : Int)) = false := decide_eq_false (by omega)
                  have d2 : ¬ (k : Int) < (l.length : Int) + 20 := by omega
                  go_wp2
                  exact ⟨⟨i + 1, by omega, by go_num, trivial⟩, by simp [intOf]; omega⟩
            · have e1 : ¬ (i : Int) < (ls.length : Int) := by omega
              go_wp2
              go_ret
              exact ⟨rfl, unhide HB6, unhide HB8⟩

end Go.Proofs.YtgafjbgplcjnnaaDoor.fr
