/- DecRises: it answers true, whatever the seven, of bounded lengths. -/
import Derived.Test.YteenfgomanhjkaaDoorDz
import Derived.Test.YteenfgomanhjkaaDoorDf
import Derived.BigQuiet
namespace Go.Proofs.YteenfgomanhjkaaDoor.rd
open Go.RowKit

set_option maxRecDepth 100000 in
set_option maxHeartbeats 6400000 in
theorem decRises_any (iv : Int) (d : Dn) (k most more : Int) (q : Dn) (later : Int) (eN eX : Value) (w : World) (hsd : d.dg.size ≤ 1048576) (hsq : q.dg.size ≤ 1048576)
    (i0 : -9223372036854775808 ≤ iv) (i1 : iv ≤ 9223372036854775807) (d0 : -9223372036854775808 ≤ d.ex) (d1 : d.ex ≤ 9223372036854775807) (k0 : -9223372036854775808 ≤ k) (k1 : k ≤ 9223372036854775807)
    (m0 : -9223372036854775808 ≤ most) (m1 : most ≤ 9223372036854775807) (o0 : -9223372036854775808 ≤ more) (o1 : more ≤ 9223372036854775807) (q0 : -9223372036854775808 ≤ q.ex) (q1 : q.ex ≤ 9223372036854775807)
    (l0 : -9223372036854775808 ≤ later) (l1 : later ≤ 9223372036854775807) (hpw : Pow w) (hv : Vars w eN eX) :
    Calls Tryd.prog 3 #[.int .i64 iv, dv d, .int .i64 k, .int .i64 most, .int .i64 more, dv q, .int .i64 later] w fun e w' => e = .returned (.bool true) ∧ Below w.heap.size w w' := by
  have hW := PairW.start w d q
  have c0 := fun w (h : Vars w eN eX) => awake_any eN eX w (cell_lt h.n) h.n (cell_lt h.x) h.x
  have e0 := fun w (hp : Pow w) (h : Vars w eN eX) => delay_any iv d k most eX w hsd d0 d1 i0 i1 k0 k1 m0 m1 hp h.x
  have e1 := fun w (hp : Pow w) (h : Vars w eN eX) => delay_any more d k most eX w hsd d0 d1 o0 o1 k0 k1 m0 m1 hp h.x
  have e2 := fun w (hp : Pow w) (h : Vars w eN eX) => delay_any iv q k most eX w hsq q0 q1 i0 i1 k0 k1 m0 m1 hp h.x
  have e3 := fun w (hp : Pow w) (h : Vars w eN eX) => delay_any iv d later most eX w hsd d0 d1 i0 i1 l0 l1 m0 m1 hp h.x
  have e4 := fun w (hp : Pow w) (h : Vars w eN eX) => delay_any iv d k more eX w hsd d0 d1 i0 i1 k0 k1 o0 o1 hp h.x
  have cm := fun w => cmp_any q d w (by omega) (by omega) q0 q1 d0 d1
  have wd : Whole1 (norm d) := norm_formed d
  have wq : Whole1 (norm q) := norm_formed q
  rw [cmp_eq _ _ wq wd] at cm
  have hlt := refCmp_lt (norm q) (norm d) wq wd
  generalize refCmp (norm q) (norm d) = kc at *
  have F0 := (rate9_bd (sR (norm d))).1
  have F1 : ¬ kc < 0 → rate9 (sR (norm d)) ≤ rate9 (sR (norm q)) := fun h => rate9_mono (by
    rcases Int.lt_or_le (sR (norm q)) (sR (norm d)) with z | z
    · exact absurd (hlt.2 z) h
    · exact z)
  generalize rate9 (sR (norm d)) = f at *
  generalize rate9 (sR (norm q)) = f' at *
  have HL : Hid ((if most < 1 ∨ 2147483648 < most then 2147483648 else most) = (if most < 1 ∨ 2147483648 < most then (2147483648 : Int) else most)) := rfl
  have hL1 : 1 ≤ (if most < 1 ∨ 2147483648 < most then (2147483648 : Int) else most) := by split <;> omega
  have hL2 : (if most < 1 ∨ 2147483648 < most then (2147483648 : Int) else most) ≤ 2147483648 := by split <;> omega
  have hL3 : 1 ≤ most → (if most < 1 ∨ 2147483648 < most then (2147483648 : Int) else most) ≤ most := by intro h; split <;> omega
  have hL4 : ∀ z : Int, (1 ≤ most → z ≤ most) → z ≤ 2147483648 → z ≤ (if most < 1 ∨ 2147483648 < most then (2147483648 : Int) else most) := by intro z h1 h2; split <;> omega
  have hL5 : 1 ≤ most → most ≤ more → (if most < 1 ∨ 2147483648 < most then (2147483648 : Int) else most) ≤ (if more < 1 ∨ 2147483648 < more then (2147483648 : Int) else more) := by intro h1 h2; split <;> split <;> omega
  generalize (if most < 1 ∨ 2147483648 < most then (2147483648 : Int) else most) = L at *
  generalize (if more < 1 ∨ 2147483648 < more then (2147483648 : Int) else more) = L' at *
  have hn : k ≤ later → (min (max k 1) 100 - 1).toNat ≤ (min (max later 1) 100 - 1).toNat := by omega
  generalize (min (max k 1) 100 - 1).toNat = n at *
  generalize (min (max later 1) 100 - 1).toNat = n' at *
  have D0 : 0 ≤ dly (max iv 0) f n L := by have := dly_ge (m := max iv 0) n L (by omega) F0; omega
  have D1 : dly (max iv 0) f n L ≤ L := dly_le _ _ _ _
  have D2 : ∀ z, z ≤ iv → z ≤ L → z ≤ dly (max iv 0) f n L := by intro z h1 h2; have := dly_ge (m := max iv 0) n L (by omega) F0; omega
  have R1 : iv ≤ more → dly (max iv 0) f n L ≤ dly (max more 0) f n L := fun h => dly_m n L F0 (by omega)
  have R2 : ¬ kc < 0 → dly (max iv 0) f n L ≤ dly (max iv 0) f' n L := fun h => dly_f n L (by omega) F0 (F1 h)
  have R3 : k ≤ later → dly (max iv 0) f n L ≤ dly (max iv 0) f n' L := fun h => dly_n L (by omega) F0 (hn h)
  have R4 : 1 ≤ most → most ≤ more → dly (max iv 0) f n L ≤ dly (max iv 0) f n L' := fun h1 h2 => dly_L n (hL5 h1 h2)
  generalize dly (max iv 0) f n L = D at *
  generalize dly (max more 0) f n L = E1 at *
  generalize dly (max iv 0) f' n L = E2 at *
  generalize dly (max iv 0) f n' L = E3 at *
  generalize dly (max iv 0) f n L' = E4 at *
  have D3 : D ≤ 2147483648 := by omega
  have D4 : 1 ≤ most → D ≤ most := fun h => by have := hL3 h; omega
  have D5 : ∀ z, z ≤ iv → (1 ≤ most → z ≤ most) → z ≤ 2147483648 → z ≤ D := fun z h1 h2 h3 => D2 z h1 (hL4 z h2 h3)
  clear hL1 hL2 hL3 hL4 hL5 hn D1 D2 HL F0 F1 hlt wd wq
  obtain ⟨dn, dg, dx⟩ := d
  obtain ⟨qn, qg, qx⟩ := q
  simp only [dv] at e0 e1 e2 e3 e4 cm hW ⊢
  have C0 := hide c0
  have G0 := hide e0
  have G1 := hide e1
  have G2 := hide e2
  have G3 := hide e3
  have G4 := hide e4
  have CM := hide cm
  have HP := hide hpw
  have HV := hide hv
  have HD4 := hide D4
  have HD5 := hide D5
  have HR1 := hide R1
  have HR2 := hide R2
  have HR3 := hide R3
  have HR4 := hide R4
  clear c0 e0 e1 e2 e3 e4 cm hpw hv D4 D5 R1 R2 R3 R4
  go_enter Tryd.func3, Tryd.ntmps3
  go_wp2_with fail
  refine (unhide C0 _ ((unhide HV).keep hW.below)).mono ?_
  rintro e w1 ⟨rfl, ha⟩
  have hW1 := hW.call ha
  clear ha hW C0
  obtain ⟨x0, x1, x2⟩ := hW1.a.cells
  simp only at x0 x1 x2
  go_wp2_with fail
  refine (unhide G0 _ ((unhide HP).keep hW1.below) ((unhide HV).keep hW1.below)).mono ?_
  rintro e w2 ⟨rfl, ha⟩
  have hW2 := hW1.call ha
  clear ha hW1 x0 x1 x2 G0
  have D4 := unhide HD4
  go_upto_region 3 with fail
  go_cut [46] from 22 (fun s46 wx => s46 = .bool false ∧ PairW w wx ⟨dn, dg, dx⟩ ⟨qn, qg, qx⟩)
  case first =>
    by_cases z : 1 ≤ most
    · have z' := D4 z
      clear D4
      go_wp2_with fail
      go_meet
      exact ⟨by simp; omega, hW2⟩
    · clear D4
      go_wp2_with fail
      go_meet
      exact ⟨by simp; omega, hW2⟩
  case rest =>
    clear hW2 D4 HD4
    obtain ⟨rfl, hW2⟩ := hcut
    go_upto_region 6 with fail
    go_cut [54] from 22 (fun s54 wx => s54 = .bool (decide (1 ≤ most ∧ most < iv)) ∧ PairW w wx ⟨dn, dg, dx⟩ ⟨qn, qg, qx⟩)
    case first =>
      by_cases z : 1 ≤ most
      · go_wp2_with fail
        go_meet
        exact ⟨by simp [z], hW2⟩
      · go_wp2_with fail
        go_meet
        exact ⟨by simp; omega, hW2⟩
    case rest =>
      clear hW2
      obtain ⟨rfl, hW2⟩ := hcut
      go_upto_if 54 with fail
      go_cut [17] from 22 (fun s17 wx => (∃ z, s17 = .int .i64 z ∧ z ≤ iv ∧ (1 ≤ most → z ≤ most) ∧ -9223372036854775808 ≤ z) ∧ PairW w wx ⟨dn, dg, dx⟩ ⟨qn, qg, qx⟩)
      case first =>
        by_cases z : 1 ≤ most ∧ most < iv
        · have z' : decide (1 ≤ most ∧ most < iv) = true := by simpa using z
          go_wp2_with fail
          go_meet
          exact ⟨⟨most, rfl, by omega, fun _ => by omega, by omega⟩, hW2⟩
        · have z' : decide (1 ≤ most ∧ most < iv) = false := by simpa using z
          go_wp2_with fail
          go_meet
          exact ⟨⟨iv, rfl, by omega, fun _ => by omega, by omega⟩, hW2⟩
      case rest =>
        clear hW2
        obtain ⟨⟨z, rfl, z1, z2, z3⟩, hW2⟩ := hcut
        have z4 : z ≤ 9223372036854775807 := by omega
        go_upto_if 57 with fail
        go_cut [17] from 22 (fun s17 wx => (∃ y, s17 = .int .i64 y ∧ y ≤ D) ∧ PairW w wx ⟨dn, dg, dx⟩ ⟨qn, qg, qx⟩)
        case first =>
          by_cases zz : 2147483648 < z
          · have y1 := unhide HD5 2147483648 (by omega) (fun h => by have := z2 h; omega) (by omega)
            clear z2
            go_wp2_with fail
            go_meet
            exact ⟨⟨2147483648, rfl, y1⟩, hW2⟩
          · have y1 := unhide HD5 z (by omega) z2 (by omega)
            clear z2
            go_wp2_with fail
            go_meet
            exact ⟨⟨z, rfl, y1⟩, hW2⟩
        case rest =>
          clear hW2 z1 z2 z3 z4 HD5
          obtain ⟨⟨y, rfl, y1⟩, hW2⟩ := hcut
          have y2 : ¬ D < y := by omega
          go_upto_region 12 with fail
          go_cut [18] from 22 (fun s18 wx => s18 = .bool true ∧ PairW w wx ⟨dn, dg, dx⟩ ⟨qn, qg, qx⟩)
          case first =>
            obtain ⟨x0, x1, x2⟩ := hW2.a.cells
            obtain ⟨x3, x4, x5⟩ := hW2.b.cells
            simp only at x0 x1 x2 x3 x4 x5
            by_cases zz : more < iv
            · go_wp2_with fail
              go_meet
              exact ⟨rfl, hW2⟩
            · have r1 := unhide HR1 (by omega)
              go_wp2_with fail
              refine (unhide G1 _ ((unhide HP).keep hW2.below) ((unhide HV).keep hW2.below)).mono ?_
              rintro e u1 ⟨rfl, ha⟩
              have hU := hW2.call ha
              clear ha
              go_wp2_with fail
              go_meet
              exact ⟨by simp, hU⟩
          case rest =>
            clear hW2
            obtain ⟨rfl, hW2⟩ := hcut
            go_upto_region 13 with fail
            go_cut [19] from 22 (fun s19 wx => s19 = .bool true ∧ PairW w wx ⟨dn, dg, dx⟩ ⟨qn, qg, qx⟩)
            case first =>
              obtain ⟨x0, x1, x2⟩ := hW2.a.cells
              obtain ⟨x3, x4, x5⟩ := hW2.b.cells
              simp only at x0 x1 x2 x3 x4 x5
              go_wp2_with fail
              refine (unhide CM _).mono ?_
              rintro e u0 ⟨rfl, ha⟩
              have hW3 := hW2.call ha
              clear ha hW2 x0 x1 x2 x3 x4 x5
              have hW2 := hW3
              clear hW3
              obtain ⟨x3, x4, x5⟩ := hW2.b.cells
              simp only at x3 x4 x5
              by_cases zz : kc < 0
              · go_wp2_with fail
                go_meet
                exact ⟨rfl, hW2⟩
              · have r1 := unhide HR2 (by omega)
                go_wp2_with fail
                refine (unhide G2 _ ((unhide HP).keep hW2.below) ((unhide HV).keep hW2.below)).mono ?_
                rintro e u1 ⟨rfl, ha⟩
                have hU := hW2.call ha
                clear ha
                go_wp2_with fail
                go_meet
                exact ⟨by simp, hU⟩
            case rest =>
              clear hW2
              obtain ⟨rfl, hW2⟩ := hcut
              go_upto_region 14 with fail
              go_cut [20] from 22 (fun s20 wx => s20 = .bool true ∧ PairW w wx ⟨dn, dg, dx⟩ ⟨qn, qg, qx⟩)
              case first =>
                obtain ⟨x0, x1, x2⟩ := hW2.a.cells
                obtain ⟨x3, x4, x5⟩ := hW2.b.cells
                simp only at x0 x1 x2 x3 x4 x5
                by_cases zz : later < k
                · go_wp2_with fail
                  go_meet
                  exact ⟨rfl, hW2⟩
                · have r1 := unhide HR3 (by omega)
                  go_wp2_with fail
                  refine (unhide G3 _ ((unhide HP).keep hW2.below) ((unhide HV).keep hW2.below)).mono ?_
                  rintro e u1 ⟨rfl, ha⟩
                  have hU := hW2.call ha
                  clear ha
                  go_wp2_with fail
                  go_meet
                  exact ⟨by simp, hU⟩
              case rest =>
                clear hW2
                obtain ⟨rfl, hW2⟩ := hcut
                go_upto_region 15 with fail
                go_cut [21] from 22 (fun s21 wx => s21 = .bool true ∧ PairW w wx ⟨dn, dg, dx⟩ ⟨qn, qg, qx⟩)
                case first =>
                  obtain ⟨x0, x1, x2⟩ := hW2.a.cells
                  obtain ⟨x3, x4, x5⟩ := hW2.b.cells
                  simp only at x0 x1 x2 x3 x4 x5
                  by_cases za : most < 1
                  · go_wp2_with fail
                    go_meet
                    exact ⟨by simp, hW2⟩
                  · by_cases zb : more < most
                    · go_wp2_with fail
                      go_meet
                      exact ⟨by simp, hW2⟩
                    · have r1 := unhide HR4 (by omega) (by omega)
                      go_wp2_with fail
                      refine (unhide G4 _ ((unhide HP).keep hW2.below) ((unhide HV).keep hW2.below)).mono ?_
                      rintro e u1 ⟨rfl, ha⟩
                      have hU := hW2.call ha
                      clear ha
                      go_wp2_with fail
                      go_meet
                      exact ⟨by simp, hU⟩
                case rest =>
                  clear hW2
                  obtain ⟨rfl, hW2⟩ := hcut
                  go_wp2
                  go_ret
                  exact ⟨rfl, hW2.below⟩
end Go.Proofs.YteenfgomanhjkaaDoor.rd
