/- The reference of package stamp: Parse, where day and time are not told as they must be. -/
import Derived.Test.YtemcilikchlaiaaDoorKg
namespace Go.Proofs.YtemcilikchlaiaaDoor.st
open Go.RowKit

set_option maxRecDepth 100000 in
set_option maxHeartbeats 6400000 in
theorem rparse_bad (s : ByteArray) (w : World) (hp : ¬ headP s) :
    Calls Tryd.prog 11 #[.string s] w fun e w' => e = .returned (parV none) ∧ Below w.heap.size w w' := by
  unfold headP at hp
  have N1 := hide (fun u => rnumber_any s 0 4 0 4 rfl rfl (by omega) (by omega) u)
  have N2 := hide (fun u => rnumber_any s 5 2 5 7 rfl rfl (by omega) (by omega) u)
  have N3 := hide (fun u => rnumber_any s 8 2 8 10 rfl rfl (by omega) (by omega) u)
  have N4 := hide (fun u => rnumber_any s 11 2 11 13 rfl rfl (by omega) (by omega) u)
  have N5 := hide (fun u => rnumber_any s 14 2 14 16 rfl rfl (by omega) (by omega) u)
  have N6 := hide (fun u => rnumber_any s 17 2 17 19 rfl rfl (by omega) (by omega) u)
  have I1 := hide (fun u => ris_any s 4 45 4 45 rfl rfl u)
  have I2 := hide (fun u => ris_any s 7 45 7 45 rfl rfl u)
  have I3 := hide (fun u => ris_any s 10 84 10 84 rfl rfl u)
  have I4 := hide (fun u => ris_any s 13 58 13 58 rfl rfl u)
  have I5 := hide (fun u => ris_any s 16 58 16 58 rfl rfl u)
  have HP := hide hp
  clear hp
  generalize numI s 4 0 0 = y at *
  generalize numI s 2 5 0 = m at *
  generalize numI s 2 8 0 = d at *
  generalize numI s 2 11 0 = hh at *
  generalize numI s 2 14 0 = mi at *
  generalize numI s 2 17 0 = ss at *
  generalize isI s 4 45 = b1 at *
  generalize isI s 7 45 = b2 at *
  generalize isI s 10 84 = b3 at *
  generalize isI s 13 58 = b4 at *
  generalize isI s 16 58 = b5 at *
  go_enter Tryd.func11, Tryd.ntmps11
  go_wp2_with fail
  refine (unhide N1 _).mono ?_
  rintro e u ⟨rfl, hu⟩
  obtain rfl := hu.symm
  clear hu
  go_wp2_with fail
  refine (unhide N2 _).mono ?_
  rintro e u ⟨rfl, hu⟩
  obtain rfl := hu.symm
  clear hu
  go_wp2_with fail
  refine (unhide N3 _).mono ?_
  rintro e u ⟨rfl, hu⟩
  obtain rfl := hu.symm
  clear hu
  go_wp2_with fail
  refine (unhide N4 _).mono ?_
  rintro e u ⟨rfl, hu⟩
  obtain rfl := hu.symm
  clear hu
  go_wp2_with fail
  refine (unhide N5 _).mono ?_
  rintro e u ⟨rfl, hu⟩
  obtain rfl := hu.symm
  clear hu
  go_wp2_with fail
  refine (unhide N6 _).mono ?_
  rintro e u ⟨rfl, hu⟩
  obtain rfl := hu.symm
  clear hu
  go_upto_region 7 with fail
  go_cut [10] from 23 (fun s10 wx => s10 = .bool (b1 && b2 && b3 && b4 && b5) ∧ wx = w.alloc (.cells #[.int .i64 0, .int .i64 0] 24))
  case first =>
    go_wp2_with fail
    refine (unhide I1 _).mono ?_
    rintro e u ⟨rfl, hu⟩
    obtain rfl := hu.symm
    clear hu
    cases b1
    · go_wp2_with fail
      go_meet
      exact ⟨rfl, rfl⟩
    · go_wp2_with fail
      refine (unhide I2 _).mono ?_
      rintro e u ⟨rfl, hu⟩
      obtain rfl := hu.symm
      clear hu
      cases b2
      · go_wp2_with fail
        go_meet
        exact ⟨rfl, rfl⟩
      · go_wp2_with fail
        refine (unhide I3 _).mono ?_
        rintro e u ⟨rfl, hu⟩
        obtain rfl := hu.symm
        clear hu
        cases b3
        · go_wp2_with fail
          go_meet
          exact ⟨rfl, rfl⟩
        · go_wp2_with fail
          refine (unhide I4 _).mono ?_
          rintro e u ⟨rfl, hu⟩
          obtain rfl := hu.symm
          clear hu
          cases b4
          · go_wp2_with fail
            go_meet
            exact ⟨rfl, rfl⟩
          · go_wp2_with fail
            refine (unhide I5 _).mono ?_
            rintro e u ⟨rfl, hu⟩
            obtain rfl := hu.symm
            clear hu
            go_wp2_with fail
            go_meet
            exact ⟨rfl, rfl⟩
  case rest =>
    obtain ⟨rfl, rfl⟩ := hcut
    clear I1 I2 I3 I4 I5 N1 N2 N3 N4 N5 N6
    generalize (b1 && b2 && b3 && b4 && b5) = bb at *
    go_upto_region 8 with fail
    go_cut [90] from 23 (fun c wx => c = .bool true ∧ wx = w.alloc (.cells #[.int .i64 0, .int .i64 0] 24))
    case first =>
      cases bb
      · clear HP
        go_wp2_with fail
        go_meet
        exact ⟨rfl, rfl⟩
      · by_cases c0 : y < 0
        · have f0 : decide (y < 0) = true := decide_eq_true c0
          clear HP
          as_aux_lemma => (go_wp2_with fail; go_meet; exact ⟨rfl, rfl⟩)
        · have f0 : decide (y < 0) = false := decide_eq_false c0
          by_cases c1 : m < 0
          · have f1 : decide (m < 0) = true := decide_eq_true c1
            clear HP
            as_aux_lemma => (go_wp2_with fail; go_meet; exact ⟨rfl, rfl⟩)
          · have f1 : decide (m < 0) = false := decide_eq_false c1
            by_cases c2 : d < 0
            · have f2 : decide (d < 0) = true := decide_eq_true c2
              clear HP
              as_aux_lemma => (go_wp2_with fail; go_meet; exact ⟨rfl, rfl⟩)
            · have f2 : decide (d < 0) = false := decide_eq_false c2
              by_cases c3 : hh < 0
              · have f3 : decide (hh < 0) = true := decide_eq_true c3
                clear HP
                as_aux_lemma => (go_wp2_with fail; go_meet; exact ⟨rfl, rfl⟩)
              · have f3 : decide (hh < 0) = false := decide_eq_false c3
                by_cases c4 : 23 < hh
                · have f4 : decide (23 < hh) = true := decide_eq_true c4
                  clear HP
                  as_aux_lemma => (go_wp2_with fail; go_meet; exact ⟨rfl, rfl⟩)
                · have f4 : decide (23 < hh) = false := decide_eq_false c4
                  by_cases c5 : mi < 0
                  · have f5 : decide (mi < 0) = true := decide_eq_true c5
                    clear HP
                    as_aux_lemma => (go_wp2_with fail; go_meet; exact ⟨rfl, rfl⟩)
                  · have f5 : decide (mi < 0) = false := decide_eq_false c5
                    by_cases c6 : 59 < mi
                    · have f6 : decide (59 < mi) = true := decide_eq_true c6
                      clear HP
                      as_aux_lemma => (go_wp2_with fail; go_meet; exact ⟨rfl, rfl⟩)
                    · have f6 : decide (59 < mi) = false := decide_eq_false c6
                      by_cases c7 : ss < 0
                      · have f7 : decide (ss < 0) = true := decide_eq_true c7
                        clear HP
                        as_aux_lemma => (go_wp2_with fail; go_meet; exact ⟨rfl, rfl⟩)
                      · have f7 : decide (ss < 0) = false := decide_eq_false c7
                        by_cases c8 : 59 < ss
                        · have f8 : decide (59 < ss) = true := decide_eq_true c8
                          clear HP
                          as_aux_lemma => (go_wp2_with fail; go_meet; exact ⟨rfl, rfl⟩)
                        · have f8 : decide (59 < ss) = false := decide_eq_false c8
                          exact absurd ⟨rfl, by omega, by omega, by omega, by omega, by omega, by omega, by omega, by omega, by omega⟩ (unhide HP)
    case rest =>
      obtain ⟨rfl, rfl⟩ := hcut
      clear HP
      go_wp2
      refine bodyPost_ret (ret_rparse (m := w.heap.size) _ 0 0 13 (IL.new w 0 0) _ rfl rfl) rfl ?_
      exact ⟨rfl, (Below.refl _ _).alloc (Nat.le_refl _) _⟩
end Go.Proofs.YtemcilikchlaiaaDoor.st
