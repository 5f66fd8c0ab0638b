/- The contracts of Floor and Int. -/
import Derived.Test.YteenfgomanhjkaaDoorFd
namespace Go.Proofs.YteenfgomanhjkaaDoor.rd
open Go.RowKit

set_option maxRecDepth 100000 in
set_option maxHeartbeats 1600000 in
theorem floor_any (d : Dn) (w : World) (hs : d.dg.size ≤ 1099511627776) (h0 : -9223372036854775808 ≤ d.ex) (h1 : d.ex ≤ 9223372036854775807) :
    Calls Tryd.prog 12 #[dv d] w fun e w' => e = .returned (.tuple #[.int .i64 (flo (norm d)).1, .bool (flo (norm d)).2]) ∧ Below w.heap.size w w' := by
  have c1 := fun w => norm_any d w (by omega) h0 h1
  have hw := norm_formed d
  obtain ⟨g1, g2, g3, g4⟩ := norm_good d
  obtain ⟨dn, dg, dx⟩ := d
  generalize norm ⟨dn, dg, dx⟩ = n at *
  simp only at g1 hs
  have T1 := hide (fun w => top_any n w (by omega) (by omega) (by omega))
  have WS := hide (fun w ht => wholeSize_any n w (by omega) g2 g3 ht g4)
  have hbig := flo_big n hw
  have w0 := wsize_nonneg n g4
  have w1 := wsize_small n g4
  have SG := hide (fun s w (h0 : 0 ≤ s) (h1 : s ≤ 10000000000000000000) => signed_any n.neg s w h0 h1)
  have HF : Hid (flo n = sgV n.neg (bump n)) := flo_eq n
  have HB : Hid (bump n = if n.neg = true ∧ n.ex < 0 then wsize n + 1 else wsize n) := rfl
  have HT : Hid (topN n = n.dg.size + n.ex) := rfl
  generalize flo n = res at *
  generalize bump n = bm at *
  generalize wsize n = ws at *
  generalize topN n = tp at *
  obtain ⟨nn, ng, nx⟩ := n
  simp only [dv] at c1 T1 WS SG HF HB HT ⊢
  have C1 := hide c1
  clear c1 hw g1 g2 g3 g4
  go_enter Tryd.func12, Tryd.ntmps12
  go_wp2_with fail
  refine (unhide C1 _).mono ?_
  rintro e u1 ⟨rfl, hb1⟩
  have B1 : Below w.heap.size w u1 := ((Below.refl _ _).alloc (Nat.le_refl _) _).trans (hb1.mono (by simp))
  have l1 : DLies (u1.alloc (.cells #[.bool nn, .string ng, .int .i64 nx] 23)) u1.heap.size ⟨nn, ng, nx⟩ := dlies_new u1 ⟨nn, ng, nx⟩
  have B1' : Below w.heap.size w (u1.alloc (.cells #[.bool nn, .string ng, .int .i64 nx] 23)) := B1.alloc B1.size _
  clear hb1 C1
  go_wp2_with fail
  refine (unhide T1 _).mono ?_
  rintro e u2 ⟨rfl, hb2⟩
  have l2 := l1.below hb2 (blk_lt l1)
  have B2 : Below w.heap.size w u2 := B1'.trans (hb2.mono B1'.size)
  obtain ⟨x0, x1, x2⟩ := l2.cells
  simp only at x0 x1 x2
  clear hb2 T1 l1 B1 B1'
  by_cases ht : 19 < tp
  · have hr := hbig ht
    subst hr
    have ht' : (19 : Int) < (ng.size : Int) + nx := by have := unhide HT; omega
    clear HF
    go_wp2
    go_ret2
    exact ⟨rfl, B2⟩
  · have ht' : ¬ (19 : Int) < (ng.size : Int) + nx := by have := unhide HT; omega
    have WS2 := hide (fun w => unhide WS w (by omega))
    have w1' := w1 (by omega)
    clear hbig WS w1
    go_wp2_with fail
    refine (unhide WS2 _).mono ?_
    rintro e u3 ⟨rfl, hb3⟩
    have l3 := l2.below hb3 (blk_lt l2)
    have B3 : Below w.heap.size w u3 := B2.trans (hb3.mono B2.size)
    clear x0 x1 x2
    obtain ⟨x0, x1, x2⟩ := l3.cells
    simp only at x0 x1 x2
    clear hb3 WS2 l2 B2
    cases nn with
    | true =>
      by_cases hx : nx < 0
      · have hbm : bm = ws + 1 := by rw [HB.out]; exact if_pos ⟨rfl, hx⟩
        have SG2 := hide (fun w => unhide SG (ws + 1) w (by omega) (by omega))
        rw [← hbm, ← unhide HF, hbm] at SG2
        clear HF HB hbm SG
        go_wp2_with fail
        refine (unhide SG2 _).mono ?_
        rintro e u4 ⟨rfl, rfl⟩
        go_wp2
        go_ret2
        exact ⟨rfl, B3⟩
      · have hbm : bm = ws := by rw [HB.out]; exact if_neg (fun q => hx q.2)
        have SG2 := hide (fun w => unhide SG ws w (by omega) (by omega))
        rw [← hbm, ← unhide HF, hbm] at SG2
        clear HF HB hbm SG
        go_wp2_with fail
        refine (unhide SG2 _).mono ?_
        rintro e u4 ⟨rfl, rfl⟩
        go_wp2
        go_ret2
        exact ⟨rfl, B3⟩
    | false =>
      have hbm : bm = ws := by rw [HB.out]; exact if_neg (fun q => by cases q.1)
      have SG2 := hide (fun w => unhide SG ws w (by omega) (by omega))
      rw [← hbm, ← unhide HF, hbm] at SG2
      clear HF HB hbm SG
      go_wp2_with fail
      refine (unhide SG2 _).mono ?_
      rintro e u4 ⟨rfl, rfl⟩
      go_wp2
      go_ret2
      exact ⟨rfl, B3⟩

end Go.Proofs.YteenfgomanhjkaaDoor.rd
