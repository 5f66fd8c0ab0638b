/- DecReads: it answers true, whatever the text, of a bounded length. -/
import Derived.Test.YtgmjllkkgapjcaaDoorCo
namespace Go.Proofs.YtgmjllkkgapjcaaDoor.rd
open Go.RowKit

set_option maxRecDepth 100000 in
set_option maxHeartbeats 800000 in
theorem answered_ok (d : Dn) (w : World) :
    Calls Tryd.prog 15 #[dv d, .nilIface, dv d, .int .i64 0] w fun e w' => e = .returned (.bool true) ∧ Below w.heap.size w w' := by
  obtain ⟨n, g, x⟩ := d
  simp only [dv]
  go_enter Tryd.func15, Tryd.ntmps15
  go_wp2_with fail
  refine (code_nil _).mono ?_
  rintro e w1 ⟨rfl, rfl⟩
  go_wp2
  go_ret
  exact ⟨rfl, ((Below.refl _ _).alloc (Nat.le_refl _) _).alloc (by simp) _⟩

set_option maxRecDepth 100000 in
set_option maxHeartbeats 800000 in
theorem answered_bad (ev : Value) (c : Int) (w : World) (hc : (c != 0) = true) (hcode : ∀ w' : World, Below w.heap.size w w' → Calls Tryd.prog 38 #[ev] w' fun e u => e = .returned (.int .i64 c) ∧ u = w') :
    Calls Tryd.prog 15 #[dv zed, ev, dv zed, .int .i64 c] w fun e w' => e = .returned (.bool true) ∧ Below w.heap.size w w' := by
  have cn := fun w => rnorm_any zed w (by decide) (by decide) (by decide)
  have hz : norm zed = zed := by kernel_rfl
  rw [hz] at cn
  have hcc : (c != c) = false := by simp
  simp only [dv, zed] at cn ⊢
  have CN := hide cn
  have CC := hide hcode
  clear cn hcode hz
  go_enter Tryd.func15, Tryd.ntmps15
  go_wp2_with fail
  refine (unhide CC _ (((Below.refl _ _).alloc (Nat.le_refl _) _).alloc (by simp) _)).mono ?_
  rintro e w1 ⟨rfl, rfl⟩
  go_wp2_with fail
  refine (unhide CN _).mono ?_
  rintro e w1 ⟨rfl, hb1⟩
  have B1 : Below w.heap.size w w1 := (((Below.refl _ _).alloc (Nat.le_refl _) _).alloc (by simp) _).trans (hb1.mono (by simp; omega))
  have z1 := B1.size
  clear hb1
  go_wp2
  go_ret
  exact ⟨rfl, B1.alloc z1 _⟩

/-- What Parse answers is taken for what the reference answers. -/
theorem answered_read (s : ByteArray) (a b : Addr) (hs : s.size ≤ 40000000000) :
    ∃ (d : Dn) (ev : Value) (c : Int), parsed s (eNo a) (eNo b) = (dv d, ev) ∧ rparse s = (d, c) ∧
      ∀ w, Sents w a b → Calls Tryd.prog 15 #[dv d, ev, dv d, .int .i64 c] w fun e w' => e = .returned (.bool true) ∧ Below w.heap.size w w' := by
  rw [parsed_eq s _ _ hs]
  rcases rparse_codes s hs with h | h | h
  · refine ⟨(rparse s).1, .nilIface, 0, ?_, ?_, fun w _ => answered_ok _ w⟩
    · unfold tellP; exact if_pos h
    · rw [← h]
  · refine ⟨zed, eNo a, 3, ?_, h, fun w hv => answered_bad _ 3 w (by decide) fun w' hb => code_num a b w' (hv.keep hb)⟩
    rw [h]; unfold tellP
    rw [if_neg (show ¬ ((zed, (3 : Int)).2 = 0) by decide)]; exact if_pos rfl
  · refine ⟨zed, eNo b, 4, ?_, h, fun w hv => answered_bad _ 4 w (by decide) fun w' hb => code_exp a b w' (hv.keep hb)⟩
    rw [h]; unfold tellP
    rw [if_neg (show ¬ ((zed, (4 : Int)).2 = 0) by decide)]; exact if_neg (show ¬ ((zed, (4 : Int)).2 = 3) by decide)

set_option maxRecDepth 100000 in
set_option maxHeartbeats 1600000 in
theorem decReads_any (s : ByteArray) (a b : Addr) (w : World) (hs : s.size ≤ 1048576) (hv : Sents w a b) :
    Calls Tryd.prog 4 #[.string s] w fun e w' => e = .returned (.bool true) ∧ Below w.heap.size w w' := by
  have c0 := fun w (h : Sents w a b) => awake_any (eNo a) (eNo b) w (cell_lt h.n) h.n (cell_lt h.x) h.x
  have c1 := fun w (h : Sents w a b) => parse_any s (eNo a) (eNo b) w (by omega) (cell_lt h.n) h.n (cell_lt h.x) h.x
  have c2 := fun w => rparse_any s w (by omega)
  obtain ⟨d, ev, c, hp, hr, ca⟩ := answered_read s a b (by omega)
  simp only [hp] at c1
  simp only [hr] at c2
  obtain ⟨n, g, x⟩ := d
  simp only [dv] at c1 c2 ca
  have C0 := hide c0
  have C1 := hide c1
  have C2 := hide c2
  have CA := hide ca
  have HV := hide hv
  clear c0 c1 c2 ca hv hp hr hs
  go_enter Tryd.func4, Tryd.ntmps4
  go_wp2_with fail
  refine (unhide C0 _ (unhide HV)).mono ?_
  rintro e w1 ⟨rfl, hb1⟩
  have B1 := hide hb1
  clear hb1
  go_wp2_with fail
  refine (unhide C1 _ ((unhide HV).keep (unhide B1))).mono ?_
  rintro e w2 ⟨rfl, hb2⟩
  have B2 := hide (show Below w.heap.size w w2 from (unhide B1).trans (hb2.mono (unhide B1).size))
  clear hb2
  have z2 := (unhide B2).size
  go_wp2_with fail
  refine (unhide C2 _).mono ?_
  rintro e w3 ⟨rfl, hb3⟩
  have l3 : DLies w3 w2.heap.size ⟨n, g, x⟩ := (dlies_new w2 ⟨n, g, x⟩).below hb3 (by simp)
  have B3 := hide (show Below w.heap.size w w3 from ((unhide B2).alloc z2 _).trans (hb3.mono (by simp; omega)))
  have z3 := (unhide B3).size
  have z23 : w2.heap.size < w3.heap.size := blk_lt l3
  obtain ⟨x0, x1, x2⟩ := l3.cells
  simp only at x0 x1 x2
  clear hb3 l3
  go_wp2_with fail
  refine (unhide CA _ ((unhide HV).keep ((unhide B3).alloc z3 _))).mono ?_
  rintro e w4 ⟨rfl, hb4⟩
  have B4 := hide (show Below w.heap.size w w4 from ((unhide B3).alloc z3 _).trans (hb4.mono (by simp; omega)))
  clear hb4
  go_wp2
  go_ret
  exact ⟨rfl, unhide B4⟩
end Go.Proofs.YtgmjllkkgapjcaaDoor.rd
