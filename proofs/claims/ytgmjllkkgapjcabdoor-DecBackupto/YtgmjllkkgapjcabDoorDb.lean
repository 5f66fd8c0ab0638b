/- DecBack: it answers true, whatever the number and the text, of bounded lengths. -/
import Derived.Test.YtgmjllkkgapjcabDoorBk
import Derived.Test.YtgmjllkkgapjcabDoorSx
namespace Go.Proofs.YtgmjllkkgapjcabDoor.rd
open Go.RowKit

/-- Two numbers in two blocks; nothing old has turned. -/
structure PairLike (w wc : World) (b c : Nat) (p q : Dn) : Prop where
  a : DLies wc b p
  b : DLies wc c q
  below : Below w.heap.size w wc
theorem PairLike.call {w wc w' : World} {b c : Nat} {p q : Dn} (h : PairLike w wc b c p q) (hb : Below wc.heap.size wc w') : PairLike w w' b c p q where
  a := h.a.below hb (blk_lt h.a)
  b := h.b.below hb (blk_lt h.b)
  below := h.below.trans (hb.mono h.below.size)
theorem PairLike.drew {w wc : World} {b c : Nat} {p q : Dn} (h : PairLike w wc b c p q) : PairLike w wc.drew b c p q := ⟨h.a, h.b, h.below.drew⟩
theorem oneForm_size (n : Bool) (s : ByteArray) (e : Int) : (oneForm n (digs s) e).1.dg.size ≤ s.size := by
  have h1 := (oneForm_good n (digs s) e (digs_dig s)).1
  have h2 := digs_le s
  omega
theorem rparse_size (s : ByteArray) : (rparse s).1.dg.size ≤ s.size + s.size := by
  have k1 : ∀ neg all ex, (rpRes neg all ex).1.dg.size ≤ all.size := fun neg all ex => by
    unfold rpRes
    split
    · exact oneForm_size _ _ _
    · exact Nat.zero_le _
  have k2 : ∀ neg all k bh, (rpEnd s neg all k bh).1.dg.size ≤ all.size := fun neg all k bh => by
    unfold rpEnd
    split
    · exact k1 _ _ _
    · exact Nat.zero_le _
  have k3 : ∀ neg i, (rpFrom s neg i).1.dg.size ≤ s.size + s.size := fun neg i => by
    unfold rpFrom
    split
    · exact Nat.zero_le _
    · split
      · split
        · exact Nat.zero_le _
        · refine Nat.le_trans (k2 _ _ _ _) ?_
          rw [ByteArray.size_append]
          have a1 := nu.ext_size s i (i + nu.nd s i)
          have a2 := nu.ext_size s (i + nu.nd s i + 1) (i + nu.nd s i + 1 + nu.nd s (i + nu.nd s i + 1))
          omega
      · refine Nat.le_trans (k2 _ _ _ _) ?_
        have a1 := nu.ext_size s i (i + nu.nd s i)
        omega
  unfold rparse
  split
  · exact k3 _ _
  · exact k3 _ _

/-- What Parse answers of any text. -/
theorem parse_res (s : ByteArray) (eN eX : Value) (hs : s.size ≤ 1048576) :
    ∃ b f, parsed s eN eX = (dv b, f) ∧ Whole1 b ∧ b.dg.size ≤ 2097152 ∧ (f = .nilIface ∨ f = eN ∨ f = eX) := by
  have h1 := rparse_whole s
  have h2 := rparse_size s
  rw [parsed_eq s eN eX (by omega)]
  rcases rparse_codes s (by omega) with h | h | h
  · refine ⟨(rparse s).1, .nilIface, ?_, h1, by omega, .inl rfl⟩
    unfold tellP; exact if_pos h
  · refine ⟨zed, eN, ?_, .inl rfl, Nat.zero_le _, .inr (.inl rfl)⟩
    rw [h]; unfold tellP
    rw [if_neg (show ¬ ((zed, (3 : Int)).2 = 0) by decide)]; exact if_pos rfl
  · refine ⟨zed, eX, ?_, .inl rfl, Nat.zero_le _, .inr (.inr rfl)⟩
    rw [h]; unfold tellP
    rw [if_neg (show ¬ ((zed, (4 : Int)).2 = 0) by decide)]; exact if_neg (show ¬ ((zed, (4 : Int)).2 = 3) by decide)

set_option maxRecDepth 100000 in
set_option maxHeartbeats 6400000 in
theorem decBack_any (d : Dn) (s : ByteArray) (pa pb : Addr) (w : World) (hsd : d.dg.size ≤ 1048576) (hss : s.size ≤ 1048576) (h0 : -9223372036854775808 ≤ d.ex) (h1 : d.ex ≤ 9223372036854775807) (hpw : Pow w) (hv : Sents w pa pb) :
    Calls Tryd.prog 3 #[dv d, .string s] w fun e w' => e = .returned (.bool true) ∧ Below w.heap.size w w' := by
  have wn : Whole1 (norm d) := norm_formed d
  have zn := (norm_good d).1
  obtain ⟨n0, n1⟩ := wn.exbd
  have tz := text_len (norm d) n0 n1
  obtain ⟨b, f, hb, wb, zb, hf⟩ := parse_res s (eNo pa) (eNo pb) hss
  obtain ⟨b0, b1⟩ := wb.exbd
  have tb := text_len b b0 b1
  have c0 := fun w (h : Sents w pa pb) => awake_any (eNo pa) (eNo pb) w (cell_lt h.n) h.n (cell_lt h.x) h.x
  have c1 := fun w h => text_any d w (by omega) h0 h1 h
  have c2 := fun w (h : Sents w pa pb) => parse_any (textOf (norm d)) (eNo pa) (eNo pb) w (by omega) (cell_lt h.n) h.n (cell_lt h.x) h.x
  have c3 := fun w => norm_any d w (by omega) h0 h1
  have c4 := fun w => like_any (norm d) d w (by omega) (by omega) (by omega) (by omega) h0 h1
  have c5 := fun w h => text_any (norm d) w (by omega) (by omega) (by omega) h
  have c6 := fun w (h : Sents w pa pb) => parse_any s (eNo pa) (eNo pb) w (by omega) (cell_lt h.n) h.n (cell_lt h.x) h.x
  have c7 := fun w h => text_any b w (by omega) (by omega) (by omega) h
  have c8 := fun w (h : Sents w pa pb) => parse_any (textOf b) (eNo pa) (eNo pb) w (by omega) (cell_lt h.n) h.n (cell_lt h.x) h.x
  have c9 := fun w => norm_any b w (by omega) (by omega) (by omega)
  rw [parsed_text _ wn] at c2
  rw [norm_norm, cmp_eq _ _ wn wn, refCmp_self _ wn] at c4
  rw [norm_norm] at c5
  rw [hb] at c6
  rw [wb.norm_id] at c7 c9
  rw [parsed_text _ wb] at c8
  have hn1 := fun (w : World) (h : Sents w pa pb) => eql_same w pa
  have hn2 := fun (w : World) (h : Sents w pa pb) => eql_other w h.ne.symm h.lb h.la
  have hn3 := fun (w : World) (h : Sents w pa pb) => eql_same w pb
  generalize norm d = n at *
  generalize textOf n = T at *
  generalize textOf b = U at *
  clear hb wn wb zn zb tz tb n0 n1 b0 b1 hsd hss h0 h1
  obtain ⟨dn, dg, dx⟩ := d
  obtain ⟨nn, ng, nx⟩ := n
  obtain ⟨bn, bg, bx⟩ := b
  simp only [dv] at c1 c2 c3 c4 c5 c6 c7 c8 c9 ⊢
  have C0 := hide c0
  have C1 := hide c1
  have C2 := hide c2
  have C3 := hide c3
  have C4 := hide c4
  have C5 := hide c5
  have C6 := hide c6
  have C7 := hide c7
  have C8 := hide c8
  have C9 := hide c9
  have HE1 := hide hn1
  have HE2 := hide hn2
  have HE3 := hide hn3
  have HPW := hide hpw
  have HV := hide hv
  have HFF := hide hf
  clear c0 c1 c2 c3 c4 c5 c6 c7 c8 c9 hn1 hn2 hn3 hpw hv hf
  go_enter Tryd.func3, Tryd.ntmps3
  go_wp2_with fail
  have B0 : Below w.heap.size w (w.alloc (.cells #[.bool dn, .string dg, .int .i64 dx] 23)) := (Below.refl _ _).alloc (Nat.le_refl _) _
  have l0 := dlies_new w ⟨dn, dg, dx⟩
  refine (unhide C0 _ ((unhide HV).keep B0)).mono ?_
  rintro e w1 ⟨rfl, h1⟩
  have l1 := l0.below h1 (blk_lt l0)
  have B1 : Below w.heap.size w w1 := B0.trans (h1.mono B0.size)
  clear h1 l0 B0 C0
  obtain ⟨x0, x1, x2⟩ := l1.cells
  simp only at x0 x1 x2
  go_wp2_with fail
  refine (unhide C1 _ ((unhide HPW).keep B1)).mono ?_
  rintro e w2 ⟨rfl, h2⟩
  have l2 := l1.below h2 (blk_lt l1)
  have B2 : Below w.heap.size w w2 := B1.trans (h2.mono B1.size)
  clear h2 l1 B1 C1 x0 x1 x2
  go_wp2_with fail
  refine (unhide C2 _ ((unhide HV).keep B2)).mono ?_
  rintro e w3 ⟨rfl, h3⟩
  have l3 := l2.below h3 (blk_lt l2)
  have B3 : Below w.heap.size w w3 := B2.trans (h3.mono B2.size)
  clear h3 l2 B2 C2
  have z3 : w.heap.size < w3.heap.size := blk_lt l3
  obtain ⟨x0, x1, x2⟩ := l3.cells
  simp only at x0 x1 x2
  have hP : PairLike w (w3.alloc (.cells #[.bool nn, .string ng, .int .i64 nx] 23)) w3.heap.size w.heap.size ⟨nn, ng, nx⟩ ⟨dn, dg, dx⟩ := ⟨dlies_new w3 ⟨nn, ng, nx⟩, l3.alloc _, B3.alloc B3.size _⟩
  clear l3 B3
  go_upto_region 4 with fail
  go_cut [44] from 13 (fun s44 wx => s44 = .bool false ∧ Hid (PairLike w wx w3.heap.size w.heap.size ⟨nn, ng, nx⟩ ⟨dn, dg, dx⟩))
  case first =>
    go_region_held3 (fun w' => w'.cell? ⟨w3.heap.size, 0, none⟩ = some (.bool nn) ∧ w'.cell? ⟨w3.heap.size, 1, none⟩ = some (.string ng) ∧ w'.cell? ⟨w3.heap.size, 2, none⟩ = some (.int .i64 nx) ∧ w'.cell? ⟨w.heap.size, 0, none⟩ = some (.bool dn) ∧ w'.cell? ⟨w.heap.size, 1, none⟩ = some (.string dg) ∧ w'.cell? ⟨w.heap.size, 2, none⟩ = some (.int .i64 dx)) (((try dsimp only); (repeat' apply And.intro); all_goals first | (go_keep; done) | (simp; omega))) (first
      | (go_at_call 10; refine (unhide C3 _).mono ?_; rintro e u1 ⟨rfl, ha⟩; obtain ⟨k0, k1, k2, k3, k4, k5⟩ := keepAd (b0 := w3.heap.size) (b1 := w.heap.size) (v0 := .bool nn) (v1 := .string ng) (v2 := .int .i64 nx) (v3 := .bool dn) (v4 := .string dg) (v5 := .int .i64 dx) ha (by first | assumption | go_keep); have hPa := hide (hP.drew.call ha); clear ha)
      | (go_at_call 11; refine (unhide C4 _).mono ?_; rintro e u2 ⟨rfl, ha⟩; obtain ⟨m0, m1, m2, m3, m4, m5⟩ := keepAd (b0 := w3.heap.size) (b1 := w.heap.size) (v0 := .bool nn) (v1 := .string ng) (v2 := .int .i64 nx) (v3 := .bool dn) (v4 := .string dg) (v5 := .int .i64 dx) ha (by first | assumption | go_keep); have hPb := hide ((unhide hPa).call ha); clear ha)
      | (go_at_call 8; refine (unhide C5 _ ((unhide HPW).keep (unhide hPb).below)).mono ?_; rintro e u3 ⟨rfl, ha⟩; obtain ⟨p0, p1, p2, p3, p4, p5⟩ := keepAd (b0 := w3.heap.size) (b1 := w.heap.size) (v0 := .bool nn) (v1 := .string ng) (v2 := .int .i64 nx) (v3 := .bool dn) (v4 := .string dg) (v5 := .int .i64 dx) ha (by first | assumption | go_keep); have hPc := hide ((unhide hPb).call ha); clear ha))
    all_goals go_wp2_with fail
    all_goals go_meet
    all_goals exact ⟨by simp, hPc⟩
  case rest =>
    clear x0 x1 x2 hP C3 C4 C5
    obtain ⟨rfl, hPq⟩ := hcut
    have B4 := hide (unhide hPq).below
    clear hPq
    go_wp2_with fail
    refine (unhide C6 _ ((unhide HV).keep (unhide B4))).mono ?_
    rintro e w5 ⟨rfl, h5⟩
    have B5 := hide (show Below w.heap.size w w5 from (unhide B4).trans (h5.mono (unhide B4).size))
    have B5' := hide (show Below w.heap.size w (w5.alloc (.cells #[.bool bn, .string bg, .int .i64 bx] 23)) from (unhide B5).alloc (unhide B5).size _)
    have l5 := dlies_new w5 ⟨bn, bg, bx⟩
    clear h5 B4 C6
    have hSS := (unhide HV).keep (unhide B5')
    rcases unhide HFF with rfl | rfl | rfl
    · go_wp2_with fail
      refine (unhide C7 _ ((unhide HPW).keep (unhide B5'))).mono ?_
      rintro e w6 ⟨rfl, h6⟩
      have l6 := l5.below h6 (blk_lt l5)
      have B6 := hide (show Below w.heap.size w w6 from (unhide B5').trans (h6.mono (unhide B5').size))
      clear h6 l5 B5 B5' hSS
      go_wp2_with fail
      refine (unhide C8 _ ((unhide HV).keep (unhide B6))).mono ?_
      rintro e w7 ⟨rfl, h7⟩
      have l7 := l6.below h7 (blk_lt l6)
      have B7 := hide (show Below w.heap.size w w7 from (unhide B6).trans (h7.mono (unhide B6).size))
      clear h7 l6 B6
      have z7 : w5.heap.size < w7.heap.size := blk_lt l7
      obtain ⟨y0, y1, y2⟩ := l7.cells
      simp only at y0 y1 y2
      have hP7 : PairLike w (w7.alloc (.cells #[.bool bn, .string bg, .int .i64 bx] 23)) w7.heap.size w5.heap.size ⟨bn, bg, bx⟩ ⟨bn, bg, bx⟩ := ⟨dlies_new w7 ⟨bn, bg, bx⟩, l7.alloc _, (unhide B7).alloc (unhide B7).size _⟩
      clear l7
      go_wp2_with fail
      go_region_held3 (fun w' => w'.cell? ⟨w7.heap.size, 0, none⟩ = some (.bool bn) ∧ w'.cell? ⟨w7.heap.size, 1, none⟩ = some (.string bg) ∧ w'.cell? ⟨w7.heap.size, 2, none⟩ = some (.int .i64 bx) ∧ w'.cell? ⟨w5.heap.size, 0, none⟩ = some (.bool bn) ∧ w'.cell? ⟨w5.heap.size, 1, none⟩ = some (.string bg) ∧ w'.cell? ⟨w5.heap.size, 2, none⟩ = some (.int .i64 bx)) (((try dsimp only); (repeat' apply And.intro); all_goals first | (go_keep; done) | (simp; omega))) (first
        | (go_at_call 10; refine (unhide C9 _).mono ?_; rintro e u1 ⟨rfl, ha⟩; obtain ⟨k0, k1, k2, k3, k4, k5⟩ := keepAd (b0 := w7.heap.size) (b1 := w5.heap.size) (v0 := .bool bn) (v1 := .string bg) (v2 := .int .i64 bx) (v3 := .bool bn) (v4 := .string bg) (v5 := .int .i64 bx) ha (by first | assumption | go_keep); have hPa := hide (hP7.drew.call ha); clear ha))
      all_goals go_wp2
      all_goals go_ret
      all_goals exact ⟨rfl, (unhide hPa).below⟩
    · have q1 := hSS.n
      have q3 := unhide HE1 _ hSS
      unfold eNo
      clear l5 hSS
      go_wp2
      go_ret
      exact ⟨rfl, unhide B5'⟩
    · have q1 := hSS.n
      have q2 := hSS.x
      have q3 := unhide HE2 _ hSS
      have q4 := unhide HE3 _ hSS
      unfold eNo
      clear l5 hSS
      go_wp2
      go_ret
      exact ⟨rfl, unhide B5'⟩
end Go.Proofs.YtgmjllkkgapjcabDoor.rd
