/- StampTells, StampDays: they answer true, if the calls answer as is asked. -/
import Derived.Test.YtemcilikchlaiaaDoorKs
namespace Go.Proofs.YtemcilikchlaiaaDoor.st
open Go.RowKit

set_option maxRecDepth 100000 in
set_option maxHeartbeats 1600000 in
theorem tells_any (K : StampOK) (KN : NormOK) (s n : Int) (w : World) (a : Addr) (hS : Sent w a) (hs : inI s) (hn : inI n) :
    Calls Tryd.prog 4 #[iv s n] w fun e w' => e = .returned (.bool true) ∧ Below w.heap.size w w' := by
  obtain ⟨r, hr⟩ := isText_ex s n
  have C0 := hide (fun u hu => shown_any K u a hu)
  have C1 := hide (fun u => KN s n u hs hn)
  have C2 := hide (fun u => rnorm_any s n u hs.1 hs.2 hn.1 hn.2)
  have C3 := hide (fun u hu => K.text s n r u a hs hn hr hu)
  have C4 := hide (fun u => rtext_any s n r u hs hn hr)
  obtain ⟨x, ev, c, e1, e2, C5⟩ : ∃ (x : ByteArray) (ev : Value) (c : Int), texE a r = .tuple #[.string x, ev] ∧ texV r = .tuple #[.string x, .int .i64 c] ∧
      ∀ u : World, Sent u a → Calls Tryd.prog 12 #[ev, .int .i64 c] u fun e w' => e = .returned (.bool true) ∧ w' = u := by
    cases r with
    | some l => exact ⟨_, .nilIface, 0, rfl, rfl, fun u _ => is_nil u⟩
    | none => exact ⟨_, eT a, 13, rfl, rfl, fun u hu => is_err u a hu⟩
  rw [e1] at C3
  rw [e2] at C4
  have C5 := hide C5
  generalize nSec s n = p at *
  generalize nNano s n = q at *
  simp only [iv] at C1 C2 C3 C4 ⊢
  have HS := hide (hS.alloc (.cells #[.int .i64 s, .int .i64 n] 24))
  have HB := hide ((Below.refl w.heap.size w).alloc (Nat.le_refl _) (.cells #[.int .i64 s, .int .i64 n] 24))
  have HT := hide (IL.new w s n)
  have hsame := fun u => same_iv u p q
  clear K KN hS e1 e2 hs hn hr
  go_enter Tryd.func4, Tryd.ntmps4
  go_wp2_with fail
  refine (unhide C0 _ (unhide HS)).mono ?_
  rintro e w1 ⟨rfl, hb1⟩
  have HB1 := hide ((unhide HB).trans (hb1.mono (unhide HB).size))
  have HS1 := hide ((unhide HS).keep hb1)
  have HT1 := hide ((unhide HT).below hb1 (unhide HT).lt)
  obtain ⟨t0, t1⟩ := (unhide HT1).cells
  clear hb1 HS C0 HB HT
  go_wp2_with fail
  refine (unhide C1 _).mono ?_
  rintro e w2 ⟨rfl, hb2⟩
  have HB2 := hide (((unhide HB1).trans (hb2.mono (unhide HB1).size)).alloc ((unhide HB1).trans (hb2.mono (unhide HB1).size)).size (.cells #[.int .i64 p, .int .i64 q] 24))
  have HS2 := hide (((unhide HS1).keep hb2).alloc (.cells #[.int .i64 p, .int .i64 q] 24))
  have HT2 := hide (((unhide HT1).below hb2 (unhide HT1).lt).alloc (.cells #[.int .i64 p, .int .i64 q] 24))
  have HX2 := hide (IL.new w2 p q)
  clear t0 t1
  obtain ⟨t0, t1⟩ := (unhide HT2).cells
  clear hb2 HB1 HS1 C1 HT1
  go_wp2_with fail
  refine (unhide C2 _).mono ?_
  rintro e w3 ⟨rfl, hb3⟩
  have HB3 := hide (((unhide HB2).trans (hb3.mono (unhide HB2).size)).alloc ((unhide HB2).trans (hb3.mono (unhide HB2).size)).size (.cells #[.int .i64 p, .int .i64 q] 24))
  have HS3 := hide (((unhide HS2).keep hb3).alloc (.cells #[.int .i64 p, .int .i64 q] 24))
  have HT3 := hide (((unhide HT2).below hb3 (unhide HT2).lt).alloc (.cells #[.int .i64 p, .int .i64 q] 24))
  have HX3 := hide (((unhide HX2).below hb3 (unhide HX2).lt).alloc (.cells #[.int .i64 p, .int .i64 q] 24))
  have HY3 := hide (IL.new w3 p q)
  clear t0 t1
  obtain ⟨t0, t1⟩ := (unhide HT3).cells
  clear hb3 HB2 HS2 C2 HT2 HX2
  go_wp2_with fail
  refine (unhide C3 _ (unhide HS3)).mono ?_
  rintro e w4 ⟨rfl, hb4⟩
  have HB4 := hide ((unhide HB3).trans (hb4.mono (unhide HB3).size))
  have HS4 := hide ((unhide HS3).keep hb4)
  have HT4 := hide ((unhide HT3).below hb4 (unhide HT3).lt)
  have HX4 := hide ((unhide HX3).below hb4 (unhide HX3).lt)
  have HY4 := hide ((unhide HY3).below hb4 (unhide HY3).lt)
  clear t0 t1
  obtain ⟨t0, t1⟩ := (unhide HT4).cells
  clear hb4 HB3 HS3 C3 HT3 HX3 HY3
  go_wp2_with fail
  refine (unhide C4 _).mono ?_
  rintro e w5 ⟨rfl, hb5⟩
  have HB5 := hide ((unhide HB4).trans (hb5.mono (unhide HB4).size))
  have HS5 := hide ((unhide HS4).keep hb5)
  obtain ⟨x0, x1⟩ := ((unhide HX4).below hb5 (unhide HX4).lt).cells
  obtain ⟨y0, y1⟩ := ((unhide HY4).below hb5 (unhide HY4).lt).cells
  clear hb5 HB4 HS4 C4 HT4 HX4 HY4 t0 t1
  go_wp2_with fail
  refine (unhide C5 _ (unhide HS5)).mono ?_
  rintro e u ⟨rfl, hu⟩
  obtain rfl := hu.symm
  clear hu C5
  go_wp2
  go_ret
  exact ⟨by simp, unhide HB5⟩

set_option maxRecDepth 100000 in
set_option maxHeartbeats 1600000 in
theorem days_any (K : StampOK) (KD : DateOK) (y m d n : Int) (w : World) (a : Addr) (hS : Sent w a) (hy : inI y) (hm : inI m) (hd : inI d) (hn : inI n) :
    Calls Tryd.prog 6 #[.int .i64 y, .int .i64 m, .int .i64 d, .int .i64 n] w fun e w' => e = .returned (.bool true) ∧ Below w.heap.size w w' := by
  have C0 := hide (fun u hu => shown_any K u a hu)
  have C1 := hide (fun u hu => K.days y m d u a hy hm hd hu)
  obtain ⟨dy, ev, c, e1, C2, C3⟩ : ∃ (dy : Int) (ev : Value) (c : Int), (if isD y m d ∧ -999999 ≤ y ∧ y ≤ 999999 then Value.tuple #[.int .i64 (dn y m d), .nilIface] else .tuple #[.int .i64 0, eT a]) = .tuple #[.int .i64 dy, ev] ∧
      (∀ u : World, Calls Tryd.prog 20 #[.int .i64 y, .int .i64 m, .int .i64 d] u fun e w' => e = .returned (.tuple #[.int .i64 dy, .int .i64 c]) ∧ w' = u) ∧
      ∀ u : World, Sent u a → Calls Tryd.prog 12 #[ev, .int .i64 c] u fun e w' => e = .returned (.bool true) ∧ w' = u := by
    by_cases h : isD y m d ∧ -999999 ≤ y ∧ y ≤ 999999
    · exact ⟨dn y m d, .nilIface, 0, if_pos h, fun u => rdays_ok y m d u h.1 h.2, fun u _ => is_nil u⟩
    · exact ⟨0, eT a, 13, if_neg h, fun u => rdays_bad y m d u h, fun u hu => is_err u a hu⟩
  rw [e1] at C1
  obtain ⟨y', m', d', hD⟩ := isDate_ex n
  have C4 := hide (fun u hu => KD n y' m' d' u a hn hD hu)
  obtain ⟨p, q, r, ev', c', e2, C5, C6⟩ : ∃ (p q r : Int) (ev' : Value) (c' : Int), dateE a y' m' d' = .tuple #[.int .i64 p, .int .i64 q, .int .i64 r, ev'] ∧
      (∀ u : World, Calls Tryd.prog 22 #[.int .i64 n] u fun e w' => e = .returned (.tuple #[.int .i64 p, .int .i64 q, .int .i64 r, .int .i64 c']) ∧ w' = u) ∧
      ∀ u : World, Sent u a → Calls Tryd.prog 12 #[ev', .int .i64 c'] u fun e w' => e = .returned (.bool true) ∧ w' = u := by
    have R := fun u => rdate_any n y' m' d' u hD
    by_cases h : -999999 ≤ y' ∧ y' ≤ 999999
    · rw [dateV_in h] at R
      exact ⟨y', m', d', .nilIface, 0, if_pos h, R, fun u _ => is_nil u⟩
    · rw [dateV_out h] at R
      exact ⟨0, 0, 0, eT a, 13, if_neg h, R, fun u hu => is_err u a hu⟩
  rw [e2] at C4
  have C2 := hide C2
  have C3 := hide C3
  have C5 := hide C5
  have C6 := hide C6
  have HS := hide hS
  clear K KD hS hy hm hd hn e1 e2 hD
  go_enter Tryd.func6, Tryd.ntmps6
  go_wp2_with fail
  refine (unhide C0 _ (unhide HS)).mono ?_
  rintro e w1 ⟨rfl, hb1⟩
  have HB1 := hide hb1
  have HS1 := hide ((unhide HS).keep hb1)
  clear hb1 HS C0
  go_wp2_with fail
  refine (unhide C1 _ (unhide HS1)).mono ?_
  rintro e w2 ⟨rfl, hb2⟩
  have HB2 := hide ((unhide HB1).trans (hb2.mono (unhide HB1).size))
  have HS2 := hide ((unhide HS1).keep hb2)
  clear hb2 HB1 HS1 C1
  go_wp2_with fail
  refine (unhide C2 _).mono ?_
  rintro e u ⟨rfl, hu⟩
  obtain rfl := hu.symm
  clear hu C2
  go_wp2_with fail
  refine (unhide C3 _ (unhide HS2)).mono ?_
  rintro e u ⟨rfl, hu⟩
  obtain rfl := hu.symm
  clear hu C3
  go_wp2_with fail
  refine (unhide C4 _ (unhide HS2)).mono ?_
  rintro e w3 ⟨rfl, hb3⟩
  have HB3 := hide ((unhide HB2).trans (hb3.mono (unhide HB2).size))
  have HS3 := hide ((unhide HS2).keep hb3)
  clear hb3 HB2 HS2 C4
  go_wp2_with fail
  refine (unhide C5 _).mono ?_
  rintro e u ⟨rfl, hu⟩
  obtain rfl := hu.symm
  clear hu C5
  go_wp2_with fail
  refine (unhide C6 _ (unhide HS3)).mono ?_
  rintro e u ⟨rfl, hu⟩
  obtain rfl := hu.symm
  clear hu C6
  go_wp2
  go_ret
  exact ⟨by simp, unhide HB3⟩
end Go.Proofs.YtemcilikchlaiaaDoor.st
