/- The head of stamp's laws: it answers true, if the calls answer as is asked. -/
import Derived.Test.YtemcilikchlaiabDoorKp
namespace Go.Proofs.YtemcilikchlaiabDoor.st
open Go.RowKit

theorem inI_of (x : Int) (h : -9223372036854775808 ≤ x) (h2 : x ≤ 9223372036854775807) : inI x := ⟨h, h2⟩

set_option maxRecDepth 100000 in
set_option maxHeartbeats 3200000 in
theorem shown_any (K : StampOK) (w : World) (a : Addr) (hS : Sent w a) :
    Calls Tryd.prog 5 #[] w fun e w' => e = .returned (.bool true) ∧ Below w.heap.size w w' := by
  have C1 := hide (fun u hu => K.parse ex1 u a (by decide) hu)
  rw [ex1_is] at C1
  have C2 := hide (fun u hu => K.text (-1) 500000000 _ u a (inI_of _ (by decide) (by decide)) (inI_of _ (by decide) (by decide)) ex3_is hu)
  have C3 := hide (fun u hu => K.days 2000 3 1 u a (inI_of _ (by decide) (by decide)) (inI_of _ (by decide) (by decide)) (inI_of _ (by decide) (by decide)) hu)
  rw [if_pos (show isD 2000 3 1 ∧ (-999999 : Int) ≤ 2000 ∧ (2000 : Int) ≤ 999999 by decide), show dn 2000 3 1 = 11017 by decide] at C3
  have C4 := hide (fun u hu => K.parse ex2 u a (by decide) hu)
  rw [ex2_is] at C4
  have C5 := hide (fun u => K.cmp 0 0 0 1 u (inI_of _ (by decide) (by decide)) (inI_of _ (by decide) (by decide)) (inI_of _ (by decide) (by decide)) (inI_of _ (by decide) (by decide)))
  rw [show cmpI 0 0 0 1 = -1 by decide] at C5
  simp only [parE, texE, iv, eT] at C1 C2 C3 C4 C5
  have HS := hide hS
  clear K hS
  go_enter Tryd.func5, Tryd.ntmps5
  go_wp2_with fail
  refine (unhide C1 _ (unhide HS)).mono ?_
  rintro e w1 ⟨rfl, hb1⟩
  have HB1 := hide (hb1.alloc hb1.size (.cells #[.int .i64 1794740405, .int .i64 250000000] 23))
  have HL1 := hide (IL.new w1 1794740405 250000000)
  have HS1 := hide (((unhide HS).keep hb1).alloc (.cells #[.int .i64 1794740405, .int .i64 250000000] 23))
  clear hb1 HS C1
  go_wp2_with fail
  refine (unhide C2 _ (unhide HS1)).mono ?_
  rintro e w2 ⟨rfl, hb2⟩
  have HB2 := hide ((unhide HB1).trans (hb2.mono (unhide HB1).size))
  have HL2 := hide ((unhide HL1).below hb2 (unhide HL1).lt)
  have HS2 := hide ((unhide HS1).keep hb2)
  clear hb2 HB1 HL1 HS1 C2
  go_wp2_with fail
  refine (unhide C3 _ (unhide HS2)).mono ?_
  rintro e w3 ⟨rfl, hb3⟩
  have HB3 := hide ((unhide HB2).trans (hb3.mono (unhide HB2).size))
  have HL3 := hide ((unhide HL2).below hb3 (unhide HL2).lt)
  have HS3 := hide ((unhide HS2).keep hb3)
  clear hb3 HB2 HL2 HS2 C3
  go_wp2_with fail
  refine (unhide C4 _ (unhide HS3)).mono ?_
  rintro e w4 ⟨rfl, hb4⟩
  have HB4 := hide ((unhide HB3).trans (hb4.mono (unhide HB3).size))
  have HL4 := hide (((unhide HL3).below hb4 (unhide HL3).lt).alloc (.cells #[.int .i64 0, .int .i64 0] 23))
  have HB4' := hide ((unhide HB4).alloc (unhide HB4).size (.cells #[.int .i64 0, .int .i64 0] 23))
  have HS4 := hide (((unhide HS3).keep hb4).alloc (.cells #[.int .i64 0, .int .i64 0] 23))
  clear hb4 HB3 HL3 HS3 C4 HB4
  go_wp2_with fail
  refine (unhide C5 _).mono ?_
  rintro e w5 ⟨rfl, hb5⟩
  have HB5 := hide ((unhide HB4').trans (hb5.mono (unhide HB4').size))
  have HL5 := hide ((unhide HL4).below hb5 (unhide HL4).lt)
  have hS5 := ((unhide HS4).keep hb5).n
  obtain ⟨p0, p1⟩ := (unhide HL5).cells
  have heq := eql_same w5 a
  clear hb5 HB4' HL4 HS4 C5 HL5
  go_wp2
  go_ret
  exact ⟨rfl, unhide HB5⟩
end Go.Proofs.YtemcilikchlaiabDoor.st
