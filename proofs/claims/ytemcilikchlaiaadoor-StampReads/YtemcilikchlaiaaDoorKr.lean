/- StampReads answers true, if the calls answer as is asked. -/
import Derived.Test.YtemcilikchlaiaaDoorKs
import Derived.Test.YtemcilikchlaiaaDoorKi
import Derived.Test.YtemcilikchlaiaaDoorKh
namespace Go.Proofs.YtemcilikchlaiaaDoor.st
open Go.RowKit

theorem rparse_any (s : ByteArray) (w : World) (hs : s.size ≤ 9223372036854775807) :
    Calls Tryd.prog 11 #[.string s] w fun e w' => e = .returned (parV (parseT s)) ∧ Below w.heap.size w w' := by
  by_cases h : headP s
  · exact rparse_ok s w hs h
  · have hn : parseT s = none := by
      unfold parseT
      rw [if_neg (fun z => h (headP_of z))]
    rw [hn]
    exact rparse_bad s w h
set_option maxRecDepth 100000 in
set_option maxHeartbeats 1600000 in
theorem reads_any (K : StampOK) (s : ByteArray) (w : World) (a : Addr) (hS : Sent w a) (hs : s.size ≤ 9223372036854775807) :
    Calls Tryd.prog 3 #[.string s] w fun e w' => e = .returned (.bool true) ∧ Below w.heap.size w w' := by
  have C0 := hide (fun u hu => shown_any K u a hu)
  have C1 := hide (fun u hu => K.parse s u a hs hu)
  have C2 := hide (fun u => rparse_any s u hs)
  obtain ⟨p, q, ev, c, e1, e2, C3⟩ : ∃ (p q : Int) (ev : Value) (c : Int), parE a (parseT s) = .tuple #[iv p q, ev] ∧ parV (parseT s) = .tuple #[iv p q, .int .i64 c] ∧ ∀ u : World, Sent u a → Calls Tryd.prog 12 #[ev, .int .i64 c] u fun e w' => e = .returned (.bool true) ∧ w' = u := by
    cases h : parseT s with
    | some r => exact ⟨r.1, r.2, .nilIface, 0, rfl, rfl, fun u _ => is_nil u⟩
    | none => exact ⟨0, 0, eT a, 13, rfl, rfl, fun u hu => is_err u a hu⟩
  rw [e1] at C1
  rw [e2] at C2
  have C3 := hide C3
  simp only [iv] at C1 C2
  have HS := hide hS
  have hsame := fun u => same_iv u p q
  clear K hS e1 e2 hs
  go_enter Tryd.func3, Tryd.ntmps3
  go_wp2_with fail
  refine (unhide C0 _ (unhide HS)).mono ?_
  rintro e w1 ⟨rfl, hb1⟩
  have HB1 := hide hb1
  have HS1 := hide ((unhide HS).keep hb1)
  clear hb1 HS C0
  go_wp2_with fail
  refine (unhide C1 _ (unhide HS1)).mono ?_
  rintro e w2 ⟨rfl, hb2⟩
  have HB2 := hide (((unhide HB1).trans (hb2.mono (unhide HB1).size)).alloc ((unhide HB1).trans (hb2.mono (unhide HB1).size)).size (.cells #[.int .i64 p, .int .i64 q] 24))
  have HX := hide (IL.new w2 p q)
  have HS2 := hide (((unhide HS1).keep hb2).alloc (.cells #[.int .i64 p, .int .i64 q] 24))
  clear hb2 HB1 HS1 C1
  go_wp2_with fail
  refine (unhide C2 _).mono ?_
  rintro e w3 ⟨rfl, hb3⟩
  have HB3 := hide (((unhide HB2).trans (hb3.mono (unhide HB2).size)).alloc ((unhide HB2).trans (hb3.mono (unhide HB2).size)).size (.cells #[.int .i64 p, .int .i64 q] 24))
  have HX3 := hide (((unhide HX).below hb3 (unhide HX).lt).alloc (.cells #[.int .i64 p, .int .i64 q] 24))
  have HY3 := hide (IL.new w3 p q)
  have HS3 := hide (((unhide HS2).keep hb3).alloc (.cells #[.int .i64 p, .int .i64 q] 24))
  obtain ⟨x0, x1⟩ := (unhide HX3).cells
  obtain ⟨y0, y1⟩ := (unhide HY3).cells
  clear hb3 HB2 HS2 C2 HX
  go_wp2_with fail
  refine (unhide C3 _ (unhide HS3)).mono ?_
  rintro e u ⟨rfl, hu⟩
  obtain rfl := hu.symm
  clear hu C3
  go_wp2
  go_ret
  exact ⟨rfl, unhide HB3⟩
end Go.Proofs.YtemcilikchlaiaaDoor.st
