/- StampCmps answers true, if the calls answer as is asked; what the reference's Text answers. -/
import Derived.Test.YtemcilikchlaiaaDoorKq
namespace Go.Proofs.YtemcilikchlaiaaDoor.st
open Go.RowKit

/-- What the reference's Text answers. -/
def texV : Option (List UInt8) → Value
  | some l => .tuple #[.string ⟨l.toArray⟩, .int .i64 0]
  | none => .tuple #[.string ⟨#[]⟩, .int .i64 13]
theorem rtext_any (s n : Int) (r : Option (List UInt8)) (w : World) (hs : inI s) (hn : inI n) (h : isText s n r) :
    Calls Tryd.prog 16 #[iv s n] w fun e w' => e = .returned (texV r) ∧ Below w.heap.size w w' := by
  rcases h with ⟨rfl, h⟩ | ⟨R, nn, y, m, d, h1, h2, h3, h4, rfl⟩
  · exact rtext_out s n w hs.1 hs.2 hn.1 hn.2 h
  · exact rtext_in s n w hs.1 hs.2 hn.1 hn.2 R nn y m d h1 h2 h3 h4
theorem same_iv (w : World) (a b : Int) : (binOp .eql 24 (.agg #[.int .i64 a, .int .i64 b]) (.agg #[.int .i64 a, .int .i64 b])).run Tryd.prog w = .ok (.bool true) w := by
  rw [eq_iv]
  simp

set_option maxRecDepth 100000 in
set_option maxHeartbeats 1600000 in
theorem cmps_any (K : StampOK) (s n s' n' : Int) (w : World) (a : Addr) (hS : Sent w a) (hs : inI s) (hn : inI n) (hs' : inI s') (hn' : inI n') :
    Calls Tryd.prog 5 #[iv s n, iv s' n'] w fun e w' => e = .returned (.bool true) ∧ Below w.heap.size w w' := by
  have C0 := hide (fun u hu => shown_any K u a hu)
  have C1 := hide (fun u => K.cmp s n s' n' u hs hn hs' hn')
  have C2 := hide (fun u => rcmp_any s n s' n' u hs.1 hs.2 hn.1 hn.2 hs'.1 hs'.2 hn'.1 hn'.2)
  generalize cmpI s n s' n' = c at *
  simp only [iv] at C1 C2 ⊢
  have HS := hide ((hS.alloc (.cells #[.int .i64 s, .int .i64 n] 24)).alloc (.cells #[.int .i64 s', .int .i64 n'] 24))
  have HB := hide (((Below.refl w.heap.size w).alloc (Nat.le_refl _) (.cells #[.int .i64 s, .int .i64 n] 24)).alloc (by simp) (.cells #[.int .i64 s', .int .i64 n'] 24))
  have HX := hide ((IL.new w s n).alloc (.cells #[.int .i64 s', .int .i64 n'] 24))
  have HY := hide (show IL ((w.alloc (.cells #[.int .i64 s, .int .i64 n] 24)).alloc (.cells #[.int .i64 s', .int .i64 n'] 24)) (w.heap.size + 1) s' n' by
    have := IL.new (w.alloc (.cells #[.int .i64 s, .int .i64 n] 24)) s' n'
    rwa [World.size_alloc] at this)
  clear hs hn hs' hn' K hS
  go_enter Tryd.func5, Tryd.ntmps5
  go_wp2_with fail
  refine (unhide C0 _ (unhide HS)).mono ?_
  rintro e w1 ⟨rfl, hb1⟩
  have HB1 := hide ((unhide HB).trans (hb1.mono (unhide HB).size))
  have HX1 := hide ((unhide HX).below hb1 (unhide HX).lt)
  have HY1 := hide ((unhide HY).below hb1 (unhide HY).lt)
  obtain ⟨x0, x1⟩ := (unhide HX1).cells
  obtain ⟨y0, y1⟩ := (unhide HY1).cells
  clear hb1 HB HX HY HS C0
  go_wp2_with fail
  refine (unhide C1 _).mono ?_
  rintro e w2 ⟨rfl, hb2⟩
  have HB2 := hide ((unhide HB1).trans (hb2.mono (unhide HB1).size))
  clear x0 x1 y0 y1
  obtain ⟨x0, x1⟩ := ((unhide HX1).below hb2 (unhide HX1).lt).cells
  obtain ⟨y0, y1⟩ := ((unhide HY1).below hb2 (unhide HY1).lt).cells
  clear hb2 HB1 HX1 HY1 C1
  go_wp2_with fail
  refine (unhide C2 _).mono ?_
  rintro e w3 ⟨rfl, hb3⟩
  have HB3 := hide ((unhide HB2).trans (hb3.mono (unhide HB2).size))
  clear hb3 HB2 x0 x1 y0 y1 C2
  go_wp2
  go_ret
  exact ⟨by simp, unhide HB3⟩

end Go.Proofs.YtemcilikchlaiaaDoor.st
