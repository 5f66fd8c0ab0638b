/- Package disk's laws: what the listed errors' variables hold when a law is called. -/
import Derived.Test.YtbcclolhfogpnaaDoorYa
import Derived.Test.YtbcclolhfogpnaaDoorRows
import Derived.Stop.LaidErr
namespace Go.Proofs.YtbcclolhfogpnaaDoor.dk
open Go.ChangeShapes Go.RowKit

theorem star : "*" ++ "errors.errorString" = "*errors.errorString" := by decide
theorem rowE (u : TypeId) (h : Tryd.prog.typeName? 3 u = some "*errors.errorString") : u = 66 :=
  typeName_ptr_named (nm := "errors.errorString") (by rw [star]; kernel_rfl) (by kernel_rfl) (by decide) u (by rw [star]; exact h)
/-- What a listed error holds, in any program: a pointer, behind it the text, in a block that isn't frozen. -/
theorem sent_any {P : Program} {n nm : String} {text : List UInt8} {r : List (String × DataW Unit)} {W : World} {g : Nat} {ti tp te ts : TypeId} {ms : Array (String × TypeId)} {f : Field}
    (h : laidMet P ((n, .iface nm (.ptr (.agg [.lit (.string text)]))) :: r) W)
    (hg : P.globalNamed n = some g) (ht : (P.globals[g]?).map (·.type) = some ti) (hi : P.underlying ti = some (.interface ms)) (hrow : ∀ u, P.typeName? 3 u = some nm → u = tp)
    (hp : P.underlying tp = some (.pointer te)) (he : P.underlying te = some (.struct #[f])) (hft : f.type = ts) (hfo : f.offset = 0) (hs : P.underlying ts = some .string) (hc : P.cellsOf te = 1) (hcs : P.cellsOf ts = 1) :
    ∃ (a : Addr) (s : ByteArray), W.cell? ⟨g, 0, none⟩ = some (.iface tp (.pointer (some a))) ∧ W.cell? a = some (.string s) ∧ s.data.toList = text ∧ ∃ c t, W.heap[a.block]? = some (.cells c t (0, 0)) := by
  obtain ⟨ps, ⟨g0, t0, cs0, f0, p0, q0, hg0, ht0, hv0, hd0, _, e0⟩, _, hrows⟩ := h
  obtain rfl := Option.some.inj (hg.symm.trans hg0)
  obtain rfl := Option.some.inj (ht.symm.trans ht0)
  subst e0
  obtain ⟨l0⟩ := cs0
  have ok0 : ∀ u v, l0 = [.iface u v] → Value.okWide P W .any 0 u v := fun u v e => by
    subst e
    exact (hrows g 0 (by simp [MemPlace.row])).2 u v (by simpa using World.var?_cell hg0 hv0 0)
  obtain ⟨a, s, rfl, hca, hsa, _, hp0⟩ := errorString_of_trod hi hrow hp he hft hfo hs hc hcs hd0 ok0
  refine ⟨a, s, ?_, hca, hsa, (hrows a.block a.off (by subst hp0; simp [MemPlace.row])).1⟩
  have := World.var?_cell hg hv0 0
  simpa using this
theorem sentinel {W : World} {name : String} {g : Nat} {text : List UInt8} {rest : List (String × DataW Unit)} (hg : Tryd.prog.globalNamed name = some g) (ht : (Tryd.prog.globals[g]?).map (·.type) = some 42)
    (h : laidMet Tryd.prog ((name, .iface "*errors.errorString" (.ptr (.agg [.lit (.string text)]))) :: rest) W) : ∃ (a : Addr) (s : ByteArray), W.cell? ⟨g, 0, none⟩ = some (.iface 66 (.pointer (some a))) ∧ W.cell? a = some (.string s) ∧ s.data.toList = text ∧ ∃ c t, W.heap[a.block]? = some (.cells c t (0, 0)) :=
  sent_any h hg ht Tryd.underlying42 rowE Tryd.underlying66 Tryd.underlying82 rfl rfl Tryd.underlying9 (by kernel_rfl) (by kernel_rfl)
theorem sents_of {W : World} {r1 r2 : List (String × DataW Unit)}
    (h1 : laidMet Tryd.prog (("voyage/api.ErrArg", Rows.laid_voyage_api_ErrArg) :: r1) W) (h2 : laidMet Tryd.prog (("voyage/api.ErrDown", Rows.laid_voyage_api_ErrDown) :: r2) W) : ∃ a b, Sent W a b := by
  obtain ⟨a, s, hN, ca, ha, la⟩ := sentinel (g := 1) (by kernel_rfl) (by kernel_rfl) h1
  obtain ⟨b, t, hX, cb, hb, lb⟩ := sentinel (g := 0) (by kernel_rfl) (by kernel_rfl) h2
  refine ⟨a, b, hN, hX, ?_, la, lb⟩
  rintro rfl
  rw [ca] at cb
  simp only [Option.some.injEq, Value.string.injEq] at cb
  subst cb
  rw [ha] at hb
  exact absurd hb (by decide)
end Go.Proofs.YtbcclolhfogpnaaDoor.dk
