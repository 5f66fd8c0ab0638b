/- Package frame's laws: arguments as they are read, and what the listed error's variable holds when a law is called. -/
import Derived.Test.YtgafjbgplcjnnaaDoorGk
import Derived.Test.YtgafjbgplcjnnaaDoorMz
import Derived.Test.YtgafjbgplcjnnaaDoorRows
import Derived.Stop.LaidErr
namespace Go.Proofs.YtgafjbgplcjnnaaDoor.fr
open Go.ChangeShapes Go.RowKit

theorem bs_by {w : World} {v : Value} {l : List UInt8} (h : mm.BY w v l) : BS w v l := by
  obtain ⟨_, oa, c, rfl, h1, h2, h3, h4⟩ := h
  refine ⟨oa, c, rfl, h1, h2, fun q => ⟨List.eq_nil_of_length_eq_zero (h3 q).1, (h3 q).2⟩, fun a ha j u hu => ?_⟩
  exact h4 a ha j _ (by rw [List.getElem?_map, hu]; rfl)
theorem ls_bys {w : World} {v : Value} {ls : List (List UInt8)} (h : mm.BYS w v ls) : LS w v ls := by
  obtain ⟨vs, hl, ⟨_, oa, c, rfl, h1, h2, h3, h4⟩, h5⟩ := h
  exact ⟨vs, hl, ⟨oa, c, rfl, h1, h2, fun q => ⟨List.eq_nil_of_length_eq_zero (h3 q).1, (h3 q).2⟩, h4⟩, fun j x l hx hm => bs_by (h5 j x l hx hm)⟩

theorem star : "*" ++ "errors.errorString" = "*errors.errorString" := by decide
theorem rowE (u : TypeId) (h : Tryd.prog.typeName? 3 u = some "*errors.errorString") : u = 59 :=
  typeName_ptr_named (nm := "errors.errorString") (by rw [star]; kernel_rfl) (by kernel_rfl) (by decide) u (by rw [star]; exact h)
/-- What a listed error holds, in any program: a pointer, behind it the text, in a block that isn't frozen. -/
theorem sent_any {P : Program} {n nm : String} {text : List UInt8} {r : List (String × DataW Unit)} {W : World} {g : Nat} {ti tp te ts : TypeId} {ms : Array (String × TypeId)} {f : Field}
    (h : laidMet P ((n, .iface nm (.ptr (.agg [.lit (.string text)]))) :: r) W)
    (hg : P.globalNamed n = some g) (ht : (P.globals[g]?).map (·.type) = some ti) (hi : P.underlying ti = some (.interface ms)) (hrow : ∀ u, P.typeName? 3 u = some nm → u = tp)
    (hp : P.underlying tp = some (.pointer te)) (he : P.underlying te = some (.struct #[f])) (hft : f.type = ts) (hfo : f.offset = 0) (hs : P.underlying ts = some .string) (hc : P.cellsOf te = 1) (hcs : P.cellsOf ts = 1) :
    ∃ (a : Addr) (s : ByteArray), W.cell? ⟨g, 0, none⟩ = some (.iface tp (.pointer (some a))) ∧ W.cell? a = some (.string s) ∧ s.data.toList = text ∧ ∃ c t, W.heap[a.block]? = some (.cells c t (0, 0)) := by
  obtain ⟨ps, ⟨g0, t0, cs0, f0, p0, q0, hg0, ht0, hv0, hd0, _, e0⟩, _, hrows⟩ := h
  obtain rfl := Option.some.inj (hg.symm.trans hg0)
  obtain rfl := Option.some.inj (ht.symm.trans ht0)
  subst e0
  obtain ⟨l0⟩ := cs0
  have ok0 : ∀ u v, l0 = [.iface u v] → Value.okWide P W .any 0 u v := fun u v e => by
    subst e
    exact (hrows g 0 (by simp [MemPlace.row])).2 u v (by simpa using World.var?_cell hg0 hv0 0)
  obtain ⟨a, s, rfl, hca, hsa, _, hp0⟩ := errorString_of_trod hi hrow hp he hft hfo hs hc hcs hd0 ok0
  refine ⟨a, s, ?_, hca, hsa, (hrows a.block a.off (by subst hp0; simp [MemPlace.row])).1⟩
  have := World.var?_cell hg hv0 0
  simpa using this
theorem sent_of {W : World} {r1 : List (String × DataW Unit)} (h1 : laidMet Tryd.prog (("voyage/api.ErrLong", Rows.laid_voyage_api_ErrLong) :: r1) W) : ∃ a, Sent W a := by
  obtain ⟨a, s, hN, _, _, la⟩ := sent_any (g := 0) h1 (by kernel_rfl) (by kernel_rfl) Tryd.underlying28 rowE Tryd.underlying59 Tryd.underlying76 rfl rfl Tryd.underlying9 (by kernel_rfl) (by kernel_rfl)
  exact ⟨a, hN, la⟩
end Go.Proofs.YtgafjbgplcjnnaaDoor.fr
