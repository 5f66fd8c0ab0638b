/- The landed package retry keeps what the laws ask of it; what its variables hold. -/
import Derived.Test.YtmnikcnjdeldeaaDoorXy
import Derived.Test.YtmnikcnjdeldeaaDoorMoG
import Derived.Test.YtmnikcnjdeldeaaDoorRows
import Derived.ProofKit
import Derived.OpenShut
import Derived.Lay
import Derived.Stop.LaidErr
namespace Go.Proofs.YtmnikcnjdeldeaaDoor.rt
open Go.ChangeShapes Go.WideShapes Go.ChangeAt Go.RowKit Go.Joins mm rd

theorem dl_ex : dlR exR 2 = 3 := by decide +kernel
theorem dl_rise (r : Rtr) (n : Int) (h1 : 1 ≤ n) : dlR r n ≤ dlR r (n + 1) := by
  unfold dlR
  exact dly_n _ (by omega) (rate9_bd _).1 (by omega)
theorem dl_bd (r : Rtr) (n : Int) : 0 ≤ dlR r n ∧ dlR r n ≤ 2147483648 := by
  unfold dlR
  have h1 := dly_le (max r.iv 0) (rate9 (sR (norm ⟨r.neg, r.digs, r.ex⟩))) (min (max n 1) 100 - 1).toNat (if r.md < 1 ∨ 2147483648 < r.md then 2147483648 else r.md)
  have h2 := dly_ge (m := max r.iv 0) (f := rate9 (sR (norm ⟨r.neg, r.digs, r.ex⟩))) (min (max n 1) 100 - 1).toNat (if r.md < 1 ∨ 2147483648 < r.md then 2147483648 else r.md) (by omega) (rate9_bd _).1
  have h3 : 1 ≤ (if r.md < 1 ∨ 2147483648 < r.md then 2147483648 else r.md) ∧ (if r.md < 1 ∨ 2147483648 < r.md then 2147483648 else r.md) ≤ 2147483648 := by split <;> omega
  omega
theorem ok_all : RetryOK GR dlR where
  keep := fun _ _ h hb => h.keep hb
  matches_ := fun l name v w _ h _ => matches_any l name v w h
  retry := fun l ch name v c w hG h hi ho hc hl => retry_any l ch name v c w hG h hi ho hc hl
  charge := fun ch p c w _ h ho hp hl => charge_any ch p c w h ho hp hl
  catch_ := fun l name v w _ h _ => catch_any l name v w h
  ex := dl_ex
  rise := fun r n _ h1 _ => dl_rise r n h1
  bd := fun r n _ _ _ => dl_bd r n

theorem sentinel {W : World} {name : String} {g : Nat} {d : DataW Unit} {nm : String} {rest : List (String × DataW Unit)} (hg : Tryd.prog.globalNamed name = some g) (ht : (Tryd.prog.globals[g]?).map (·.type) = some 68)
    (h : laidMet Tryd.prog ((name, .iface nm d) :: rest) W) : ∃ v, W.cell? ⟨g, 0, none⟩ = some v := by
  obtain ⟨ps, ⟨g1, t1, cs1, f1, p1, q1, hg1, ht1, hv1, hd1, _, _⟩, _, _⟩ := h
  obtain rfl := Option.some.inj (hg.symm.trans hg1)
  obtain rfl := Option.some.inj (ht.symm.trans ht1)
  obtain ⟨_, u, v, hcs, _, _⟩ := iface_of_trod Tryd.underlying68 hd1
  refine ⟨.iface u v, ?_⟩
  have := World.var?_cell hg1 hv1 0
  rw [← Array.getElem?_toList, hcs] at this
  simpa using this
theorem gr_of {W : World} {l : List (String × DataW Unit)} (h : laidMetH Tryd.prog l W) (hl : l = Rows.retryEndsUptoRow.laid) : GR W := by
  subst hl
  have h0 : laidMet Tryd.prog Rows.retryEndsUptoRow.laid W := h
  have h2 := h0.tail.tail
  have h4 := h2.tail.tail
  obtain ⟨eX, hX⟩ := sentinel (g := 0) (by kernel_rfl) (by kernel_rfl) h4
  refine ⟨?_, eX, hX⟩
  exact Lib.tabIs_of_head (g := 1) (by kernel_rfl) (by kernel_rfl) Tryd.underlying115 Tryd.underlying78 (by kernel_rfl) (by kernel_rfl) h2
end Go.Proofs.YtmnikcnjdeldeaaDoor.rt
