/- 'StampOrders' answers true, and its arguments read afterwards as they read before, for all arguments; the package variable is listed as the program's text lays it (the card's tie is given). -/
import Derived.Test.YtemcilikchlaiabDoorKz
import Derived.Test.YtemcilikchlaiabDoorMg
import Derived.Test.YtemcilikchlaiabDoorCards
import Derived.Test.YtemcilikchlaiabDoorTie
import Derived.ProofKit
import Derived.OpenShut
import Derived.Deep.DeepHandedRow
import Derived.Deep.DeepWitnessRowRef
import Derived.Lay
import Derived.Stop.LaidErr
namespace Go.Proofs.YtemcilikchlaiabDoor.frStampOrders
open Go.ChangeShapes Go.WideShapes Go.ChangeAt Go.RowKit Go.Joins Go.Proofs.YtemcilikchlaiabDoor.st
open Go.ChangeMaps (open_string shut_string)

theorem own : ownKnob Tryd.prog.godebug = none := by kernel_rfl
theorem cellsI : Tryd.prog.cellsOf 23 = 2 := by kernel_rfl
theorem of_laid {W : World} (h : laidMetH Tryd.prog Rows.stampOrdersRow.laid W) : ∃ a, Sent W a := by
  have h0 : laidMet Tryd.prog Rows.stampOrdersRow.laid W := h
  have h2 := h0.tail.tail
  have h4 := h2.tail.tail
  exact sent_of h4 h2

set_option maxRecDepth 100000 in
theorem contract (H : Type) (enc : TypeId × Value → H) (W : World) (base : Nat) (args : Array Value) (ds gs : List (DataW H)) (before : List MemPlace)
    (hval : ∀ (j : Nat) t v, Tryd.f3.params[j]? = some t → args[j]? = some v → Value.okWide Tryd.prog W .any base t v)
    (hW : DataW.Whole enc Tryd.prog Tryd.f3.params.toList Rows.stampOrdersSpec.vars false W args.toList ds gs before) (hL : laidMetH Tryd.prog Rows.stampOrdersRow.laid W) :
    Calls Tryd.prog 3 args W fun e W' => ∃ v, e = .returned v ∧ Rows.stampOrdersSpec.post enc Tryd.prog Tryd.f3 false true false false W args v W' := by
  have hW' := hW
  obtain ⟨p, q, hA0, hV, rfl, hfz, hnd⟩ := hW
  have hA : DataW.TrodAll enc Tryd.prog W 0 (fun _ => true) true Tryd.f3.params.toList args.toList ds p := hA0
  rw [Tryd.params3] at hA hval
  obtain ⟨v0, vs0, d0, ds0, p0, q0, hargs0, rfl, rfl, h0, r0⟩ := trodAll_cons hA
  obtain ⟨v1, vs1, d1, ds1, p1, q1, hargs1, rfl, rfl, h1, r1⟩ := trodAll_cons r0
  obtain ⟨v2, vs2, d2, ds2, p2, q2, hargs2, rfl, rfl, h2, r2⟩ := trodAll_cons r1
  obtain ⟨rfl, rfl, rfl⟩ := trodAll_nil r2
  obtain rfl : args = #[v0, v1, v2] := by cases args; simp_all
  obtain ⟨rfl, rfl⟩ := trodVars_none hV
  have hv0 := hval 0 23 v0 rfl rfl
  obtain ⟨c00, c01, y00, y01, m0, rfl, rfl, rfl, hy00, hy01⟩ := open_agg2 Tryd.underlying23 (by kernel_rfl) cellsI hv0 h0
  obtain ⟨s0, e00, rfl, ws0⟩ := DataW.trod_int Tryd.underlying2 hy00
  obtain ⟨x0, e01, rfl, wx0⟩ := DataW.trod_int Tryd.underlying3 hy01
  simp only [List.cons.injEq, and_true] at e00 e01
  subst e00 e01
  have ha0 := bounds_i64 ws0
  have hb0 := bounds_i64 wx0
  have hv1 := hval 1 23 v1 rfl rfl
  obtain ⟨c10, c11, y10, y11, m1, rfl, rfl, rfl, hy10, hy11⟩ := open_agg2 Tryd.underlying23 (by kernel_rfl) cellsI hv1 h1
  obtain ⟨s1, e10, rfl, ws1⟩ := DataW.trod_int Tryd.underlying2 hy10
  obtain ⟨x1, e11, rfl, wx1⟩ := DataW.trod_int Tryd.underlying3 hy11
  simp only [List.cons.injEq, and_true] at e10 e11
  subst e10 e11
  have ha1 := bounds_i64 ws1
  have hb1 := bounds_i64 wx1
  have hv2 := hval 2 23 v2 rfl rfl
  obtain ⟨c20, c21, y20, y21, m2, rfl, rfl, rfl, hy20, hy21⟩ := open_agg2 Tryd.underlying23 (by kernel_rfl) cellsI hv2 h2
  obtain ⟨s2, e20, rfl, ws2⟩ := DataW.trod_int Tryd.underlying2 hy20
  obtain ⟨x2, e21, rfl, wx2⟩ := DataW.trod_int Tryd.underlying3 hy21
  simp only [List.cons.injEq, and_true] at e20 e21
  subst e20 e21
  have ha2 := bounds_i64 ws2
  have hb2 := bounds_i64 wx2
  obtain ⟨pa, hv⟩ := of_laid hL
  clear hA0
  simp only [List.append_nil] at hW'
  refine (orders_any stampOK normOK s0 x0 s1 x1 s2 x2 W pa hv ⟨by omega, by omega⟩ ⟨by omega, by omega⟩ ⟨by omega, by omega⟩ ⟨by omega, by omega⟩ ⟨by omega, by omega⟩ ⟨by omega, by omega⟩).mono fun e W' ⟨he, hg⟩ => ?_
  subst he
  exact ⟨_, rfl, _, _, _, [], [], [], hW', trodAll_cons_mk (shut_bool Tryd.underlying4 _) trodAll_mk0,
    trodAll_cons_mk (shut_agg2 (y0 := (.lit (.int .i64 s0), [])) (y1 := (.lit (.int .i64 x0), [])) Tryd.underlying23 (by kernel_rfl) cellsI ⟨1, by simp [DataW.trod, Tryd.underlying2, ws0]⟩ ⟨1, by simp [DataW.trod, Tryd.underlying3, wx0]⟩) (trodAll_cons_mk (shut_agg2 (y0 := (.lit (.int .i64 s1), [])) (y1 := (.lit (.int .i64 x1), [])) Tryd.underlying23 (by kernel_rfl) cellsI ⟨1, by simp [DataW.trod, Tryd.underlying2, ws1]⟩ ⟨1, by simp [DataW.trod, Tryd.underlying3, wx1]⟩) (trodAll_cons_mk (shut_agg2 (y0 := (.lit (.int .i64 s2), [])) (y1 := (.lit (.int .i64 x2), [])) Tryd.underlying23 (by kernel_rfl) cellsI ⟨1, by simp [DataW.trod, Tryd.underlying2, ws2]⟩ ⟨1, by simp [DataW.trod, Tryd.underlying3, wx2]⟩) trodAll_mk0)),
    rfl, hg.frame _, fun h => by cases h⟩

theorem laid_met (os : Os) : laidMet Tryd.prog Rows.stampOrdersRow.laid ((World.laidAll Tryd.prog os Rows.stampOrdersRow.laid).forCall (fun _ _ => 0) ⟨#[], #[.agg #[.int .i64 0, .int .i64 0], .agg #[.int .i64 0, .int .i64 0], .agg #[.int .i64 0, .int .i64 0]], []⟩).memory :=
  laidMet_laidAll _ (by kernel_rfl) (by kernel_rfl)
theorem reads (os : Os) {H : Type} (enc : TypeId × Value → H) : ∃ places, DataW.whole enc Tryd.prog ((World.laidAll Tryd.prog os Rows.stampOrdersRow.laid).forCall (fun _ _ => 0) ⟨#[], #[.agg #[.int .i64 0, .int .i64 0], .agg #[.int .i64 0, .int .i64 0], .agg #[.int .i64 0, .int .i64 0]], []⟩).memory Tryd.f3.params.toList Rows.stampOrdersSpec.vars false #[Value.agg #[.int .i64 0, .int .i64 0], .agg #[.int .i64 0, .int .i64 0], .agg #[.int .i64 0, .int .i64 0]].toList 8 = some ([.agg [.lit (.int .i64 0), .lit (.int .i64 0)], .agg [.lit (.int .i64 0), .lit (.int .i64 0)], .agg [.lit (.int .i64 0), .lit (.int .i64 0)]], [], places) :=
  ⟨[], by kernel_rfl⟩

set_option maxRecDepth 100000 in
theorem lifted (os : Os) (started : os.Started) (H : Type) (enc : TypeId × Value → H) (F : Stop.Interp) :
    ReturnsInHanded {} Tryd.checked os 3 .any ((OpenSpec.ofChange Rows.stampOrdersSpec).preRow enc Tryd.prog Tryd.f3 Rows.stampOrdersRow.domain false Rows.stampOrdersRow.laid) (((OpenSpec.ofChange Rows.stampOrdersSpec).at F).post enc Tryd.prog Tryd.f3 false true false false) := by
  obtain ⟨places, hx⟩ := reads os enc
  refine returnsInHanded_of_row (C := Tryd.checked) (s := OpenSpec.ofChange Rows.stampOrdersSpec) own started (by kernel_rfl) Tryd.func3
    (witness_row_atRef (enc := enc) (C := Tryd.checked) false (World.laidAll Tryd.prog os Rows.stampOrdersRow.laid) #[.agg #[.int .i64 0, .int .i64 0], .agg #[.int .i64 0, .int .i64 0], .agg #[.int .i64 0, .int .i64 0]] (World.laidAll_os _ _ _) (by kernel_rfl) (by kernel_rfl) (by kernel_rfl)
      (OpenSpec.preRow_of_cond 8 hx (by kernel_rfl) (fun k hk => by cases hk) (by kernel_rfl) (laid_met os))) ?_
  intro W base args ds gs before hval hW _ _ _ hL _ _
  exact contract H enc W base args ds gs before hval hW hL

theorem said : Rows.StampOrdersSaid :=
  OpenClaim.holds_of_cond 3 Tryd.f3 rfl rfl rfl rfl rfl rfl rfl ⟨rfl, rfl, rfl, rfl, rfl⟩ rfl rfl rfl rfl rfl (by kernel_rfl) Tryd.func3 (by kernel_rfl)
    (of_decide_eq_true (by kernel_rfl)) (by unfold Func.isWrapper; first | (rw [if_pos (by decide +kernel)]; kernel_rfl) | (rw [if_neg (by decide +kernel)]; exact ⟨rfl, rfl⟩))
    (fun os started H enc _ F => by rw [OpenClaim.pre_eq_preRow]; exact lifted os started H enc F)

theorem plain (f : FuncId) (fn : Func) (hf : Tryd.pinned.checked.prog.funcNamed "voyage/voyagelaw06.StampOrders" = some f) (hfn : Tryd.pinned.checked.prog.funcs[f]? = some fn) :
    true = Tryd.pinned.checked.prog.looks [] ∧ ∀ (j : Nat) t, fn.params[j]? = some t → Tryd.pinned.checked.prog.wantsStandIn t = false := by
  obtain rfl : f = 3 := Option.some.inj ((show Tryd.prog.funcNamed "voyage/voyagelaw06.StampOrders" = some 3 by kernel_rfl).symm.trans hf) |>.symm
  obtain rfl : fn = Tryd.f3 := (Option.some.inj (Tryd.func3.symm.trans hfn)).symm
  refine ⟨by kernel_rfl, fun j t ht => ?_⟩
  rw [Tryd.params3] at ht
  have hm : t = 23 := by have := Array.mem_of_getElem? ht; simp at this; grind
  subst hm
  exact (show Tryd.prog.wantsStandIn 23 = false by kernel_rfl)

/-- The card. -/
theorem card : Rows.StampOrdersCardSaid :=
  Claim7.holds_tied_plain_at .later [] _ _ _ _ said (fun _ h => by cases h) (by kernel_rfl) (fun _ h => by cases h) stampOrders_row_tie rfl ⟨rfl, rfl⟩ (by kernel_rfl) rfl plain (by kernel_rfl)
end Go.Proofs.YtemcilikchlaiabDoor.frStampOrders
namespace Go.Proofs.YtemcilikchlaiabDoor
theorem stampOrders_card : Rows.StampOrdersCardSaid := frStampOrders.card
end Go.Proofs.YtemcilikchlaiabDoor
