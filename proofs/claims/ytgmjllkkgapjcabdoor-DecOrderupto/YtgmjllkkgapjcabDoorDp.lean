/- 'DecOrder' answers true, and its arguments read afterwards as they read before, for all arguments that are, with the listed variables, of bulk at most 1048576; the package variables are listed as the program's text lays them (the card's tie is given). -/
import Derived.Test.YtgmjllkkgapjcabDoorDq
import Derived.Test.YtgmjllkkgapjcabDoorCards
import Derived.Test.YtgmjllkkgapjcabDoorTie
import Derived.ProofKit
import Derived.OpenShut
import Derived.Deep.DeepHandedRow
import Derived.Deep.DeepWitnessRowRef
import Derived.Lay
import Derived.Stop.LaidErr
namespace Go.Proofs.YtgmjllkkgapjcabDoor.frDecOrder
open Go.ChangeShapes Go.WideShapes Go.ChangeAt Go.RowKit Go.Joins Go.Proofs.YtgmjllkkgapjcabDoor.rd
open Go.ChangeMaps (open_string shut_string)

theorem own : ownKnob Tryd.prog.godebug = none := by kernel_rfl
theorem cellsDec : Tryd.prog.cellsOf 23 = 3 := by kernel_rfl
theorem of_laid {W : World} (h : laidMetH Tryd.prog Rows.decOrderUptoRow.laid W) : Pow W ∧ ∃ a b, Sents W a b := by
  have h0 : laidMet Tryd.prog Rows.decOrderUptoRow.laid W := h
  have h2 := h0.tail.tail
  have h4 := h2.tail.tail
  have h5 := h4.tail
  refine ⟨?_, ?_⟩
  · exact Lib.tabIs_of_head (g := 2) (by kernel_rfl) (by kernel_rfl) Tryd.underlying107 Tryd.underlying57 (by kernel_rfl) (by kernel_rfl) h2
  · exact sents_of h4 h5

theorem short {H : Type} {a0 c0 : DataW H} {s0 : ByteArray} {a1 c1 : DataW H} {s1 : ByteArray} {a2 c2 : DataW H} {s2 : ByteArray} (hk : Rows.uptoSmall H [.agg [a0, .lit (.string s0.data.toList), c0], .agg [a1, .lit (.string s1.data.toList), c1], .agg [a2, .lit (.string s2.data.toList), c2]] = true) : s0.size ≤ 1048576 ∧ s1.size ≤ 1048576 ∧ s2.size ≤ 1048576 := by
  have h : Rows.uptoBulkAll [(.agg [a0, .lit (.string s0.data.toList), c0] : DataW H), .agg [a1, .lit (.string s1.data.toList), c1], .agg [a2, .lit (.string s2.data.toList), c2]] ≤ 1048576 := of_decide_eq_true hk
  simp only [Rows.uptoBulkAll, Rows.uptoBulk] at h
  have e0 : s0.data.toList.length = s0.size := by rw [Array.length_toList]; rfl
  have e1 : s1.data.toList.length = s1.size := by rw [Array.length_toList]; rfl
  have e2 : s2.data.toList.length = s2.size := by rw [Array.length_toList]; rfl
  omega

set_option maxRecDepth 100000 in
theorem contract (H : Type) (enc : TypeId × Value → H) (W : World) (base : Nat) (args : Array Value) (ds gs : List (DataW H)) (before : List MemPlace)
    (hval : ∀ (j : Nat) t v, Tryd.f5.params[j]? = some t → args[j]? = some v → Value.okWide Tryd.prog W .any base t v)
    (hW : DataW.Whole enc Tryd.prog Tryd.f5.params.toList Rows.decOrderSpec.vars false W args.toList ds gs before) (hL : laidMetH Tryd.prog Rows.decOrderUptoRow.laid W) (hk : Rows.uptoSmall H (ds ++ gs) = true) :
    Calls Tryd.prog 5 args W fun e W' => ∃ v, e = .returned v ∧ Rows.decOrderSpec.post enc Tryd.prog Tryd.f5 false true false false W args v W' := by
  have hW' := hW
  obtain ⟨p, q, hA0, hV, rfl, hfz, hnd⟩ := hW
  have hA : DataW.TrodAll enc Tryd.prog W 0 (fun _ => true) true Tryd.f5.params.toList args.toList ds p := hA0
  rw [Tryd.params5] at hA hval
  obtain ⟨v0, vs0, d0, ds0, p0, q0, hargs0, rfl, rfl, h0, r0⟩ := trodAll_cons hA
  obtain ⟨v1, vs1, d1, ds1, p1, q1, hargs1, rfl, rfl, h1, r1⟩ := trodAll_cons r0
  obtain ⟨v2, vs2, d2, ds2, p2, q2, hargs2, rfl, rfl, h2, r2⟩ := trodAll_cons r1
  obtain ⟨rfl, rfl, rfl⟩ := trodAll_nil r2
  obtain rfl : args = #[v0, v1, v2] := by cases args; simp_all
  obtain ⟨rfl, rfl⟩ := trodVars_none hV
  have hv0 := hval 0 23 v0 rfl rfl
  obtain ⟨c00, c01, c02, y00, y01, y02, m0, rfl, rfl, rfl, hy00, hy01, hy02⟩ := open_agg3 Tryd.underlying23 (by kernel_rfl) cellsDec hv0 h0
  obtain ⟨n0, e00, rfl⟩ := DataW.trod_bool Tryd.underlying4 hy00
  obtain ⟨g0, e01, rfl, hg0⟩ := DataW.trod_string Tryd.underlying9 hy01
  obtain ⟨x0, e02, rfl, wx0⟩ := DataW.trod_int Tryd.underlying3 hy02
  simp only [List.cons.injEq, and_true] at e00 e01 e02
  subst e00 e01 e02
  have hb0 := bounds_i64 wx0
  have hv1 := hval 1 23 v1 rfl rfl
  obtain ⟨c10, c11, c12, y10, y11, y12, m1, rfl, rfl, rfl, hy10, hy11, hy12⟩ := open_agg3 Tryd.underlying23 (by kernel_rfl) cellsDec hv1 h1
  obtain ⟨n1, e10, rfl⟩ := DataW.trod_bool Tryd.underlying4 hy10
  obtain ⟨g1, e11, rfl, hg1⟩ := DataW.trod_string Tryd.underlying9 hy11
  obtain ⟨x1, e12, rfl, wx1⟩ := DataW.trod_int Tryd.underlying3 hy12
  simp only [List.cons.injEq, and_true] at e10 e11 e12
  subst e10 e11 e12
  have hb1 := bounds_i64 wx1
  have hv2 := hval 2 23 v2 rfl rfl
  obtain ⟨c20, c21, c22, y20, y21, y22, m2, rfl, rfl, rfl, hy20, hy21, hy22⟩ := open_agg3 Tryd.underlying23 (by kernel_rfl) cellsDec hv2 h2
  obtain ⟨n2, e20, rfl⟩ := DataW.trod_bool Tryd.underlying4 hy20
  obtain ⟨g2, e21, rfl, hg2⟩ := DataW.trod_string Tryd.underlying9 hy21
  obtain ⟨x2, e22, rfl, wx2⟩ := DataW.trod_int Tryd.underlying3 hy22
  simp only [List.cons.injEq, and_true] at e20 e21 e22
  subst e20 e21 e22
  have hb2 := bounds_i64 wx2
  obtain ⟨hp, pa, pb, hv⟩ := of_laid hL
  clear hA0
  simp only [List.append_nil] at hW' hk
  have hs := short hk
  refine (decOrder_any ⟨n0, g0, x0⟩ ⟨n1, g1, x1⟩ ⟨n2, g2, x2⟩ pa pb W (by simp only; omega) (by simp only; omega) (by simp only; omega) (by simp only; omega) (by simp only; omega) (by simp only; omega) (by simp only; omega) (by simp only; omega) (by simp only; omega) hp hv).mono fun e W' ⟨he, hg⟩ => ?_
  subst he
  exact ⟨_, rfl, _, _, _, [], [], [], hW', trodAll_cons_mk (shut_bool Tryd.underlying4 _) trodAll_mk0,
    trodAll_cons_mk (shut_agg3 (y0 := (.lit (.bool n0), [])) (y1 := (.lit (.string g0.data.toList), [])) (y2 := (.lit (.int .i64 x0), [])) Tryd.underlying23 (by kernel_rfl) cellsDec ⟨1, by simp [DataW.trod, Tryd.underlying4]⟩ ⟨1, by simp [DataW.trod, Tryd.underlying9, hg0]⟩ ⟨1, by simp [DataW.trod, Tryd.underlying3, wx0]⟩) (trodAll_cons_mk (shut_agg3 (y0 := (.lit (.bool n1), [])) (y1 := (.lit (.string g1.data.toList), [])) (y2 := (.lit (.int .i64 x1), [])) Tryd.underlying23 (by kernel_rfl) cellsDec ⟨1, by simp [DataW.trod, Tryd.underlying4]⟩ ⟨1, by simp [DataW.trod, Tryd.underlying9, hg1]⟩ ⟨1, by simp [DataW.trod, Tryd.underlying3, wx1]⟩) (trodAll_cons_mk (shut_agg3 (y0 := (.lit (.bool n2), [])) (y1 := (.lit (.string g2.data.toList), [])) (y2 := (.lit (.int .i64 x2), [])) Tryd.underlying23 (by kernel_rfl) cellsDec ⟨1, by simp [DataW.trod, Tryd.underlying4]⟩ ⟨1, by simp [DataW.trod, Tryd.underlying9, hg2]⟩ ⟨1, by simp [DataW.trod, Tryd.underlying3, wx2]⟩) trodAll_mk0)),
    rfl, hg.frame _, fun h => by cases h⟩

theorem laid_met (os : Os) : laidMet Tryd.prog Rows.decOrderUptoRow.laid ((World.laidAll Tryd.prog os Rows.decOrderUptoRow.laid).forCall (fun _ _ => 0) ⟨#[], #[.agg #[.bool false, .string .empty, .int .i64 0], .agg #[.bool false, .string .empty, .int .i64 0], .agg #[.bool false, .string .empty, .int .i64 0]], []⟩).memory :=
  laidMet_laidAll _ (by kernel_rfl) (by kernel_rfl)
theorem reads (os : Os) {H : Type} (enc : TypeId × Value → H) : ∃ places, DataW.whole enc Tryd.prog ((World.laidAll Tryd.prog os Rows.decOrderUptoRow.laid).forCall (fun _ _ => 0) ⟨#[], #[.agg #[.bool false, .string .empty, .int .i64 0], .agg #[.bool false, .string .empty, .int .i64 0], .agg #[.bool false, .string .empty, .int .i64 0]], []⟩).memory Tryd.f5.params.toList Rows.decOrderSpec.vars false #[Value.agg #[.bool false, .string .empty, .int .i64 0], .agg #[.bool false, .string .empty, .int .i64 0], .agg #[.bool false, .string .empty, .int .i64 0]].toList 8 = some ([.agg [.lit (.bool false), .lit (.string []), .lit (.int .i64 0)], .agg [.lit (.bool false), .lit (.string []), .lit (.int .i64 0)], .agg [.lit (.bool false), .lit (.string []), .lit (.int .i64 0)]], [], places) :=
  ⟨[], by kernel_rfl⟩

set_option maxRecDepth 100000 in
theorem lifted (os : Os) (started : os.Started) (H : Type) (enc : TypeId × Value → H) (F : Stop.Interp) :
    ReturnsInHanded {} Tryd.checked os 5 .any ((Rows.OpenSpec.upto Rows.decOrderSpec).preRow enc Tryd.prog Tryd.f5 Rows.decOrderUptoRow.domain false Rows.decOrderUptoRow.laid) (((Rows.OpenSpec.upto Rows.decOrderSpec).at F).post enc Tryd.prog Tryd.f5 false true false false) := by
  obtain ⟨places, hx⟩ := reads os enc
  refine returnsInHanded_of_row (C := Tryd.checked) (s := Rows.OpenSpec.upto Rows.decOrderSpec) own started (by kernel_rfl) Tryd.func5
    (witness_row_atRef (enc := enc) (C := Tryd.checked) false (World.laidAll Tryd.prog os Rows.decOrderUptoRow.laid) #[.agg #[.bool false, .string .empty, .int .i64 0], .agg #[.bool false, .string .empty, .int .i64 0], .agg #[.bool false, .string .empty, .int .i64 0]] (World.laidAll_os _ _ _) (by kernel_rfl) (by kernel_rfl) (by kernel_rfl)
      (OpenSpec.preRow_of_cond 8 hx (by kernel_rfl) (fun k hk => by cases hk; kernel_rfl) (by kernel_rfl) (laid_met os))) ?_
  intro W base args ds gs before hval hW _ hcond _ hL _ _
  exact contract H enc W base args ds gs before hval hW hL (hcond _ rfl)

theorem saidUpto : Rows.DecOrderUptoSaid :=
  OpenClaim.holds_of_cond 5 Tryd.f5 rfl rfl rfl rfl rfl rfl rfl ⟨rfl, rfl, rfl, rfl, rfl⟩ rfl rfl rfl rfl rfl (by kernel_rfl) Tryd.func5 (by kernel_rfl)
    (of_decide_eq_true (by kernel_rfl)) (by unfold Func.isWrapper; first | (rw [if_pos (by decide +kernel)]; kernel_rfl) | (rw [if_neg (by decide +kernel)]; exact ⟨rfl, rfl⟩))
    (fun os started H enc _ F => by rw [OpenClaim.pre_eq_preRow]; exact lifted os started H enc F)

theorem plain (f : FuncId) (fn : Func) (hf : Tryd.pinned.checked.prog.funcNamed "voyage/voyagelaw01.DecOrder" = some f) (hfn : Tryd.pinned.checked.prog.funcs[f]? = some fn) :
    true = Tryd.pinned.checked.prog.looks [] ∧ ∀ (j : Nat) t, fn.params[j]? = some t → Tryd.pinned.checked.prog.wantsStandIn t = false := by
  obtain rfl : f = 5 := Option.some.inj ((show Tryd.prog.funcNamed "voyage/voyagelaw01.DecOrder" = some 5 by kernel_rfl).symm.trans hf) |>.symm
  obtain rfl : fn = Tryd.f5 := (Option.some.inj (Tryd.func5.symm.trans hfn)).symm
  refine ⟨by kernel_rfl, fun j t ht => ?_⟩
  rw [Tryd.params5] at ht
  have hm : t = 23 := by simpa using Array.mem_of_getElem? ht
  subst hm
  exact (show Tryd.prog.wantsStandIn 23 = false by kernel_rfl)

/-- The second form's card. -/
theorem card : Rows.DecOrderUptoCardSaid :=
  Claim7.holds_tied_plain_at .later [] _ _ _ _ saidUpto (fun _ h => by cases h) (by kernel_rfl) (fun _ h => by cases h) decOrderUpto_row_tie rfl ⟨rfl, rfl⟩ (by kernel_rfl) rfl plain (by kernel_rfl)
end Go.Proofs.YtgmjllkkgapjcabDoor.frDecOrder
namespace Go.Proofs.YtgmjllkkgapjcabDoor
theorem decOrder_upto : Rows.DecOrderUptoCardSaid := frDecOrder.card
end Go.Proofs.YtgmjllkkgapjcabDoor
