/- 'DecBack' answers true, and its arguments read afterwards as they read before, for all arguments that are, with the listed variables, of bulk at most 1048576; the package variables are listed as the program's text lays them (the card's tie is given). -/
import Derived.Test.YtgmjllkkgapjcabDoorDb
import Derived.Test.YtgmjllkkgapjcabDoorCards
import Derived.Test.YtgmjllkkgapjcabDoorTie
import Derived.ProofKit
import Derived.OpenShut
import Derived.Deep.DeepHandedRow
import Derived.Deep.DeepWitnessRowRef
import Derived.Lay
import Derived.Stop.LaidErr
namespace Go.Proofs.YtgmjllkkgapjcabDoor.frDecBack
open Go.ChangeShapes Go.WideShapes Go.ChangeAt Go.RowKit Go.Joins Go.Proofs.YtgmjllkkgapjcabDoor.rd
open Go.ChangeMaps (open_string shut_string)

theorem own : ownKnob Tryd.prog.godebug = none := by kernel_rfl
theorem cellsDec : Tryd.prog.cellsOf 23 = 3 := by kernel_rfl
theorem of_laid {W : World} (h : laidMetH Tryd.prog Rows.decBackUptoRow.laid W) : Pow W ∧ ∃ a b, Sents W a b := by
  have h0 : laidMet Tryd.prog Rows.decBackUptoRow.laid W := h
  have h2 := h0.tail.tail
  have h4 := h2.tail.tail
  have h5 := h4.tail
  refine ⟨?_, ?_⟩
  · exact Lib.tabIs_of_head (g := 2) (by kernel_rfl) (by kernel_rfl) Tryd.underlying107 Tryd.underlying57 (by kernel_rfl) (by kernel_rfl) h2
  · exact sents_of h4 h5

theorem short {H : Type} {a0 c0 : DataW H} {s0 : ByteArray} {s1 : ByteArray} (hk : Rows.uptoSmall H [.agg [a0, .lit (.string s0.data.toList), c0], .lit (.string s1.data.toList)] = true) : s0.size ≤ 1048576 ∧ s1.size ≤ 1048576 := by
  have h : Rows.uptoBulkAll [(.agg [a0, .lit (.string s0.data.toList), c0] : DataW H), .lit (.string s1.data.toList)] ≤ 1048576 := of_decide_eq_true hk
  simp only [Rows.uptoBulkAll, Rows.uptoBulk] at h
  have e0 : s0.data.toList.length = s0.size := by rw [Array.length_toList]; rfl
  have e1 : s1.data.toList.length = s1.size := by rw [Array.length_toList]; rfl
  omega

set_option maxRecDepth 100000 in
theorem contract (H : Type) (enc : TypeId × Value → H) (W : World) (base : Nat) (args : Array Value) (ds gs : List (DataW H)) (before : List MemPlace)
    (hval : ∀ (j : Nat) t v, Tryd.f3.params[j]? = some t → args[j]? = some v → Value.okWide Tryd.prog W .any base t v)
    (hW : DataW.Whole enc Tryd.prog Tryd.f3.params.toList Rows.decBackSpec.vars false W args.toList ds gs before) (hL : laidMetH Tryd.prog Rows.decBackUptoRow.laid W) (hk : Rows.uptoSmall H (ds ++ gs) = true) :
    Calls Tryd.prog 3 args W fun e W' => ∃ v, e = .returned v ∧ Rows.decBackSpec.post enc Tryd.prog Tryd.f3 false true false false W args v W' := by
  have hW' := hW
  obtain ⟨p, q, hA0, hV, rfl, hfz, hnd⟩ := hW
  have hA : DataW.TrodAll enc Tryd.prog W 0 (fun _ => true) true Tryd.f3.params.toList args.toList ds p := hA0
  rw [Tryd.params3] at hA hval
  obtain ⟨v0, vs0, d0, ds0, p0, q0, hargs0, rfl, rfl, h0, r0⟩ := trodAll_cons hA
  obtain ⟨v1, vs1, d1, ds1, p1, q1, hargs1, rfl, rfl, h1, r1⟩ := trodAll_cons r0
  obtain ⟨rfl, rfl, rfl⟩ := trodAll_nil r1
  obtain rfl : args = #[v0, v1] := by cases args; simp_all
  obtain ⟨rfl, rfl⟩ := trodVars_none hV
  have hv0 := hval 0 23 v0 rfl rfl
  obtain ⟨c00, c01, c02, y00, y01, y02, m0, rfl, rfl, rfl, hy00, hy01, hy02⟩ := open_agg3 Tryd.underlying23 (by kernel_rfl) cellsDec hv0 h0
  obtain ⟨n0, e00, rfl⟩ := DataW.trod_bool Tryd.underlying4 hy00
  obtain ⟨g0, e01, rfl, hg0⟩ := DataW.trod_string Tryd.underlying9 hy01
  obtain ⟨x0, e02, rfl, wx0⟩ := DataW.trod_int Tryd.underlying3 hy02
  simp only [List.cons.injEq, and_true] at e00 e01 e02
  subst e00 e01 e02
  have hb0 := bounds_i64 wx0
  obtain ⟨g1, rfl, rfl, rfl, hg1⟩ := open_string Tryd.underlying9 (hval 1 9 v1 rfl rfl) h1
  obtain ⟨hp, pa, pb, hv⟩ := of_laid hL
  clear hA0
  simp only [List.append_nil] at hW' hk
  have hs := short hk
  refine (decBack_any ⟨n0, g0, x0⟩ g1 pa pb W (by simp only; omega) (by omega) (by simp only; omega) (by simp only; omega) hp hv).mono fun e W' ⟨he, hg⟩ => ?_
  subst he
  exact ⟨_, rfl, _, _, _, [], [], [], hW', trodAll_cons_mk (shut_bool Tryd.underlying4 _) trodAll_mk0,
    trodAll_cons_mk (shut_agg3 (y0 := (.lit (.bool n0), [])) (y1 := (.lit (.string g0.data.toList), [])) (y2 := (.lit (.int .i64 x0), [])) Tryd.underlying23 (by kernel_rfl) cellsDec ⟨1, by simp [DataW.trod, Tryd.underlying4]⟩ ⟨1, by simp [DataW.trod, Tryd.underlying9, hg0]⟩ ⟨1, by simp [DataW.trod, Tryd.underlying3, wx0]⟩) (trodAll_cons_mk (shut_string Tryd.underlying9 hg1) trodAll_mk0),
    rfl, hg.frame _, fun h => by cases h⟩

theorem laid_met (os : Os) : laidMet Tryd.prog Rows.decBackUptoRow.laid ((World.laidAll Tryd.prog os Rows.decBackUptoRow.laid).forCall (fun _ _ => 0) ⟨#[], #[.agg #[.bool false, .string .empty, .int .i64 0], .string .empty], []⟩).memory :=
  laidMet_laidAll _ (by kernel_rfl) (by kernel_rfl)
theorem reads (os : Os) {H : Type} (enc : TypeId × Value → H) : ∃ places, DataW.whole enc Tryd.prog ((World.laidAll Tryd.prog os Rows.decBackUptoRow.laid).forCall (fun _ _ => 0) ⟨#[], #[.agg #[.bool false, .string .empty, .int .i64 0], .string .empty], []⟩).memory Tryd.f3.params.toList Rows.decBackSpec.vars false #[Value.agg #[.bool false, .string .empty, .int .i64 0], .string .empty].toList 8 = some ([.agg [.lit (.bool false), .lit (.string []), .lit (.int .i64 0)], .lit (.string [])], [], places) :=
  ⟨[], by kernel_rfl⟩

set_option maxRecDepth 100000 in
theorem lifted (os : Os) (started : os.Started) (H : Type) (enc : TypeId × Value → H) (F : Stop.Interp) :
    ReturnsInHanded {} Tryd.checked os 3 .any ((Rows.OpenSpec.upto Rows.decBackSpec).preRow enc Tryd.prog Tryd.f3 Rows.decBackUptoRow.domain false Rows.decBackUptoRow.laid) (((Rows.OpenSpec.upto Rows.decBackSpec).at F).post enc Tryd.prog Tryd.f3 false true false false) := by
  obtain ⟨places, hx⟩ := reads os enc
  refine returnsInHanded_of_row (C := Tryd.checked) (s := Rows.OpenSpec.upto Rows.decBackSpec) own started (by kernel_rfl) Tryd.func3
    (witness_row_atRef (enc := enc) (C := Tryd.checked) false (World.laidAll Tryd.prog os Rows.decBackUptoRow.laid) #[.agg #[.bool false, .string .empty, .int .i64 0], .string .empty] (World.laidAll_os _ _ _) (by kernel_rfl) (by kernel_rfl) (by kernel_rfl)
      (OpenSpec.preRow_of_cond 8 hx (by kernel_rfl) (fun k hk => by cases hk; kernel_rfl) (by kernel_rfl) (laid_met os))) ?_
  intro W base args ds gs before hval hW _ hcond _ hL _ _
  exact contract H enc W base args ds gs before hval hW hL (hcond _ rfl)

theorem saidUpto : Rows.DecBackUptoSaid :=
  OpenClaim.holds_of_cond 3 Tryd.f3 rfl rfl rfl rfl rfl rfl rfl ⟨rfl, rfl, rfl, rfl, rfl⟩ rfl rfl rfl rfl rfl (by kernel_rfl) Tryd.func3 (by kernel_rfl)
    (of_decide_eq_true (by kernel_rfl)) (by unfold Func.isWrapper; first | (rw [if_pos (by decide +kernel)]; kernel_rfl) | (rw [if_neg (by decide +kernel)]; exact ⟨rfl, rfl⟩))
    (fun os started H enc _ F => by rw [OpenClaim.pre_eq_preRow]; exact lifted os started H enc F)

theorem plain (f : FuncId) (fn : Func) (hf : Tryd.pinned.checked.prog.funcNamed "voyage/voyagelaw01.DecBack" = some f) (hfn : Tryd.pinned.checked.prog.funcs[f]? = some fn) :
    true = Tryd.pinned.checked.prog.looks [] ∧ ∀ (j : Nat) t, fn.params[j]? = some t → Tryd.pinned.checked.prog.wantsStandIn t = false := by
  obtain rfl : f = 3 := Option.some.inj ((show Tryd.prog.funcNamed "voyage/voyagelaw01.DecBack" = some 3 by kernel_rfl).symm.trans hf) |>.symm
  obtain rfl : fn = Tryd.f3 := (Option.some.inj (Tryd.func3.symm.trans hfn)).symm
  refine ⟨by kernel_rfl, fun j t ht => ?_⟩
  rw [Tryd.params3] at ht
  have hm : t = 23 ∨ t = 9 := by simpa using Array.mem_of_getElem? ht
  rcases hm with rfl | rfl
  · exact (show Tryd.prog.wantsStandIn 23 = false by kernel_rfl)
  · exact (show Tryd.prog.wantsStandIn 9 = false by kernel_rfl)

/-- The second form's card. -/
theorem card : Rows.DecBackUptoCardSaid :=
  Claim7.holds_tied_plain_at .later [] _ _ _ _ saidUpto (fun _ h => by cases h) (by kernel_rfl) (fun _ h => by cases h) decBackUpto_row_tie rfl ⟨rfl, rfl⟩ (by kernel_rfl) rfl plain (by kernel_rfl)
end Go.Proofs.YtgmjllkkgapjcabDoor.frDecBack
namespace Go.Proofs.YtgmjllkkgapjcabDoor
theorem decBack_upto : Rows.DecBackUptoCardSaid := frDecBack.card
end Go.Proofs.YtgmjllkkgapjcabDoor
