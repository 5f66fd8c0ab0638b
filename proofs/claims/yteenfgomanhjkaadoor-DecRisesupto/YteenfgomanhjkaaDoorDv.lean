/- 'DecRises' answers true, and its arguments read afterwards as they read before, for all arguments that are, with the listed variables, of bulk at most 1048576; the package variables are listed as the program's text lays them (the card's tie is given). -/
import Derived.Test.YteenfgomanhjkaaDoorDy
import Derived.Test.YteenfgomanhjkaaDoorCards
import Derived.Test.YteenfgomanhjkaaDoorTie
import Derived.ProofKit
import Derived.OpenShut
import Derived.Deep.DeepHandedRow
import Derived.Deep.DeepWitnessRowRef
import Derived.Lay
import Derived.Stop.LaidErr
namespace Go.Proofs.YteenfgomanhjkaaDoor.frDecRises
open Go.ChangeShapes Go.WideShapes Go.ChangeAt Go.RowKit Go.Joins Go.Proofs.YteenfgomanhjkaaDoor.rd
open Go.ChangeMaps (open_string shut_string)

theorem own : ownKnob Tryd.prog.godebug = none := by kernel_rfl
theorem cellsDec : Tryd.prog.cellsOf 23 = 3 := by kernel_rfl
theorem sentinel {W : World} {name : String} {g : Nat} {d : DataW Unit} {nm : String} {rest : List (String × DataW Unit)} (hg : Tryd.prog.globalNamed name = some g) (ht : (Tryd.prog.globals[g]?).map (·.type) = some 29)
    (h : laidMet Tryd.prog ((name, .iface nm d) :: rest) W) : ∃ v, W.cell? ⟨g, 0, none⟩ = some v := by
  obtain ⟨ps, ⟨g1, t1, cs1, f1, p1, q1, hg1, ht1, hv1, hd1, _, _⟩, _, _⟩ := h
  obtain rfl := Option.some.inj (hg.symm.trans hg1)
  obtain rfl := Option.some.inj (ht.symm.trans ht1)
  obtain ⟨_, u, v, hcs, _, _⟩ := iface_of_trod Tryd.underlying29 hd1
  refine ⟨.iface u v, ?_⟩
  have := World.var?_cell hg1 hv1 0
  rw [Array.eq_one_of_toList hcs] at this
  simpa using this

theorem of_laid {W : World} (h : laidMetH Tryd.prog Rows.decRisesUptoRow.laid W) : Pow W ∧ ∃ eN eX, Vars W eN eX := by
  have h0 : laidMet Tryd.prog Rows.decRisesUptoRow.laid W := h
  have h2 := h0.tail.tail
  have h4 := h2.tail.tail
  have h5 := h4.tail
  obtain ⟨eN, hN⟩ := sentinel (g := 0) (by kernel_rfl) (by kernel_rfl) h4
  obtain ⟨eX, hX⟩ := sentinel (g := 1) (by kernel_rfl) (by kernel_rfl) h5
  refine ⟨?_, eN, eX, hN, hX⟩
  exact Lib.tabIs_of_head (g := 3) (by kernel_rfl) (by kernel_rfl) Tryd.underlying98 Tryd.underlying48 (by kernel_rfl) (by kernel_rfl) h2

theorem short {H : Type} {d0 : DataW H} {a1 c1 : DataW H} {s1 : ByteArray} {d2 : DataW H} {d3 : DataW H} {d4 : DataW H} {a5 c5 : DataW H} {s5 : ByteArray} {d6 : DataW H} (hk : Rows.uptoSmall H [d0, .agg [a1, .lit (.string s1.data.toList), c1], d2, d3, d4, .agg [a5, .lit (.string s5.data.toList), c5], d6] = true) : s1.size ≤ 1048576 ∧ s5.size ≤ 1048576 := by
  have h : Rows.uptoBulkAll [(d0 : DataW H), .agg [a1, .lit (.string s1.data.toList), c1], d2, d3, d4, .agg [a5, .lit (.string s5.data.toList), c5], d6] ≤ 1048576 := of_decide_eq_true hk
  simp only [Rows.uptoBulkAll, Rows.uptoBulk] at h
  have e1 : s1.data.toList.length = s1.size := by rw [Array.length_toList]; rfl
  have e5 : s5.data.toList.length = s5.size := by rw [Array.length_toList]; rfl
  omega

set_option maxRecDepth 100000 in
theorem contract (H : Type) (enc : TypeId × Value → H) (W : World) (base : Nat) (args : Array Value) (ds gs : List (DataW H)) (before : List MemPlace)
    (hval : ∀ (j : Nat) t v, Tryd.f3.params[j]? = some t → args[j]? = some v → Value.okWide Tryd.prog W .any base t v)
    (hW : DataW.Whole enc Tryd.prog Tryd.f3.params.toList Rows.decRisesSpec.vars false W args.toList ds gs before) (hL : laidMetH Tryd.prog Rows.decRisesUptoRow.laid W) (hk : Rows.uptoSmall H (ds ++ gs) = true) :
    Calls Tryd.prog 3 args W fun e W' => ∃ v, e = .returned v ∧ Rows.decRisesSpec.post enc Tryd.prog Tryd.f3 false true false false W args v W' := by
  have hW' := hW
  obtain ⟨p, q, hA0, hV, rfl, hfz, hnd⟩ := hW
  have hA : DataW.TrodAll enc Tryd.prog W 0 (fun _ => true) true Tryd.f3.params.toList args.toList ds p := hA0
  rw [Tryd.params3] at hA hval
  obtain ⟨v0, vs0, d0, ds0, p0, q0, hargs0, rfl, rfl, h0, r0⟩ := trodAll_cons hA
  obtain ⟨v1, vs1, d1, ds1, p1, q1, hargs1, rfl, rfl, h1, r1⟩ := trodAll_cons r0
  obtain ⟨v2, vs2, d2, ds2, p2, q2, hargs2, rfl, rfl, h2, r2⟩ := trodAll_cons r1
  obtain ⟨v3, vs3, d3, ds3, p3, q3, hargs3, rfl, rfl, h3, r3⟩ := trodAll_cons r2
  obtain ⟨v4, vs4, d4, ds4, p4, q4, hargs4, rfl, rfl, h4, r4⟩ := trodAll_cons r3
  obtain ⟨v5, vs5, d5, ds5, p5, q5, hargs5, rfl, rfl, h5, r5⟩ := trodAll_cons r4
  obtain ⟨v6, vs6, d6, ds6, p6, q6, hargs6, rfl, rfl, h6, r6⟩ := trodAll_cons r5
  obtain ⟨rfl, rfl, rfl⟩ := trodAll_nil r6
  obtain rfl : args = #[v0, v1, v2, v3, v4, v5, v6] := by cases args; simp_all
  obtain ⟨rfl, rfl⟩ := trodVars_none hV
  obtain ⟨x0, rfl, rfl, rfl, wx0⟩ := open_int Tryd.underlying2 (hval 0 2 v0 rfl rfl) h0
  have hb0 := bounds_i64 wx0
  have hv1 := hval 1 23 v1 rfl rfl
  obtain ⟨c10, c11, c12, y10, y11, y12, m1, rfl, rfl, rfl, hy10, hy11, hy12⟩ := open_agg3 Tryd.underlying23 (by kernel_rfl) cellsDec hv1 h1
  obtain ⟨n1, e10, rfl⟩ := DataW.trod_bool Tryd.underlying4 hy10
  obtain ⟨g1, e11, rfl, hg1⟩ := DataW.trod_string Tryd.underlying9 hy11
  obtain ⟨x1, e12, rfl, wx1⟩ := DataW.trod_int Tryd.underlying3 hy12
  simp only [List.cons.injEq, and_true] at e10 e11 e12
  subst e10 e11 e12
  have hb1 := bounds_i64 wx1
  obtain ⟨x2, rfl, rfl, rfl, wx2⟩ := open_int Tryd.underlying3 (hval 2 3 v2 rfl rfl) h2
  have hb2 := bounds_i64 wx2
  obtain ⟨x3, rfl, rfl, rfl, wx3⟩ := open_int Tryd.underlying2 (hval 3 2 v3 rfl rfl) h3
  have hb3 := bounds_i64 wx3
  obtain ⟨x4, rfl, rfl, rfl, wx4⟩ := open_int Tryd.underlying2 (hval 4 2 v4 rfl rfl) h4
  have hb4 := bounds_i64 wx4
  have hv5 := hval 5 23 v5 rfl rfl
  obtain ⟨c50, c51, c52, y50, y51, y52, m5, rfl, rfl, rfl, hy50, hy51, hy52⟩ := open_agg3 Tryd.underlying23 (by kernel_rfl) cellsDec hv5 h5
  obtain ⟨n5, e50, rfl⟩ := DataW.trod_bool Tryd.underlying4 hy50
  obtain ⟨g5, e51, rfl, hg5⟩ := DataW.trod_string Tryd.underlying9 hy51
  obtain ⟨x5, e52, rfl, wx5⟩ := DataW.trod_int Tryd.underlying3 hy52
  simp only [List.cons.injEq, and_true] at e50 e51 e52
  subst e50 e51 e52
  have hb5 := bounds_i64 wx5
  obtain ⟨x6, rfl, rfl, rfl, wx6⟩ := open_int Tryd.underlying3 (hval 6 3 v6 rfl rfl) h6
  have hb6 := bounds_i64 wx6
  obtain ⟨hp, eN, eX, hv⟩ := of_laid hL
  clear hA0
  simp only [List.append_nil] at hW' hk
  have hs := short hk
  refine (decRises_any x0 ⟨n1, g1, x1⟩ x2 x3 x4 ⟨n5, g5, x5⟩ x6 eN eX W (by simp only; omega) (by simp only; omega) (by omega) (by omega) (by simp only; omega) (by simp only; omega) (by omega) (by omega) (by omega) (by omega) (by omega) (by omega) (by simp only; omega) (by simp only; omega) (by omega) (by omega) hp hv).mono fun e W' ⟨he, hg⟩ => ?_
  subst he
  exact ⟨_, rfl, _, _, _, [], [], [], hW', trodAll_cons_mk (shut_bool Tryd.underlying4 _) trodAll_mk0,
    trodAll_cons_mk (shut_int Tryd.underlying2 wx0) (trodAll_cons_mk (shut_agg3 (y0 := (.lit (.bool n1), [])) (y1 := (.lit (.string g1.data.toList), [])) (y2 := (.lit (.int .i64 x1), [])) Tryd.underlying23 (by kernel_rfl) cellsDec ⟨1, by simp [DataW.trod, Tryd.underlying4]⟩ ⟨1, by simp [DataW.trod, Tryd.underlying9, hg1]⟩ ⟨1, by simp [DataW.trod, Tryd.underlying3, wx1]⟩) (trodAll_cons_mk (shut_int Tryd.underlying3 wx2) (trodAll_cons_mk (shut_int Tryd.underlying2 wx3) (trodAll_cons_mk (shut_int Tryd.underlying2 wx4) (trodAll_cons_mk (shut_agg3 (y0 := (.lit (.bool n5), [])) (y1 := (.lit (.string g5.data.toList), [])) (y2 := (.lit (.int .i64 x5), [])) Tryd.underlying23 (by kernel_rfl) cellsDec ⟨1, by simp [DataW.trod, Tryd.underlying4]⟩ ⟨1, by simp [DataW.trod, Tryd.underlying9, hg5]⟩ ⟨1, by simp [DataW.trod, Tryd.underlying3, wx5]⟩) (trodAll_cons_mk (shut_int Tryd.underlying3 wx6) trodAll_mk0)))))),
    rfl, hg.frame _, fun h => by cases h⟩

theorem laid_met (os : Os) : laidMet Tryd.prog Rows.decRisesUptoRow.laid ((World.laidAll Tryd.prog os Rows.decRisesUptoRow.laid).forCall (fun _ _ => 0) ⟨#[], #[.int .i64 0, .agg #[.bool false, .string .empty, .int .i64 0], .int .i64 0, .int .i64 0, .int .i64 0, .agg #[.bool false, .string .empty, .int .i64 0], .int .i64 0], []⟩).memory :=
  laidMet_laidAll _ (by kernel_rfl) (by kernel_rfl)
theorem reads (os : Os) {H : Type} (enc : TypeId × Value → H) : ∃ places, DataW.whole enc Tryd.prog ((World.laidAll Tryd.prog os Rows.decRisesUptoRow.laid).forCall (fun _ _ => 0) ⟨#[], #[.int .i64 0, .agg #[.bool false, .string .empty, .int .i64 0], .int .i64 0, .int .i64 0, .int .i64 0, .agg #[.bool false, .string .empty, .int .i64 0], .int .i64 0], []⟩).memory Tryd.f3.params.toList Rows.decRisesSpec.vars false #[Value.int .i64 0, .agg #[.bool false, .string .empty, .int .i64 0], .int .i64 0, .int .i64 0, .int .i64 0, .agg #[.bool false, .string .empty, .int .i64 0], .int .i64 0].toList 8 = some ([.lit (.int .i64 0), .agg [.lit (.bool false), .lit (.string []), .lit (.int .i64 0)], .lit (.int .i64 0), .lit (.int .i64 0), .lit (.int .i64 0), .agg [.lit (.bool false), .lit (.string []), .lit (.int .i64 0)], .lit (.int .i64 0)], [], places) :=
  ⟨[], by kernel_rfl⟩

set_option maxRecDepth 100000 in
theorem lifted (os : Os) (started : os.Started) (H : Type) (enc : TypeId × Value → H) (F : Stop.Interp) :
    ReturnsInHanded {} Tryd.checked os 3 .any ((Rows.OpenSpec.upto Rows.decRisesSpec).preRow enc Tryd.prog Tryd.f3 Rows.decRisesUptoRow.domain false Rows.decRisesUptoRow.laid) (((Rows.OpenSpec.upto Rows.decRisesSpec).at F).post enc Tryd.prog Tryd.f3 false true false false) := by
  obtain ⟨places, hx⟩ := reads os enc
  refine returnsInHanded_of_row (C := Tryd.checked) (s := Rows.OpenSpec.upto Rows.decRisesSpec) own started (by kernel_rfl) Tryd.func3
    (witness_row_atRef (enc := enc) (C := Tryd.checked) false (World.laidAll Tryd.prog os Rows.decRisesUptoRow.laid) #[.int .i64 0, .agg #[.bool false, .string .empty, .int .i64 0], .int .i64 0, .int .i64 0, .int .i64 0, .agg #[.bool false, .string .empty, .int .i64 0], .int .i64 0] (World.laidAll_os _ _ _) (by kernel_rfl) (by kernel_rfl) (by kernel_rfl)
      (OpenSpec.preRow_of_cond 8 hx (by kernel_rfl) (fun k hk => by cases hk; kernel_rfl) (by kernel_rfl) (laid_met os))) ?_
  intro W base args ds gs before hval hW _ hcond _ hL _ _
  exact contract H enc W base args ds gs before hval hW hL (hcond _ rfl)

theorem saidUpto : Rows.DecRisesUptoSaid :=
  OpenClaim.holds_of_cond 3 Tryd.f3 rfl rfl rfl rfl rfl rfl rfl ⟨rfl, rfl, rfl, rfl, rfl⟩ rfl rfl rfl rfl rfl (by kernel_rfl) Tryd.func3 (by kernel_rfl)
    (of_decide_eq_true (by kernel_rfl)) (by unfold Func.isWrapper; first | (rw [if_pos (by decide +kernel)]; kernel_rfl) | (rw [if_neg (by decide +kernel)]; exact ⟨rfl, rfl⟩))
    (fun os started H enc _ F => by rw [OpenClaim.pre_eq_preRow]; exact lifted os started H enc F)

theorem plain (f : FuncId) (fn : Func) (hf : Tryd.pinned.checked.prog.funcNamed "voyage/voyagelaw01.DecRises" = some f) (hfn : Tryd.pinned.checked.prog.funcs[f]? = some fn) :
    false = Tryd.pinned.checked.prog.looks [] ∧ ∀ (j : Nat) t, fn.params[j]? = some t → Tryd.pinned.checked.prog.wantsStandIn t = false := by
  obtain rfl : f = 3 := Option.some.inj ((show Tryd.prog.funcNamed "voyage/voyagelaw01.DecRises" = some 3 by kernel_rfl).symm.trans hf) |>.symm
  obtain rfl : fn = Tryd.f3 := (Option.some.inj (Tryd.func3.symm.trans hfn)).symm
  refine ⟨by kernel_rfl, fun j t ht => ?_⟩
  rw [Tryd.params3] at ht
  have hm : t = 2 ∨ t = 23 ∨ t = 3 := by have := Array.mem_of_getElem? ht; simp at this; grind
  rcases hm with rfl | rfl | rfl
  · exact (show Tryd.prog.wantsStandIn 2 = false by kernel_rfl)
  · exact (show Tryd.prog.wantsStandIn 23 = false by kernel_rfl)
  · exact (show Tryd.prog.wantsStandIn 3 = false by kernel_rfl)

/-- The second form's card. -/
theorem card : Rows.DecRisesUptoCardSaid :=
  Claim7.holds_tied_plain_at .later [] _ _ _ _ saidUpto (fun _ h => by cases h) (by kernel_rfl) (fun _ h => by cases h) decRisesUpto_row_tie rfl ⟨rfl, rfl⟩ (by kernel_rfl) rfl plain (by kernel_rfl)
end Go.Proofs.YteenfgomanhjkaaDoor.frDecRises
namespace Go.Proofs.YteenfgomanhjkaaDoor
theorem decRises_upto : Rows.DecRisesUptoCardSaid := frDecRises.card
end Go.Proofs.YteenfgomanhjkaaDoor
