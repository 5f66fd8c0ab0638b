/- Texts in one: Ws -/
import Derived.Test.YtencpkjhdgodgaaGreatDoorWoP
import Derived.Test.YtencpkjhdgodgaaGreatDoorMoP
import Derived.Below
import Derived.Lib.SmallJoins
import Derived.Test.YtencpkjhdgodgaaGreatDoorCards
import Derived.Test.YtencpkjhdgodgaaGreatDoorTie
import Derived.ProofKit
import Derived.OpenShut
import Derived.Deep.DeepHandedRow
import Derived.Deep.DeepWitnessRowRef
import Derived.Lay
import Derived.LaidHandle
import Derived.Stop.LaidErr
namespace Go.Proofs.YtencpkjhdgodgaaGreatDoor.frJsonTexts
open Go.ChangeShapes Go.WideShapes Go.ChangeAt Go.RowKit Go.Joins
open Go.ChangeMaps (open_string shut_string)
theorem own:ownKnob Tryz.prog.godebug=none:=by kernel_rfl
theorem kids:Kids Tryz.prog (· < Tryz.prog.types.size):=kids_rows (by kernel_rfl) (by kernel_rfl)
theorem full:∀ t e,t < Tryz.prog.types.size→Tryz.prog.underlying t=some (.slice e)→0 < Tryz.prog.cellsOf e:=slices_full_of Tryz.prog (by kernel_rfl)
def Ans:Prop:=∀ (g0:ByteArray) (W:World),laidMetH Tryz.prog Rows.jsonTextsRow.laid W→W.ShapedOpen Tryz.prog→g0.size≤maxLen→Calls Tryz.prog 8 #[.string g0] W fun e w'=>e=.returned (.bool true)∧Below W.heap.size W w'
theorem sized:∀ t∈Tryz.f8.params.toList,t < Tryz.prog.types.size:=by
 rw [Tryz.params8]
 have h:(([9]:List TypeId).all fun t=>decide (t < Tryz.prog.types.size))=true:=by kernel_rfl
 intro t ht
 exact of_decide_eq_true (List.all_eq_true.mp h t ht)
set_option maxRecDepth 100000 in
theorem contract (K:Ans) (H:Type) (enc:TypeId × Value→H) (W:World) (base:Nat) (args:Array Value) (ds gs:List (DataW H)) (before:List MemPlace)
 (hval:∀ (j:Nat) t v,Tryz.f8.params[j]?=some t→args[j]?=some v→Value.okWide Tryz.prog W .any base t v)
 (hW:DataW.Whole enc Tryz.prog Tryz.f8.params.toList Rows.jsonTextsSpec.vars false W args.toList ds gs before) (hL:laidMetH Tryz.prog Rows.jsonTextsRow.laid W) (hSh:W.ShapedOpen Tryz.prog) :
 Calls Tryz.prog 8 args W fun e W'=>∃ v,e=.returned v∧Rows.jsonTextsSpec.post enc Tryz.prog Tryz.f8 false true false false W args v W':=by
 have hW':=hW
 obtain ⟨p,q,hA0,hV,rfl,hfz,hnd⟩:=hW
 have hA:DataW.TrodAll enc Tryz.prog W 0 (fun _=>true) true Tryz.f8.params.toList args.toList ds p:=hA0
 rw [Tryz.params8] at hA hval
 obtain ⟨v0,vs0,d0,ds0,p0,q0,hargs0,rfl,rfl,h0,r0⟩:=trodAll_cons hA
 obtain ⟨rfl,rfl,rfl⟩:=trodAll_nil r0
 obtain rfl:args=#[v0]:=by cases args;simp_all
 obtain ⟨rfl,rfl⟩:=trodVars_none hV
 simp only [List.append_nil] at hW'
 obtain ⟨g0,rfl,rfl,rfl,hg0⟩:=open_string Tryz.underlying9 (hval 0 9 v0 rfl rfl) h0
 refine (K g0 W hL hSh hg0).mono fun e W' ⟨he,hg⟩=>?_
 subst he
 exact ⟨_,rfl,_,_,_,[],_,[],hW',trodAll_cons_mk (shut_bool Tryz.underlying4 _) trodAll_mk0,mm.all_stays kids full hg sized hA0,rfl,hg.frame _,fun h=>by cases h⟩
noncomputable def hw (os:Os):World :=
 let w0:=World.holding Tryz.prog os ⟨#[],#[],[]⟩
 { w0 with heap:=w0.heap.modify 7 fun
  | .cells _ t frozen=>.cells #[.iface 149 (.agg #[.pointer (some ⟨16,30,none⟩)])] t frozen
  | o=>o }
noncomputable def LW (os:Os):World:=(hw os).layVars Tryz.prog rd.wo.plainL
theorem LW_os (os:Os):(LW os).os=os:=(World.layVars_os _ _ _).trans rfl
theorem LW_fits (os:Os):(hw os).layFits Tryz.prog rd.wo.plainL []=true:=by kernel_rfl
theorem LW_ifaces (os:Os):(hw os).layIfaces Tryz.prog rd.wo.plainL (LW os)=true:=by kernel_rfl
theorem plain_met (os:Os) (args:Array Value):laidMet Tryz.prog rd.wo.plainL ((LW os).forCall (fun _ _=>0) ⟨#[],args,[]⟩).memory:=by
 have e1:(rd.wo.plainL.filter fun x=>(rd.wo.plainL.map (·.1)).contains x.1)=rd.wo.plainL:=List.filter_eq_self.2 fun x hx=>List.contains_iff_mem.2 (List.mem_map.2 ⟨x,hx,rfl⟩)
 have e2:(rd.wo.plainL.filter fun x=>!(rd.wo.plainL.map (·.1)).contains x.1)=[]:=List.filter_eq_nil_iff.2 fun x hx=>by rw [List.contains_iff_mem.2 (List.mem_map.2 ⟨x,hx,rfl⟩)];simp
 have h:laidMet Tryz.prog rd.wo.plainL (LW os):=laidMet_layVars (w0:=hw os) (rd.wo.plainL.map (·.1)) [] (by rw [e1];rfl) (by rw [e1];exact LW_fits os) (by rw [e1];exact LW_ifaces os) (by rw [e2];exact LaidIn.none)
 exact h.of_heap (by simp [World.memory,World.forCall,Input.heap])
theorem laid_met (os:Os):laidMetH Tryz.prog Rows.jsonTextsRow.laid ((LW os).forCall (fun _ _=>0) ⟨#[],#[.string .empty],[]⟩).memory :=
 laidMetH_of_parts (by rw [show (Rows.jsonTextsRow.laid.filter fun x=>x.2.handleName?.isNone)=rd.wo.plainL from rd.wo.filter_none];exact plain_met os _) (by rw [show (Rows.jsonTextsRow.laid.filter fun x=>x.2.handleName?.isSome)=rd.wo.handL from rd.wo.filter_some];kernel_rfl)
theorem reads (os:Os) {H:Type} (enc:TypeId × Value→H):∃ places,DataW.whole enc Tryz.prog ((LW os).forCall (fun _ _=>0) ⟨#[],#[.string .empty],[]⟩).memory Tryz.f8.params.toList Rows.jsonTextsSpec.vars false #[Value.string .empty].toList 8=some ([.lit (.string [])],[],places) :=
 ⟨[],by kernel_rfl⟩
set_option maxRecDepth 100000 in
theorem lifted (K:Ans) (os:Os) (started:os.Started) (H:Type) (enc:TypeId × Value→H) (F:Stop.Interp) :
 ReturnsInHanded {} Tryz.checked os 8 .any ((OpenSpec.ofChange Rows.jsonTextsSpec).preRow enc Tryz.prog Tryz.f8 Rows.jsonTextsRow.domain false Rows.jsonTextsRow.laid) (((OpenSpec.ofChange Rows.jsonTextsSpec).at F).post enc Tryz.prog Tryz.f8 false true false false):=by
 obtain ⟨places,hx⟩:=reads os enc
 refine returnsInHanded_of_row (C:=Tryz.checked) (s:=(OpenSpec.ofChange Rows.jsonTextsSpec)) own started (by kernel_rfl) Tryz.func8
  (witness_row_atRef (enc:=enc) (C:=Tryz.checked) false (LW os) #[.string .empty] (LW_os os) (by kernel_rfl) (by kernel_rfl) (by kernel_rfl)
   (OpenSpec.preRow_of_cond 8 hx (by kernel_rfl) (fun k hk=>by cases hk) (by kernel_rfl) (laid_met os))) ?_
 intro W base args ds gs before hval hW _ _ _ hL hSh _
 exact contract K H enc W base args ds gs before hval hW hL hSh
theorem said (K:Ans):Rows.JsonTextsSaid :=
 OpenClaim.holds_of_cond 8 Tryz.f8 rfl rfl rfl rfl rfl rfl rfl ⟨rfl,rfl,rfl,rfl,rfl⟩ rfl rfl rfl rfl rfl (by kernel_rfl) Tryz.func8 (by kernel_rfl)
  (of_decide_eq_true (by kernel_rfl)) (by unfold Func.isWrapper;first|(rw [if_pos (by decide +kernel)];kernel_rfl)|(rw [if_neg (by decide +kernel)];exact ⟨rfl,rfl⟩))
  (fun os started H enc _ F=>by rw [OpenClaim.pre_eq_preRow];exact lifted K os started H enc F)
theorem plain (f:FuncId) (fn:Func) (hf:Tryz.pinned.checked.prog.funcNamed "voyage/voyagelaw02.JsonTexts"=some f) (hfn:Tryz.pinned.checked.prog.funcs[f]?=some fn) :
 true=Tryz.pinned.checked.prog.looks []∧∀ (j:Nat) t,fn.params[j]?=some t→Tryz.pinned.checked.prog.wantsStandIn t=false:=by
 obtain rfl:f=8:=Option.some.inj ((show Tryz.prog.funcNamed "voyage/voyagelaw02.JsonTexts"=some 8 by kernel_rfl).symm.trans hf) |>.symm
 obtain rfl:fn=Tryz.f8:=(Option.some.inj (Tryz.func8.symm.trans hfn)).symm
 refine ⟨by kernel_rfl,fun j t ht=>?_⟩
 rw [Tryz.params8] at ht
 have hm:t=9:=by have:=Array.mem_of_getElem? ht;simp at this;grind
 subst hm
 exact (show Tryz.prog.wantsStandIn 9=false by kernel_rfl)
theorem card (K:Ans):Rows.JsonTextsCardSaid :=
 Claim7.holds_tied_plain_at .later [] _ _ _ _ (said K) (fun _ h=>by cases h) (by kernel_rfl) (fun _ h=>by cases h) jsonTexts_row_tie rfl ⟨rfl,rfl⟩ (by kernel_rfl) rfl plain (by kernel_rfl)
end Go.Proofs.YtencpkjhdgodgaaGreatDoor.frJsonTexts
