/- Texts in one: OneF -/
import Derived.Test.YthakglomacijgaaGreatDoorWo2P
import Derived.Test.YthakglomacijgaaGreatDoorMoP
import Derived.Below
import Derived.Lib.SmallJoins
import Derived.Test.YthakglomacijgaaGreatDoorCards
import Derived.Test.YthakglomacijgaaGreatDoorTie
import Derived.ProofKit
import Derived.OpenShut
import Derived.Deep.DeepHandedRow
import Derived.Deep.DeepWitnessRowRef
import Derived.Lay
import Derived.LaidHandle
import Derived.Stop.LaidErr
namespace Go.Proofs.YthakglomacijgaaGreatDoor.frJsonOne
open Go.ChangeShapes Go.WideShapes Go.ChangeAt Go.RowKit Go.Joins
open Go.ChangeMaps (open_string shut_string)
theorem own:ownKnob Tryz.prog.godebug=none:=by kernel_rfl
theorem kids:Kids Tryz.prog (· < Tryz.prog.types.size):=kids_rows (by kernel_rfl) (by kernel_rfl)
theorem full:∀ t e,t < Tryz.prog.types.size→Tryz.prog.underlying t=some (.slice e)→0 < Tryz.prog.cellsOf e:=slices_full_of Tryz.prog (by kernel_rfl)
def Ans:Prop:=∀ (c0:List Value) (j0:rd.JT) (c1:List Value) (j1:rd.JT) (W:World),laidMetH Tryz.prog Rows.jsonOneUptoRow.laid W→W.ShapedOpen Tryz.prog→rd.VR W j0 c0→rd.Bd j0→rd.VR W j1 c1→rd.Bd j1→Calls Tryz.prog 7 #[.agg c0.toArray,.agg c1.toArray] W fun e w'=>e=.returned (.bool true)∧Below W.heap.size W w'
theorem bulks {H:Type}{ds:List (DataW H)} (hk:Rows.uptoSmall H ds=true):∀ d∈ds,Rows.uptoBulk d≤1048576:=fun d hd=>by
 have h:Rows.uptoBulkAll ds≤1048576:=of_decide_eq_true hk
 have:=mm.bulk_mem hd
 omega
theorem sized:∀ t∈Tryz.f7.params.toList,t < Tryz.prog.types.size:=by
 rw [Tryz.params7]
 have h:(([27,27]:List TypeId).all fun t=>decide (t < Tryz.prog.types.size))=true:=by kernel_rfl
 intro t ht
 exact of_decide_eq_true (List.all_eq_true.mp h t ht)
set_option maxRecDepth 100000 in
theorem contract (K:Ans) (H:Type) (enc:TypeId × Value→H) (W:World) (base:Nat) (args:Array Value) (ds gs:List (DataW H)) (before:List MemPlace)
 (hval:∀ (j:Nat) t v,Tryz.f7.params[j]?=some t→args[j]?=some v→Value.okWide Tryz.prog W .any base t v)
 (hW:DataW.Whole enc Tryz.prog Tryz.f7.params.toList Rows.jsonOneSpec.vars false W args.toList ds gs before) (hL:laidMetH Tryz.prog Rows.jsonOneUptoRow.laid W) (hSh:W.ShapedOpen Tryz.prog) (hk:Rows.uptoSmall H (ds++gs)=true) :
 Calls Tryz.prog 7 args W fun e W'=>∃ v,e=.returned v∧Rows.jsonOneSpec.post enc Tryz.prog Tryz.f7 false true false false W args v W':=by
 have hW':=hW
 obtain ⟨p,q,hA0,hV,rfl,hfz,hnd⟩:=hW
 have hA:DataW.TrodAll enc Tryz.prog W 0 (fun _=>true) true Tryz.f7.params.toList args.toList ds p:=hA0
 rw [Tryz.params7] at hA hval
 obtain ⟨v0,vs0,d0,ds0,p0,q0,hargs0,rfl,rfl,h0,r0⟩:=trodAll_cons hA
 obtain ⟨v1,vs1,d1,ds1,p1,q1,hargs1,rfl,rfl,h1,r1⟩:=trodAll_cons r0
 obtain ⟨rfl,rfl,rfl⟩:=trodAll_nil r1
 obtain rfl:args=#[v0,v1]:=by cases args;simp_all
 obtain ⟨rfl,rfl⟩:=trodVars_none hV
 simp only [List.append_nil] at hk hW'
 have hB:=bulks hk
 have hb0:=hB d0 (by simp)
 obtain ⟨c0,rfl,_⟩:=okWide_struct Tryz.underlying27 (hval 0 27 v0 rfl rfl)
 obtain ⟨c0,rfl⟩:∃ c:List Value,c0=c.toArray:=⟨c0.toList,by simp⟩
 obtain ⟨fu0,hf0⟩:=h0
 obtain ⟨j0,s0,m0⟩:=rd.val_of 1048576 fu0 _ _ hf0 hb0 (Nat.le_refl _)
 have s0b:rd.VR W j0 c0:=by simpa [Value.cells] using s0
 have hb1:=hB d1 (by simp)
 obtain ⟨c1,rfl,_⟩:=okWide_struct Tryz.underlying27 (hval 1 27 v1 rfl rfl)
 obtain ⟨c1,rfl⟩:∃ c:List Value,c1=c.toArray:=⟨c1.toList,by simp⟩
 obtain ⟨fu1,hf1⟩:=h1
 obtain ⟨j1,s1,m1⟩:=rd.val_of 1048576 fu1 _ _ hf1 hb1 (Nat.le_refl _)
 have s1b:rd.VR W j1 c1:=by simpa [Value.cells] using s1
 refine (K c0 j0 c1 j1 W hL hSh s0b m0 s1b m1).mono fun e W' ⟨he,hg⟩=>?_
 subst he
 exact ⟨_,rfl,_,_,_,[],_,[],hW',trodAll_cons_mk (shut_bool Tryz.underlying4 _) trodAll_mk0,mm.all_stays kids full hg sized hA0,rfl,hg.frame _,fun h=>by cases h⟩
noncomputable def hw (os:Os):World :=
 let w0:=World.holding Tryz.prog os ⟨#[],#[],[]⟩
 { w0 with heap:=w0.heap.modify 2 fun
  | .cells _ t frozen=>.cells #[.iface 144 (.agg #[.pointer (some ⟨16,46,none⟩)])] t frozen
  | o=>o }
noncomputable def LW (os:Os):World:=(hw os).layVars Tryz.prog rd.wo.plainL
theorem LW_os (os:Os):(LW os).os=os:=(World.layVars_os _ _ _).trans rfl
theorem LW_fits (os:Os):(hw os).layFits Tryz.prog rd.wo.plainL []=true:=by kernel_rfl
theorem LW_ifaces (os:Os):(hw os).layIfaces Tryz.prog rd.wo.plainL (LW os)=true:=by kernel_rfl
theorem plain_met (os:Os) (args:Array Value):laidMet Tryz.prog rd.wo.plainL ((LW os).forCall (fun _ _=>0) ⟨#[],args,[]⟩).memory:=by
 have e1:(rd.wo.plainL.filter fun x=>(rd.wo.plainL.map (·.1)).contains x.1)=rd.wo.plainL:=List.filter_eq_self.2 fun x hx=>List.contains_iff_mem.2 (List.mem_map.2 ⟨x,hx,rfl⟩)
 have e2:(rd.wo.plainL.filter fun x=>!(rd.wo.plainL.map (·.1)).contains x.1)=[]:=List.filter_eq_nil_iff.2 fun x hx=>by rw [List.contains_iff_mem.2 (List.mem_map.2 ⟨x,hx,rfl⟩)];simp
 have h:laidMet Tryz.prog rd.wo.plainL (LW os):=laidMet_layVars (w0:=hw os) (rd.wo.plainL.map (·.1)) [] (by rw [e1];rfl) (by rw [e1];exact LW_fits os) (by rw [e1];exact LW_ifaces os) (by rw [e2];exact LaidIn.none)
 exact h.of_heap (by simp [World.memory,World.forCall,Input.heap])
theorem laid_met (os:Os):laidMetH Tryz.prog Rows.jsonOneUptoRow.laid ((LW os).forCall (fun _ _=>0) ⟨#[],#[.agg #[.int .i64 0,.bool false,.bool false,.string .empty,.int .i64 0,.string .empty,.slice none 0 0,.slice none 0 0],.agg #[.int .i64 0,.bool false,.bool false,.string .empty,.int .i64 0,.string .empty,.slice none 0 0,.slice none 0 0]],[]⟩).memory :=
 laidMetH_of_parts (by rw [show (Rows.jsonOneUptoRow.laid.filter fun x=>x.2.handleName?.isNone)=rd.wo.plainL from rd.wo.filter_none];exact plain_met os _) (by rw [show (Rows.jsonOneUptoRow.laid.filter fun x=>x.2.handleName?.isSome)=rd.wo.handL from rd.wo.filter_some];kernel_rfl)
theorem reads (os:Os) {H:Type} (enc:TypeId × Value→H):∃ places,DataW.whole enc Tryz.prog ((LW os).forCall (fun _ _=>0) ⟨#[],#[.agg #[.int .i64 0,.bool false,.bool false,.string .empty,.int .i64 0,.string .empty,.slice none 0 0,.slice none 0 0],.agg #[.int .i64 0,.bool false,.bool false,.string .empty,.int .i64 0,.string .empty,.slice none 0 0,.slice none 0 0]],[]⟩).memory Tryz.f7.params.toList Rows.jsonOneSpec.vars false #[Value.agg #[.int .i64 0,.bool false,.bool false,.string .empty,.int .i64 0,.string .empty,.slice none 0 0,.slice none 0 0],.agg #[.int .i64 0,.bool false,.bool false,.string .empty,.int .i64 0,.string .empty,.slice none 0 0,.slice none 0 0]].toList 8=some ([.agg [.lit (.int .i64 0),.lit (.bool false),.agg [.lit (.bool false),.lit (.string []),.lit (.int .i64 0)],.lit (.string []),.nil,.nil],.agg [.lit (.int .i64 0),.lit (.bool false),.agg [.lit (.bool false),.lit (.string []),.lit (.int .i64 0)],.lit (.string []),.nil,.nil]],[],places) :=
 ⟨[],by kernel_rfl⟩
set_option maxRecDepth 100000 in
theorem lifted (K:Ans) (os:Os) (started:os.Started) (H:Type) (enc:TypeId × Value→H) (F:Stop.Interp) :
 ReturnsInHanded {} Tryz.checked os 7 .any ((Rows.OpenSpec.upto Rows.jsonOneSpec).preRow enc Tryz.prog Tryz.f7 Rows.jsonOneUptoRow.domain false Rows.jsonOneUptoRow.laid) (((Rows.OpenSpec.upto Rows.jsonOneSpec).at F).post enc Tryz.prog Tryz.f7 false true false false):=by
 obtain ⟨places,hx⟩:=reads os enc
 refine returnsInHanded_of_row (C:=Tryz.checked) (s:=(Rows.OpenSpec.upto Rows.jsonOneSpec)) own started (by kernel_rfl) Tryz.func7
  (witness_row_atRef (enc:=enc) (C:=Tryz.checked) false (LW os) #[.agg #[.int .i64 0,.bool false,.bool false,.string .empty,.int .i64 0,.string .empty,.slice none 0 0,.slice none 0 0],.agg #[.int .i64 0,.bool false,.bool false,.string .empty,.int .i64 0,.string .empty,.slice none 0 0,.slice none 0 0]] (LW_os os) (by kernel_rfl) (by kernel_rfl) (by kernel_rfl)
   (OpenSpec.preRow_of_cond 8 hx (by kernel_rfl) (fun k hk=>by cases hk;kernel_rfl) (by kernel_rfl) (laid_met os))) ?_
 intro W base args ds gs before hval hW _ hcond _ hL hSh _
 exact contract K H enc W base args ds gs before hval hW hL hSh (hcond _ rfl)
theorem said (K:Ans):Rows.JsonOneUptoSaid :=
 OpenClaim.holds_of_cond 7 Tryz.f7 rfl rfl rfl rfl rfl rfl rfl ⟨rfl,rfl,rfl,rfl,rfl⟩ rfl rfl rfl rfl rfl (by kernel_rfl) Tryz.func7 (by kernel_rfl)
  (of_decide_eq_true (by kernel_rfl)) (by unfold Func.isWrapper;first|(rw [if_pos (by decide +kernel)];kernel_rfl)|(rw [if_neg (by decide +kernel)];exact ⟨rfl,rfl⟩))
  (fun os started H enc _ F=>by rw [OpenClaim.pre_eq_preRow];exact lifted K os started H enc F)
theorem plain (f:FuncId) (fn:Func) (hf:Tryz.pinned.checked.prog.funcNamed "voyage/voyagelaw02.JsonOne"=some f) (hfn:Tryz.pinned.checked.prog.funcs[f]?=some fn) :
 true=Tryz.pinned.checked.prog.looks []∧∀ (j:Nat) t,fn.params[j]?=some t→Tryz.pinned.checked.prog.wantsStandIn t=false:=by
 obtain rfl:f=7:=Option.some.inj ((show Tryz.prog.funcNamed "voyage/voyagelaw02.JsonOne"=some 7 by kernel_rfl).symm.trans hf) |>.symm
 obtain rfl:fn=Tryz.f7:=(Option.some.inj (Tryz.func7.symm.trans hfn)).symm
 refine ⟨by kernel_rfl,fun j t ht=>?_⟩
 rw [Tryz.params7] at ht
 have hm:t=27:=by have:=Array.mem_of_getElem? ht;simp at this;grind
 subst hm
 exact (show Tryz.prog.wantsStandIn 27=false by kernel_rfl)
theorem card (K:Ans):Rows.JsonOneUptoCardSaid :=
 Claim7.holds_tied_plain_at .later [] _ _ _ _ (said K) (fun _ h=>by cases h) (by kernel_rfl) (fun _ h=>by cases h) jsonOneUpto_row_tie rfl ⟨rfl,rfl⟩ (by kernel_rfl) rfl plain (by kernel_rfl)
end Go.Proofs.YthakglomacijgaaGreatDoor.frJsonOne
