/- Texts in one: Wo2 GapsF -/
import Derived.Test.YthakglomacijgaaGreatDoorWlPG
import Derived.Test.YthakglomacijgaaGreatDoorVvPG
import Derived.Test.YthakglomacijgaaGreatDoorRows
import Derived.Stop.LaidErr
import Derived.Lib.LaidU8T
import Derived.Lib.LaidTab
import Derived.PinnedBridge
import Derived.Test.YthakglomacijgaaGreatDoorMrPG
import Derived.Below
import Derived.Lib.SmallJoins
import Derived.Test.YthakglomacijgaaGreatDoorCards
import Derived.Test.YthakglomacijgaaGreatDoorTie
import Derived.ProofKit
import Derived.OpenShut
import Derived.Deep.DeepHandedRow
import Derived.Deep.DeepWitnessRowRef
import Derived.Lay
import Derived.LaidHandle
namespace Go.Proofs.YthakglomacijgaaGreatDoor.rd.wo
open Go.ChangeShapes Go.RowKit
open Go.Proofs.YthakglomacijgaaGreatDoor.rd
def plainL:List (String × DataW Unit):=[("math/bits.deBruijn32tab",Rows.laid_math_bits_deBruijn32tab),("math/bits.deBruijn64tab",Rows.laid_math_bits_deBruijn64tab),("internal/strconv.uint64pow10",Rows.laid_internal_strconv_uint64pow10),("unicode/utf8.acceptRanges",Rows.laid_unicode_utf8_acceptRanges),("strconv.ErrRange",Rows.laid_strconv_ErrRange),("strconv.ErrSyntax",Rows.laid_strconv_ErrSyntax),("voyage/api.ErrLong",Rows.laid_voyage_api_ErrLong),("voyage/api.ErrNumber",Rows.laid_voyage_api_ErrNumber),("voyage/api.ErrExponent",Rows.laid_voyage_api_ErrExponent),("voyage/api.ErrText",Rows.laid_voyage_api_ErrText),("voyage/api.ErrDue",Rows.laid_voyage_api_ErrDue),("voyage/api.ErrDeep",Rows.laid_voyage_api_ErrDeep),("voyage/api.ErrTwice",Rows.laid_voyage_api_ErrTwice),("unicode/utf8.first",Rows.laid_unicode_utf8_first)]
def handL:List (String × DataW Unit):=[("errors.errorType",Rows.laid_errors_errorType)]
theorem filter_some:(Rows.jsonBackUptoRow.laid.filter fun x=>x.2.handleName?.isSome)=handL:=by kernel_rfl
theorem filter_none:(Rows.jsonBackUptoRow.laid.filter fun x=>x.2.handleName?.isNone)=plainL:=by kernel_rfl
theorem halves {W:World} (h:laidMetH Tryz.prog Rows.jsonBackUptoRow.laid W):laidMet Tryz.prog plainL W∧handlesMet Tryz.prog handL W:=by
 unfold laidMetH at h
 rw [filter_some,filter_none] at h
 exact h
theorem star:"*"++"errors.errorString"="*errors.errorString":=by decide
theorem rowE (u:TypeId) (h:Tryz.prog.typeName? 3 u=some "*errors.errorString"):u=231 :=
 typeName_ptr_named (nm:="errors.errorString") (by rw [star];kernel_rfl) (by kernel_rfl) (by decide) u (by rw [star];exact h)
theorem sent_any {P:Program}{n nm:String}{text:List UInt8}{r:List (String × DataW Unit)}{W:World}{g:Nat}{ti tp te ts:TypeId}{ms:Array (String × TypeId)}{f:Field}
 (h:laidMet P ((n,.iface nm (.ptr (.agg [.lit (.string text)])))::r) W)
 (hg:P.globalNamed n=some g) (ht:(P.globals[g]?).map (·.type)=some ti) (hi:P.underlying ti=some (.interface ms)) (hrow:∀ u,P.typeName? 3 u=some nm→u=tp)
 (hp:P.underlying tp=some (.pointer te)) (he:P.underlying te=some (.struct #[f])) (hft:f.type=ts) (hfo:f.offset=0) (hs:P.underlying ts=some .string) (hc:P.cellsOf te=1) (hcs:P.cellsOf ts=1) :
 ∃ (a:Addr) (s:ByteArray),W.cell? ⟨g,0,none⟩=some (.iface tp (.pointer (some a)))∧W.cell? a=some (.string s)∧s.data.toList=text∧∃ c t,W.heap[a.block]?=some (.cells c t (0,0)):=by
 obtain ⟨ps,⟨g0,t0,cs0,f0,p0,q0,hg0,ht0,hv0,hd0,_,e0⟩,_,hrows⟩:=h
 obtain rfl:=Option.some.inj (hg.symm.trans hg0)
 obtain rfl:=Option.some.inj (ht.symm.trans ht0)
 subst e0
 obtain ⟨l0⟩:=cs0
 have ok0:∀ u v,l0=[.iface u v]→Value.okWide P W .any 0 u v:=fun u v e=>by
  subst e
  exact (hrows g 0 (by simp [MemPlace.row])).2 u v (by simpa using World.var?_cell hg0 hv0 0)
 obtain ⟨a,s,rfl,hca,hsa,_,hp0⟩:=errorString_of_trod hi hrow hp he hft hfo hs hc hcs hd0 ok0
 refine ⟨a,s,?_,hca,hsa,(hrows a.block a.off (by subst hp0;simp [MemPlace.row])).1⟩
 have:=World.var?_cell hg hv0 0
 simpa using this
theorem sentinel {W:World}{name:String}{g:Nat}{text:List UInt8}{rest:List (String × DataW Unit)} (hg:Tryz.prog.globalNamed name=some g) (ht:(Tryz.prog.globals[g]?).map (·.type)=some 46)
 (h:laidMet Tryz.prog ((name,.iface "*errors.errorString" (.ptr (.agg [.lit (.string text)])))::rest) W):∃ (a:Addr) (s:ByteArray),W.cell? ⟨g,0,none⟩=some (.iface 231 (.pointer (some a)))∧W.cell? a=some (.string s)∧s.data.toList=text∧∃ c t,W.heap[a.block]?=some (.cells c t (0,0)) :=
 sent_any h hg ht Tryz.underlying46 rowE Tryz.underlying231 Tryz.underlying233 rfl rfl Tryz.underlying9 (by kernel_rfl) (by kernel_rfl)
theorem ne_of {W:World}{a b:Addr}{s t:ByteArray}{x y:List UInt8} (ha:W.cell? a=some (.string s)) (hb:W.cell? b=some (.string t)) (hx:s.data.toList=x) (hy:t.data.toList=y) (hne:x≠y):a≠b:=by
 rintro rfl
 rw [ha] at hb
 simp only [Option.some.injEq,Value.string.injEq] at hb
 subst hb
 exact hne (hx.symm.trans hy)
theorem rt:(Tryz.prog.cutTypes.find? (·.1 == "internal/reflectlite.rtype")).map (·.2)=some 144:=by kernel_rfl
theorem oneRow:((List.range 260).filter fun t=>Tryz.prog.rowNamed t [101,114,114,111,114])=[46]:=by kernel_rfl
theorem tsize:Tryz.prog.types.size=260:=by kernel_rfl
theorem handle_of {W:World} (h:handlesMet Tryz.prog handL W):W.cell? ⟨2,0,none⟩=some (.iface 144 (.agg #[.pointer (some ⟨16,46,none⟩)])):=by
 obtain ⟨name,u,ty,e1,e2,e3,e4,e5⟩:=h _ (List.mem_singleton.2 rfl)
 have en:name=[101,114,114,111,114]:=(Option.some.inj e1).symm
 subst en
 obtain rfl:=Option.some.inj (rt.symm.trans e2)
 have hm:ty∈(List.range 260).filter fun t=>Tryz.prog.rowNamed t [101,114,114,111,114]:=List.mem_filter.2 ⟨List.mem_range.2 (by rw [← tsize];exact e3),e4⟩
 rw [oneRow] at hm
 obtain rfl:=List.mem_singleton.1 hm
 have hh:typeHandle Tryz.prog 46=.pointer (some ⟨16,46,none⟩):=by kernel_rfl
 rw [hh] at e5
 simpa using World.var?_cell (show Tryz.prog.globalNamed "errors.errorType"=some 2 by kernel_rfl) e5 0
def uren:Shelf.Ren:=⟨fun x=>x,fun|5=>5|119=>175|138=>177|139=>178|n=>n,fun|3=>7|4=>8|n=>n⟩
theorem utypes:U8Types Tryz.prog uren:=⟨Tryz.underlying5,Tryz.underlying175,Tryz.underlying177,Tryz.underlying178⟩
theorem acc_eq:(Rows.laid_unicode_utf8_acceptRanges:DataW Unit)=Lib.acceptData:=by kernel_rfl
theorem first_eq:Rows.laid_unicode_utf8_first=Lib.firstData:=Pinned.utf8First_eq
theorem tabs_of {W:World} (h:laidMet Tryz.prog plainL W):Lib.Utf8Tabs 7 8 W :=
 utf8Tabs_of_readsT utypes ⟨by kernel_rfl,by kernel_rfl,by kernel_rfl,by kernel_rfl,by kernel_rfl,by kernel_rfl,by kernel_rfl⟩ (first_eq ▸ Lib.laidMet.reads h (by simp [plainL])) (acc_eq ▸ Lib.laidMet.reads h (by simp [plainL]))
theorem ae_of {W:World} (h:laidMetH Tryz.prog Rows.jsonBackUptoRow.laid W):∃ (E:Nat→Value) (A:Nat→Addr),(∀ g,lw.isE g→E g=.pointer (some (A g)))∧AE E A W:=by
 obtain ⟨hp,hh⟩:=halves h
 have t3:=hp.tail.tail.tail.tail
 have t4:=t3.tail
 have t5:=t4.tail
 have t6:=t5.tail
 have t7:=t6.tail
 have t8:=t7.tail
 have t9:=t8.tail
 have ta:=t9.tail
 have tb:=ta.tail
 obtain ⟨ar,sr,cr,_,_,lr⟩:=sentinel (g:=15) (by kernel_rfl) (by kernel_rfl) t3
 obtain ⟨ay,sy,cy,_,_,ly⟩:=sentinel (g:=14) (by kernel_rfl) (by kernel_rfl) t4
 obtain ⟨a0,s0,c0,d0,x0,l0⟩:=sentinel (g:=1) (by kernel_rfl) (by kernel_rfl) t5
 obtain ⟨a1,s1,c1,d1,x1,l1⟩:=sentinel (g:=3) (by kernel_rfl) (by kernel_rfl) t6
 obtain ⟨a2,s2,c2,d2,x2,l2⟩:=sentinel (g:=10) (by kernel_rfl) (by kernel_rfl) t7
 obtain ⟨a3,s3,c3,d3,x3,l3⟩:=sentinel (g:=4) (by kernel_rfl) (by kernel_rfl) t8
 obtain ⟨a4,s4,c4,d4,x4,l4⟩:=sentinel (g:=0) (by kernel_rfl) (by kernel_rfl) t9
 obtain ⟨a5,s5,c5,d5,x5,l5⟩:=sentinel (g:=5) (by kernel_rfl) (by kernel_rfl) ta
 obtain ⟨a6,s6,c6,d6,x6,l6⟩:=sentinel (g:=6) (by kernel_rfl) (by kernel_rfl) tb
 let A:Nat→Addr:=fun g=>if g=1 then a0 else if g=3 then a1 else if g=10 then a2 else if g=4 then a3 else if g=0 then a4 else if g=5 then a5 else if g=6 then a6 else ay
 have hng:16≤W.heap.size:=by have:=mm.cell_lt cr;exact this
 refine ⟨fun g=>.pointer (some (A g)),A,fun _ _=>rfl,⟨tabs_of hp,?_⟩,⟨?_,?_,?_⟩,?_,handle_of hh,hng⟩
 · rintro g (rfl|rfl|rfl|rfl|rfl|rfl|rfl|rfl)
   · exact c0
   · exact c4
   · exact c1
   · exact c2
   · exact c3
   · exact c5
   · exact c6
   · exact cy
 · rintro g (rfl|rfl|rfl|rfl|rfl|rfl|rfl)
   · exact c0
   · exact c1
   · exact c2
   · exact c3
   · exact c4
   · exact c5
   · exact c6
 · have key:∀ g,lw.isE g→∃ s x,W.cell? (A g)=some (.string s)∧s.data.toList=x∧x=(if g=1 then s0 else if g=3 then s1 else if g=10 then s2 else if g=4 then s3 else if g=0 then s4 else if g=5 then s5 else s6).data.toList:=by
    rintro g (rfl|rfl|rfl|rfl|rfl|rfl|rfl)
    · exact ⟨s0,_,d0,rfl,rfl⟩
    · exact ⟨s1,_,d1,rfl,rfl⟩
    · exact ⟨s2,_,d2,rfl,rfl⟩
    · exact ⟨s3,_,d3,rfl,rfl⟩
    · exact ⟨s4,_,d4,rfl,rfl⟩
    · exact ⟨s5,_,d5,rfl,rfl⟩
    · exact ⟨s6,_,d6,rfl,rfl⟩
   intro g k hg hk hne
   obtain ⟨s,x,e1,e2,e3⟩:=key g hg
   obtain ⟨t,y,f1,f2,f3⟩:=key k hk
   refine ne_of e1 f1 e2 f2 ?_
   rw [e3,f3]
   rcases hg with rfl|rfl|rfl|rfl|rfl|rfl|rfl <;> rcases hk with rfl|rfl|rfl|rfl|rfl|rfl|rfl <;> first
    | exact absurd rfl hne
    | (simp only [Nat.reduceEqDiff,if_true,if_false,x0,x1,x2,x3,x4,x5,x6];decide)
 · rintro g (rfl|rfl|rfl|rfl|rfl|rfl|rfl)
   · exact l0
   · exact l1
   · exact l2
   · exact l3
   · exact l4
   · exact l5
   · exact l6
 · exact Lib.tabIs_of_head (g:=11) (by kernel_rfl) (by kernel_rfl) Tryz.underlying202 Tryz.underlying180 (by kernel_rfl) (by kernel_rfl) hp.tail.tail
end Go.Proofs.YthakglomacijgaaGreatDoor.rd.wo
namespace Go.Proofs.YthakglomacijgaaGreatDoor.frJsonGaps
open Go.ChangeShapes Go.WideShapes Go.ChangeAt Go.RowKit Go.Joins
open Go.ChangeMaps (open_string shut_string)
theorem own:ownKnob Tryz.prog.godebug=none:=by kernel_rfl
theorem kids:Kids Tryz.prog (· < Tryz.prog.types.size):=kids_rows (by kernel_rfl) (by kernel_rfl)
theorem full:∀ t e,t < Tryz.prog.types.size→Tryz.prog.underlying t=some (.slice e)→0 < Tryz.prog.cellsOf e:=slices_full_of Tryz.prog (by kernel_rfl)
def Ans:Prop:=∀ (c0:List Value) (j0:rd.JT) (v1:Value) (l1:List Int) (x2:Int) (W:World),laidMetH Tryz.prog Rows.jsonGapsUptoRow.laid W→W.ShapedOpen Tryz.prog→rd.VR W j0 c0→rd.Bd j0→rt.IS W v1 l1→(l1.length≤1048576∧∀ n∈l1,rt.Oki n)→-9223372036854775808≤x2∧x2≤9223372036854775807→Calls Tryz.prog 8 #[.agg c0.toArray,v1,.int .i64 x2] W fun e w'=>e=.returned (.bool true)∧Below W.heap.size W w'
theorem bulks {H:Type}{ds:List (DataW H)} (hk:Rows.uptoSmall H ds=true):∀ d∈ds,Rows.uptoBulk d≤1048576:=fun d hd=>by
 have h:Rows.uptoBulkAll ds≤1048576:=of_decide_eq_true hk
 have:=mm.bulk_mem hd
 omega
theorem sized:∀ t∈Tryz.f8.params.toList,t < Tryz.prog.types.size:=by
 rw [Tryz.params8]
 have h:(([27,49,3]:List TypeId).all fun t=>decide (t < Tryz.prog.types.size))=true:=by kernel_rfl
 intro t ht
 exact of_decide_eq_true (List.all_eq_true.mp h t ht)
set_option maxRecDepth 100000 in
theorem contract (K:Ans) (H:Type) (enc:TypeId × Value→H) (W:World) (base:Nat) (args:Array Value) (ds gs:List (DataW H)) (before:List MemPlace)
 (hval:∀ (j:Nat) t v,Tryz.f8.params[j]?=some t→args[j]?=some v→Value.okWide Tryz.prog W .any base t v)
 (hW:DataW.Whole enc Tryz.prog Tryz.f8.params.toList Rows.jsonGapsSpec.vars false W args.toList ds gs before) (hL:laidMetH Tryz.prog Rows.jsonGapsUptoRow.laid W) (hSh:W.ShapedOpen Tryz.prog) (hk:Rows.uptoSmall H (ds++gs)=true) :
 Calls Tryz.prog 8 args W fun e W'=>∃ v,e=.returned v∧Rows.jsonGapsSpec.post enc Tryz.prog Tryz.f8 false true false false W args v W':=by
 have hW':=hW
 obtain ⟨p,q,hA0,hV,rfl,hfz,hnd⟩:=hW
 have hA:DataW.TrodAll enc Tryz.prog W 0 (fun _=>true) true Tryz.f8.params.toList args.toList ds p:=hA0
 rw [Tryz.params8] at hA hval
 obtain ⟨v0,vs0,d0,ds0,p0,q0,hargs0,rfl,rfl,h0,r0⟩:=trodAll_cons hA
 obtain ⟨v1,vs1,d1,ds1,p1,q1,hargs1,rfl,rfl,h1,r1⟩:=trodAll_cons r0
 obtain ⟨v2,vs2,d2,ds2,p2,q2,hargs2,rfl,rfl,h2,r2⟩:=trodAll_cons r1
 obtain ⟨rfl,rfl,rfl⟩:=trodAll_nil r2
 obtain rfl:args=#[v0,v1,v2]:=by cases args;simp_all
 obtain ⟨rfl,rfl⟩:=trodVars_none hV
 simp only [List.append_nil] at hk hW'
 have hB:=bulks hk
 have hb0:=hB d0 (by simp)
 obtain ⟨c0,rfl,_⟩:=okWide_struct Tryz.underlying27 (hval 0 27 v0 rfl rfl)
 obtain ⟨c0,rfl⟩:∃ c:List Value,c0=c.toArray:=⟨c0.toList,by simp⟩
 obtain ⟨fu0,hf0⟩:=h0
 obtain ⟨j0,s0,m0⟩:=rd.val_of 1048576 fu0 _ _ hf0 hb0 (Nat.le_refl _)
 have s0b:rd.VR W j0 c0:=by simpa [Value.cells] using s0
 have hb1:=hB d1 (by simp)
 obtain ⟨a1,n1,c1,rfl⟩:=okWide_slice Tryz.underlying49 (hval 1 49 v1 rfl rfl)
 obtain ⟨fu1,hf1⟩:=h1
 obtain ⟨u1,l1,e1,s1,m1,o1⟩:=mm.ints_of Tryz.underlying49 Tryz.underlying3 (by kernel_rfl) hf1
 have e1b:u1=.slice a1 n1 c1:=by simpa [Value.cells] using e1.symm
 subst e1b
 obtain ⟨x2,rfl,rfl,rfl,wx2⟩:=open_int Tryz.underlying3 (hval 2 3 v2 rfl rfl) h2
 have hb2:=bounds_i64 wx2
 refine (K c0 j0 _ l1 x2 W hL hSh s0b m0 s1 ⟨by simp only at m1;omega,o1⟩ ⟨by omega,by omega⟩).mono fun e W' ⟨he,hg⟩=>?_
 subst he
 exact ⟨_,rfl,_,_,_,[],_,[],hW',trodAll_cons_mk (shut_bool Tryz.underlying4 _) trodAll_mk0,mm.all_stays kids full hg sized hA0,rfl,hg.frame _,fun h=>by cases h⟩
noncomputable def hw (os:Os):World :=
 let w0:=World.holding Tryz.prog os ⟨#[],#[],[]⟩
 { w0 with heap:=w0.heap.modify 2 fun
  | .cells _ t frozen=>.cells #[.iface 144 (.agg #[.pointer (some ⟨16,46,none⟩)])] t frozen
  | o=>o }
noncomputable def LW (os:Os):World:=(hw os).layVars Tryz.prog rd.wo.plainL
theorem LW_os (os:Os):(LW os).os=os:=(World.layVars_os _ _ _).trans rfl
theorem LW_fits (os:Os):(hw os).layFits Tryz.prog rd.wo.plainL []=true:=by kernel_rfl
theorem LW_ifaces (os:Os):(hw os).layIfaces Tryz.prog rd.wo.plainL (LW os)=true:=by kernel_rfl
theorem plain_met (os:Os) (args:Array Value):laidMet Tryz.prog rd.wo.plainL ((LW os).forCall (fun _ _=>0) ⟨#[],args,[]⟩).memory:=by
 have e1:(rd.wo.plainL.filter fun x=>(rd.wo.plainL.map (·.1)).contains x.1)=rd.wo.plainL:=List.filter_eq_self.2 fun x hx=>List.contains_iff_mem.2 (List.mem_map.2 ⟨x,hx,rfl⟩)
 have e2:(rd.wo.plainL.filter fun x=>!(rd.wo.plainL.map (·.1)).contains x.1)=[]:=List.filter_eq_nil_iff.2 fun x hx=>by rw [List.contains_iff_mem.2 (List.mem_map.2 ⟨x,hx,rfl⟩)];simp
 have h:laidMet Tryz.prog rd.wo.plainL (LW os):=laidMet_layVars (w0:=hw os) (rd.wo.plainL.map (·.1)) [] (by rw [e1];rfl) (by rw [e1];exact LW_fits os) (by rw [e1];exact LW_ifaces os) (by rw [e2];exact LaidIn.none)
 exact h.of_heap (by simp [World.memory,World.forCall,Input.heap])
theorem laid_met (os:Os):laidMetH Tryz.prog Rows.jsonGapsUptoRow.laid ((LW os).forCall (fun _ _=>0) ⟨#[],#[.agg #[.int .i64 0,.bool false,.bool false,.string .empty,.int .i64 0,.string .empty,.slice none 0 0,.slice none 0 0],.slice none 0 0,.int .i64 0],[]⟩).memory :=
 laidMetH_of_parts (by rw [show (Rows.jsonGapsUptoRow.laid.filter fun x=>x.2.handleName?.isNone)=rd.wo.plainL from rd.wo.filter_none];exact plain_met os _) (by rw [show (Rows.jsonGapsUptoRow.laid.filter fun x=>x.2.handleName?.isSome)=rd.wo.handL from rd.wo.filter_some];kernel_rfl)
theorem reads (os:Os) {H:Type} (enc:TypeId × Value→H):∃ places,DataW.whole enc Tryz.prog ((LW os).forCall (fun _ _=>0) ⟨#[],#[.agg #[.int .i64 0,.bool false,.bool false,.string .empty,.int .i64 0,.string .empty,.slice none 0 0,.slice none 0 0],.slice none 0 0,.int .i64 0],[]⟩).memory Tryz.f8.params.toList Rows.jsonGapsSpec.vars false #[Value.agg #[.int .i64 0,.bool false,.bool false,.string .empty,.int .i64 0,.string .empty,.slice none 0 0,.slice none 0 0],.slice none 0 0,.int .i64 0].toList 8=some ([.agg [.lit (.int .i64 0),.lit (.bool false),.agg [.lit (.bool false),.lit (.string []),.lit (.int .i64 0)],.lit (.string []),.nil,.nil],.nil,.lit (.int .i64 0)],[],places) :=
 ⟨[],by kernel_rfl⟩
set_option maxRecDepth 100000 in
theorem lifted (K:Ans) (os:Os) (started:os.Started) (H:Type) (enc:TypeId × Value→H) (F:Stop.Interp) :
 ReturnsInHanded {} Tryz.checked os 8 .any ((Rows.OpenSpec.upto Rows.jsonGapsSpec).preRow enc Tryz.prog Tryz.f8 Rows.jsonGapsUptoRow.domain false Rows.jsonGapsUptoRow.laid) (((Rows.OpenSpec.upto Rows.jsonGapsSpec).at F).post enc Tryz.prog Tryz.f8 false true false false):=by
 obtain ⟨places,hx⟩:=reads os enc
 refine returnsInHanded_of_row (C:=Tryz.checked) (s:=(Rows.OpenSpec.upto Rows.jsonGapsSpec)) own started (by kernel_rfl) Tryz.func8
  (witness_row_atRef (enc:=enc) (C:=Tryz.checked) false (LW os) #[.agg #[.int .i64 0,.bool false,.bool false,.string .empty,.int .i64 0,.string .empty,.slice none 0 0,.slice none 0 0],.slice none 0 0,.int .i64 0] (LW_os os) (by kernel_rfl) (by kernel_rfl) (by kernel_rfl)
   (OpenSpec.preRow_of_cond 8 hx (by kernel_rfl) (fun k hk=>by cases hk;kernel_rfl) (by kernel_rfl) (laid_met os))) ?_
 intro W base args ds gs before hval hW _ hcond _ hL hSh _
 exact contract K H enc W base args ds gs before hval hW hL hSh (hcond _ rfl)
theorem said (K:Ans):Rows.JsonGapsUptoSaid :=
 OpenClaim.holds_of_cond 8 Tryz.f8 rfl rfl rfl rfl rfl rfl rfl ⟨rfl,rfl,rfl,rfl,rfl⟩ rfl rfl rfl rfl rfl (by kernel_rfl) Tryz.func8 (by kernel_rfl)
  (of_decide_eq_true (by kernel_rfl)) (by unfold Func.isWrapper;first|(rw [if_pos (by decide +kernel)];kernel_rfl)|(rw [if_neg (by decide +kernel)];exact ⟨rfl,rfl⟩))
  (fun os started H enc _ F=>by rw [OpenClaim.pre_eq_preRow];exact lifted K os started H enc F)
theorem plain (f:FuncId) (fn:Func) (hf:Tryz.pinned.checked.prog.funcNamed "voyage/voyagelaw02.JsonGaps"=some f) (hfn:Tryz.pinned.checked.prog.funcs[f]?=some fn) :
 true=Tryz.pinned.checked.prog.looks []∧∀ (j:Nat) t,fn.params[j]?=some t→Tryz.pinned.checked.prog.wantsStandIn t=false:=by
 obtain rfl:f=8:=Option.some.inj ((show Tryz.prog.funcNamed "voyage/voyagelaw02.JsonGaps"=some 8 by kernel_rfl).symm.trans hf) |>.symm
 obtain rfl:fn=Tryz.f8:=(Option.some.inj (Tryz.func8.symm.trans hfn)).symm
 refine ⟨by kernel_rfl,fun j t ht=>?_⟩
 rw [Tryz.params8] at ht
 have hm:t=27∨t=49∨t=3:=by have:=Array.mem_of_getElem? ht;simp at this;grind
 rcases hm with rfl|rfl|rfl
 · exact (show Tryz.prog.wantsStandIn 27=false by kernel_rfl)
 · exact (show Tryz.prog.wantsStandIn 49=false by kernel_rfl)
 · exact (show Tryz.prog.wantsStandIn 3=false by kernel_rfl)
theorem card (K:Ans):Rows.JsonGapsUptoCardSaid :=
 Claim7.holds_tied_plain_at .later [] _ _ _ _ (said K) (fun _ h=>by cases h) (by kernel_rfl) (fun _ h=>by cases h) jsonGapsUpto_row_tie rfl ⟨rfl,rfl⟩ (by kernel_rfl) rfl plain (by kernel_rfl)
end Go.Proofs.YthakglomacijgaaGreatDoor.frJsonGaps
