/- Texts in one: Wo3 BackL -/
import Derived.Test.YthnhobplgmojeaaGreatDoorRecMPB
import Derived.Test.YthnhobplgmojeaaGreatDoorRecTPB
import Derived.Test.YthnhobplgmojeaaGreatDoorRows
import Derived.OpenShut
import Derived.Stop.LaidErr
import Derived.Lib.LaidU8T
import Derived.Lib.LaidTab
import Derived.PinnedBridge
import Derived.Test.YthnhobplgmojeaaGreatDoorMrP
import Derived.Below
import Derived.Lib.SmallJoins
import Derived.Test.YthnhobplgmojeaaGreatDoorCards
import Derived.Test.YthnhobplgmojeaaGreatDoorTie
import Derived.ProofKit
import Derived.Deep.DeepHandedRow
import Derived.Deep.DeepWitnessRowRef
import Derived.Lay
namespace Go.Proofs.YthnhobplgmojeaaGreatDoor.ev.wo
open Go.ChangeShapes Go.RowKit
open Go.Proofs.YthnhobplgmojeaaGreatDoor.rd Go.Proofs.YthnhobplgmojeaaGreatDoor.ev
def plainL:List (String × DataW Unit):=[("math/bits.deBruijn32tab",Rows.laid_math_bits_deBruijn32tab),("math/bits.deBruijn64tab",Rows.laid_math_bits_deBruijn64tab),("internal/strconv.uint64pow10",Rows.laid_internal_strconv_uint64pow10),("unicode/utf8.acceptRanges",Rows.laid_unicode_utf8_acceptRanges),("strconv.ErrRange",Rows.laid_strconv_ErrRange),("strconv.ErrSyntax",Rows.laid_strconv_ErrSyntax),("voyage/api.ErrLong",Rows.laid_voyage_api_ErrLong),("voyage/api.ErrNumber",Rows.laid_voyage_api_ErrNumber),("voyage/api.ErrExponent",Rows.laid_voyage_api_ErrExponent),("voyage/api.ErrText",Rows.laid_voyage_api_ErrText),("voyage/api.ErrDue",Rows.laid_voyage_api_ErrDue),("voyage/api.ErrDeep",Rows.laid_voyage_api_ErrDeep),("voyage/api.ErrTwice",Rows.laid_voyage_api_ErrTwice),("voyage/api.ErrEvent",Rows.laid_voyage_api_ErrEvent),("voyage/record.partsOfKinds",Rows.laid_voyage_record_partsOfKinds),("unicode/utf8.first",Rows.laid_unicode_utf8_first)]
theorem filter_some:(Rows.recordOneUptoRow.laid.filter fun x=>x.2.handleName?.isSome)=[]:=by kernel_rfl
theorem halves {W:World} (h:laidMetH Tryz.prog Rows.recordOneUptoRow.laid W):laidMet Tryz.prog plainL W:=by
 unfold laidMetH at h;rw [filter_some] at h;exact h
theorem star:"*"++"errors.errorString"="*errors.errorString":=by decide
theorem rowE (u:TypeId) (h:Tryz.prog.typeName? 3 u=some "*errors.errorString"):u=264 :=
 typeName_ptr_named (nm:="errors.errorString") (by rw [star];kernel_rfl) (by kernel_rfl) (by decide) u (by rw [star];exact h)
theorem sent_any {P:Program}{n nm:String}{text:List UInt8}{r:List (String × DataW Unit)}{W:World}{g:Nat}{ti tp te ts:TypeId}{ms:Array (String × TypeId)}{f:Field}
 (h:laidMet P ((n,.iface nm (.ptr (.agg [.lit (.string text)])))::r) W)
 (hg:P.globalNamed n=some g) (ht:(P.globals[g]?).map (·.type)=some ti) (hi:P.underlying ti=some (.interface ms)) (hrow:∀ u,P.typeName? 3 u=some nm→u=tp)
 (hp:P.underlying tp=some (.pointer te)) (he:P.underlying te=some (.struct #[f])) (hft:f.type=ts) (hfo:f.offset=0) (hs:P.underlying ts=some .string) (hc:P.cellsOf te=1) (hcs:P.cellsOf ts=1) :
 ∃ (a:Addr) (s:ByteArray),W.cell? ⟨g,0,none⟩=some (.iface tp (.pointer (some a)))∧W.cell? a=some (.string s)∧s.data.toList=text∧∃ c t,W.heap[a.block]?=some (.cells c t (0,0)):=by
 obtain ⟨ps,⟨g0,t0,cs0,f0,p0,q0,hg0,ht0,hv0,hd0,_,e0⟩,_,hrows⟩:=h;obtain rfl:=Option.some.inj (hg.symm.trans hg0);obtain rfl:=Option.some.inj (ht.symm.trans ht0);subst e0;obtain ⟨l0⟩:=cs0
 have ok0:∀ u v,l0=[.iface u v]→Value.okWide P W .any 0 u v:=fun u v e=>by
  subst e;exact (hrows g 0 (by simp [MemPlace.row])).2 u v (by simpa using World.var?_cell hg0 hv0 0)
 obtain ⟨a,s,rfl,hca,hsa,_,hp0⟩:=errorString_of_trod hi hrow hp he hft hfo hs hc hcs hd0 ok0;refine ⟨a,s,?_,hca,hsa,(hrows a.block a.off (by subst hp0;simp [MemPlace.row])).1⟩;have:=World.var?_cell hg hv0 0;simpa using this
theorem sentinel {W:World}{name:String}{g:Nat}{text:List UInt8}{rest:List (String × DataW Unit)} (hg:Tryz.prog.globalNamed name=some g) (ht:(Tryz.prog.globals[g]?).map (·.type)=some 40)
 (h:laidMet Tryz.prog ((name,.iface "*errors.errorString" (.ptr (.agg [.lit (.string text)])))::rest) W):∃ (a:Addr) (s:ByteArray),W.cell? ⟨g,0,none⟩=some (.iface 264 (.pointer (some a)))∧W.cell? a=some (.string s)∧s.data.toList=text∧∃ c t,W.heap[a.block]?=some (.cells c t (0,0)) :=
 sent_any h hg ht Tryz.underlying40 rowE Tryz.underlying264 Tryz.underlying266 rfl rfl Tryz.underlying9 (by kernel_rfl) (by kernel_rfl)
def uren:Shelf.Ren:=⟨fun x=>x,fun|5=>5|119=>148|138=>150|139=>151|n=>n,fun|3=>2|4=>3|n=>n⟩
theorem utypes:U8Types Tryz.prog uren:=⟨Tryz.underlying5,Tryz.underlying148,Tryz.underlying150,Tryz.underlying151⟩
theorem acc_eq:(Rows.laid_unicode_utf8_acceptRanges:DataW Unit)=Lib.acceptData:=by kernel_rfl
theorem first_eq:Rows.laid_unicode_utf8_first=Lib.firstData:=Pinned.utf8First_eq
theorem tabs_of {W:World} (h:laidMet Tryz.prog plainL W):Lib.Utf8Tabs 2 3 W :=
 utf8Tabs_of_readsT utypes ⟨by kernel_rfl,by kernel_rfl,by kernel_rfl,by kernel_rfl,by kernel_rfl,by kernel_rfl,by kernel_rfl⟩ (first_eq ▸ Lib.laidMet.reads h (by simp [plainL])) (acc_eq ▸ Lib.laidMet.reads h (by simp [plainL]))
theorem partsCells {hb:Bool}{fuel:Nat}{cs:List Value}{W:World}{q:List MemPlace}{f:TypeId × Value→Unit} (h:DataW.trod f Tryz.prog W 0 (fun _=>true) hb fuel 103 cs=some (Rows.laid_voyage_record_partsOfKinds,q)) :
 ∀ (j:Nat) (x:Int),tabP[j]?=some x→cs[j]?=some (.int .i64 x):=by
 obtain ⟨xs,m,_,hx,hl,hn,hf⟩:=DataW.trod_array Tryz.underlying103 h;rw [show Tryz.prog.cellsOf 103=24 by kernel_rfl] at hl;rw [show Tryz.prog.cellsOf 88=3 by kernel_rfl] at hf
 have hd:xs.map (·.1)=[Lib.tabData .i64 [0,0,0],Lib.tabData .i64 [1,2,3],Lib.tabData .i64 [4,0,0],Lib.tabData .i64 [4,0,0],Lib.tabData .i64 [4,5,0],Lib.tabData .i64 [4,6,0],Lib.tabData .i64 [4,6,0],Lib.tabData .i64 [4,0,0]]:=by
  have h1:=congrArg Prod.fst hx;simp only [Rows.laid_voyage_record_partsOfKinds,DataW.agg.injEq] at h1;rw [← h1];rfl
 have row:∀ (i:Nat) (zs:List Int),(xs.map (·.1))[i]?=some (Lib.tabData .i64 zs)→i < 8→(cs.drop (i*3)).take 3=zs.map fun z=>Value.int .i64 z:=fun i zs hz hi=>by
  rw [List.getElem?_map] at hz;obtain ⟨y,hy,hyz⟩:=Option.map_eq_some_iff.1 hz;have h2:=hf i hi;rw [hy] at h2;obtain ⟨y1,y2⟩:=y;simp only at hyz;subst hyz;exact Lib.cells_of_tab Tryz.underlying88 Tryz.underlying3 (by kernel_rfl) (by kernel_rfl) h2
 rw [hd] at row;obtain ⟨zs,hzs⟩:∃ zs:List Int,zs=[0,0,0]:=⟨_,rfl⟩;have r0:=row 0 [0,0,0] rfl (by decide);have r1:=row 1 [1,2,3] rfl (by decide);have r2:=row 2 [4,0,0] rfl (by decide);have r3:=row 3 [4,0,0] rfl (by decide);have r4:=row 4 [4,5,0] rfl (by decide);have r5:=row 5 [4,6,0] rfl (by decide);have r6:=row 6 [4,6,0] rfl (by decide);have r7:=row 7 [4,0,0] rfl (by decide)
 have at_:∀ (i r:Nat) (zs:List Int),(cs.drop (i*3)).take 3=zs.map (fun z=>Value.int .i64 z)→r < 3→∀ x,zs[r]?=some x→cs[i*3+r]?=some (.int .i64 x):=fun i r zs e hr x hz=>by
  have h3:((cs.drop (i*3)).take 3)[r]?=some (.int .i64 x):=by rw [e,List.getElem?_map,hz];rfl
  rw [List.getElem?_take_of_lt hr,List.getElem?_drop] at h3;exact h3
 intro j x hj;have hj24:j < 24:=(List.getElem?_eq_some_iff.1 hj).1;have key:∀ (i r:Nat) (zs:List Int),(cs.drop (i*3)).take 3=zs.map (fun z=>Value.int .i64 z)→r < 3→tabP[i*3+r]?=zs[r]?→tabP[i*3+r]?=some x→cs[i*3+r]?=some (.int .i64 x):=fun i r zs e hr he hx=>at_ i r zs e hr x (he ▸ hx)
 clear hf hd row at_ hzs;have hc:j=0∨j=1∨j=2∨j=3∨j=4∨j=5∨j=6∨j=7∨j=8∨j=9∨j=10∨j=11∨j=12∨j=13∨j=14∨j=15∨j=16∨j=17∨j=18∨j=19∨j=20∨j=21∨j=22∨j=23:=by omega
 rcases hc with rfl|rfl|rfl|rfl|rfl|rfl|rfl|rfl|rfl|rfl|rfl|rfl|rfl|rfl|rfl|rfl|rfl|rfl|rfl|rfl|rfl|rfl|rfl|rfl
 · exact key 0 0 _ r0 (by decide) rfl hj
 · exact key 0 1 _ r0 (by decide) rfl hj
 · exact key 0 2 _ r0 (by decide) rfl hj
 · exact key 1 0 _ r1 (by decide) rfl hj
 · exact key 1 1 _ r1 (by decide) rfl hj
 · exact key 1 2 _ r1 (by decide) rfl hj
 · exact key 2 0 _ r2 (by decide) rfl hj
 · exact key 2 1 _ r2 (by decide) rfl hj
 · exact key 2 2 _ r2 (by decide) rfl hj
 · exact key 3 0 _ r3 (by decide) rfl hj
 · exact key 3 1 _ r3 (by decide) rfl hj
 · exact key 3 2 _ r3 (by decide) rfl hj
 · exact key 4 0 _ r4 (by decide) rfl hj
 · exact key 4 1 _ r4 (by decide) rfl hj
 · exact key 4 2 _ r4 (by decide) rfl hj
 · exact key 5 0 _ r5 (by decide) rfl hj
 · exact key 5 1 _ r5 (by decide) rfl hj
 · exact key 5 2 _ r5 (by decide) rfl hj
 · exact key 6 0 _ r6 (by decide) rfl hj
 · exact key 6 1 _ r6 (by decide) rfl hj
 · exact key 6 2 _ r6 (by decide) rfl hj
 · exact key 7 0 _ r7 (by decide) rfl hj
 · exact key 7 1 _ r7 (by decide) rfl hj
 · exact key 7 2 _ r7 (by decide) rfl hj
theorem parts_of {W:World}{rest:List (String × DataW Unit)} (h:laidMet Tryz.prog (("voyage/record.partsOfKinds",Rows.laid_voyage_record_partsOfKinds)::rest) W):TBl W:=by
 obtain ⟨ps,⟨g',t',cs,fuel,p,q,hg',ht',hvar,hd,_,_⟩,_⟩:=h;obtain rfl:=Option.some.inj ((show Tryz.prog.globalNamed "voyage/record.partsOfKinds"=some 1 by kernel_rfl).symm.trans hg');obtain rfl:=Option.some.inj ((show (Tryz.prog.globals[1]?).map (·.type)=some 103 by kernel_rfl).symm.trans ht');intro j x hx;have:=World.var?_cell hg' hvar j;rw [this];have h2:=partsCells hd j x hx;simpa using h2
theorem le_of {W:World} (h:laidMetH Tryz.prog Rows.recordOneUptoRow.laid W):∃ (E:Nat→Value) (a:Addr),LE E a W:=by
 have hp:=halves h;have t3:=hp.tail.tail.tail.tail;have t4:=t3.tail;have t5:=t4.tail;have t6:=t5.tail;have t7:=t6.tail;have t8:=t7.tail;have t9:=t8.tail;have ta:=t9.tail;have tb:=ta.tail;have tc:=tb.tail;have td:=tc.tail;obtain ⟨ar,sr,cr,_⟩:=sentinel (g:=16) (by kernel_rfl) (by kernel_rfl) t3;obtain ⟨ay,sy,cy,_⟩:=sentinel (g:=15) (by kernel_rfl) (by kernel_rfl) t4;obtain ⟨a0,s0,c0,_⟩:=sentinel (g:=4) (by kernel_rfl) (by kernel_rfl) t5;obtain ⟨a1,s1,c1,_⟩:=sentinel (g:=7) (by kernel_rfl) (by kernel_rfl) t6;obtain ⟨a2,s2,c2,_⟩:=sentinel (g:=12) (by kernel_rfl) (by kernel_rfl) t7;obtain ⟨a3,s3,c3,_⟩:=sentinel (g:=8) (by kernel_rfl) (by kernel_rfl) t8;obtain ⟨a4,s4,c4,_⟩:=sentinel (g:=5) (by kernel_rfl) (by kernel_rfl) t9;obtain ⟨a5,s5,c5,_⟩:=sentinel (g:=9) (by kernel_rfl) (by kernel_rfl) ta;obtain ⟨a6,s6,c6,_⟩:=sentinel (g:=10) (by kernel_rfl) (by kernel_rfl) tb;obtain ⟨a7,s7,c7,_⟩:=sentinel (g:=0) (by kernel_rfl) (by kernel_rfl) tc
 let A:Nat→Addr:=fun g=>if g=4 then a0 else if g=7 then a1 else if g=12 then a2 else if g=8 then a3 else if g=5 then a4 else if g=9 then a5 else if g=10 then a6 else ay
 have hpt:=parts_of td;have hng:17≤W.heap.size:=by have:=mm.cell_lt cr;exact this
 refine ⟨fun g=>.pointer (some (A g)),a7,⟨⟨?_,tabs_of hp,hpt,c7⟩,⟨tabs_of hp,?_⟩,hng⟩⟩
 · exact Lib.tabIs_of_head (g:=6) (by kernel_rfl) (by kernel_rfl) Tryz.underlying215 Tryz.underlying168 (by kernel_rfl) (by kernel_rfl) hp.tail.tail
 · rintro g (rfl|rfl|rfl|rfl|rfl|rfl|rfl|rfl)
   · exact c0
   · exact c4
   · exact c1
   · exact c2
   · exact c3
   · exact c5
   · exact c6
   · exact cy
end Go.Proofs.YthnhobplgmojeaaGreatDoor.ev.wo
namespace Go.Proofs.YthnhobplgmojeaaGreatDoor.frRecordBack
open Go.ChangeShapes Go.WideShapes Go.ChangeAt Go.RowKit Go.Joins
open Go.ChangeMaps (open_string shut_string)
theorem own:ownKnob Tryz.prog.godebug=none:=by kernel_rfl
theorem kids:Kids Tryz.prog (· < Tryz.prog.types.size):=kids_rows (by kernel_rfl) (by kernel_rfl)
theorem full:∀ t e,t < Tryz.prog.types.size→Tryz.prog.underlying t=some (.slice e)→0 < Tryz.prog.cellsOf e:=slices_full_of Tryz.prog (by kernel_rfl)
def Ans:Prop:=∀ (E0:ev.Ev) (P0:Value) (C0:List Value) (x1:Int) (x2:Int) (W:World),laidMetH Tryz.prog Rows.recordBackUptoRow.laid W→W.ShapedOpen Tryz.prog→rd.VR W E0.v C0→rt.IS W P0 E0.ns→ev.EvA E0→-9223372036854775808≤x1∧x1≤9223372036854775807→0≤x2∧x2≤255→Calls Tryz.prog 5 #[.agg (ev.evC E0 P0 C0).toArray,.int .i64 x1,.int .u8 x2] W fun e w'=>e=.returned (.bool true)∧Below W.heap.size W w'
theorem bulks {H:Type}{ds:List (DataW H)} (hk:Rows.uptoSmall H ds=true):∀ d∈ds,Rows.uptoBulk d≤1048576:=fun d hd=>by
 have h:Rows.uptoBulkAll ds≤1048576:=of_decide_eq_true hk;have:=mm.bulk_mem hd;omega
theorem sized:∀ t∈Tryz.f5.params.toList,t < Tryz.prog.types.size:=by
 rw [Tryz.params5];have h:(([32,3,5]:List TypeId).all fun t=>decide (t < Tryz.prog.types.size))=true:=by kernel_rfl
 intro t ht;exact of_decide_eq_true (List.all_eq_true.mp h t ht)
set_option maxRecDepth 100000 in
theorem contract (K:Ans) (H:Type) (enc:TypeId × Value→H) (W:World) (base:Nat) (args:Array Value) (ds gs:List (DataW H)) (before:List MemPlace)
 (hval:∀ (j:Nat) t v,Tryz.f5.params[j]?=some t→args[j]?=some v→Value.okWide Tryz.prog W .any base t v)
 (hW:DataW.Whole enc Tryz.prog Tryz.f5.params.toList Rows.recordBackSpec.vars false W args.toList ds gs before) (hL:laidMetH Tryz.prog Rows.recordBackUptoRow.laid W) (hSh:W.ShapedOpen Tryz.prog) (hk:Rows.uptoSmall H (ds++gs)=true) :
 Calls Tryz.prog 5 args W fun e W'=>∃ v,e=.returned v∧Rows.recordBackSpec.post enc Tryz.prog Tryz.f5 false true false false W args v W':=by
 have hW':=hW;obtain ⟨p,q,hA0,hV,rfl,hfz,hnd⟩:=hW;have hA:DataW.TrodAll enc Tryz.prog W 0 (fun _=>true) true Tryz.f5.params.toList args.toList ds p:=hA0;rw [Tryz.params5] at hA hval;obtain ⟨v0,vs0,d0,ds0,p0,q0,hargs0,rfl,rfl,h0,r0⟩:=trodAll_cons hA;obtain ⟨v1,vs1,d1,ds1,p1,q1,hargs1,rfl,rfl,h1,r1⟩:=trodAll_cons r0;obtain ⟨v2,vs2,d2,ds2,p2,q2,hargs2,rfl,rfl,h2,r2⟩:=trodAll_cons r1;obtain ⟨rfl,rfl,rfl⟩:=trodAll_nil r2;obtain rfl:args=#[v0,v1,v2]:=by cases args;simp_all
 obtain ⟨rfl,rfl⟩:=trodVars_none hV;simp only [List.append_nil] at hk hW';have hB:=bulks hk;have hb0:=hB d0 (by simp);obtain ⟨c0,rfl,_⟩:=okWide_struct Tryz.underlying32 (hval 0 32 v0 rfl rfl);obtain ⟨c0,rfl⟩:∃ c:List Value,c0=c.toArray:=⟨c0.toList,by simp⟩;obtain ⟨fu0,hf0⟩:=h0;obtain ⟨E0,P0,C0,e0,s0,n0,m0⟩:=ev.ev_of hf0 hb0;have e0b:c0=ev.evC E0 P0 C0:=by simpa [Value.cells] using e0
 subst e0b;obtain ⟨x1,rfl,rfl,rfl,wx1⟩:=open_int Tryz.underlying3 (hval 1 3 v1 rfl rfl) h1;have hb1:=bounds_i64 wx1;obtain ⟨x2,rfl,rfl,rfl,wx2⟩:=open_int Tryz.underlying5 (hval 2 5 v2 rfl rfl) h2;have hb2:=bounds_u8 wx2;refine (K E0 P0 C0 x1 x2 W hL hSh s0 n0 m0 ⟨by omega,by omega⟩ ⟨by omega,by omega⟩).mono fun e W' ⟨he,hg⟩=>?_
 subst he;exact ⟨_,rfl,_,_,_,[],_,[],hW',trodAll_cons_mk (shut_bool Tryz.underlying4 _) trodAll_mk0,mm.all_stays kids full hg sized hA0,rfl,hg.frame _,fun h=>by cases h⟩
theorem laid_met (os:Os):laidMet Tryz.prog Rows.recordBackUptoRow.laid ((World.laidAll Tryz.prog os Rows.recordBackUptoRow.laid).forCall (fun _ _=>0) ⟨#[],#[.agg #[.int .i64 0,.slice none 0 0,.int .i64 0,.bool false,.int .i64 0,.bool false,.bool false,.string .empty,.int .i64 0,.string .empty,.slice none 0 0,.slice none 0 0,.string .empty,.string .empty,.string .empty,.string .empty,.int .i64 0],.int .i64 0,.int .u8 0],[]⟩).memory :=
 laidMet_laidAll _ (by kernel_rfl) (by kernel_rfl)
theorem reads (os:Os) {H:Type} (enc:TypeId × Value→H):∃ places,DataW.whole enc Tryz.prog ((World.laidAll Tryz.prog os Rows.recordBackUptoRow.laid).forCall (fun _ _=>0) ⟨#[],#[.agg #[.int .i64 0,.slice none 0 0,.int .i64 0,.bool false,.int .i64 0,.bool false,.bool false,.string .empty,.int .i64 0,.string .empty,.slice none 0 0,.slice none 0 0,.string .empty,.string .empty,.string .empty,.string .empty,.int .i64 0],.int .i64 0,.int .u8 0],[]⟩).memory Tryz.f5.params.toList Rows.recordBackSpec.vars false #[Value.agg #[.int .i64 0,.slice none 0 0,.int .i64 0,.bool false,.int .i64 0,.bool false,.bool false,.string .empty,.int .i64 0,.string .empty,.slice none 0 0,.slice none 0 0,.string .empty,.string .empty,.string .empty,.string .empty,.int .i64 0],.int .i64 0,.int .u8 0].toList 8=some ([.agg [.lit (.int .i64 0),.nil,.lit (.int .i64 0),.agg [.lit (.bool false),.agg [.lit (.int .i64 0),.lit (.bool false),.agg [.lit (.bool false),.lit (.string []),.lit (.int .i64 0)],.lit (.string []),.nil,.nil],.lit (.string []),.lit (.string [])],.lit (.string []),.lit (.string []),.lit (.int .i64 0)],.lit (.int .i64 0),.lit (.int .u8 0)],[],places) :=
 ⟨[],by kernel_rfl⟩
set_option maxRecDepth 100000 in
theorem lifted (K:Ans) (os:Os) (started:os.Started) (H:Type) (enc:TypeId × Value→H) (F:Stop.Interp) :
 ReturnsInHanded {} Tryz.checked os 5 .any ((Rows.OpenSpec.upto Rows.recordBackSpec).preRow enc Tryz.prog Tryz.f5 Rows.recordBackUptoRow.domain false Rows.recordBackUptoRow.laid) (((Rows.OpenSpec.upto Rows.recordBackSpec).at F).post enc Tryz.prog Tryz.f5 false true false false):=by
 obtain ⟨places,hx⟩:=reads os enc
 refine returnsInHanded_of_row (C:=Tryz.checked) (s:=(Rows.OpenSpec.upto Rows.recordBackSpec)) own started (by kernel_rfl) Tryz.func5
  (witness_row_atRef (enc:=enc) (C:=Tryz.checked) false (World.laidAll Tryz.prog os Rows.recordBackUptoRow.laid) #[.agg #[.int .i64 0,.slice none 0 0,.int .i64 0,.bool false,.int .i64 0,.bool false,.bool false,.string .empty,.int .i64 0,.string .empty,.slice none 0 0,.slice none 0 0,.string .empty,.string .empty,.string .empty,.string .empty,.int .i64 0],.int .i64 0,.int .u8 0] (World.laidAll_os _ _ _) (by kernel_rfl) (by kernel_rfl) (by kernel_rfl)
   (OpenSpec.preRow_of_cond 8 hx (by kernel_rfl) (fun k hk=>by cases hk;kernel_rfl) (by kernel_rfl) (laid_met os))) ?_
 intro W base args ds gs before hval hW _ hcond _ hL hSh _;exact contract K H enc W base args ds gs before hval hW hL hSh (hcond _ rfl)
theorem said (K:Ans):Rows.RecordBackUptoSaid :=
 OpenClaim.holds_of_cond 5 Tryz.f5 rfl rfl rfl rfl rfl rfl rfl ⟨rfl,rfl,rfl,rfl,rfl⟩ rfl rfl rfl rfl rfl (by kernel_rfl) Tryz.func5 (by kernel_rfl)
  (of_decide_eq_true (by kernel_rfl)) (by unfold Func.isWrapper;first|(rw [if_pos (by decide +kernel)];kernel_rfl)|(rw [if_neg (by decide +kernel)];exact ⟨rfl,rfl⟩))
  (fun os started H enc _ F=>by rw [OpenClaim.pre_eq_preRow];exact lifted K os started H enc F)
theorem plain (f:FuncId) (fn:Func) (hf:Tryz.pinned.checked.prog.funcNamed "voyage/voyagelaw13.RecordBack"=some f) (hfn:Tryz.pinned.checked.prog.funcs[f]?=some fn) :
 true=Tryz.pinned.checked.prog.looks []∧∀ (j:Nat) t,fn.params[j]?=some t→Tryz.pinned.checked.prog.wantsStandIn t=false:=by
 obtain rfl:f=5:=Option.some.inj ((show Tryz.prog.funcNamed "voyage/voyagelaw13.RecordBack"=some 5 by kernel_rfl).symm.trans hf) |>.symm;obtain rfl:fn=Tryz.f5:=(Option.some.inj (Tryz.func5.symm.trans hfn)).symm;refine ⟨by kernel_rfl,fun j t ht=>?_⟩;rw [Tryz.params5] at ht;have hm:t=32∨t=3∨t=5:=by have:=Array.mem_of_getElem? ht;simp at this;grind
 rcases hm with rfl|rfl|rfl
 · exact (show Tryz.prog.wantsStandIn 32=false by kernel_rfl)
 · exact (show Tryz.prog.wantsStandIn 3=false by kernel_rfl)
 · exact (show Tryz.prog.wantsStandIn 5=false by kernel_rfl)
theorem card (K:Ans):Rows.RecordBackUptoCardSaid :=
 Claim7.holds_tied_plain_at .later [] _ _ _ _ (said K) (fun _ h=>by cases h) (by kernel_rfl) (fun _ h=>by cases h) recordBackUpto_row_tie rfl ⟨rfl,rfl⟩ (by kernel_rfl) rfl plain (by kernel_rfl)
end Go.Proofs.YthnhobplgmojeaaGreatDoor.frRecordBack
