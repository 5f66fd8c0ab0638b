/- Texts in one: Gtp Gtr Gta -/
import Derived.Test.YthakglomacijgaaGreatDoorZkPR
import Derived.Test.YthakglomacijgaaGreatDoorIdPR
import Derived.Test.YthakglomacijgaaGreatDoorIiPR
import Derived.Test.YthakglomacijgaaGreatDoorShPR
import Derived.Test.YthakglomacijgaaGreatDoorUbPR
import Derived.Test.YthakglomacijgaaGreatDoorIePR
namespace Go.Proofs.YthakglomacijgaaGreatDoor.rd
open Go.RowKit
open ss (Fst puts_fst fst_uniq)
def jz:JT:=.mk 0 false zed ⟨#[]⟩ [] []
def getF (fl:List (ByteArray × JT)) (n:ByteArray):Option JT:=(fl.find? fun p=>decide (p.1=n)).map (·.2)
theorem find_fst {F:List (ByteArray × JT)}{n:ByteArray}{p:ByteArray × JT} (h:F.find? (fun p=>decide (p.1=n))=some p):Fst F p∧p.1=n:=by
 obtain ⟨h1,xs,ys,rfl,h2⟩:=List.find?_eq_some_iff_append.1 h;have e:=of_decide_eq_true h1;refine ⟨⟨xs.length,by simp,fun j q hj hq e2=>?_⟩,e⟩;rw [List.getElem?_append_left hj] at hq;have:=h2 q (List.mem_of_getElem? hq);rw [e] at e2;simp [e2] at this
theorem find_none {F:List (ByteArray × JT)}{n:ByteArray} (h:F.find? (fun p=>decide (p.1=n))=none):∀ p∈F,p.1≠n:=by
 intro p hp e;have:=List.find?_eq_none.1 h p hp;simp [e] at this
theorem getF_puts (F:List (ByteArray × JT)) (n:ByteArray):getF (jn.puts F) n=getF F n:=by
 have hm:=(puts_fst F).1;unfold getF
 cases h:F.find? (fun p=>decide (p.1=n)) with
 | none =>
   have h1:=find_none h
   have h2:(jn.puts F).find? (fun p=>decide (p.1=n))=none:=by
    refine List.find?_eq_none.2 fun p hp=>?_
    obtain ⟨i,hi,_⟩:=(hm p).1 hp;simpa using h1 p (List.mem_of_getElem? hi)
   rw [h2]
 | some p =>
   obtain ⟨h1,h2⟩:=find_fst h
   cases h3:(jn.puts F).find? (fun p=>decide (p.1=n)) with
   | none=>exact absurd h2 (find_none h3 p ((hm p).2 h1))
   | some q =>
     obtain ⟨⟨i,hi,_⟩,e⟩:=find_fst h3;have hq:=(hm q).1 (List.mem_of_getElem? hi);rw [fst_uniq h1 hq (h2.trans e.symm)]
def kindOf:JT→Int
 | .mk k _ _ _ _ _=>k
def listOf:JT→List JT
 | .mk _ _ _ _ l _=>l
def fieldsJ:JT→List (ByteArray × JT)
 | .mk _ _ _ _ _ f=>f
def getJ (v:JT) (name:ByteArray):Option JT:=if kindOf v=5 then getF ((fieldsJ v).map fun p=>(pt.clean p.1,nrm p.2)) (pt.clean name) else none
theorem getJ_ref (v:JT) (name:ByteArray):getF (fieldsJ (nrm v)) (pt.clean name)=getJ v name:=by
 cases v with
 | mk k t d x l f =>
   unfold getJ;show getF (fieldsJ (nrm (JT.mk k t d x l f))) (pt.clean name)=if k=5 then _ else none
   rw [nrm_mk]
   by_cases h5:k=5
   · subst h5
     exact getF_puts _ _
   · rw [if_neg h5]
     split
     · rfl
     · split
       · rfl
       · split
         · rfl
         · split
           · rfl
           · rfl
def atJ (v:JT) (i:Int):Option JT:=if kindOf v=4∧0≤i∧i < ((listOf v).length:Int) then ((listOf v)[i.toNat]?).map nrm else none
theorem atJ_in {v:JT}{i:Int} (h:kindOf v=4∧0≤i∧i < ((listOf v).length:Int)):∃ e,(listOf v)[i.toNat]?=some e∧atJ v i=some (nrm e):=by
 have:i.toNat < (listOf v).length:=by omega
 refine ⟨(listOf v)[i.toNat],List.getElem?_eq_getElem this,?_⟩;unfold atJ;rw [if_pos h,List.getElem?_eq_getElem this];rfl
end Go.Proofs.YthakglomacijgaaGreatDoor.rd
namespace Go.Proofs.YthakglomacijgaaGreatDoor.rd
open Go.RowKit
theorem ret_rget {m:Nat}{w:World}{b:Bool}{a0 a1 a2 a3 a4 a5 a6 a7:Value} (h:BX w m [a0,a1,a2,a3,a4,a5,a6,a7]) (tmps:Array Value) (h2:tmps[4]?.getD undef=.pointer (some ⟨m,0,none⟩)) (h5:tmps[5]?.getD undef=.bool b) :
 (results Tryz.f20 tmps).run Tryz.prog w=.ok (.tuple #[.agg #[a0,a1,a2,a3,a4,a5,a6,a7],.bool b]) w:=by
 obtain ⟨q0,q1,q2,q3,q4,q5,q6,q7⟩:=BX.cells h;simp [results,Tryz.results20,h2,h5,go_sem,q0,q1,q2,q3,q4,q5,q6,q7]
theorem ret_jatG {m:Nat}{w:World}{b:Bool}{a0 a1 a2 a3 a4 a5 a6 a7:Value} (h:BX w m [a0,a1,a2,a3,a4,a5,a6,a7]) (tmps:Array Value) (h2:tmps[4]?.getD undef=.pointer (some ⟨m,0,none⟩)) (h5:tmps[5]?.getD undef=.bool b) :
 (results Tryz.f17 tmps).run Tryz.prog w=.ok (.tuple #[.agg #[a0,a1,a2,a3,a4,a5,a6,a7],.bool b]) w:=by
 obtain ⟨q0,q1,q2,q3,q4,q5,q6,q7⟩:=BX.cells h;simp [results,Tryz.results17,h2,h5,go_sem,q0,q1,q2,q3,q4,q5,q6,q7]
theorem ret_rat {m:Nat}{w:World}{b:Bool}{a0 a1 a2 a3 a4 a5 a6 a7:Value} (h:BX w m [a0,a1,a2,a3,a4,a5,a6,a7]) (tmps:Array Value) (h2:tmps[4]?.getD undef=.pointer (some ⟨m,0,none⟩)) (h5:tmps[5]?.getD undef=.bool b) :
 (results Tryz.f21 tmps).run Tryz.prog w=.ok (.tuple #[.agg #[a0,a1,a2,a3,a4,a5,a6,a7],.bool b]) w:=by
 obtain ⟨q0,q1,q2,q3,q4,q5,q6,q7⟩:=BX.cells h;simp [results,Tryz.results21,h2,h5,go_sem,q0,q1,q2,q3,q4,q5,q6,q7]
def GtR (w:World) (r:Option JT) (e:Ending) (w':World):Prop:=∃ cs,e=.returned (.tuple #[.agg cs.toArray,.bool r.isSome])∧VR w' (r.getD jz) cs∧Below w.heap.size w w'
def GtV (w:World) (r:Option JT) (e:Ending) (w':World):Prop:=∃ cs p,e=.returned (.tuple #[.agg cs.toArray,.bool r.isSome])∧VRep w' w.heap.size (r.getD jz) cs p∧p.Nodup∧Below w.heap.size w w'
theorem getF_at {fl:List (ByteArray × JT)}{n nm:ByteArray}{v:JT}{i:Nat} (h1:fl[i]?=some (nm,v)) (h2:nm=n) (h3:∀ (j:Nat) (q:ByteArray × JT),j < i→fl[j]?=some q→q.1≠n):getF fl n=some v:=by
 subst h2;unfold getF;obtain ⟨hlt,hv⟩:=List.getElem?_eq_some_iff.1 h1
 have:fl.find? (fun p=>decide (p.1=nm))=some (nm,v):=by
  refine List.find?_eq_some_iff_append.2 ⟨by simp,fl.take i,fl.drop (i+1),?_,fun q hq=>?_⟩
  · rw [← hv,List.getElem_cons_drop,List.take_append_drop]
  · obtain ⟨j,hj⟩:=List.getElem?_of_mem hq
    obtain ⟨hjl,_⟩:=List.getElem?_eq_some_iff.1 hj;rw [List.length_take] at hjl;rw [List.getElem?_take,if_pos (by omega)] at hj;simpa using h3 j q (by omega) hj
 rw [this];rfl
theorem getF_no {fl:List (ByteArray × JT)}{n:ByteArray} (h3:∀ (j:Nat) (q:ByteArray × JT),j < fl.length→fl[j]?=some q→q.1≠n):getF fl n=none:=by
 unfold getF;rw [List.find?_eq_none.2 fun q hq=>?_]
 · rfl
 · obtain ⟨j,hj⟩:=List.getElem?_of_mem hq
   simpa using h3 j q (List.getElem?_eq_some_iff.1 hj).1 hj
theorem VRep.fl {w:World}{B:Nat}{pb:List Nat}{k:Int}{t:Bool}{d:Dn}{x:ByteArray}{l:List JT}{f:List (ByteArray × JT)}{z0 z1 z2 z3 z4 z5 z6:Value}{oa:Option Addr}{n c:Nat} (h:VRep w B (JT.mk k t d x l f) [z0,z1,z2,z3,z4,z5,z6,.slice oa n c] pb) (i:Nat) (hi:i < f.length) :
 ∃ a nm v a0 a1 a2 a3 a4 a5 a6 a7 q,oa=some a∧f[i]?=some (nm,v)∧VRep w B v [a0,a1,a2,a3,a4,a5,a6,a7] q∧∀ (j:Nat) (u:Value),[.string nm,a0,a1,a2,a3,a4,a5,a6,a7][j]?=some u→w.cell? ((a.add (i*9)).add j)=some u:=by
 generalize hv:JT.mk k t d x l f=v0 at h;generalize hc:[z0,z1,z2,z3,z4,z5,z6,.slice oa n c]=cs at h
 cases h with
 | @mk k1 t1 d1 x1 l1 f1 lv fv css gss ps qs hl hf h1 h2 h3 h4 hle hfe =>
   simp only [JT.mk.injEq] at hv;obtain ⟨rfl,rfl,rfl,rfl,rfl,rfl⟩:=hv;simp only [List.cons.injEq] at hc;obtain ⟨_,_,_,_,_,_,_,rfl,_⟩:=hc;obtain ⟨a,c',e,_,_,hcell⟩:=mm.SV.some (mm.own_sv hf) (by omega);simp only [Value.slice.injEq] at e;obtain ⟨rfl,_,_⟩:=e;have hcv:gss[i]?=some gss[i]:=List.getElem?_eq_getElem (by omega);obtain ⟨p,hpp⟩:∃ p,f[i]?=some p:=⟨_,List.getElem?_eq_getElem hi⟩;obtain ⟨nm,v⟩:=p;obtain ⟨qb,hqb⟩:∃ q,qs[i]?=some q:=⟨_,List.getElem?_eq_getElem (by omega)⟩;have hr:=hfe i nm v _ qb hpp hcv hqb
   have h9:∀ c∈List.zipWith (fun (p:ByteArray × JT) c=>Value.string p.1::c) f gss,c.length=9:=by
    intro c hc;obtain ⟨j,hj⟩:=List.getElem?_of_mem hc;rw [List.getElem?_zipWith] at hj
    cases ha:f[j]? with
    | none=>rw [ha] at hj;simp at hj
    | some q =>
      cases hb:gss[j]? with
      | none=>rw [ha,hb] at hj;simp at hj
      | some cc =>
        rw [ha,hb] at hj;simp only [Option.some.injEq] at hj;rw [← hj,List.length_cons,(hfe j q.1 q.2 cc _ ha hb (List.getElem?_eq_getElem (show j < qs.length by have:=(List.getElem?_eq_some_iff.mp ha).1;omega))).vr.len]
   have hat:=sv_at h9 hcell (zip_at hpp hcv);obtain ⟨a0,a1,a2,a3,a4,a5,a6,a7,e8⟩:=hr.eight;rw [e8] at hr hat;exact ⟨a,nm,v,a0,a1,a2,a3,a4,a5,a6,a7,qb,rfl,hpp,hr,hat⟩
theorem vr_zero (w:World):VR w jz zcells:=(vrep_flat w 0 0 false zed ⟨#[]⟩).vr
set_option maxRecDepth 100000 in
set_option maxHeartbeats 12800000 in
theorem rget_any (v:JT) (hb:Bd v) (cs:List Value) (w:World) (h:VR w v cs) (name:ByteArray) (hn:name.size≤35184372088832) :
 Calls Tryz.prog 20 #[.agg cs.toArray,.string name] w (GtR w (getJ v name)):=by
 obtain ⟨a0,a1,a2,a3,a4,a5,a6,a7,a8,a9,aa,ab,rfl⟩:=h.form;have CN:=hide (fun u (hu:Below w.heap.size w u)=>rnrm_any _ v _ u (Nat.lt_succ_self _) hb (h.keep hu));have CC:=hide (fun u=>pt.clean_any name u hn);have HGJ:=hide (getJ_ref v name);have B2:=hide (box_two w [.int .i64 a0,.bool a1,.bool a2,.string a3,.int .i64 a4,.string a5,.slice a6 a7 a8,.slice a9 aa ab] [.int .i64 0,.bool false,.bool false,.string ⟨#[]⟩,.int .i64 0,.string ⟨#[]⟩,.slice none 0 0,.slice none 0 0]);generalize nrm v=nv at *
 cases nv with
 | mk nk nt nd nx nl nf =>
 obtain ⟨nn,ng,ne⟩:=nd;generalize getJ v name=gj at *;generalize pt.clean name=cn at *;clear h hb
 go_enter Tryz.func20,Tryz.ntmps20
 go_upto_region 1 with fail;obtain ⟨q0,q1,q2⟩:=uh B2;generalize (w.alloc (.cells [.int .i64 a0,.bool a1,.bool a2,.string a3,.int .i64 a4,.string a5,.slice a6 a7 a8,.slice a9 aa ab].toArray 27)).alloc (.cells [.int .i64 0,.bool false,.bool false,.string ⟨#[]⟩,.int .i64 0,.string ⟨#[]⟩,.slice none 0 0,.slice none 0 0].toArray 27)=W at *;obtain ⟨y0,y1,y2,y3,y4,y5,y6,y7⟩:=q0.cells;have HX1:=hide q1;have HBW:=hide q2;have HWZ:Hid (w.heap.size+2≤W.heap.size):=blk_lt q1;have CN1:=hide (uh CN W q2);clear q0 q1 q2 B2 CN
 go_upto_region 2 with (
  go_at_call 23
  refine (uh CN1).mono ?_;rintro e u ⟨cs2,p2,rfl,hr,_,hbu⟩
  obtain ⟨oa,ca,ob,cb,rfl⟩:=VR.parts hr.vr)
 have hx:=heap_alloc_new u (.cells #[.int .i64 nk,.bool nt,.bool nn,.string ng,.int .i64 ne,.string nx,.slice oa nl.length ca,.slice ob nf.length cb] 27);have hbb:Below u.heap.size u (u.alloc (.cells #[.int .i64 nk,.bool nt,.bool nn,.string ng,.int .i64 ne,.string nx,.slice oa nl.length ca,.slice ob nf.length cb] 27)):=(Below.refl _ u).alloc (Nat.le_refl _) _;generalize u.alloc (.cells #[.int .i64 nk,.bool nt,.bool nn,.string ng,.int .i64 ne,.string nx,.slice oa nl.length ca,.slice ob nf.length cb] 27)=W2 at *;have CC2:=hide (uh CC W2);have HX2:Hid (BX W2 u.heap.size [.int .i64 nk,.bool nt,.bool nn,.string ng,.int .i64 ne,.string nx,.slice oa nl.length ca,.slice ob nf.length cb]):=hx;have HB2:Hid (Below W.heap.size W W2):=hbu.trans (hbb.mono hbu.size);have HV2:=hide (hr.keep fun b hb=>hbb.block b (hr.ge b hb).2);clear hx hbb hr hbu CN1 CC y0 y1 y2 y3 y4 y5 y6 y7
 go_upto_region 3 with (
  go_at_call 52
  refine (uh CC2).mono ?_
  rintro e u2 ⟨rfl,hb2⟩)
 have HB3:=hide ((uh HB2).trans (hb2.mono (uh HB2).size));have hx:=(uh HX2).keep hb2 (blk_lt (uh HX2));obtain ⟨p0,p1,p2,p3,p4,p5,p6,p7⟩:=hx.cells;have HV3:=hide ((uh HV2).keep fun b hb=>hb2.block b ((uh HV2).ge b hb).2);have yB:=(uh HX1).keep (uh HB3) (blk_lt (uh HX1));obtain ⟨t0,t1,t2,t3,t4,t5,t6,t7⟩:=yB.cells;obtain ⟨f0,f1,f2,f3,f4,f5,f6,f7⟩:=yB.frees;have HYB:=hide yB;have HL:=hide ((uh HBW).trans ((uh HB3).mono (uh HBW).size))
 have hnl:nf.length≤9223372036854775807:=by
  obtain ⟨xs,hsv⟩:∃ xs,mm.SV u2 (.slice ob nf.length cb) nf.length 9 xs:=by
   cases (uh HV3) with
   | mk hl hf _ _ _ _ _ _=>exact ⟨_,mm.own_sv hf⟩
  obtain ⟨_,_,e,q1,q2⟩:=hsv.form;simp only [Value.slice.injEq] at e;unfold maxLen at q2;omega
 clear yB hx HX2 HB2 HV2 CC2 hb2 HX1;go_wp2
 go_loopw [8] (fun iv wr=>∃ i:Nat,i≤nf.length∧iv=.int .i64 (i:Int)∧u2=wr∧Hid (∀ (j:Nat) (q:ByteArray × JT),j < i→nf[j]?=some q→q.1≠cn)) (fun iv _=>nf.length - (intOf iv).toNat)
 case atStart=>exact ⟨0,by omega,rfl,rfl,fun j q hj=>by omega⟩
 case round =>
  obtain ⟨i,hi,rfl,hwr,HN⟩:=hrel;subst hwr
  by_cases hc:i < nf.length
  · obtain ⟨a,nm,ev,c0,c1,c2,c3,c4,c5,c6,c7,q,rfl,hv,vA,hat⟩:=(uh HV3).fl i hc
    obtain ⟨e0,e1,e2,e3,e4,e5,e6,e7,e8,e9,ea,eb,ef⟩:=vA.form;simp only [List.cons.injEq,and_true] at ef;obtain ⟨rfl,rfl,rfl,rfl,rfl,rfl,rfl,rfl⟩:=ef;obtain ⟨xn,x0,x1,x2,x3,x4,x5,x6,x7⟩:=cells9 hat;generalize ha:a.add (i*9)=ad at *;have hi1:(i:Int) < (nf.length:Int):=by omega
    have HVI:=hide hv;have HVA:=hide vA;clear hat hv vA
    by_cases he:nm=cn
    · have heq:(nm.toList == cn.toList)=true:=by rw [ss.nm_eq];exact decide_eq_true he
      have hX:=st8_bx (uh HYB) rfl (.int .i64 e0) (.bool e1) (.bool e2) (.string e3) (.int .i64 e4) (.string e5) (.slice e6 e7 e8) (.slice e9 ea eb);have hU:=st8_upd u2 (w.heap.size+1) (.int .i64 e0) (.bool e1) (.bool e2) (.string e3) (.int .i64 e4) (.string e5) (.slice e6 e7 e8) (.slice e9 ea eb);have hg:gj=some ev:=by rw [← uh HGJ];exact getF_at (uh HVI) he (uh HN)
      have hrv:VR (st8 u2 (w.heap.size+1) (.int .i64 e0) (.bool e1) (.bool e2) (.string e3) (.int .i64 e4) (.string e5) (.slice e6 e7 e8) (.slice e9 ea eb)) ev [.int .i64 e0,.bool e1,.bool e2,.string e3,.int .i64 e4,.string e5,.slice e6 e7 e8,.slice e9 ea eb]:=((uh HVA).keep fun b hb=>hU.block b (by have:=((uh HVA).ge b hb).1;have:=uh HWZ;omega)).vr
      have hfin:GtR w gj (.returned (.tuple #[.agg #[.int .i64 e0,.bool e1,.bool e2,.string e3,.int .i64 e4,.string e5,.slice e6 e7 e8,.slice e9 ea eb],.bool true])) (st8 u2 (w.heap.size+1) (.int .i64 e0) (.bool e1) (.bool e2) (.string e3) (.int .i64 e4) (.string e5) (.slice e6 e7 e8) (.slice e9 ea eb)):=by
       rw [hg];exact ⟨_,rfl,hrv,(uh HL).trans (hU.below (Nat.le_succ _))⟩
      clear hrv hU hg he;go_wp2;simp only [st8] at hX hfin;exact bodyPost_ret (ret_rget hX _ rfl rfl) rfl hfin
    · have heq:(nm.toList == cn.toList)=false:=by rw [ss.nm_eq];exact decide_eq_false he
      go_wp2;refine ⟨⟨i+1,by omega,by go_num,by first|rfl|trivial,fun j q hj hq=>?_⟩,by simp [intOf];omega⟩
      rcases Nat.lt_or_ge j i with h|h
      · exact uh HN j q h hq
      · obtain rfl:j=i:=by omega
        obtain rfl:=Option.some.inj ((uh HVI).symm.trans hq);exact he
  · obtain rfl:i=nf.length:=by omega
    have hno:¬ (nf.length:Int) < (nf.length:Int):=by omega
    have hX:=st8_bx (uh HYB) rfl (.int .i64 0) (.bool false) (.bool false) (.string ⟨#[]⟩) (.int .i64 0) (.string ⟨#[]⟩) (.slice none 0 0) (.slice none 0 0);have hU:=st8_upd u2 (w.heap.size+1) (.int .i64 0) (.bool false) (.bool false) (.string ⟨#[]⟩) (.int .i64 0) (.string ⟨#[]⟩) (.slice none 0 0) (.slice none 0 0);have hg:gj=none:=by rw [← uh HGJ];exact getF_no (uh HN)
    have hfin:GtR w gj (.returned (.tuple #[.agg #[.int .i64 0,.bool false,.bool false,.string ⟨#[]⟩,.int .i64 0,.string ⟨#[]⟩,.slice none 0 0,.slice none 0 0],.bool false])) (st8 u2 (w.heap.size+1) (.int .i64 0) (.bool false) (.bool false) (.string ⟨#[]⟩) (.int .i64 0) (.string ⟨#[]⟩) (.slice none 0 0) (.slice none 0 0)):=by
     rw [hg];exact ⟨_,rfl,vr_zero _,(uh HL).trans (hU.below (Nat.le_succ _))⟩
    clear hU hg;go_wp2;simp only [st8] at hX hfin;exact bodyPost_ret (ret_rget hX _ rfl rfl) rfl hfin
set_option maxRecDepth 100000 in
set_option maxHeartbeats 12800000 in
theorem rat_of (v:JT) (C:kindOf v=4→∀ e∈listOf v,∀ (cs:List Value) (u:World),VR u e cs→Calls Tryz.prog 23 #[.agg cs.toArray] u (NP u (nrm e))) (cs:List Value) (w:World) (h:VR w v cs) (hll:(listOf v).length≤100000000000) (i:Int) :
 Calls Tryz.prog 21 #[.agg cs.toArray,.int .i64 i] w (GtV w (atJ v i)):=by
 cases v with
 | mk k t d x l f =>
   obtain ⟨oa,ca,ob,cb,rfl⟩:=VR.parts h;obtain ⟨dn,dg,dx⟩:=d;have HC:=hide C;have HV:=hide h;have hl3:l.length≤100000000000:=hll;have B2:=hide (box_two w [.int .i64 k,.bool t,.bool dn,.string dg,.int .i64 dx,.string x,.slice oa l.length ca,.slice ob f.length cb] [.int .i64 0,.bool false,.bool false,.string ⟨#[]⟩,.int .i64 0,.string ⟨#[]⟩,.slice none 0 0,.slice none 0 0]);clear C h hll
   by_cases hA:k=4∧0≤i∧i < (l.length:Int)
   · obtain ⟨e,he,hat⟩:=atJ_in (v:=.mk k t ⟨dn,dg,dx⟩ x l f) (i:=i) hA
     rw [hat];obtain ⟨rfl,hi0,hi1⟩:=hA;obtain ⟨j,rfl⟩:=Int.eq_ofNat_of_zero_le hi0;have he':l[j]?=some e:=he;have hjl:j < l.length:=by omega
     obtain ⟨a,e',c0,c1,c2,c3,c4,c5,c6,c7,rfl,hv,vA,hcl⟩:=(uh HV).el j hjl;obtain rfl:e=e':=Option.some.inj (he'.symm.trans hv);have hmem:e∈l:=List.mem_of_getElem? hv;have HVA:=hide vA;have HCL:=hide (cells8 hcl);have had:(a.add (j*8)).block < w.heap.size:=mm.cell_lt (cells8 hcl).1;generalize ha:a.add (j*8)=ad at *;have hn0:¬ (j:Int) < 0:=by omega
     have hn1:¬ (l.length:Int)≤(j:Int):=by omega
     clear he he' hat hv hcl vA
     go_enter Tryz.func21,Tryz.ntmps21
     go_upto_region 1 with fail;obtain ⟨q0,q1,q2⟩:=uh B2;generalize (w.alloc (.cells [.int .i64 4,.bool t,.bool dn,.string dg,.int .i64 dx,.string x,.slice (some a) l.length ca,.slice ob f.length cb].toArray 27)).alloc (.cells [.int .i64 0,.bool false,.bool false,.string ⟨#[]⟩,.int .i64 0,.string ⟨#[]⟩,.slice none 0 0,.slice none 0 0].toArray 27)=W at *;obtain ⟨y0,y1,y2,y3,y4,y5,y6,y7⟩:=q0.cells;have HX1:=hide q1;have HBW:=hide q2;have HWZ:Hid (w.heap.size+2≤W.heap.size):=blk_lt q1;obtain ⟨x0,x1,x2,x3,x4,x5,x6,x7⟩:=uh HCL;have x0:=kc q2 x0;have x1:=kc q2 x1;have x2:=kc q2 x2;have x3:=kc q2 x3;have x4:=kc q2 x4;have x5:=kc q2 x5;have x6:=kc q2 x6;have x7:=kc q2 x7;have CN:=hide (uh HC rfl e hmem _ W ((uh HVA).keep q2));clear q0 q1 q2 B2 HCL HC
     go_wp2_with (
      go_at_call 23
      refine (uh CN).mono ?_;rintro r u ⟨cs',p,rfl,hr,hp,hb⟩;obtain ⟨e0,e1,e2,e3,e4,e5,e6,e7,e8,e9,ea,eb,rfl⟩:=hr.form;have yB:=(uh HX1).keep hb (blk_lt (uh HX1));obtain ⟨t0,t1,t2,t3,t4,t5,t6,t7⟩:=yB.cells;obtain ⟨f0,f1,f2,f3,f4,f5,f6,f7⟩:=yB.frees;have hX:=hide (st8_bx yB rfl (.int .i64 e0) (.bool e1) (.bool e2) (.string e3) (.int .i64 e4) (.string e5) (.slice e6 e7 e8) (.slice e9 ea eb));have hU:=st8_upd u (w.heap.size+1) (.int .i64 e0) (.bool e1) (.bool e2) (.string e3) (.int .i64 e4) (.string e5) (.slice e6 e7 e8) (.slice e9 ea eb);have hfin:Hid (GtV w (some (nrm e)) (.returned (.tuple #[.agg #[.int .i64 e0,.bool e1,.bool e2,.string e3,.int .i64 e4,.string e5,.slice e6 e7 e8,.slice e9 ea eb],.bool true])) (st8 u (w.heap.size+1) (.int .i64 e0) (.bool e1) (.bool e2) (.string e3) (.int .i64 e4) (.string e5) (.slice e6 e7 e8) (.slice e9 ea eb))):=⟨_,p,rfl,(hr.keep fun b hb2=>hU.block b (by have:=(hr.ge b hb2).1;have:=uh HWZ;omega)).base (by have:=uh HWZ;omega),hp,(uh HBW).trans ((hb.mono (by have:=uh HWZ;omega)).trans (hU.below (Nat.le_succ _)))⟩
      clear hU yB hr hb)
     have hX':=uh hX;have hfin':=uh hfin;simp only [st8] at hX' hfin';exact bodyPost_ret (ret_rat hX' _ rfl rfl) rfl hfin'
   · have hat:atJ (.mk k t ⟨dn,dg,dx⟩ x l f) i=none:=if_neg hA
     rw [hat]
     go_enter Tryz.func21,Tryz.ntmps21
     go_upto_region 1 with fail;obtain ⟨q0,q1,q2⟩:=uh B2;generalize (w.alloc (.cells [.int .i64 k,.bool t,.bool dn,.string dg,.int .i64 dx,.string x,.slice oa l.length ca,.slice ob f.length cb].toArray 27)).alloc (.cells [.int .i64 0,.bool false,.bool false,.string ⟨#[]⟩,.int .i64 0,.string ⟨#[]⟩,.slice none 0 0,.slice none 0 0].toArray 27)=W at *;obtain ⟨y0,y1,y2,y3,y4,y5,y6,y7⟩:=q0.cells;have yB:=q1;obtain ⟨t0,t1,t2,t3,t4,t5,t6,t7⟩:=yB.cells;obtain ⟨f0,f1,f2,f3,f4,f5,f6,f7⟩:=yB.frees;have HBW:=hide q2;clear q0 q1 q2 B2 HC hat
     by_cases h4:k=4
     · subst h4
       by_cases h0:i < 0
       · clear hA
         have hX:=st8_bx yB rfl (.int .i64 0) (.bool false) (.bool false) (.string ⟨#[]⟩) (.int .i64 0) (.string ⟨#[]⟩) (.slice none 0 0) (.slice none 0 0);have hU:=st8_upd W (w.heap.size+1) (.int .i64 0) (.bool false) (.bool false) (.string ⟨#[]⟩) (.int .i64 0) (.string ⟨#[]⟩) (.slice none 0 0) (.slice none 0 0);have hfin:GtV w none (.returned (.tuple #[.agg #[.int .i64 0,.bool false,.bool false,.string ⟨#[]⟩,.int .i64 0,.string ⟨#[]⟩,.slice none 0 0,.slice none 0 0],.bool false])) (st8 W (w.heap.size+1) (.int .i64 0) (.bool false) (.bool false) (.string ⟨#[]⟩) (.int .i64 0) (.string ⟨#[]⟩) (.slice none 0 0) (.slice none 0 0)):=⟨_,[],rfl,vrep_flat _ _ 0 false zed ⟨#[]⟩,List.nodup_nil,(uh HBW).trans (hU.below (Nat.le_succ _))⟩;clear hU yB;go_wp2;simp only [st8] at hX hfin;exact bodyPost_ret (ret_rat hX _ rfl rfl) rfl hfin
       · have h1:(l.length:Int)≤i:=by omega
         clear hA;have hX:=st8_bx yB rfl (.int .i64 0) (.bool false) (.bool false) (.string ⟨#[]⟩) (.int .i64 0) (.string ⟨#[]⟩) (.slice none 0 0) (.slice none 0 0);have hU:=st8_upd W (w.heap.size+1) (.int .i64 0) (.bool false) (.bool false) (.string ⟨#[]⟩) (.int .i64 0) (.string ⟨#[]⟩) (.slice none 0 0) (.slice none 0 0);have hfin:GtV w none (.returned (.tuple #[.agg #[.int .i64 0,.bool false,.bool false,.string ⟨#[]⟩,.int .i64 0,.string ⟨#[]⟩,.slice none 0 0,.slice none 0 0],.bool false])) (st8 W (w.heap.size+1) (.int .i64 0) (.bool false) (.bool false) (.string ⟨#[]⟩) (.int .i64 0) (.string ⟨#[]⟩) (.slice none 0 0) (.slice none 0 0)):=⟨_,[],rfl,vrep_flat _ _ 0 false zed ⟨#[]⟩,List.nodup_nil,(uh HBW).trans (hU.below (Nat.le_succ _))⟩;clear hU yB;go_wp2;simp only [st8] at hX hfin;exact bodyPost_ret (ret_rat hX _ rfl rfl) rfl hfin
     · have hkb:(k != 4)=true:=by simp [h4]
       clear hA;have hX:=st8_bx yB rfl (.int .i64 0) (.bool false) (.bool false) (.string ⟨#[]⟩) (.int .i64 0) (.string ⟨#[]⟩) (.slice none 0 0) (.slice none 0 0);have hU:=st8_upd W (w.heap.size+1) (.int .i64 0) (.bool false) (.bool false) (.string ⟨#[]⟩) (.int .i64 0) (.string ⟨#[]⟩) (.slice none 0 0) (.slice none 0 0);have hfin:GtV w none (.returned (.tuple #[.agg #[.int .i64 0,.bool false,.bool false,.string ⟨#[]⟩,.int .i64 0,.string ⟨#[]⟩,.slice none 0 0,.slice none 0 0],.bool false])) (st8 W (w.heap.size+1) (.int .i64 0) (.bool false) (.bool false) (.string ⟨#[]⟩) (.int .i64 0) (.string ⟨#[]⟩) (.slice none 0 0) (.slice none 0 0)):=⟨_,[],rfl,vrep_flat _ _ 0 false zed ⟨#[]⟩,List.nodup_nil,(uh HBW).trans (hU.below (Nat.le_succ _))⟩;clear hU yB;go_wp2;simp only [st8] at hX hfin;exact bodyPost_ret (ret_rat hX _ rfl rfl) rfl hfin
set_option maxRecDepth 100000 in
set_option maxHeartbeats 12800000 in
theorem jat_of (v:JT) (C:kindOf v=4→∀ e∈listOf v,∀ (cs:List Value) (u:World),VR u e cs→Calls Tryz.prog 15 #[.agg cs.toArray] u (NP u (nrm e))) (cs:List Value) (w:World) (h:VR w v cs) (hll:(listOf v).length≤100000000000) (i:Int) :
 Calls Tryz.prog 17 #[.agg cs.toArray,.int .i64 i] w (GtV w (atJ v i)):=by
 cases v with
 | mk k t d x l f =>
   obtain ⟨oa,ca,ob,cb,rfl⟩:=VR.parts h;obtain ⟨dn,dg,dx⟩:=d;have HC:=hide C;have HV:=hide h;have hl3:l.length≤100000000000:=hll;have B2:=hide (box_two w [.int .i64 k,.bool t,.bool dn,.string dg,.int .i64 dx,.string x,.slice oa l.length ca,.slice ob f.length cb] [.int .i64 0,.bool false,.bool false,.string ⟨#[]⟩,.int .i64 0,.string ⟨#[]⟩,.slice none 0 0,.slice none 0 0]);clear C h hll
   by_cases hA:k=4∧0≤i∧i < (l.length:Int)
   · obtain ⟨e,he,hat⟩:=atJ_in (v:=.mk k t ⟨dn,dg,dx⟩ x l f) (i:=i) hA
     rw [hat];obtain ⟨rfl,hi0,hi1⟩:=hA;obtain ⟨j,rfl⟩:=Int.eq_ofNat_of_zero_le hi0;have he':l[j]?=some e:=he;have hjl:j < l.length:=by omega
     obtain ⟨a,e',c0,c1,c2,c3,c4,c5,c6,c7,rfl,hv,vA,hcl⟩:=(uh HV).el j hjl;obtain rfl:e=e':=Option.some.inj (he'.symm.trans hv);have hmem:e∈l:=List.mem_of_getElem? hv;have HVA:=hide vA;have HCL:=hide (cells8 hcl);have had:(a.add (j*8)).block < w.heap.size:=mm.cell_lt (cells8 hcl).1;generalize ha:a.add (j*8)=ad at *;have hn0:¬ (j:Int) < 0:=by omega
     have hn1:¬ (l.length:Int)≤(j:Int):=by omega
     clear he he' hat hv hcl vA
     go_enter Tryz.func17,Tryz.ntmps17
     go_upto_region 1 with fail;obtain ⟨q0,q1,q2⟩:=uh B2;generalize (w.alloc (.cells [.int .i64 4,.bool t,.bool dn,.string dg,.int .i64 dx,.string x,.slice (some a) l.length ca,.slice ob f.length cb].toArray 27)).alloc (.cells [.int .i64 0,.bool false,.bool false,.string ⟨#[]⟩,.int .i64 0,.string ⟨#[]⟩,.slice none 0 0,.slice none 0 0].toArray 27)=W at *;obtain ⟨y0,y1,y2,y3,y4,y5,y6,y7⟩:=q0.cells;have HX1:=hide q1;have HBW:=hide q2;have HWZ:Hid (w.heap.size+2≤W.heap.size):=blk_lt q1;obtain ⟨x0,x1,x2,x3,x4,x5,x6,x7⟩:=uh HCL;have x0:=kc q2 x0;have x1:=kc q2 x1;have x2:=kc q2 x2;have x3:=kc q2 x3;have x4:=kc q2 x4;have x5:=kc q2 x5;have x6:=kc q2 x6;have x7:=kc q2 x7;have CN:=hide (uh HC rfl e hmem _ W ((uh HVA).keep q2));clear q0 q1 q2 B2 HCL HC
     go_wp2_with (
      go_at_call 15
      refine (uh CN).mono ?_;rintro r u ⟨cs',p,rfl,hr,hp,hb⟩;obtain ⟨e0,e1,e2,e3,e4,e5,e6,e7,e8,e9,ea,eb,rfl⟩:=hr.form;have yB:=(uh HX1).keep hb (blk_lt (uh HX1));obtain ⟨t0,t1,t2,t3,t4,t5,t6,t7⟩:=yB.cells;obtain ⟨f0,f1,f2,f3,f4,f5,f6,f7⟩:=yB.frees;have hX:=hide (st8_bx yB rfl (.int .i64 e0) (.bool e1) (.bool e2) (.string e3) (.int .i64 e4) (.string e5) (.slice e6 e7 e8) (.slice e9 ea eb));have hU:=st8_upd u (w.heap.size+1) (.int .i64 e0) (.bool e1) (.bool e2) (.string e3) (.int .i64 e4) (.string e5) (.slice e6 e7 e8) (.slice e9 ea eb);have hfin:Hid (GtV w (some (nrm e)) (.returned (.tuple #[.agg #[.int .i64 e0,.bool e1,.bool e2,.string e3,.int .i64 e4,.string e5,.slice e6 e7 e8,.slice e9 ea eb],.bool true])) (st8 u (w.heap.size+1) (.int .i64 e0) (.bool e1) (.bool e2) (.string e3) (.int .i64 e4) (.string e5) (.slice e6 e7 e8) (.slice e9 ea eb))):=⟨_,p,rfl,(hr.keep fun b hb2=>hU.block b (by have:=(hr.ge b hb2).1;have:=uh HWZ;omega)).base (by have:=uh HWZ;omega),hp,(uh HBW).trans ((hb.mono (by have:=uh HWZ;omega)).trans (hU.below (Nat.le_succ _)))⟩
      clear hU yB hr hb)
     have hX':=uh hX;have hfin':=uh hfin;simp only [st8] at hX' hfin';exact bodyPost_ret (ret_jatG hX' _ rfl rfl) rfl hfin'
   · have hat:atJ (.mk k t ⟨dn,dg,dx⟩ x l f) i=none:=if_neg hA
     rw [hat]
     go_enter Tryz.func17,Tryz.ntmps17
     go_upto_region 1 with fail;obtain ⟨q0,q1,q2⟩:=uh B2;generalize (w.alloc (.cells [.int .i64 k,.bool t,.bool dn,.string dg,.int .i64 dx,.string x,.slice oa l.length ca,.slice ob f.length cb].toArray 27)).alloc (.cells [.int .i64 0,.bool false,.bool false,.string ⟨#[]⟩,.int .i64 0,.string ⟨#[]⟩,.slice none 0 0,.slice none 0 0].toArray 27)=W at *;obtain ⟨y0,y1,y2,y3,y4,y5,y6,y7⟩:=q0.cells;have yB:=q1;obtain ⟨t0,t1,t2,t3,t4,t5,t6,t7⟩:=yB.cells;obtain ⟨f0,f1,f2,f3,f4,f5,f6,f7⟩:=yB.frees;have HBW:=hide q2;clear q0 q1 q2 B2 HC hat
     by_cases h4:k=4
     · subst h4
       by_cases h0:i < 0
       · clear hA
         have hX:=st8_bx yB rfl (.int .i64 0) (.bool false) (.bool false) (.string ⟨#[]⟩) (.int .i64 0) (.string ⟨#[]⟩) (.slice none 0 0) (.slice none 0 0);have hU:=st8_upd W (w.heap.size+1) (.int .i64 0) (.bool false) (.bool false) (.string ⟨#[]⟩) (.int .i64 0) (.string ⟨#[]⟩) (.slice none 0 0) (.slice none 0 0);have hfin:GtV w none (.returned (.tuple #[.agg #[.int .i64 0,.bool false,.bool false,.string ⟨#[]⟩,.int .i64 0,.string ⟨#[]⟩,.slice none 0 0,.slice none 0 0],.bool false])) (st8 W (w.heap.size+1) (.int .i64 0) (.bool false) (.bool false) (.string ⟨#[]⟩) (.int .i64 0) (.string ⟨#[]⟩) (.slice none 0 0) (.slice none 0 0)):=⟨_,[],rfl,vrep_flat _ _ 0 false zed ⟨#[]⟩,List.nodup_nil,(uh HBW).trans (hU.below (Nat.le_succ _))⟩;clear hU yB;go_wp2;simp only [st8] at hX hfin;exact bodyPost_ret (ret_jatG hX _ rfl rfl) rfl hfin
       · have h1:(l.length:Int)≤i:=by omega
         clear hA;have hX:=st8_bx yB rfl (.int .i64 0) (.bool false) (.bool false) (.string ⟨#[]⟩) (.int .i64 0) (.string ⟨#[]⟩) (.slice none 0 0) (.slice none 0 0);have hU:=st8_upd W (w.heap.size+1) (.int .i64 0) (.bool false) (.bool false) (.string ⟨#[]⟩) (.int .i64 0) (.string ⟨#[]⟩) (.slice none 0 0) (.slice none 0 0);have hfin:GtV w none (.returned (.tuple #[.agg #[.int .i64 0,.bool false,.bool false,.string ⟨#[]⟩,.int .i64 0,.string ⟨#[]⟩,.slice none 0 0,.slice none 0 0],.bool false])) (st8 W (w.heap.size+1) (.int .i64 0) (.bool false) (.bool false) (.string ⟨#[]⟩) (.int .i64 0) (.string ⟨#[]⟩) (.slice none 0 0) (.slice none 0 0)):=⟨_,[],rfl,vrep_flat _ _ 0 false zed ⟨#[]⟩,List.nodup_nil,(uh HBW).trans (hU.below (Nat.le_succ _))⟩;clear hU yB;go_wp2;simp only [st8] at hX hfin;exact bodyPost_ret (ret_jatG hX _ rfl rfl) rfl hfin
     · have hkb:(k != 4)=true:=by simp [h4]
       clear hA;have hX:=st8_bx yB rfl (.int .i64 0) (.bool false) (.bool false) (.string ⟨#[]⟩) (.int .i64 0) (.string ⟨#[]⟩) (.slice none 0 0) (.slice none 0 0);have hU:=st8_upd W (w.heap.size+1) (.int .i64 0) (.bool false) (.bool false) (.string ⟨#[]⟩) (.int .i64 0) (.string ⟨#[]⟩) (.slice none 0 0) (.slice none 0 0);have hfin:GtV w none (.returned (.tuple #[.agg #[.int .i64 0,.bool false,.bool false,.string ⟨#[]⟩,.int .i64 0,.string ⟨#[]⟩,.slice none 0 0,.slice none 0 0],.bool false])) (st8 W (w.heap.size+1) (.int .i64 0) (.bool false) (.bool false) (.string ⟨#[]⟩) (.int .i64 0) (.string ⟨#[]⟩) (.slice none 0 0) (.slice none 0 0)):=⟨_,[],rfl,vrep_flat _ _ 0 false zed ⟨#[]⟩,List.nodup_nil,(uh HBW).trans (hU.below (Nat.le_succ _))⟩;clear hU yB;go_wp2;simp only [st8] at hX hfin;exact bodyPost_ret (ret_jatG hX _ rfl rfl) rfl hfin
end Go.Proofs.YthakglomacijgaaGreatDoor.rd
