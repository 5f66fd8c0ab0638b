/- Texts in one: Gtj Fo5 -/
import Derived.Test.YthakglomacijgaaGreatDoorGtpPR
import Derived.Test.YthakglomacijgaaGreatDoorSqPR
import Derived.Test.YthakglomacijgaaGreatDoorFo4PR
import Derived.Test.YthakglomacijgaaGreatDoorFo3PR
namespace Go.Proofs.YthakglomacijgaaGreatDoor.rd
open Go.RowKit
set_option maxRecDepth 100000 in
set_option maxHeartbeats 6400000 in
theorem jget_miss (t:Bool) (dn:Bool) (dg:ByteArray) (dx:Int) (x:ByteArray) (l:List JT) (f:List (ByteArray × JT)) (oa:Option Addr) (c:Nat) (lv:Value) (w:World) (h:VR w (JT.mk 5 t ⟨dn,dg,dx⟩ x l f) [.int .i64 5,.bool t,.bool dn,.string dg,.int .i64 dx,.string x,lv,.slice oa f.length c])
 (name:ByteArray) (hn:name.size≤35184372088832) (hnm:∀ p∈f,p.1.size≤35184372088832) (hfl:f.length≤100000000000)
 (hbef:∀ (j:Nat) (q:ByteArray × JT),j < f.length→f[j]?=some q→said q.1≠said name) :
 Calls Tryz.prog 16 #[.agg #[.int .i64 5,.bool t,.bool dn,.string dg,.int .i64 dx,.string x,lv,.slice oa f.length c],.string name] w (GtV w none):=by
 have HV:=hide h;have HNM:=hide hnm;have HBE:=hide hbef;have CS0:=hide (fun W'=>said_any name W' hn);generalize hsn:said name=sn at CS0;have HSN:=hide hsn;clear h hnm hbef hsn;have B3:=hide (box_two w [.int .i64 5,.bool t,.bool dn,.string dg,.int .i64 dx,.string x,lv,.slice oa f.length c] [.int .i64 0,.bool false,.bool false,.string ⟨#[]⟩,.int .i64 0,.string ⟨#[]⟩,.slice none 0 0,.slice none 0 0])
 have hz2:Hid (((w.alloc (.cells [.int .i64 5,.bool t,.bool dn,.string dg,.int .i64 dx,.string x,lv,.slice oa f.length c].toArray 27)).alloc (.cells [.int .i64 0,.bool false,.bool false,.string ⟨#[]⟩,.int .i64 0,.string ⟨#[]⟩,.slice none 0 0,.slice none 0 0].toArray 27)).heap.size=w.heap.size+2):=by
  show _=_;rw [World.size_alloc,World.size_alloc]
 go_enter Tryz.func16,Tryz.ntmps16
 go_upto_region 3 with fail;obtain ⟨q0,q1,q3⟩:=uh B3;generalize (w.alloc (.cells [.int .i64 5,.bool t,.bool dn,.string dg,.int .i64 dx,.string x,lv,.slice oa f.length c].toArray 27)).alloc (.cells [.int .i64 0,.bool false,.bool false,.string ⟨#[]⟩,.int .i64 0,.string ⟨#[]⟩,.slice none 0 0,.slice none 0 0].toArray 27)=W at *;have HX0:=hide q0;have HX1:=hide q1;have HBW:=hide q3;clear B3 q0 q1 q3
 go_wp2_with (go_at_call 48;refine (uh CS0 _).mono ?_;rintro e u1 ⟨rfl,hb1⟩
              obtain ⟨y0,y1,y2,y3,y4,y5,y6,y7⟩:=((uh HX0).keep hb1 (by have:=uh hz2;omega)).cells;have HB1:=hide hb1
              clear hb1)
 go_loopw [17] (fun iv wr=>∃ j:Nat,j≤f.length∧iv=.int .i64 (j:Int)∧Hid (Below (w.heap.size+2) W wr)) (fun iv _=>f.length - (intOf iv).toNat)
 case atStart=>exact ⟨0,by omega,rfl,by have:=uh hz2;rw [← this];exact uh HB1⟩
 case round =>
  obtain ⟨j,hj,rfl,HB⟩:=hrel;clear HB1 y0 y1 y2 y3 y4 y5 y6 y7;have hb:=uh HB;have HL:=hide ((uh HBW).trans (hb.mono (by omega)));have hz:w.heap.size+2≤wr.heap.size:=by rw [← uh hz2];exact hb.size
  by_cases hc:j < f.length
  · have hj1:(j:Int) < (f.length:Int):=by omega
    have hj0:¬ (j:Int) < 0:=by omega
    obtain ⟨a',nm',v',a0,a1,a2,a3,a4,a5,a6,a7,ea,hv',vA,hat⟩:=((uh HV).keep (uh HL)).fl j (by omega);subst ea;obtain ⟨kk,tt,ng,dg2,ex2,xx,c1,m1,k1,c2,m2,k2,ef⟩:=vA.form;simp only [List.cons.injEq,and_true] at ef;obtain ⟨rfl,rfl,rfl,rfl,rfl,rfl,rfl,rfl⟩:=ef;obtain ⟨xn,x0,x1,x2,x3,x4,x5,x6,x7⟩:=cells9 hat;generalize ha:a'.add (j*9)=ad at *;have CS:=hide (fun W'=>said_any nm' W' (uh HNM (nm',v') (List.mem_of_getElem? hv')));have HVJ:=hide hv';generalize hsj:said nm'=sj at CS;have HSJ:=hide hsj;clear hat hv' vA hb hsj;go_upto_region 7 with fail;have hba:Below wr.heap.size wr (wr.alloc (.cells #[.string nm',.int .i64 kk,.bool tt,.bool ng,.string dg2,.int .i64 ex2,.string xx,.slice c1 m1 k1,.slice c2 m2 k2] 62)):=(Below.refl _ wr).alloc (Nat.le_refl _) _;have hbf:BF (wr.alloc (.cells #[.string nm',.int .i64 kk,.bool tt,.bool ng,.string dg2,.int .i64 ex2,.string xx,.slice c1 m1 k1,.slice c2 m2 k2] 62)) wr.heap.size [.string nm',.int .i64 kk,.bool tt,.bool ng,.string dg2,.int .i64 ex2,.string xx,.slice c1 m1 k1,.slice c2 m2 k2]:=heap_alloc_new wr _;generalize wr.alloc (.cells #[.string nm',.int .i64 kk,.bool tt,.bool ng,.string dg2,.int .i64 ex2,.string xx,.slice c1 m1 k1,.slice c2 m2 k2] 62)=wa at *;obtain ⟨g0,g1,g2,g3,g4,g5,g6,g7,g8⟩:=hbf.cells;have HBA:=hide hba;clear hba hbf x0 x1 x2 x3 x4 x5 x6 x7 xn
    have hne:(sj.toList == sn.toList)=false:=by
     rw [ss.nm_eq,← uh HSJ,← uh HSN];exact decide_eq_false (uh HBE j (nm',v') hc (uh HVJ))
    go_wp2_with (go_at_call 48;refine (uh CS _).mono ?_;rintro e u2 ⟨rfl,hb2⟩)
    have hs:=(uh HBA).size;exact ⟨⟨j+1,by omega,by go_num,(uh HB).trans (((uh HBA).mono (by omega)).trans (hb2.mono (by omega)))⟩,by simp [intOf];omega⟩
  · obtain rfl:j=f.length:=by omega
    have hno:¬ (f.length:Int) < (f.length:Int):=by omega
    have yB:=(uh HX1).keep hb (by omega);obtain ⟨t0,t1,t2,t3,t4,t5,t6,t7⟩:=yB.cells;obtain ⟨f0,f1,f2,f3,f4,f5,f6,f7⟩:=yB.frees;have hX:=st8_bx yB rfl (.int .i64 0) (.bool false) (.bool false) (.string ⟨#[]⟩) (.int .i64 0) (.string ⟨#[]⟩) (.slice none 0 0) (.slice none 0 0);have hU:=st8_upd wr (w.heap.size+1) (.int .i64 0) (.bool false) (.bool false) (.string ⟨#[]⟩) (.int .i64 0) (.string ⟨#[]⟩) (.slice none 0 0) (.slice none 0 0);have hfin:GtV w none (.returned (.tuple #[.agg #[.int .i64 0,.bool false,.bool false,.string ⟨#[]⟩,.int .i64 0,.string ⟨#[]⟩,.slice none 0 0,.slice none 0 0],.bool false])) (st8 wr (w.heap.size+1) (.int .i64 0) (.bool false) (.bool false) (.string ⟨#[]⟩) (.int .i64 0) (.string ⟨#[]⟩) (.slice none 0 0) (.slice none 0 0)):=⟨_,[],rfl,vrep_flat _ _ 0 false zed ⟨#[]⟩,List.nodup_nil,(uh HL).trans (hU.below (Nat.le_succ _))⟩;clear hU yB;go_wp2;simp only [st8] at hX hfin;exact bodyPost_ret (ret_jget hX _ rfl rfl) rfl hfin
set_option maxRecDepth 100000 in
set_option maxHeartbeats 6400000 in
theorem jget_none (v:JT) (hk:kindOf v≠5) (cs:List Value) (w:World) (h:VR w v cs) (name:ByteArray):Calls Tryz.prog 16 #[.agg cs.toArray,.string name] w (GtV w none):=by
 cases v with
 | mk k t d x l f =>
   obtain ⟨oa,ca,ob,cb,rfl⟩:=VR.parts h;obtain ⟨dn,dg,dx⟩:=d;have hk5:k≠5:=hk;have hkb:(k != 5)=true:=by simp [hk5]
   have B2:=hide (box_two w [.int .i64 k,.bool t,.bool dn,.string dg,.int .i64 dx,.string x,.slice oa l.length ca,.slice ob f.length cb] [.int .i64 0,.bool false,.bool false,.string ⟨#[]⟩,.int .i64 0,.string ⟨#[]⟩,.slice none 0 0,.slice none 0 0]);clear h hk
   go_enter Tryz.func16,Tryz.ntmps16
   go_upto_region 1 with fail;obtain ⟨q0,q1,q2⟩:=uh B2;generalize (w.alloc (.cells [.int .i64 k,.bool t,.bool dn,.string dg,.int .i64 dx,.string x,.slice oa l.length ca,.slice ob f.length cb].toArray 27)).alloc (.cells [.int .i64 0,.bool false,.bool false,.string ⟨#[]⟩,.int .i64 0,.string ⟨#[]⟩,.slice none 0 0,.slice none 0 0].toArray 27)=W at *;obtain ⟨y0,y1,y2,y3,y4,y5,y6,y7⟩:=q0.cells;obtain ⟨t0,t1,t2,t3,t4,t5,t6,t7⟩:=q1.cells;obtain ⟨f0,f1,f2,f3,f4,f5,f6,f7⟩:=q1.frees;have hX:=st8_bx q1 rfl (.int .i64 0) (.bool false) (.bool false) (.string ⟨#[]⟩) (.int .i64 0) (.string ⟨#[]⟩) (.slice none 0 0) (.slice none 0 0);have hU:=st8_upd W (w.heap.size+1) (.int .i64 0) (.bool false) (.bool false) (.string ⟨#[]⟩) (.int .i64 0) (.string ⟨#[]⟩) (.slice none 0 0) (.slice none 0 0);have hfin:GtV w none (.returned (.tuple #[.agg #[.int .i64 0,.bool false,.bool false,.string ⟨#[]⟩,.int .i64 0,.string ⟨#[]⟩,.slice none 0 0,.slice none 0 0],.bool false])) (st8 W (w.heap.size+1) (.int .i64 0) (.bool false) (.bool false) (.string ⟨#[]⟩) (.int .i64 0) (.string ⟨#[]⟩) (.slice none 0 0) (.slice none 0 0)):=⟨_,[],rfl,vrep_flat _ _ 0 false zed ⟨#[]⟩,List.nodup_nil,q2.trans (hU.below (Nat.le_succ _))⟩;clear hU q0 q1 q2 B2;go_wp2;simp only [st8] at hX hfin;exact bodyPost_ret (ret_jget hX _ rfl rfl) rfl hfin
theorem jget_any (v:JT) (hb:Bd v) (hg:Gd v) (cs:List Value) (w:World) (h:VR w v cs) (name:ByteArray) (hn:name.size≤35184372088832):Calls Tryz.prog 16 #[.agg cs.toArray,.string name] w (GtV w (getJ v name)):=by
 by_cases hk:kindOf v=5
 · cases v with
   | mk k t d x l f =>
     obtain rfl:k=5:=hk;obtain ⟨oa,ca,ob,cb,rfl⟩:=VR.parts h;obtain ⟨dn,dg,dx⟩:=d;have hgj:getJ (.mk 5 t ⟨dn,dg,dx⟩ x l f) name=getF (f.map fun p=>(pt.clean p.1,nrm p.2)) (pt.clean name):=if_pos rfl
     cases hb with
     | mk _ _ _ _ _ h4 _ hnm hf =>
       cases hg with
       | mk hg1 hg2 hg3 =>
       by_cases hex:∃ (i:Nat) (p:ByteArray × JT),f[i]?=some p∧said p.1=said name∧∀ (j:Nat) (q:ByteArray × JT),j < i→f[j]?=some q→said q.1≠said name
       · obtain ⟨i,⟨nm,ev⟩,h1,h2,h3⟩:=hex
         have hi:=(List.getElem?_eq_some_iff.1 h1).1;have hm:=List.mem_of_getElem? h1
         have hr:getJ (.mk 5 t ⟨dn,dg,dx⟩ x l f) name=some (nrm ev):=by
          rw [hgj];refine getF_at (i:=i) (nm:=pt.clean nm) (by rw [List.getElem?_map,h1];rfl) (by rw [← pt.said_clean,← pt.said_clean];exact h2) fun j q hj hq=>?_
          rw [List.getElem?_map] at hq
          cases hfj:f[j]? with
          | none=>rw [hfj] at hq;simp at hq
          | some p =>
            rw [hfj] at hq;simp only [Option.map_some,Option.some.injEq] at hq;subst hq;show pt.clean p.1≠pt.clean name;rw [← pt.said_clean,← pt.said_clean];exact h3 j p hj hfj
         rw [hr];refine (jget_hit t dn dg dx x l f ob cb _ w h name hn hnm h4 i hi nm ev h1 h3 h2 (fun cs w hv=>jnorm_any ev (hf (nm,ev) hm) (hg3 rfl (nm,ev) hm) cs w hv)).mono ?_;rintro e w' ⟨cs',p,rfl,q1,q2,q3⟩;exact ⟨cs',p,rfl,q1,q2,q3⟩
       · have hno:∀ (j:Nat) (q:ByteArray × JT),j < f.length→f[j]?=some q→said q.1≠said name:=by
          intro j
          induction j using Nat.strongRecOn with
          | ind j ih =>
            intro q hj hq e;exact hex ⟨j,q,hq,e,fun j' q' hj' hq'=>ih j' hj' q' (by omega) hq'⟩
         have hr:getJ (.mk 5 t ⟨dn,dg,dx⟩ x l f) name=none:=by
          rw [hgj];refine getF_no fun j q hj hq=>?_
          rw [List.length_map] at hj;rw [List.getElem?_map] at hq
          cases hfj:f[j]? with
          | none=>rw [hfj] at hq;simp at hq
          | some p =>
            rw [hfj] at hq;simp only [Option.map_some,Option.some.injEq] at hq;subst hq;show pt.clean p.1≠pt.clean name;rw [← pt.said_clean,← pt.said_clean];exact hno j p hj hfj
         rw [hr];exact jget_miss t dn dg dx x l f ob cb _ w h name hn hnm h4 hno
 · have hr:getJ v name=none:=if_neg hk
   rw [hr];exact jget_none v hk cs w h name
theorem fd_of2:∀ (f:List (ByteArray × JT)) (gss:List (List Value)),gss.length=f.length→(∀ c∈gss,V8 c) →
 ∃ D:List Fd,D.length=f.length∧D.flatMap encF=fcs f gss∧∀ (i:Nat) (p:ByteArray × JT) (c:List Value),f[i]?=some p→gss[i]?=some c→∃ x,D[i]?=some x∧x.nm=p.1∧encF (ss.sd x)=.string (said p.1)::c
 | [],_,_,_=>⟨[],rfl,rfl,fun i p c h=>by simp at h⟩
 | _::_,[],h,_=>by simp at h
 | p::f,c::gss,h,hv=>by
   obtain ⟨D,e1,e2,e3⟩:=fd_of2 f gss (by simpa using h) (fun c hc=>hv c (by simp [hc]));obtain ⟨kk,tt,ng,dg,ex,xx,q1,n1,m1,q2,n2,m2,rfl⟩:=hv c (by simp);refine ⟨⟨p.1,kk,tt,ng,dg,ex,xx,q1,n1,m1,q2,n2,m2⟩::D,by simp [e1],?_,fun i p' c' h1 h2=>?_⟩
   · rw [List.flatMap_cons,e2,fcs_cons];rfl
   · cases i with
     | zero =>
       simp only [List.getElem?_cons_zero,Option.some.injEq] at h1 h2;subst h1 h2;exact ⟨_,rfl,rfl,rfl⟩
     | succ i =>
       simp only [List.getElem?_cons_succ] at h1 h2 ⊢;exact e3 i p' c' h1 h2
theorem fcs_each {β:Type} (a:β→ByteArray × JT) (b:β→List Value):∀ K:List β,fcs (K.map a) (K.map b)=K.flatMap fun i=>.string (a i).1::b i
 | []=>rfl
 | i::K=>by rw [List.map_cons,List.map_cons,fcs_cons,fcs_each a b K,List.flatMap_cons]
theorem fok_all (f:List (ByteArray × JT)) (hl:f.length≤1000000000) (hn:∀ p∈f,p.1.size≤35184372088832):FOk f:=by
 intro k t d x l cs w u h hb
 cases h with
 | @mk k t d x l f lv fv css gss hlv hf h1 h3 hle hfe =>
   have hv8:∀ c∈gss,V8 c:=by
    intro c hcm;obtain ⟨j,hj⟩:=List.getElem?_of_mem hcm;obtain ⟨hlt,_⟩:=List.getElem?_eq_some_iff.1 hj;exact (hfe j f[j].1 f[j].2 c (List.getElem?_eq_getElem (by omega)) hj).v8
   obtain ⟨D,e1,e2,e3⟩:=fd_of2 f gss h3 hv8;have hsv:=hf.keep hb;rw [← e1,← e2] at hsv
   have at_:∀ i,i < f.length→∃ x,D[i]?=some x∧x.nm=(f[i]?.getD (⟨#[]⟩,null)).1∧encF (ss.sd x)=.string (pt.clean (f[i]?.getD (⟨#[]⟩,null)).1)::gss[i]?.getD []:=fun i hi=>by
    obtain ⟨x,q1,q2,q3⟩:=e3 i f[i] gss[i] (List.getElem?_eq_getElem hi) (List.getElem?_eq_getElem (by omega));rw [List.getElem?_eq_getElem hi,List.getElem?_eq_getElem (show i < gss.length by omega)];exact ⟨x,q1,q2,by rw [q3,pt.said_clean];rfl⟩
   have hz:∀ y∈D,y.nm.size≤35184372088832:=by
    intro y hy;obtain ⟨i,hi⟩:=List.getElem?_of_mem hy;obtain ⟨hlt,_⟩:=List.getElem?_eq_some_iff.1 hi;obtain ⟨x,q1,q2,_⟩:=at_ i (by omega);rw [hi] at q1
    cases q1
    rw [q2,List.getElem?_eq_getElem (show i < f.length by omega)];exact hn _ (List.getElem_mem _)
   have fdI_at:∀ i,i < f.length→encF (ss.fdI (D.map ss.sd) i)=.string (pt.clean (f[i]?.getD (⟨#[]⟩,null)).1)::gss[i]?.getD []∧(ss.fdI (D.map ss.sd) i).nm=pt.clean (f[i]?.getD (⟨#[]⟩,null)).1:=fun i hi=>by
    obtain ⟨x,q1,q2,q3⟩:=at_ i hi
    have e:ss.fdI (D.map ss.sd) i=ss.sd x:=by
     unfold ss.fdI;rw [List.getD_eq_getElem?_getD,List.getElem?_map,q1];rfl
    rw [e];refine ⟨q3,?_⟩;have:=(List.cons.inj q3).1;simpa using this
   have hDl:(D.map ss.sd).length=f.length:=by rw [List.length_map,e1]
   have hkm:∀ i∈ss.kp (D.map ss.sd),i < f.length:=fun i hi=>by
    have:=((ss.keeps_iff (D.map ss.sd)).1 hi).1;omega
   have hG:(ss.kp (D.map ss.sd)).map (fun i=>(pt.clean (f[i]?.getD (⟨#[]⟩,null)).1,(f[i]?.getD (⟨#[]⟩,null)).2))=cnt f:=by
    refine ss.kept_puts (D.map ss.sd) (F:=f.map fun p=>(pt.clean p.1,p.2)) (by rw [List.length_map,hDl]) (fun i p hp=>?_) _ ?_
    · rw [List.getElem?_map] at hp
      cases hq:f[i]? with
      | none=>rw [hq] at hp;simp at hp
      | some q =>
        obtain ⟨hlt,_⟩:=List.getElem?_eq_some_iff.1 hq;have:=(fdI_at i hlt).2;rw [hq] at hp this;simp only [Option.map_some,Option.some.injEq] at hp;subst hp;exact this.symm
    · rw [List.map_map]
      refine List.map_congr_left fun i hi=>?_
      have hlt:=hkm i hi;show some (pt.clean (f[i]?.getD (⟨#[]⟩,null)).1,(f[i]?.getD (⟨#[]⟩,null)).2)=(f.map fun p=>(pt.clean p.1,p.2))[i]?;rw [List.getElem?_map,List.getElem?_eq_getElem hlt];rfl
   refine (ss.fieldsOf_all (.int .i64 k) (.bool t) (.bool d.neg) (.string d.dg) (.int .i64 d.ex) (.string x) lv fv u hsv (by omega) hz).mono ?_;rintro e w' ⟨sv,rfl,ho,hbl⟩;rw [← hG];refine ⟨sv,(ss.kp (D.map ss.sd)).map fun i=>gss[i]?.getD [],rfl,?_,by simp,?_,hbl⟩
   · rw [List.length_map,fcs_each]
     have e5:((ss.kp (D.map ss.sd)).map (ss.fdI (D.map ss.sd))).flatMap encF=(ss.kp (D.map ss.sd)).flatMap fun i=>.string (pt.clean (f[i]?.getD (⟨#[]⟩,null)).1)::gss[i]?.getD []:=by
      rw [List.flatMap_map];rw [List.flatMap_def,List.flatMap_def,List.map_congr_left fun i hi=>(fdI_at i (hkm i hi)).1]
     rw [← e5];exact owns_base ho (Nat.le_succ _)
   · intro j p c hp hc
     rw [List.getElem?_map] at hp hc
     cases hq:(ss.kp (D.map ss.sd))[j]? with
     | none=>rw [hq] at hp;simp at hp
     | some i =>
       rw [hq] at hp hc;simp only [Option.map_some,Option.some.injEq] at hp hc;have hlt:=hkm i (List.mem_of_getElem? hq);subst hp hc;rw [List.getElem?_eq_getElem hlt,List.getElem?_eq_getElem (show i < gss.length by omega)];exact hfe i f[i].1 f[i].2 gss[i] (List.getElem?_eq_getElem hlt) (List.getElem?_eq_getElem (by omega))
end Go.Proofs.YthakglomacijgaaGreatDoor.rd
