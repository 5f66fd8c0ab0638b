/- Texts in one: Vv -/
import Derived.Test.YthakglomacijgaaGreatDoorIePG
import Derived.Test.YthakglomacijgaaGreatDoorMrPG
namespace Go.Proofs.YthakglomacijgaaGreatDoor.rd
open Go.RowKit Go.Joins mm
theorem vvStr:Tryz.prog.cellsOf 9=1:=by kernel_rfl
theorem vvInt:Tryz.prog.cellsOf 3=1:=by kernel_rfl
theorem vvBool:Tryz.prog.cellsOf 4=1:=by kernel_rfl
theorem vvDec:Tryz.prog.cellsOf 23=3:=by kernel_rfl
theorem vvL:Tryz.prog.cellsOf 24=1:=by kernel_rfl
theorem vvF:Tryz.prog.cellsOf 25=1:=by kernel_rfl
theorem vvVal:Tryz.prog.cellsOf 27=8:=by kernel_rfl
theorem vvFld:Tryz.prog.cellsOf 62=9:=by kernel_rfl
theorem len2' {α:Type}:∀ (l:List α),l.length=2→∃ a b,l=[a,b]
 | [a,b],_=>⟨a,b,rfl⟩
theorem len6' {α:Type}:∀ (l:List α),l.length=6→∃ a b c d e f,l=[a,b,c,d,e,f]
 | [a,b,c,d,e,f],_=>⟨a,b,c,d,e,f,rfl⟩
theorem len8' {α:Type}:∀ (l:List α),l.length=8→∃ a b c d e f g h,l=[a,b,c,d,e,f,g,h]
 | [a,b,c,d,e,f,g,h],_=>⟨a,b,c,d,e,f,g,h,rfl⟩
theorem len9' {α:Type}:∀ (l:List α),l.length=9→∃ z a b c d e f g h,l=[z,a,b,c,d,e,f,g,h]
 | [z,a,b,c,d,e,f,g,h],_=>⟨z,a,b,c,d,e,f,g,h,rfl⟩
theorem agg_lt {H:Type} (e:List (DataW H)):∀ d∈e,Rows.uptoBulk d < Rows.uptoBulk (.agg e):=fun d hd=>by
 rw [Rows.uptoBulk]
 have:=bulk_mem hd
 omega
theorem slice_lt {H:Type} (e s:List (DataW H)):e.length < Rows.uptoBulk (.slice e s)∧∀ d∈e,Rows.uptoBulk d < Rows.uptoBulk (.slice e s):=by
 rw [Rows.uptoBulk]
 have:=bulk_len e
 exact ⟨by omega,fun d hd=>by have:=bulk_mem hd;omega⟩
theorem sum_const {α:Type} (s:Nat):∀ l:List α,(l.map fun _=>s).sum=l.length*s
 | []=>by simp
 | a::l=>by rw [List.map_cons,List.sum_cons,sum_const s l,List.length_cons,Nat.succ_mul];omega
theorem flat_pos {α:Type}{s:Nat}:∀ {css:List (List α)},(∀ c∈css,c.length=s)→∀ {j:Nat}{u:α},css.flatten[j]?=some u→∃ i c r,css[i]?=some c∧c[r]?=some u∧j=i*s+r∧r < s
 | [],_,j,u,h=>by simp at h
 | c::css,hs,j,u,h=>by
   have hc:=hs c (by simp)
   rw [List.flatten_cons] at h
   by_cases q:j < c.length
   · rw [List.getElem?_append_left q] at h
     exact ⟨0,c,j,rfl,h,by omega,by omega⟩
   · rw [List.getElem?_append_right (by omega)] at h
     obtain ⟨i,d,r,h1,h2,h3,h4⟩:=flat_pos (fun c hc=>hs c (by simp [hc])) h
     exact ⟨i+1,d,r,by simpa using h1,h2,by rw [Nat.succ_mul];omega,h4⟩
section
variable {H:Type}{enc:TypeId × Value→H}{P:Program}{W:World}{fuel:Nat}{cs:List Value}{x:DataW H × List MemPlace}
theorem rows_of {t e:TypeId}{s:Nat} (ht:P.underlying t=some (.slice e)) (hc:P.cellsOf e=s) (h:DataW.trod enc P W 0 (fun _=>true) true fuel t cs=some x) (Q:List Value→Prop)
 (hQ:∀ n cs' d pl,DataW.trod enc P W 0 (fun _=>true) true n e cs'=some (d,pl)→Rows.uptoBulk d < Rows.uptoBulk x.1→Q cs') :
 ∃ (v:Value) (css:List (List Value)),cs=[v]∧SV W v css.length s css.flatten∧css.length≤Rows.uptoBulk x.1∧∀ c∈css,c.length=s∧Q c:=by
 rcases Go.Deep.open_slice ht h with ⟨rfl,rfl⟩|⟨a,len,cap,m,n,D,Pl,rfl,_,hl,hm,hmm,rfl,hx⟩
 · exact ⟨_,[],rfl,⟨by simp,none,0,rfl,by simp,by unfold maxLen;omega,fun _=>⟨rfl,rfl⟩,fun a ha=>by cases ha⟩,Nat.zero_le _,fun y hy=>by cases hy⟩
 · have hb:=slice_lt ((List.range len).map D) ((List.range (m - len)).map fun j=>D (len+j))
   simp only [if_true] at hmm
   rw [hc] at hx
   obtain ⟨f,hf⟩:=Go.Deep.choose_lt (p:=fun i (c:List Value)=>W.cells? 0 (a.add (i*s)) s=some c∧DataW.trod enc P W 0 (fun _=>true) true n e c=some (D i,Pl i)) (n:=len) (fun i hi=>hx i (by omega))
   have hlen:((List.range len).map f).length=len:=by simp
   have hs:∀ c∈(List.range len).map f,c.length=s:=fun c hcm=>by
    obtain ⟨i,hi,rfl⟩:=List.mem_map.mp hcm
    exact (World.cells?_some (hf i (List.mem_range.mp hi)).1).2.1
   refine ⟨_,(List.range len).map f,rfl,⟨?_,some a,cap,by rw [hlen],by omega,hm,(fun q=>by cases q),fun a' ha j u hu=>?_⟩,?_,fun c hcm=>⟨hs c hcm,?_⟩⟩
   · have e:((List.range len).map f).map List.length=((List.range len).map f).map (fun _=>s):=List.map_congr_left (fun c hcm=>hs c hcm)
     rw [List.length_flatten,e,sum_const]
   · cases ha
     obtain ⟨i,c,r,h1,h2,rfl,h4⟩:=flat_pos hs hu
     rw [List.getElem?_map] at h1
     cases hi:(List.range len)[i]? with
     | none=>rw [hi] at h1;cases h1
     | some i' =>
       rw [hi] at h1
       obtain ⟨hil,e⟩:=List.getElem?_eq_some_iff.mp hi
       rw [List.length_range] at hil
       simp only [List.getElem_range] at e
       subst e
       cases h1
       have:=(World.cells?_some (hf i hil).1).2.2 r h4
       rw [mm.add_add] at this
       rw [this];exact h2
   · rw [hlen]
     have:=hb.1
     simp only [List.length_map,List.length_range] at this
     exact Nat.le_of_lt this
   · obtain ⟨i,hi,rfl⟩:=List.mem_map.mp hcm
     exact hQ n _ _ _ (hf i (List.mem_range.mp hi)).2 (hb.2 _ (List.mem_map.mpr ⟨i,hi,rfl⟩))
end
section
variable {H:Type}{enc:TypeId × Value→H}{W:World}{fuel:Nat}{cs:List Value}{x:DataW H × List MemPlace}
theorem vals_zip {α β:Type}{Q:α→β→Prop}:∀ {l:List α},(∀ a∈l,∃ b,Q a b)→∃ r:List β,r.length=l.length∧∀ (i:Nat) (a:α) (b:β),l[i]?=some a→r[i]?=some b→Q a b
 | [],_=>⟨[],rfl,fun i a b h=>by simp at h⟩
 | a::l,h=>by
   obtain ⟨b,hb⟩:=h a (by simp)
   obtain ⟨r,h1,h2⟩:=vals_zip (fun a ha=>h a (List.mem_cons_of_mem _ ha))
   refine ⟨b::r,by simp [h1],fun i x y hx hy=>?_⟩
   cases i with
   | zero=>simp at hx hy;subst hx hy;exact hb
   | succ i=>exact h2 i x y (by simpa using hx) (by simpa using hy)
theorem val_of (N:Nat):∀ (fuel:Nat) (cs:List Value) (x:DataW H × List MemPlace),DataW.trod enc Tryz.prog W 0 (fun _=>true) true fuel 27 cs=some x→Rows.uptoBulk x.1≤N→N≤1048576→∃ v,VR W v cs∧Bd v:=by
 induction N with
 | zero =>
   intro fuel cs x _ h
   have:=bulk_pos x.1
   omega
 | succ N IH =>
   intro fuel cs x h hN hM
   obtain ⟨xs,n,_,rfl,hl,hlen,hf⟩:=DataW.trod_struct Tryz.underlying27 h
   rw [vvVal] at hl
   obtain ⟨c0,c1,c2,c3,c4,c5,c6,c7,rfl⟩:=len8' cs hl
   obtain ⟨y0,y1,y2,y3,y4,y5,rfl⟩:=len6' xs hlen
   have ag:=agg_lt [y0.1,y1.1,y2.1,y3.1,y4.1,y5.1]
   simp only [List.map_cons,List.map_nil] at hN
   exact (by
    have p0:DataW.trod enc Tryz.prog W 0 (fun _=>true) true n 3 (([c0,c1,c2,c3,c4,c5,c6,c7].drop 0).take (Tryz.prog.cellsOf 3))=some y0:=hf 0 _ rfl
    rw [vvInt] at p0
    have g0:DataW.trod enc Tryz.prog W 0 (fun _=>true) true n 3 [c0]=some y0:=p0
    have p1:DataW.trod enc Tryz.prog W 0 (fun _=>true) true n 4 (([c0,c1,c2,c3,c4,c5,c6,c7].drop 1).take (Tryz.prog.cellsOf 4))=some y1:=hf 1 _ rfl
    rw [vvBool] at p1
    have g1:DataW.trod enc Tryz.prog W 0 (fun _=>true) true n 4 [c1]=some y1:=p1
    have p2:DataW.trod enc Tryz.prog W 0 (fun _=>true) true n 23 (([c0,c1,c2,c3,c4,c5,c6,c7].drop 2).take (Tryz.prog.cellsOf 23))=some y2:=hf 2 _ rfl
    rw [vvDec] at p2
    have g2:DataW.trod enc Tryz.prog W 0 (fun _=>true) true n 23 [c2,c3,c4]=some y2:=p2
    have p3:DataW.trod enc Tryz.prog W 0 (fun _=>true) true n 9 (([c0,c1,c2,c3,c4,c5,c6,c7].drop 5).take (Tryz.prog.cellsOf 9))=some y3:=hf 3 _ rfl
    rw [vvStr] at p3
    have g3:DataW.trod enc Tryz.prog W 0 (fun _=>true) true n 9 [c5]=some y3:=p3
    have p4:DataW.trod enc Tryz.prog W 0 (fun _=>true) true n 24 (([c0,c1,c2,c3,c4,c5,c6,c7].drop 6).take (Tryz.prog.cellsOf 24))=some y4:=hf 4 _ rfl
    rw [vvL] at p4
    have g4:DataW.trod enc Tryz.prog W 0 (fun _=>true) true n 24 [c6]=some y4:=p4
    have p5:DataW.trod enc Tryz.prog W 0 (fun _=>true) true n 25 (([c0,c1,c2,c3,c4,c5,c6,c7].drop 7).take (Tryz.prog.cellsOf 25))=some y5:=hf 5 _ rfl
    rw [vvF] at p5
    have g5:DataW.trod enc Tryz.prog W 0 (fun _=>true) true n 25 [c7]=some y5:=p5
    have b2:=ag y2.1 (by simp)
    have b3:=ag y3.1 (by simp)
    have b4:=ag y4.1 (by simp)
    have b5:=ag y5.1 (by simp)
    obtain ⟨k,e0,_,w0⟩:=DataW.trod_int Tryz.underlying3 g0
    obtain ⟨t,e1,_⟩:=DataW.trod_bool Tryz.underlying4 g1
    obtain ⟨tx,e3,e3',_⟩:=DataW.trod_string Tryz.underlying9 g3
    obtain ⟨z0,z1,z2,m,e2,_,u0,u1,u2⟩:=Go.Deep.trod_struct3 Tryz.underlying23 g2
    have v0:DataW.trod enc Tryz.prog W 0 (fun _=>true) true m 4 (([c2,c3,c4].drop 0).take (Tryz.prog.cellsOf 4))=some z0:=u0
    have v1:DataW.trod enc Tryz.prog W 0 (fun _=>true) true m 9 (([c2,c3,c4].drop 1).take (Tryz.prog.cellsOf 9))=some z1:=u1
    have v2:DataW.trod enc Tryz.prog W 0 (fun _=>true) true m 3 (([c2,c3,c4].drop 2).take (Tryz.prog.cellsOf 3))=some z2:=u2
    rw [vvBool] at v0
    rw [vvStr] at v1
    rw [vvInt] at v2
    have k0:DataW.trod enc Tryz.prog W 0 (fun _=>true) true m 4 [c2]=some z0:=v0
    have k1:DataW.trod enc Tryz.prog W 0 (fun _=>true) true m 9 [c3]=some z1:=v1
    have k2:DataW.trod enc Tryz.prog W 0 (fun _=>true) true m 3 [c4]=some z2:=v2
    obtain ⟨dn,q0,_⟩:=DataW.trod_bool Tryz.underlying4 k0
    obtain ⟨dg,q1,q1',_⟩:=DataW.trod_string Tryz.underlying9 k1
    obtain ⟨dx,q2,_,wx⟩:=DataW.trod_int Tryz.underlying3 k2
    obtain ⟨lv,css,e4,s4,n4,a4⟩:=rows_of Tryz.underlying24 vvVal g4 (fun c=>∃ v,VR W v c∧Bd v) (fun n' cs' d pl h1 h2=>IH n' cs' (d,pl) h1 (by show Rows.uptoBulk d≤N;omega) (by omega))
    obtain ⟨fv,gss,e5,s5,n5,a5⟩:=rows_of Tryz.underlying25 vvFld g5 (fun c=>∃ p:ByteArray × JT,∃ cc,c=.string p.1::cc∧VR W p.2 cc∧Bd p.2∧p.1.size≤1048576) (fun n' cs' d pl h1 h2=>by
     obtain ⟨xs,nn,_,hd,hl2,hlen2,hf2⟩:=DataW.trod_struct Tryz.underlying62 h1
     rw [vvFld] at hl2
     obtain ⟨f0,f1,f2,f3,f4,f5,f6,f7,f8,rfl⟩:=len9' cs' hl2
     obtain ⟨r0,r1,rfl⟩:=len2' xs hlen2
     have t0:DataW.trod enc Tryz.prog W 0 (fun _=>true) true nn 9 (([f0,f1,f2,f3,f4,f5,f6,f7,f8].drop 0).take (Tryz.prog.cellsOf 9))=some r0:=hf2 0 _ rfl
     rw [vvStr] at t0
     have t0':DataW.trod enc Tryz.prog W 0 (fun _=>true) true nn 9 [f0]=some r0:=t0
     have t1:DataW.trod enc Tryz.prog W 0 (fun _=>true) true nn 27 (([f0,f1,f2,f3,f4,f5,f6,f7,f8].drop 1).take (Tryz.prog.cellsOf 27))=some r1:=hf2 1 _ rfl
     rw [vvVal] at t1
     have t1':DataW.trod enc Tryz.prog W 0 (fun _=>true) true nn 27 [f1,f2,f3,f4,f5,f6,f7,f8]=some r1:=t1
     simp only [Prod.mk.injEq,List.map_cons,List.map_nil] at hd
     have ag2:=agg_lt [r0.1,r1.1]
     rw [← hd.1] at ag2
     have c0:=ag2 r0.1 (by simp)
     have c1:=ag2 r1.1 (by simp)
     obtain ⟨s,es,es',_⟩:=DataW.trod_string Tryz.underlying9 t0'
     simp only [List.cons.injEq,and_true] at es
     have hs:s.size≤Rows.uptoBulk r0.1:=by rw [es'];exact bulk_str s
     obtain ⟨v,hv,hb⟩:=IH nn _ r1 t1' (by omega) (by omega)
     exact ⟨(s,v),_,by rw [es],hv,hb,by show s.size≤1048576;omega⟩)
    simp only [List.cons.injEq,and_true] at e0 e1 e3 e4 e5 q0 q1 q2
    subst e0 e1 e3 e4 e5 q0 q1 q2
    have htx:tx.size≤Rows.uptoBulk y3.1:=by rw [e3'];exact bulk_str tx
    have hdg:dg.size≤Rows.uptoBulk z1.1:=by rw [q1'];exact bulk_str dg
    have hz1:Rows.uptoBulk z1.1 < Rows.uptoBulk y2.1:=by rw [e2];exact agg_lt [z0.1,z1.1,z2.1] z1.1 (by simp)
    obtain ⟨l,l1,l2⟩:=vals_zip (Q:=fun c v=>VR W v c∧Bd v) (fun c hc=>(a4 c hc).2)
    obtain ⟨g,g1',g2'⟩:=vals_zip (Q:=fun c (q:(ByteArray × JT) × List Value)=>c=.string q.1.1::q.2∧VR W q.1.2 q.2∧Bd q.1.2∧q.1.1.size≤1048576) (fun c hc=>by
     obtain ⟨p,cc,h1,h2,h3,h4⟩:=(a5 c hc).2
     exact ⟨(p,cc),h1,h2,h3,h4⟩)
    have hgz:gss.flatten=fcs (g.map (·.1)) (g.map (·.2)):=by
     unfold fcs
     rw [List.zipWith_map,List.zipWith_self]
     congr 1
     apply List.ext_getElem?
     intro i
     rw [List.getElem?_map]
     cases hgi:gss[i]? with
     | none =>
       have:g[i]?=none:=by rw [List.getElem?_eq_none_iff] at hgi ⊢;omega
       rw [this];rfl
     | some c =>
       obtain ⟨hlt,_⟩:=List.getElem?_eq_some_iff.1 hgi
       have hg:g[i]?=some g[i]:=List.getElem?_eq_getElem (by omega)
       rw [hg]
       exact congrArg some (g2' i c _ hgi hg).1
    have hBl:∀ v∈l,Bd v:=fun v hv=>by
     obtain ⟨i,hi⟩:=List.getElem?_of_mem hv
     obtain ⟨hlt,_⟩:=List.getElem?_eq_some_iff.1 hi
     exact (l2 i _ v (List.getElem?_eq_getElem (by omega)) hi).2
    have hBg:∀ q∈g,Bd q.1.2∧q.1.1.size≤1048576:=fun q hq=>by
     obtain ⟨i,hi⟩:=List.getElem?_of_mem hq
     obtain ⟨hlt,_⟩:=List.getElem?_eq_some_iff.1 hi
     exact (g2' i _ q (List.getElem?_eq_getElem (by omega)) hi).2.2
    rw [← l1] at s4
    rw [hgz,← g1',← List.length_map (f:=(·.1))] at s5
    refine ⟨.mk k t ⟨dn,dg,dx⟩ tx l (g.map (·.1)),VR.mk (d:=⟨dn,dg,dx⟩) (css:=css) (gss:=g.map (·.2)) s4 s5 l1.symm (by simp) (fun i v c h1 h2=>(l2 i c v h2 h1).1) (fun i nm v c h1 h2=>?_),
     .mk (bounds_i64 w0) (by show dg.size≤_;omega) (bounds_i64 wx) (by omega) (by omega) (by rw [List.length_map];omega) hBl (fun p hp=>?_) (fun p hp=>?_)⟩
    · rw [List.getElem?_map] at h1 h2
      cases hq:g[i]? with
      | none=>rw [hq] at h1;cases h1
      | some q =>
        rw [hq] at h1 h2
        simp only [Option.map_some,Option.some.injEq] at h1 h2
        obtain ⟨hlt,_⟩:=List.getElem?_eq_some_iff.1 hq
        have:=(g2' i _ q (List.getElem?_eq_getElem (by omega)) hq).2.1
        rw [h1,h2] at this
        exact this
    · obtain ⟨q,hq,rfl⟩:=List.mem_map.1 hp
      have:=(hBg q hq).2
      omega
    · obtain ⟨q,hq,rfl⟩:=List.mem_map.1 hp
      exact (hBg q hq).1)
end
end Go.Proofs.YthakglomacijgaaGreatDoor.rd
