/- Texts in one: Vv RecW RecW2 -/
import Derived.Test.YthnhobplgmojeaaGreatDoorIeP
import Derived.Test.YthnhobplgmojeaaGreatDoorMrP
import Derived.Test.YthnhobplgmojeaaGreatDoorNuP
import Derived.Test.YthnhobplgmojeaaGreatDoorByaP
namespace Go.Proofs.YthnhobplgmojeaaGreatDoor.rd
open Go.RowKit Go.Joins mm
theorem vvStr:Tryz.prog.cellsOf 9=1:=by kernel_rfl
theorem vvInt:Tryz.prog.cellsOf 3=1:=by kernel_rfl
theorem vvBool:Tryz.prog.cellsOf 4=1:=by kernel_rfl
theorem vvDec:Tryz.prog.cellsOf 24=3:=by kernel_rfl
theorem vvL:Tryz.prog.cellsOf 25=1:=by kernel_rfl
theorem vvF:Tryz.prog.cellsOf 26=1:=by kernel_rfl
theorem vvVal:Tryz.prog.cellsOf 28=8:=by kernel_rfl
theorem vvFld:Tryz.prog.cellsOf 70=9:=by kernel_rfl
theorem len2' {α:Type}:∀ (l:List α),l.length=2→∃ a b,l=[a,b]
 | [a,b],_=>⟨a,b,rfl⟩
theorem len6' {α:Type}:∀ (l:List α),l.length=6→∃ a b c d e f,l=[a,b,c,d,e,f]
 | [a,b,c,d,e,f],_=>⟨a,b,c,d,e,f,rfl⟩
theorem len8' {α:Type}:∀ (l:List α),l.length=8→∃ a b c d e f g h,l=[a,b,c,d,e,f,g,h]
 | [a,b,c,d,e,f,g,h],_=>⟨a,b,c,d,e,f,g,h,rfl⟩
theorem len9' {α:Type}:∀ (l:List α),l.length=9→∃ z a b c d e f g h,l=[z,a,b,c,d,e,f,g,h]
 | [z,a,b,c,d,e,f,g,h],_=>⟨z,a,b,c,d,e,f,g,h,rfl⟩
theorem agg_lt {H:Type} (e:List (DataW H)):∀ d∈e,Rows.uptoBulk d < Rows.uptoBulk (.agg e):=fun d hd=>by
 rw [Rows.uptoBulk];have:=bulk_mem hd;omega
theorem slice_lt {H:Type} (e s:List (DataW H)):e.length < Rows.uptoBulk (.slice e s)∧∀ d∈e,Rows.uptoBulk d < Rows.uptoBulk (.slice e s):=by
 rw [Rows.uptoBulk];have:=bulk_len e;exact ⟨by omega,fun d hd=>by have:=bulk_mem hd;omega⟩
theorem sum_const {α:Type} (s:Nat):∀ l:List α,(l.map fun _=>s).sum=l.length*s
 | []=>by simp
 | a::l=>by rw [List.map_cons,List.sum_cons,sum_const s l,List.length_cons,Nat.succ_mul];omega
theorem flat_pos {α:Type}{s:Nat}:∀ {css:List (List α)},(∀ c∈css,c.length=s)→∀ {j:Nat}{u:α},css.flatten[j]?=some u→∃ i c r,css[i]?=some c∧c[r]?=some u∧j=i*s+r∧r < s
 | [],_,j,u,h=>by simp at h
 | c::css,hs,j,u,h=>by
   have hc:=hs c (by simp);rw [List.flatten_cons] at h
   by_cases q:j < c.length
   · rw [List.getElem?_append_left q] at h
     exact ⟨0,c,j,rfl,h,by omega,by omega⟩
   · rw [List.getElem?_append_right (by omega)] at h
     obtain ⟨i,d,r,h1,h2,h3,h4⟩:=flat_pos (fun c hc=>hs c (by simp [hc])) h;exact ⟨i+1,d,r,by simpa using h1,h2,by rw [Nat.succ_mul];omega,h4⟩
section
variable {H:Type}{enc:TypeId × Value→H}{P:Program}{W:World}{fuel:Nat}{cs:List Value}{x:DataW H × List MemPlace}
theorem rows_of {t e:TypeId}{s:Nat} (ht:P.underlying t=some (.slice e)) (hc:P.cellsOf e=s) (h:DataW.trod enc P W 0 (fun _=>true) true fuel t cs=some x) (Q:List Value→Prop)
 (hQ:∀ n cs' d pl,DataW.trod enc P W 0 (fun _=>true) true n e cs'=some (d,pl)→Rows.uptoBulk d < Rows.uptoBulk x.1→Q cs') :
 ∃ (v:Value) (css:List (List Value)),cs=[v]∧SV W v css.length s css.flatten∧css.length≤Rows.uptoBulk x.1∧∀ c∈css,c.length=s∧Q c:=by
 rcases Go.Deep.open_slice ht h with ⟨rfl,rfl⟩|⟨a,len,cap,m,n,D,Pl,rfl,_,hl,hm,hmm,rfl,hx⟩
 · exact ⟨_,[],rfl,⟨by simp,none,0,rfl,by simp,by unfold maxLen;omega,fun _=>⟨rfl,rfl⟩,fun a ha=>by cases ha⟩,Nat.zero_le _,fun y hy=>by cases hy⟩
 · have hb:=slice_lt ((List.range len).map D) ((List.range (m - len)).map fun j=>D (len+j))
   simp only [if_true] at hmm;rw [hc] at hx;obtain ⟨f,hf⟩:=Go.Deep.choose_lt (p:=fun i (c:List Value)=>W.cells? 0 (a.add (i*s)) s=some c∧DataW.trod enc P W 0 (fun _=>true) true n e c=some (D i,Pl i)) (n:=len) (fun i hi=>hx i (by omega));have hlen:((List.range len).map f).length=len:=by simp
   have hs:∀ c∈(List.range len).map f,c.length=s:=fun c hcm=>by
    obtain ⟨i,hi,rfl⟩:=List.mem_map.mp hcm;exact (World.cells?_some (hf i (List.mem_range.mp hi)).1).2.1
   refine ⟨_,(List.range len).map f,rfl,⟨?_,some a,cap,by rw [hlen],by omega,hm,(fun q=>by cases q),fun a' ha j u hu=>?_⟩,?_,fun c hcm=>⟨hs c hcm,?_⟩⟩
   · have e:((List.range len).map f).map List.length=((List.range len).map f).map (fun _=>s):=List.map_congr_left (fun c hcm=>hs c hcm)
     rw [List.length_flatten,e,sum_const]
   · cases ha
     obtain ⟨i,c,r,h1,h2,rfl,h4⟩:=flat_pos hs hu;rw [List.getElem?_map] at h1
     cases hi:(List.range len)[i]? with
     | none=>rw [hi] at h1;cases h1
     | some i' =>
       rw [hi] at h1;obtain ⟨hil,e⟩:=List.getElem?_eq_some_iff.mp hi;rw [List.length_range] at hil;simp only [List.getElem_range] at e;subst e
       cases h1
       have:=(World.cells?_some (hf i hil).1).2.2 r h4;rw [mm.add_add] at this;rw [this];exact h2
   · rw [hlen]
     have:=hb.1;simp only [List.length_map,List.length_range] at this;exact Nat.le_of_lt this
   · obtain ⟨i,hi,rfl⟩:=List.mem_map.mp hcm
     exact hQ n _ _ _ (hf i (List.mem_range.mp hi)).2 (hb.2 _ (List.mem_map.mpr ⟨i,hi,rfl⟩))
end
section
variable {H:Type}{enc:TypeId × Value→H}{W:World}{fuel:Nat}{cs:List Value}{x:DataW H × List MemPlace}
theorem vals_zip {α β:Type}{Q:α→β→Prop}:∀ {l:List α},(∀ a∈l,∃ b,Q a b)→∃ r:List β,r.length=l.length∧∀ (i:Nat) (a:α) (b:β),l[i]?=some a→r[i]?=some b→Q a b
 | [],_=>⟨[],rfl,fun i a b h=>by simp at h⟩
 | a::l,h=>by
   obtain ⟨b,hb⟩:=h a (by simp);obtain ⟨r,h1,h2⟩:=vals_zip (fun a ha=>h a (List.mem_cons_of_mem _ ha));refine ⟨b::r,by simp [h1],fun i x y hx hy=>?_⟩
   cases i with
   | zero=>simp at hx hy;subst hx hy;exact hb
   | succ i=>exact h2 i x y (by simpa using hx) (by simpa using hy)
theorem val_of (N:Nat):∀ (fuel:Nat) (cs:List Value) (x:DataW H × List MemPlace),DataW.trod enc Tryz.prog W 0 (fun _=>true) true fuel 28 cs=some x→Rows.uptoBulk x.1≤N→N≤1048576→∃ v,VR W v cs∧Bd v:=by
 induction N with
 | zero =>
   intro fuel cs x _ h;have:=bulk_pos x.1;omega
 | succ N IH =>
   intro fuel cs x h hN hM;obtain ⟨xs,n,_,rfl,hl,hlen,hf⟩:=DataW.trod_struct Tryz.underlying28 h;rw [vvVal] at hl;obtain ⟨c0,c1,c2,c3,c4,c5,c6,c7,rfl⟩:=len8' cs hl;obtain ⟨y0,y1,y2,y3,y4,y5,rfl⟩:=len6' xs hlen;have ag:=agg_lt [y0.1,y1.1,y2.1,y3.1,y4.1,y5.1];simp only [List.map_cons,List.map_nil] at hN
   exact (by
    have p0:DataW.trod enc Tryz.prog W 0 (fun _=>true) true n 3 (([c0,c1,c2,c3,c4,c5,c6,c7].drop 0).take (Tryz.prog.cellsOf 3))=some y0:=hf 0 _ rfl;rw [vvInt] at p0;have g0:DataW.trod enc Tryz.prog W 0 (fun _=>true) true n 3 [c0]=some y0:=p0;have p1:DataW.trod enc Tryz.prog W 0 (fun _=>true) true n 4 (([c0,c1,c2,c3,c4,c5,c6,c7].drop 1).take (Tryz.prog.cellsOf 4))=some y1:=hf 1 _ rfl;rw [vvBool] at p1;have g1:DataW.trod enc Tryz.prog W 0 (fun _=>true) true n 4 [c1]=some y1:=p1;have p2:DataW.trod enc Tryz.prog W 0 (fun _=>true) true n 24 (([c0,c1,c2,c3,c4,c5,c6,c7].drop 2).take (Tryz.prog.cellsOf 24))=some y2:=hf 2 _ rfl;rw [vvDec] at p2;have g2:DataW.trod enc Tryz.prog W 0 (fun _=>true) true n 24 [c2,c3,c4]=some y2:=p2;have p3:DataW.trod enc Tryz.prog W 0 (fun _=>true) true n 9 (([c0,c1,c2,c3,c4,c5,c6,c7].drop 5).take (Tryz.prog.cellsOf 9))=some y3:=hf 3 _ rfl;rw [vvStr] at p3;have g3:DataW.trod enc Tryz.prog W 0 (fun _=>true) true n 9 [c5]=some y3:=p3;have p4:DataW.trod enc Tryz.prog W 0 (fun _=>true) true n 25 (([c0,c1,c2,c3,c4,c5,c6,c7].drop 6).take (Tryz.prog.cellsOf 25))=some y4:=hf 4 _ rfl;rw [vvL] at p4;have g4:DataW.trod enc Tryz.prog W 0 (fun _=>true) true n 25 [c6]=some y4:=p4;have p5:DataW.trod enc Tryz.prog W 0 (fun _=>true) true n 26 (([c0,c1,c2,c3,c4,c5,c6,c7].drop 7).take (Tryz.prog.cellsOf 26))=some y5:=hf 5 _ rfl;rw [vvF] at p5;have g5:DataW.trod enc Tryz.prog W 0 (fun _=>true) true n 26 [c7]=some y5:=p5;have b2:=ag y2.1 (by simp);have b3:=ag y3.1 (by simp);have b4:=ag y4.1 (by simp);have b5:=ag y5.1 (by simp);obtain ⟨k,e0,_,w0⟩:=DataW.trod_int Tryz.underlying3 g0;obtain ⟨t,e1,_⟩:=DataW.trod_bool Tryz.underlying4 g1;obtain ⟨tx,e3,e3',_⟩:=DataW.trod_string Tryz.underlying9 g3;obtain ⟨z0,z1,z2,m,e2,_,u0,u1,u2⟩:=Go.Deep.trod_struct3 Tryz.underlying24 g2;have v0:DataW.trod enc Tryz.prog W 0 (fun _=>true) true m 4 (([c2,c3,c4].drop 0).take (Tryz.prog.cellsOf 4))=some z0:=u0;have v1:DataW.trod enc Tryz.prog W 0 (fun _=>true) true m 9 (([c2,c3,c4].drop 1).take (Tryz.prog.cellsOf 9))=some z1:=u1;have v2:DataW.trod enc Tryz.prog W 0 (fun _=>true) true m 3 (([c2,c3,c4].drop 2).take (Tryz.prog.cellsOf 3))=some z2:=u2;rw [vvBool] at v0;rw [vvStr] at v1;rw [vvInt] at v2;have k0:DataW.trod enc Tryz.prog W 0 (fun _=>true) true m 4 [c2]=some z0:=v0;have k1:DataW.trod enc Tryz.prog W 0 (fun _=>true) true m 9 [c3]=some z1:=v1;have k2:DataW.trod enc Tryz.prog W 0 (fun _=>true) true m 3 [c4]=some z2:=v2;obtain ⟨dn,q0,_⟩:=DataW.trod_bool Tryz.underlying4 k0;obtain ⟨dg,q1,q1',_⟩:=DataW.trod_string Tryz.underlying9 k1;obtain ⟨dx,q2,_,wx⟩:=DataW.trod_int Tryz.underlying3 k2;obtain ⟨lv,css,e4,s4,n4,a4⟩:=rows_of Tryz.underlying25 vvVal g4 (fun c=>∃ v,VR W v c∧Bd v) (fun n' cs' d pl h1 h2=>IH n' cs' (d,pl) h1 (by show Rows.uptoBulk d≤N;omega) (by omega))
    obtain ⟨fv,gss,e5,s5,n5,a5⟩:=rows_of Tryz.underlying26 vvFld g5 (fun c=>∃ p:ByteArray × JT,∃ cc,c=.string p.1::cc∧VR W p.2 cc∧Bd p.2∧p.1.size≤1048576) (fun n' cs' d pl h1 h2=>by
     obtain ⟨xs,nn,_,hd,hl2,hlen2,hf2⟩:=DataW.trod_struct Tryz.underlying70 h1;rw [vvFld] at hl2;obtain ⟨f0,f1,f2,f3,f4,f5,f6,f7,f8,rfl⟩:=len9' cs' hl2;obtain ⟨r0,r1,rfl⟩:=len2' xs hlen2;have t0:DataW.trod enc Tryz.prog W 0 (fun _=>true) true nn 9 (([f0,f1,f2,f3,f4,f5,f6,f7,f8].drop 0).take (Tryz.prog.cellsOf 9))=some r0:=hf2 0 _ rfl;rw [vvStr] at t0;have t0':DataW.trod enc Tryz.prog W 0 (fun _=>true) true nn 9 [f0]=some r0:=t0;have t1:DataW.trod enc Tryz.prog W 0 (fun _=>true) true nn 28 (([f0,f1,f2,f3,f4,f5,f6,f7,f8].drop 1).take (Tryz.prog.cellsOf 28))=some r1:=hf2 1 _ rfl;rw [vvVal] at t1;have t1':DataW.trod enc Tryz.prog W 0 (fun _=>true) true nn 28 [f1,f2,f3,f4,f5,f6,f7,f8]=some r1:=t1;simp only [Prod.mk.injEq,List.map_cons,List.map_nil] at hd;have ag2:=agg_lt [r0.1,r1.1];rw [← hd.1] at ag2;have c0:=ag2 r0.1 (by simp);have c1:=ag2 r1.1 (by simp);obtain ⟨s,es,es',_⟩:=DataW.trod_string Tryz.underlying9 t0';simp only [List.cons.injEq,and_true] at es;have hs:s.size≤Rows.uptoBulk r0.1:=by rw [es'];exact bulk_str s
     obtain ⟨v,hv,hb⟩:=IH nn _ r1 t1' (by omega) (by omega)
     exact ⟨(s,v),_,by rw [es],hv,hb,by show s.size≤1048576;omega⟩)
    simp only [List.cons.injEq,and_true] at e0 e1 e3 e4 e5 q0 q1 q2;subst e0 e1 e3 e4 e5 q0 q1 q2;have htx:tx.size≤Rows.uptoBulk y3.1:=by rw [e3'];exact bulk_str tx
    have hdg:dg.size≤Rows.uptoBulk z1.1:=by rw [q1'];exact bulk_str dg
    have hz1:Rows.uptoBulk z1.1 < Rows.uptoBulk y2.1:=by rw [e2];exact agg_lt [z0.1,z1.1,z2.1] z1.1 (by simp)
    obtain ⟨l,l1,l2⟩:=vals_zip (Q:=fun c v=>VR W v c∧Bd v) (fun c hc=>(a4 c hc).2)
    obtain ⟨g,g1',g2'⟩:=vals_zip (Q:=fun c (q:(ByteArray × JT) × List Value)=>c=.string q.1.1::q.2∧VR W q.1.2 q.2∧Bd q.1.2∧q.1.1.size≤1048576) (fun c hc=>by
     obtain ⟨p,cc,h1,h2,h3,h4⟩:=(a5 c hc).2
     exact ⟨(p,cc),h1,h2,h3,h4⟩)
    have hgz:gss.flatten=fcs (g.map (·.1)) (g.map (·.2)):=by
     unfold fcs;rw [List.zipWith_map,List.zipWith_self]
     congr 1
     apply List.ext_getElem?;intro i;rw [List.getElem?_map]
     cases hgi:gss[i]? with
     | none =>
       have:g[i]?=none:=by rw [List.getElem?_eq_none_iff] at hgi ⊢;omega
       rw [this];rfl
     | some c =>
       obtain ⟨hlt,_⟩:=List.getElem?_eq_some_iff.1 hgi;have hg:g[i]?=some g[i]:=List.getElem?_eq_getElem (by omega);rw [hg];exact congrArg some (g2' i c _ hgi hg).1
    have hBl:∀ v∈l,Bd v:=fun v hv=>by
     obtain ⟨i,hi⟩:=List.getElem?_of_mem hv;obtain ⟨hlt,_⟩:=List.getElem?_eq_some_iff.1 hi;exact (l2 i _ v (List.getElem?_eq_getElem (by omega)) hi).2
    have hBg:∀ q∈g,Bd q.1.2∧q.1.1.size≤1048576:=fun q hq=>by
     obtain ⟨i,hi⟩:=List.getElem?_of_mem hq;obtain ⟨hlt,_⟩:=List.getElem?_eq_some_iff.1 hi;exact (g2' i _ q (List.getElem?_eq_getElem (by omega)) hi).2.2
    rw [← l1] at s4;rw [hgz,← g1',← List.length_map (f:=(·.1))] at s5
    refine ⟨.mk k t ⟨dn,dg,dx⟩ tx l (g.map (·.1)),VR.mk (d:=⟨dn,dg,dx⟩) (css:=css) (gss:=g.map (·.2)) s4 s5 l1.symm (by simp) (fun i v c h1 h2=>(l2 i c v h2 h1).1) (fun i nm v c h1 h2=>?_),
     .mk (bounds_i64 w0) (by show dg.size≤_;omega) (bounds_i64 wx) (by omega) (by omega) (by rw [List.length_map];omega) hBl (fun p hp=>?_) (fun p hp=>?_)⟩
    · rw [List.getElem?_map] at h1 h2
      cases hq:g[i]? with
      | none=>rw [hq] at h1;cases h1
      | some q =>
        rw [hq] at h1 h2;simp only [Option.map_some,Option.some.injEq] at h1 h2;obtain ⟨hlt,_⟩:=List.getElem?_eq_some_iff.1 hq;have:=(g2' i _ q (List.getElem?_eq_getElem (by omega)) hq).2.1;rw [h1,h2] at this;exact this
    · obtain ⟨q,hq,rfl⟩:=List.mem_map.1 hp
      have:=(hBg q hq).2;omega
    · obtain ⟨q,hq,rfl⟩:=List.mem_map.1 hp
      exact (hBg q hq).1)
end
end Go.Proofs.YthnhobplgmojeaaGreatDoor.rd
namespace Go.Proofs.YthnhobplgmojeaaGreatDoor.ev
open Go.RowKit Go.Proofs.YthnhobplgmojeaaGreatDoor.rd
def WB (w:World) (m:Nat) (l:List UInt8) (r:Bool):Prop:=∃ tv,w.heap[m]?=some (.cells #[tv,.bool r] 63 (0,0))∧OB w (m+1) tv l
theorem OB.upd {w w':World}{m:Nat}{v:Value}{l:List UInt8} (h:OB w (m+1) v l) (hu:∀ k,k≠m→w'.heap[k]?=w.heap[k]?):OB w' (m+1) v l :=
 mm.row_keep h fun k hk=>hu k (by have:=(mm.row_lt h k hk).1;omega)
theorem _root_.Go.Proofs.YthnhobplgmojeaaGreatDoor.rd.OB.sl {w:World}{B:Nat}{v:Value}{l:List UInt8} (h:OB w B v l):∃ oa n c,v=.slice oa n c:=by
 obtain ⟨oa,c,e⟩:=h.len;exact ⟨oa,_,c,e⟩
theorem WB.lt {w:World}{m:Nat}{l:List UInt8}{r:Bool} (h:WB w m l r):m < w.heap.size:=by
 obtain ⟨tv,h,_⟩:=h;exact blk_lt h
theorem WB.keep {w w':World}{m:Nat}{l:List UInt8}{r:Bool} (h:WB w m l r) (hb:Below w.heap.size w w'):WB w' m l r:=by
 obtain ⟨tv,h1,h2⟩:=h;exact ⟨tv,(hb.block m (blk_lt h1)).trans h1,h2.keep hb⟩
def Apart (w:World) (m k:Nat):Prop:=k≠m∧∀ tv b t f,w.heap[m]?=some (.cells #[tv,b] t f)→tv.ownBlock≠some k
structure Keeps (m:Nat) (w w':World):Prop where
 os:w'.os=w.os
 tape:w'.tape=w.tape
 output:w'.output=w.output
 size:w.heap.size≤w'.heap.size
 far:∀ k,k < w.heap.size→Apart w m k→w'.heap[k]?=w.heap[k]?∧Apart w' m k
theorem Keeps.refl (m:Nat) (w:World):Keeps m w w:=⟨rfl,rfl,rfl,Nat.le_refl _,fun _ _ h=>⟨rfl,h⟩⟩
theorem Keeps.trans {m:Nat}{a b c:World} (h:Keeps m a b) (g:Keeps m b c):Keeps m a c :=
 ⟨g.os.trans h.os,g.tape.trans h.tape,g.output.trans h.output,Nat.le_trans h.size g.size,fun k hk ha=>by
  obtain ⟨e1,a1⟩:=h.far k hk ha;obtain ⟨e2,a2⟩:=g.far k (Nat.lt_of_lt_of_le hk h.size) a1
  exact ⟨e2.trans e1,a2⟩⟩
theorem Keeps.of_below {m:Nat}{w w':World} (hm:m < w.heap.size) (hb:Below w.heap.size w w'):Keeps m w w' :=
 ⟨hb.os,hb.tape,hb.output,hb.size,fun k hk ha=>⟨hb.block k hk,ha.1,fun tv b t f h=>ha.2 tv b t f (by rw [← hb.block m hm];exact h)⟩⟩
theorem WB.apart {w:World}{m:Nat}{l:List UInt8}{r:Bool} (h:WB w m l r) {k:Nat} (hk:k < m):Apart w m k:=by
 obtain ⟨tv,h1,h2⟩:=h;refine ⟨by omega,fun tv' b t f e q=>?_⟩;rw [h1] at e;simp only [Option.some.injEq,Obj.cells.injEq,Array.mk.injEq,List.cons.injEq] at e;obtain ⟨⟨rfl,_⟩,_⟩:=e;have:=(mm.row_lt h2 k q).1;omega
theorem WB.new {w w':World}{m:Nat}{l:List UInt8}{r:Bool} (h:WB w m l r) (hb:Below w.heap.size w w') {k:Nat} (hk:w.heap.size≤k):Apart w' m k:=by
 obtain ⟨tv,h1,h2⟩:=h;refine ⟨by have:=blk_lt h1;omega,fun tv' b t f e q=>?_⟩;rw [hb.block m (blk_lt h1),h1] at e;simp only [Option.some.injEq,Obj.cells.injEq,Array.mk.injEq,List.cons.injEq] at e;obtain ⟨⟨rfl,_⟩,_⟩:=e;have:=(mm.row_lt h2 k q).2;omega
theorem Keeps.below {m:Nat}{w w':World}{l:List UInt8}{r:Bool} (h:Keeps m w w') (hw:WB w m l r):Below m w w' :=
 ⟨h.os,h.tape,h.output,h.size,fun k hk=>(h.far k (Nat.lt_trans hk hw.lt) (hw.apart hk)).1⟩
theorem Keeps.mark {w:World}{m:Nat}{a b:Value}{t:TypeId}{f:Nat × Nat} (h:w.heap[m]?=some (.cells #[a,b] t f)) (x:Value):Keeps m w (w.setCell ⟨m,1,none⟩ x):=by
 have hu:=Upd.setCell m 1 w x;refine ⟨hu.os,hu.tape,hu.output,Nat.le_of_eq hu.size.symm,fun k _ ha=>⟨hu.block k ha.1,ha.1,fun tv b' t' f' e=>?_⟩⟩;rw [blk_set h 1 x] at e;refine ha.2 tv b t f ?_;rw [h];have e1:(#[a,b]:Array Value).setIfInBounds 1 x=#[a,x]:=rfl;rw [e1] at e;simp only [Option.some.injEq,Obj.cells.injEq,Array.mk.injEq,List.cons.injEq] at e;obtain ⟨⟨rfl,_⟩,_⟩:=e;rfl
theorem Keeps.tell {w w':World}{m:Nat}{a a' b:Value}{t:TypeId}{f:Nat × Nat} (h:w.heap[m]?=some (.cells #[a,b] t f)) (hx:Ext w w' a a') (hm:w'.heap[m]?=some (.cells #[a,b] t f)):Keeps m w (w'.setCell ⟨m,0,none⟩ a'):=by
 have hu:=Upd.setCell m 0 w' a';refine ⟨hu.os.trans hx.grow.os,hu.tape.trans hx.grow.tape,hu.output.trans hx.grow.output,by rw [hu.size];exact hx.grow.size,fun k hk ha=>⟨?_,ha.1,fun tv b' t' f' e=>?_⟩⟩
 · exact (hu.block k ha.1).trans (hx.grow.block k hk fun q=>ha.2 a b t f h q.symm)
 · rw [blk_set hm 0 a'] at e
   have e1:(#[a,b]:Array Value).setIfInBounds 0 a'=#[a',b]:=rfl;rw [e1] at e;simp only [Option.some.injEq,Obj.cells.injEq,Array.mk.injEq,List.cons.injEq] at e;obtain ⟨⟨rfl,_⟩,_⟩:=e;exact hx.new hk (ha.2 a b t f h)
def WrP (w:World) (m:Nat) (l:List UInt8) (r:Bool) (good:Prop) (bs:List UInt8) (K:Nat) (e:Ending) (w':World):Prop :=
 e=.returned (.tuple #[])∧Keeps m w w'∧∃ l' r',WB w' m l' r'∧(r'=false→r=false∧good∧l'=l++bs)∧(r'=true→r=true∨¬ good)∧l'.length≤l.length+K
set_option maxRecDepth 100000 in
set_option maxHeartbeats 1600000 in
theorem add_any (m:Nat) (l:List UInt8) (r:Bool) (c:UInt8) (w:World) (h:WB w m l r) (hz:l.length≤100000000000) :
 Calls Tryz.prog 40 #[.pointer (some ⟨m,0,none⟩),.int .u8 (c.toNat:Int)] w fun e w'=>e=.returned (.tuple #[])∧Keeps m w w'∧WB w' m (l++[c]) r:=by
 obtain ⟨tv,hc,ho⟩:=h;have hlt:=blk_lt hc;obtain ⟨ot,nt,ct,rfl⟩:=ho.sl;have c0:=blk_cell hc 0;have HO:=hide ho;have HC:=hide hc;have HB:Hid (m+1≤w.heap.size):=hlt;have HZ:Hid (l.length+1≤140000000000000):=by show _≤_;omega
 have HL:=hide hlt;clear ho hc hz hlt
 go_enter Tryz.func40,Tryz.ntmps40
 go_wp2_with (at_builtin;refine wpl_apB [c] w _ (m+1) _ l rfl _ _ rfl rfl rfl rfl HO HB HZ ?_;intro v' w' HO' HB' HE'
              obtain ⟨oa',nn',cc',rfl⟩:=(uh HO').sl;have hm':=((uh HB').block m (Nat.lt_succ_self m)).trans (uh HC);have f0:=blk_free hm' 0;have k0:=blk_cell hm' 0;have HM:=hide hm'
              clear hm')
 refine bodyPost_end (results_none rfl _ _ _) rfl ?_;refine ⟨rfl,?_,_,blk_set (uh HM) 0 _,OB.upd (uh HO') fun k hk=>(Upd.setCell m 0 w' _).block k hk⟩;exact Keeps.tell (uh HC) (uh HE') (uh HM)
theorem add_int (m:Nat) (l:List UInt8) (r:Bool) (c:Int) (h0:0≤c) (h1:c < 256) (w:World) (h:WB w m l r) (hz:l.length≤100000000000) :
 Calls Tryz.prog 40 #[.pointer (some ⟨m,0,none⟩),.int .u8 c] w fun e w'=>e=.returned (.tuple #[])∧Keeps m w w'∧WB w' m (l++[UInt8.ofNat c.toNat]) r:=by
 have e:((UInt8.ofNat c.toNat).toNat:Int)=c:=by rw [toNat_of (by omega)];omega
 have:=add_any m l r (UInt8.ofNat c.toNat) w h hz;rw [e] at this;exact this
theorem cnt_len (k:Nat):∀ n,n < 128 ^ k→0 < k→(cntB n).length≤k:=by
 induction k with
 | zero=>intro n _ h;omega
 | succ k ih =>
   intro n hn _
   by_cases h:n < 128
   · rw [cntB_small h];simp
   · rw [cntB_big h,List.length_cons]
     have hm:n / 128 < 128 ^ k:=by rw [Nat.div_lt_iff_lt_mul (by decide),← Nat.pow_succ];exact hn
     have hk:0 < k:=by
      cases k with
      | zero=>simp at hm;omega
      | succ k=>omega
     have:=ih _ hm hk;omega
theorem cnt_nine {n:Nat} (h:n < 2 ^ 63):(cntB n).length≤9:=cnt_len 9 n (by omega) (by decide)
set_option maxRecDepth 100000 in
set_option maxHeartbeats 3200000 in
theorem count_any (m:Nat) (l:List UInt8) (r:Bool) (n lo hi:Int) (w:World) (h:WB w m l r) (hz:l.length≤10000000000) (h0:0≤lo) (h1:hi≤9223372036854775807) :
 Calls Tryz.prog 52 #[.pointer (some ⟨m,0,none⟩),.int .i64 n,.int .i64 lo,.int .i64 hi] w (WrP w m l r (lo≤n∧n≤hi) (cntB n.toNat) 10):=by
 obtain ⟨tv,hc,ho⟩:=h;have c1:w.cell? ⟨m,1,none⟩=some (.bool r):=blk_cell hc 1;have f1:w.frozen? ⟨m,1,none⟩=false:=blk_free hc 1;have HC:=hide hc;have HO:=hide ho;have HZ:=hide hz
 have W1:Hid (WB (w.setCell ⟨m,1,none⟩ (.bool true)) m l true∧Keeps m w (w.setCell ⟨m,1,none⟩ (.bool true))) :=
  ⟨⟨tv,blk_set hc 1 _,OB.upd ho fun k hk=>(Upd.setCell m 1 w _).block k hk⟩,Keeps.mark hc _⟩
 obtain ⟨good,hgd⟩:∃ good:Prop,(lo≤n∧n≤hi)=good:=⟨_,rfl⟩;rw [hgd];have HGD:=hide hgd;clear hgd
 cases r with
 | true =>
   clear hc ho hz h0 h1
   go_enter Tryz.func52,Tryz.ntmps52
   go_wp2;refine bodyPost_end (results_none rfl _ _ _) rfl ?_;exact ⟨rfl,(uh W1).2,l,true,(uh W1).1,fun q=>Bool.noConfusion q,fun _=>.inl rfl,by omega⟩
 | false =>
 by_cases hg:lo≤n∧n≤hi
 rotate_left
 · have HB:Hid (¬ good):=fun z=>hg (by rw [uh HGD];exact z)
   by_cases hlo:n < lo
   · clear hc ho hz hg h0 h1
     go_enter Tryz.func52,Tryz.ntmps52
     go_wp2;refine bodyPost_end (results_none rfl _ _ _) rfl ?_;exact ⟨rfl,(uh W1).2,l,true,(uh W1).1,fun q=>Bool.noConfusion q,fun _=>.inr (uh HB),by omega⟩
   · have hhi:hi < n:=by omega
     clear hc ho hz hg h0 h1
     go_enter Tryz.func52,Tryz.ntmps52
     go_wp2;refine bodyPost_end (results_none rfl _ _ _) rfl ?_;exact ⟨rfl,(uh W1).2,l,true,(uh W1).1,fun q=>Bool.noConfusion q,fun _=>.inr (uh HB),by omega⟩
 · have hlo:¬ n < lo:=by omega
   have hhi:¬ hi < n:=by omega
   obtain ⟨k,rfl⟩:∃ k:Nat,n=(k:Int):=⟨n.toNat,by omega⟩;have hk63:k < 2 ^ 63:=by omega
   rw [Int.toNat_natCast]
   have HG:Hid good:=by
    show good;rw [← uh HGD];exact hg
   have HK:=hide hk63;have HW:Hid (WB w m l false):=⟨tv,hc,ho⟩;clear hc ho hz hg W1 HC HO h0 h1 hk63 HGD
   go_enter Tryz.func52,Tryz.ntmps52
   go_wp2;clear hlo hhi c1 f1
   go_loopw [1] (fun nv wr=>∃ (q:Nat) (o:List UInt8),nv=.int .i64 (q:Int)∧Hid (WB wr m (l++o) false)∧Hid (Keeps m w wr)∧Hid (o++cntB q=cntB k)∧q < 2 ^ 63) (fun nv _=>(intOf nv).toNat)
   case atStart=>exact ⟨k,[],rfl,by rw [List.append_nil];exact uh HW,Keeps.refl _ _,rfl,uh HK⟩
   case round =>
    obtain ⟨q,o,rfl,hwb,hbl,heq,hq63⟩:=hrel
    have hol:o.length+(cntB q).length≤9:=by
     have:=cnt_nine (uh HK);rw [← uh heq,List.length_append] at this;exact this
    by_cases hq:q < 128
    · have hq':¬ (128:Int)≤(q:Int):=by omega
      have hw1:IntKind.u8.wrap (q:Int)=(q:Int):=IntWalk.u8_in _ ⟨by omega,by omega⟩;have A:=hide (add_int m (l++o) false (q:Int) (by omega) (by omega) wr (uh hwb) (by rw [List.length_append];have:=uh HZ;omega));have HQ:=hide hq;clear hq
      go_wp2_with (go_at_call 40;refine (uh A).mono ?_;rintro e w1 ⟨rfl,b1,h1⟩)
      refine bodyPost_end (results_none rfl _ _ _) rfl ?_;refine ⟨rfl,(uh hbl).trans b1,_,false,h1,fun _=>⟨rfl,uh HG,?_⟩,fun z=>Bool.noConfusion z,by simp only [List.length_append,List.length_singleton];omega⟩;rw [Int.toNat_natCast,List.append_assoc,← cntB_small (uh HQ),uh heq]
    · have hq':(128:Int)≤(q:Int):=by omega
      obtain ⟨a,ha⟩:∃ a,a=q % 128:=⟨_,rfl⟩;obtain ⟨d,hd⟩:∃ d,d=q / 128:=⟨_,rfl⟩;have hr:Int.tmod (q:Int) 128=(a:Int):=by rw [Int.tmod_eq_emod_of_nonneg (by omega)];omega
      have hd':Int.tdiv (q:Int) 128=(d:Int):=by rw [Int.tdiv_eq_ediv_of_nonneg (by omega)];omega
      have ha2:a < 128:=by omega
      have hw0:IntKind.i64.wrap (a:Int)=(a:Int):=IntWalk.i64_in _ ⟨by omega,by omega⟩;have hw1:IntKind.u8.wrap (a:Int)=(a:Int):=IntWalk.u8_in _ ⟨by omega,by omega⟩;have hw2:IntKind.u8.wrap ((a:Int)+128)=(a:Int)+128:=IntWalk.u8_in _ ⟨by omega,by omega⟩;have hw3:IntKind.i64.wrap (d:Int)=(d:Int):=IntWalk.i64_in _ ⟨by omega,by omega⟩;have A:=hide (add_int m (l++o) false ((a:Int)+128) (by omega) (by omega) wr (uh hwb) (by rw [List.length_append];have:=uh HZ;omega));have hc:cntB q=UInt8.ofNat (a+128)::cntB d:=by rw [cntB_big hq,ha,hd]
      have HCN:=hide hc;have hlt:d < q:=by omega
      have HOL:=hide hol;clear hq hc ha hd hol
      go_wp2_with (go_at_call 40;refine (uh A).mono ?_;rintro e w1 ⟨rfl,b1,h1⟩)
      refine ⟨⟨d,o++[UInt8.ofNat (a+128)],rfl,?_,(uh hbl).trans b1,?_,by omega⟩,by simp [intOf];omega⟩
      · rw [← List.append_assoc]
        have e:((a:Int)+128).toNat=a+128:=by omega
        rw [e] at h1;exact h1
      · show _=_
        rw [List.append_assoc,← uh heq,uh HCN];rfl
theorem nums_snoc (l:List Nat) (n:Nat):numsB (l++[n])=numsB l++cntB n:=by
 induction l with
 | nil=>simp [numsB]
 | cons a l ih=>simp [numsB,ih]
set_option maxRecDepth 100000 in
set_option maxHeartbeats 3200000 in
theorem wtext_any (m:Nat) (l:List UInt8) (r:Bool) (s:ByteArray) (w:World) (h:WB w m l r) (hz:l.length≤1000000000) (hs:s.size≤9223372036854775807) :
 Calls Tryz.prog 51 #[.pointer (some ⟨m,0,none⟩),.string s] w (WrP w m l r (s.size≤1048576) (txtB s.data.toList) 1100000):=by
 have C:=hide (count_any m l r (s.size:Int) 0 1048576 w h (by omega) (by decide) (by decide));have HZ:=hide hz;have hsl:s.data.toList.length=s.size:=Array.length_toList;have HSL:=hide hsl;clear h hz hsl
 go_enter Tryz.func51,Tryz.ntmps51
 go_upto_region 1 with (go_at_call 52;refine (uh C).mono ?_;rintro e w1 ⟨rfl,b1,l1,r1,⟨tv1,hc1,ho1⟩,hg1,hb1,hz1⟩);have c0:w1.cell? ⟨m,0,none⟩=some tv1:=blk_cell hc1 0;have c1:w1.cell? ⟨m,1,none⟩=some (.bool r1):=blk_cell hc1 1;have HC1:=hide hc1;have HG1:=hide hg1;have HB1:=hide hb1;have HZ1:=hide hz1;have B1:=hide b1;have HO1:=hide ho1;clear C hc1 hg1 hb1 hz1 b1 ho1
 cases r1 with
 | true =>
   have HQ:=hide (uh HB1 rfl);clear HB1 HG1;go_wp2;refine bodyPost_end (results_none rfl _ _ _) rfl ?_;refine ⟨rfl,uh B1,l1,true,⟨tv1,uh HC1,uh HO1⟩,fun q=>Bool.noConfusion q,fun _=>?_,by have:=uh HZ1;omega⟩
   rcases uh HQ with q|q
   · exact .inl q
   · exact .inr (by omega)
 | false =>
   obtain ⟨g1,g2,g3⟩:=uh HG1 rfl;have HGG:=hide g3;have HR:=hide g1;have HB:Hid (m+1≤w1.heap.size):=blk_lt (uh HC1)
   have HL:Hid (l1.length+s.size≤140000000000000):=by
    have:=uh HZ1;have:=uh HZ;show _≤_;omega
   have HS:Hid (s.size≤1048576):=by show _≤_;omega
   clear g1 g2 g3 HG1 HB1 hs
   go_wp2_with (at_builtin;refine wpl_apS s w1 (m+1) tv1 l1 rfl _ _ rfl rfl rfl HO1 HB HL ?_;intro v' w' HO' HB' HE'
                obtain ⟨oa',nn',cc',rfl⟩:=(uh HO').sl;have hm':=((uh HB').block m (Nat.lt_succ_self m)).trans (uh HC1);have f0:=blk_free hm' 0;have k0:=blk_cell hm' 0;have HM:=hide hm'
                clear hm')
   refine bodyPost_end (results_none rfl _ _ _) rfl ?_;refine ⟨rfl,?_,_,false,⟨_,blk_set (uh HM) 0 _,OB.upd (uh HO') fun k hk=>(Upd.setCell m 0 w' _).block k hk⟩,fun _=>⟨uh HR,uh HS,?_⟩,fun q=>Bool.noConfusion q,?_⟩
   · exact (uh B1).trans (Keeps.tell (uh HC1) (uh HE') (uh HM))
   · rw [uh HGG]
     unfold txtB;rw [uh HSL,Int.toNat_natCast,List.append_assoc]
   · rw [List.length_append,uh HSL]
     have:=uh HZ1;have:=uh HS;omega
def OkP (ns:List Int):Prop:=ns.length≤192∧∀ n∈ns,0≤n∧n≤2147483647
set_option maxRecDepth 100000 in
set_option maxHeartbeats 3200000 in
theorem wplace_any (m:Nat) (l:List UInt8) (r:Bool) (pv:Value) (ns:List Int) (w:World) (h:WB w m l r) (hz:l.length≤1000000000) (hn:ns.length≤100000000) (hi:∀ u,Below m w u→rt.IS u pv ns) (ho:∀ n∈ns,rt.Oki n) :
 Calls Tryz.prog 53 #[.pointer (some ⟨m,0,none⟩),pv] w (WrP w m l r (OkP ns) (plcB (ns.map Int.toNat)) (10+10*ns.length)):=by
 obtain ⟨oa,cap,rfl,hcap,hcm⟩:=(hi w (Below.refl _ _)).form;have C:=hide (count_any m l r (ns.length:Int) 0 192 w h (by omega) (by decide) (by decide));have HW0:=hide h;have HZ:=hide hz;have HI:=hide hi;have HO:=hide ho;have HN:=hide hn;clear h hz hi ho hcap hcm
 go_enter Tryz.func53,Tryz.ntmps53
 go_upto_region 2 with (go_at_call 52;refine (uh C).mono ?_;rintro e w1 ⟨rfl,b1,l1,r1,h1,hg1,hb1,hz1⟩);have B1:=hide b1
 have H1:Hid (∃ o r',WB w1 m o r'∧(r'=false→r=false∧ns.length≤192∧(∀ n∈ns.take 0,0≤n∧n≤2147483647)∧o=l++cntB ns.length++numsB ((ns.take 0).map Int.toNat))∧(r'=true→r=true∨¬ OkP ns)∧o.length≤l.length+10+10*0):=by
  refine ⟨l1,r1,h1,fun q=>?_,fun q=>?_,by omega⟩
  · obtain ⟨a,b,c⟩:=hg1 q
    refine ⟨a,by omega,fun n hn=>by simp at hn,?_⟩;rw [c,Int.toNat_natCast];simp [numsB]
  · rcases hb1 q with a|a
    · exact .inl a
    · exact .inr fun z=>a (by have:=z.1;omega)
 clear C b1 h1 hg1 hb1 hz1
 go_loopw [12] (fun iv wr=>∃ i:Nat,iv=.int .i64 (i:Int)∧i≤ns.length∧Hid (Keeps m w wr)∧Hid (∃ o r',WB wr m o r'∧(r'=false→r=false∧ns.length≤192∧(∀ n∈ns.take i,0≤n∧n≤2147483647)∧o=l++cntB ns.length++numsB ((ns.take i).map Int.toNat))∧(r'=true→r=true∨¬ OkP ns)∧o.length≤l.length+10+10*i)) (fun iv _=>ns.length - (intOf iv).toNat)
 case atStart=>exact ⟨0,rfl,Nat.zero_le _,uh B1,uh H1⟩
 case round =>
  obtain ⟨i,rfl,hi,hb,ho,r',hw,hg,hbd,hol⟩:=hrel;have HG:=hide hg;have HBD:=hide hbd;have HOL:=hide hol
  by_cases hlt:i < ns.length
  · have hlt':(i:Int) < (ns.length:Int):=by omega
    obtain ⟨la,lc,le,_,_,hat⟩:=(uh HI wr ((uh hb).below (uh HW0))).at (by omega);simp only [Value.slice.injEq] at le;obtain ⟨rfl,_,rfl⟩:=le;obtain ⟨n,hnn⟩:∃ n,ns[i]?=some n:=⟨ns[i],List.getElem?_eq_getElem hlt⟩;have hna:=hat i n hnn;have A:=hide (count_any m ho r' n 0 2147483647 wr hw (by have:=uh HZ;have:=uh HN;omega) (by decide) (by decide));have HNN:=hide hnn;clear hat hnn hg hbd hol hw
    go_wp2_with (go_at_call 52;refine (uh A).mono ?_;rintro e w2 ⟨rfl,b2,l2,r2,h2,hg2,hb2,hz2⟩)
    refine ⟨⟨i+1,by go_num,by omega,(uh hb).trans b2,l2,r2,h2,fun q=>?_,fun q=>?_,by have:=uh HOL;omega⟩,by simp [intOf];omega⟩
    · obtain ⟨a1,a2,a3⟩:=hg2 q
      obtain ⟨z1,z2,z3,z4⟩:=uh HG a1;have et:ns.take (i+1)=ns.take i++[n]:=by rw [List.take_add_one,uh HNN];rfl
      refine ⟨z1,z2,fun x hx=>?_,?_⟩
      · rw [et] at hx
        rcases List.mem_append.1 hx with hx|hx
        · exact z3 x hx
        · rw [List.mem_singleton.1 hx];exact a2
      · rw [a3,z4,et,List.map_append,List.map_singleton,nums_snoc,List.append_assoc]
    · rcases hb2 q with a|a
      · exact uh HBD a
      · exact .inr fun z=>a (z.2 n (List.mem_of_getElem? (uh HNN)))
  · have hlt':¬ (i:Int) < (ns.length:Int):=by omega
    have HW:=hide hw;have he:i=ns.length:=by omega
    clear hg hbd hol hw;go_wp2;refine bodyPost_end (results_none rfl _ _ _) rfl ?_;refine ⟨rfl,uh hb,ho,r',uh HW,fun q=>?_,uh HBD,by have:=uh HOL;omega⟩;obtain ⟨z1,z2,z3,z4⟩:=uh HG q;rw [he,List.take_length] at z3 z4;refine ⟨z1,⟨z2,z3⟩,?_⟩;rw [z4];unfold plcB;rw [List.length_map,List.append_assoc]
end Go.Proofs.YthnhobplgmojeaaGreatDoor.ev
