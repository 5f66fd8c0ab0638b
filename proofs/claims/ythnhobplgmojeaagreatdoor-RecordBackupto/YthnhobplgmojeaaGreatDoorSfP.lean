/- Texts in one: Sf Pw Zk Zl Fo2 Zm -/
import Derived.Test.YthnhobplgmojeaaGreatDoorScP
import Derived.Test.YthnhobplgmojeaaGreatDoorIiP
import Derived.Test.YthnhobplgmojeaaGreatDoorIeP
import Derived.LaidEql
import Derived.Test.YthnhobplgmojeaaGreatDoorBdP
import Derived.Test.YthnhobplgmojeaaGreatDoorZtP
import Derived.Lib.SliceRun
import Derived.Test.YthnhobplgmojeaaGreatDoorNuP
import Derived.Test.YthnhobplgmojeaaGreatDoorBnP
namespace Go.Proofs.YthnhobplgmojeaaGreatDoor.rd.ss
open Go.RowKit Go.Shelf Go.Lib Go.Sort
structure GF (u w4:World) (B n:Nat) (sv:Value) (xs cs:List Value) (g cap:Nat):Prop where
 row:w4.ownsRow B 70 9 (.slice (some ⟨g,0,none⟩) (n+1) cap) (n+1) (xs++cs)
 grow:(u.alloc (.cells cs.toArray 70)).grownBy w4 sv.ownBlock
 lies:sv.ownBlock=some g∨u.heap.size≤g
theorem GF.below {u w4:World}{B n:Nat}{sv:Value}{xs cs:List Value}{g cap:Nat} (h:GF u w4 B n sv xs cs g cap) (ho:u.ownsRow B 70 9 sv n xs) {m:Nat}{wr:World} (hb:Below m wr u) (hm:m≤B) (hs:m≤u.heap.size):Below m wr w4 :=
 (hb.alloc hs _).grown h.grow (by rw [World.size_alloc];omega) (fun k hk=>by have:=(mm.row_lt ho k hk).1;omega)
theorem step_addf {ops:Array Oper}{op:Oper}{a:Act}{K:Act→World→Prop}{Q:Exit→Act→World→Prop}{E0:Prop} (u W:World) (B n:Nat) (sv:Value) (xs cs:List Value) (S X:Operand) (hgd:op.guard=none)
 (ho:op.op=.call { callee:=.builtin .append,args:=#[S,X],argTypes:=#[26,26] }) (hs:a.eval S=sv) (hx:a.eval X=.slice (some ⟨u.heap.size,0,none⟩) 1 1)
 (hown:Hid (u.ownsRow B 70 9 sv n xs)) (h8:Hid (cs.length=9)) (h1:Hid (∀ v∈cs,v.oneCell'=true)) (hn:Hid (n+1≤1000000000000)) (hB:Hid (B≤u.heap.size)) (hW:W=u.alloc (.cells cs.toArray 70))
 (h:∀ g cap w4,Hid (GF u w4 B n sv xs cs g cap)→K (a.put op.dst (.slice (some ⟨g,0,none⟩) (n+1) cap)) w4) :
 if Region.wanted op (yielded ops a.tmps)=true then Oper.wp Tryz.prog op a W K Q else E0:=by
 subst hW;obtain ⟨i0,hi,hz0,hz1,hz2⟩:=info_parts infoFd;have hN:=uh hn;have hb:=uh hB
 refine step_append_lies _ hgd _ _ _ ho B 70 i0 _ 9 128 undFd hi hz0 hz1 hz2 rfl (by omega) sv n xs hs (mm.row_below (uh hown) ((Below.refl _ _).alloc (Nat.le_refl _) _) (Nat.le_refl _))
  ⟨u.heap.size,0,none⟩ 1 1 cs hx (by rw [uh h8]) (fun j v hv=>?_) (uh h1) (by omega) (by unfold maxLen;omega) (by omega) (by rw [World.size_alloc];omega) (u.heap.size+1) (World.size_alloc _ _) ?_
 · rw [mm.add0,blk_cell (heap_alloc_new u _)]
   simpa using hv
 · intro g cap w4 h5 h6 h7 _
   exact h g cap w4 ⟨h5,h6,h7.imp id (fun e=>by omega)⟩
def sd (f:Fd):Fd:={ f with nm:=said f.nm }
theorem stb_id {D:List Fd} (hp:D.Pairwise (fun a b=>cmpF a b < 0)):stb D D.length=List.range D.length:=by
 unfold stb;apply List.mergeSort_of_pairwise;rw [List.pairwise_iff_getElem] at hp ⊢;intro i j hi hj hij;simp only [List.length_range] at hi hj;have h1:=hp i j hi hj hij;simp only [List.getElem_range];rw [(lx_not D j i).2]
 · rfl
 · have e:cfI D i j < 0:=by unfold cfI fdI;simpa [hi,hj] using h1
   have:=cf_sym D i j;exact ⟨by omega,fun _=>by omega⟩
theorem one_box (w:World) (cs:List Value):∀ W,W=w.alloc (.cells cs.toArray 28)→BX W w.heap.size cs∧Below w.heap.size w W∧W.heap.size=w.heap.size+1:=by
 rintro W rfl;exact ⟨heap_alloc_new w _,(Below.refl _ w).alloc (Nat.le_refl _) _,World.size_alloc _ _⟩
theorem below_grown (w:World) (q:Nat) (os:Array Obj):Below w.heap.size w (grow (w.drewN q) os):=by
 refine ⟨rfl,rfl,rfl,?_,fun b hb=>?_⟩
 · show w.heap.size≤(w.heap++os).size
   simp
 · show (w.heap++os)[b]?=_
   rw [Array.getElem?_append_left hb]
theorem fresh_of {D:List Fd} (hp:D.Pairwise (fun a b=>cmpF a b < 0)) (i:Nat) (x y:Fd) (hx:D[i]?=some x) (hy:D[i+1]?=some y):y.nm≠x.nm:=by
 rw [List.pairwise_iff_getElem] at hp;obtain ⟨h1,rfl⟩:=List.getElem?_eq_some_iff.1 hx;obtain ⟨h2,rfl⟩:=List.getElem?_eq_some_iff.1 hy;have:=hp i (i+1) h1 h2 (by omega);intro e;unfold cmpF at this;rw [e,cb.self] at this;omega
end Go.Proofs.YthnhobplgmojeaaGreatDoor.rd.ss
namespace Go.Proofs.YthnhobplgmojeaaGreatDoor.rd.lw
open Go.RowKit
def isE (g:Nat):Prop:=g=4∨g=7∨g=12∨g=8∨g=5∨g=9∨g=10
structure ES (A:Nat→Addr) (w:World):Prop where
 cell:∀ g,isE g→w.cell? ⟨g,0,none⟩=some (.iface 264 (.pointer (some (A g))))
 ne:∀ g h,isE g→isE h→g≠h→A g≠A h
 lies:∀ g,isE g→∃ c t,w.heap[(A g).block]?=some (.cells c t (0,0))
end Go.Proofs.YthnhobplgmojeaaGreatDoor.rd.lw
namespace Go.Proofs.YthnhobplgmojeaaGreatDoor.rd.ss
open Go.RowKit Go.Shelf Go.Lib Go.Sort
def cu (sm:Nat→Nat→Bool) (L:List Nat):Nat→List Nat
 | 0=>[]
 | m+1=>cu sm L m++(if m=0∨sm (at' L m) (at' L (m - 1))=false then [at' L m] else [])
theorem cu_keep {sm:Nat→Nat→Bool}{L:List Nat}{m:Nat} (h:m=0∨sm (at' L m) (at' L (m - 1))=false):cu sm L (m+1)=cu sm L m++[at' L m]:=by rw [cu,if_pos h]
theorem cu_skip {sm:Nat→Nat→Bool}{L:List Nat}{m:Nat} (h0:0 < m) (h:sm (at' L m) (at' L (m - 1))=true):cu sm L (m+1)=cu sm L m:=by
 rw [cu,if_neg,List.append_nil];rintro (q|q)
 · omega
 · rw [h] at q;cases q
theorem cu_all {sm:Nat→Nat→Bool}{L:List Nat}:∀ m,m≤L.length→(∀ j,j < m→j=0∨sm (at' L j) (at' L (j - 1))=false)→cu sm L m=L.take m
 | 0,_,_=>rfl
 | m+1,hm,h=>by
   rw [cu_keep (h m (by omega)),cu_all m (by omega) (fun j hj=>h j (by omega)),take_at (by omega)]
structure CI (sm:Nat→Nat→Bool) (L:List Nat) (m k:Nat) (C:List Nat):Prop where
 size:C.length=L.length
 lt:k < m
 low:C.take k=cu sm L m
 high:∀ j,k≤j→at' C j=at' L j
theorem CI.len {sm:Nat→Nat→Bool}{L C:List Nat}{m k:Nat} (h:CI sm L m k C) (hm:m≤L.length):(cu sm L m).length=k:=by
 rw [← h.low,List.length_take];have:=h.lt;have:=h.size;omega
theorem CI.start {sm:Nat→Nat→Bool}{L:List Nat}{k:Nat} (h0:0 < k) (hk:k < L.length) (hall:∀ j,j < k→j=0∨sm (at' L j) (at' L (j - 1))=false) (hd:sm (at' L k) (at' L (k - 1))=true):CI sm L (k+1) k L :=
 ⟨rfl,Nat.lt_succ_self _,by rw [cu_skip h0 hd,cu_all k (by omega) hall],fun _ _=>rfl⟩
theorem at_set {C:List Nat}{k j x:Nat} (h:j≠k):at' (C.set k x) j=at' C j:=by
 unfold at';simp only [Array.getElem!_eq_getD,Array.getD_eq_getD_getElem?,List.getElem?_toArray];rw [List.getElem?_set_ne (Ne.symm h)]
theorem CI.keep {sm:Nat→Nat→Bool}{L C:List Nat}{m k:Nat} (h:CI sm L m k C) (hm:m < L.length) (hk:sm (at' L m) (at' L (m - 1))=false):CI sm L (m+1) (k+1) (C.set k (at' L m)):=by
 have h1:=h.lt;have h2:=h.size;refine ⟨by simp [h2],by omega,?_,fun j hj=>?_⟩
 · have hlt:k < (C.set k (at' L m)).length:=by rw [List.length_set];omega
   rw [cu_keep (.inr hk),← h.low,take_at hlt,at_eq hlt,List.getElem_set_self,List.take_set_of_le (Nat.le_refl _)]
 · rw [at_set (by omega),h.high j (by omega)]
theorem CI.skip {sm:Nat→Nat→Bool}{L C:List Nat}{m k:Nat} (h:CI sm L m k C) (h0:0 < m) (hk:sm (at' L m) (at' L (m - 1))=true):CI sm L (m+1) k C :=
 ⟨h.size,by have:=h.lt;omega,by rw [cu_skip h0 hk];exact h.low,h.high⟩
section
variable {k:Nat}{enc:Nat→List Value}
theorem setMany_run (hk:∀ x,(enc x).length=k) (d d':Array Nat) (i m:Nat) (vs:List Value) (hs:d'.size=d.size) (hv:vs.length=m*k) (hin:∀ t,t < m*k→vs[t]! = (enc d'[i+t / k]!)[t % k]!) (hout:∀ j,j < d.size→j < i∨i+m≤j→d'[j]! = d[j]!) :
 setMany (flatK enc k d) (i*k) vs=flatK enc k d':=by
 refine ext_get! (by simp [hs]) fun t ht=>?_
 have ht':t < d.size*k:=by simpa using ht
 have k0:0 < k:=by
  rcases Nat.eq_zero_or_pos k with h|h
  · subst h;simp at ht'
  · exact h
 rw [get_setMany _ _ _ t (by simpa using ht'),get_flatK _ _ _ t ht',get_flatK _ _ _ t (by rw [hs];exact ht'),hv]
 by_cases c:i*k≤t∧t < i*k+m*k
 · rw [if_pos c]
   obtain ⟨u,rfl⟩:∃ u,t=i*k+u:=⟨t - i*k,by omega⟩;have e1:(i*k+u) / k=i+u / k:=by rw [Nat.add_comm,Nat.add_mul_div_right _ _ k0,Nat.add_comm]
   have e2:(i*k+u) % k=u % k:=by rw [Nat.add_comm,Nat.add_mul_mod_self_right]
   rw [Nat.add_sub_cancel_left,hin u (by omega),e1,e2]
 · rw [if_neg c,hout (t / k) ((Nat.div_lt_iff_lt_mul k0).2 ht')]
   rcases Nat.lt_or_ge t (i*k) with q|q
   · exact .inl ((Nat.div_lt_iff_lt_mul k0).2 q)
   · right
     have:(i+m)*k≤t:=by rw [Nat.add_mul];omega
     exact (Nat.le_div_iff_mul_le k0).2 this
theorem SWK.run {w0 W:World}{g:Nat}{d d':Array Nat} (h:SWK enc k w0 g 0 d W) (hg:g < w0.heap.size) (i:Nat) (vs:List Value) (hs:setMany (flatK enc k d) (i*k) vs=flatK enc k d') (hv:i*k+vs.length≤d.size*k):SWK enc k w0 g 0 d' (W.setCells g (i*k) vs):=by
 obtain ⟨n,os,rfl⟩:=h;refine ⟨n,os,?_⟩;unfold sortWorldK;rw [← putRowK_grow enc k (Sort.ahead w0 n) os g 0 d hg,← putRowK_grow enc k (Sort.ahead w0 n) os g 0 d' hg];unfold putRowK;have:=setCells_putRow (grow (Sort.ahead w0 n) os) g 0 vs (i*k) (flatK enc k d) (by rw [size_flatK];exact hv);rw [Nat.zero_add] at this;rw [this,hs]
theorem get_arr (L:List Nat) (j:Nat):L.toArray[j]! = at' L j:=rfl
theorem SL.put {P:Program}{w0 W:World}{g n:Nat}{L:List Nat} (b:Bs enc k w0 g n) (h:SL enc k w0 g L W) (hl:L.length=n) (i x:Nat) (hi:i < n) :
 Sem.run P (storeCells ⟨g,i*k,none⟩ (enc x) 0) W=.ok () (W.setCells g (i*k) (enc x))∧SL enc k w0 g (L.set i x) (W.setCells g (i*k) (enc x)):=by
 have bnd:i*k+k≤L.length*k:=by
  have:=Nat.mul_le_mul_right k (show i+1≤L.length by omega)
  rwa [Nat.add_mul,Nat.one_mul] at this
 have q1:=stores_of_holds P (h.holds b hl) (i*k) (enc x) (by rw [b.len,size_flatK];simpa using bnd) (b.one _);rw [Nat.zero_add] at q1;refine ⟨q1,?_⟩;refine SWK.run h b.hg i (enc x) ?_ (by rw [b.len];simpa using bnd);refine setMany_run b.len _ _ i 1 _ (by simp) (by rw [b.len];omega) (fun t ht=>?_) (fun j hj hn=>?_)
 · have h0:t / k=0:=Nat.div_eq_of_lt (by omega)
   have h1:t % k=t:=Nat.mod_eq_of_lt (by omega);rw [h0,h1,Nat.add_zero,get_arr,at_eq (by simp;omega),List.getElem_set_self]
 · rw [get_arr,get_arr,at_set (by omega)]
theorem SL.zap {P:Program}{w0 W:World}{g n:Nat}{L:List Nat} (b:Bs enc k w0 g n) (h:SL enc k w0 g L W) (hl:L.length=n) (i z c:Nat) (hi:i < n) (t e ty:TypeId) (zv:Value) (ht:P.underlying t=some (.slice e)) (hzv:∀ w,(zeroValue e).run P w=.ok zv w) (hz:zv.cells=(enc z).toArray) (k0:0 < k) :
 ∃ vs,(Builtin.clear_ #[t] ty #[.slice (some ⟨g,i*k,none⟩) (n - i) c]).run P W=.ok (.tuple #[]) (W.setCells g (i*k) vs)∧SL enc k w0 g (L.take i++List.replicate (n - i) z) (W.setCells g (i*k) vs):=by
 have hzl:(enc z).toArray.size=k:=by simp [b.len]
 have hzc:(Builtin.zeroCells zv.cells (n - i)).toList=(List.range ((n - i)*k)).map fun u=>(enc z).toArray[u % k]!:=by
  unfold Builtin.zeroCells;rw [hz,hzl,Array.toList_map,Array.toList_range]
 have hin:∀ u,(enc z).toArray[u % k]! = (enc z)[u % k]!:=fun u=>by
  have h2:u % k < (enc z).length:=by rw [b.len];exact Nat.mod_lt _ k0
  rw [getElem!_pos (enc z) (u % k) h2,getElem!_pos (enc z).toArray (u % k) (by simpa using h2)];simp
 have hvl:((List.range ((n - i)*k)).map fun u=>(enc z).toArray[u % k]!).length=(n - i)*k:=by simp
 have hvg:∀ u,u < (n - i)*k→((List.range ((n - i)*k)).map fun u=>(enc z).toArray[u % k]!)[u]! = (enc z)[u % k]!:=fun u hu=>by
  rw [getElem!_pos _ u (by rw [hvl];exact hu),List.getElem_map,List.getElem_range,hin]
 have hone:∀ v∈((List.range ((n - i)*k)).map fun u=>(enc z).toArray[u % k]!),v.oneCell'=true:=fun v hv=>by
  obtain ⟨u,_,rfl⟩:=List.mem_map.1 hv;have h2:u % k < (enc z).length:=by rw [b.len];exact Nat.mod_lt _ k0
  rw [hin,getElem!_pos (enc z) (u % k) h2];exact b.one z _ (List.getElem_mem h2)
 have bnd:i*k+(n - i)*k≤L.length*k:=by rw [← Nat.add_mul,hl];exact Nat.mul_le_mul_right k (by omega)
 generalize hgv:((List.range ((n - i)*k)).map fun u=>(enc z).toArray[u % k]!)=vs at *;refine ⟨vs,?_,?_⟩
 · have q1:=stores_of_holds P (h.holds b hl) (i*k) vs (by rw [hvl,size_flatK];simpa using bnd) hone
   rw [Nat.zero_add] at q1;obtain ⟨m,hm⟩:∃ m,n - i=m+1:=⟨n - i - 1,by omega⟩;rw [hm] at hzc ⊢;simp [Builtin.clear_,run_underlying ht,hzv,hzc,q1]
 · refine SWK.run h b.hg i _ ?_ (by rw [hvl];simpa using bnd)
   refine setMany_run b.len _ _ i (n - i) _ (by simp;omega) hvl (fun u hu=>?_) (fun j hj hn=>?_)
   · rw [hvg u hu,get_arr]
     have hd:u / k < n - i:=(Nat.div_lt_iff_lt_mul k0).2 hu;generalize u / k=q at hd ⊢;rw [at_eq (by rw [List.length_append,List.length_take,List.length_replicate];omega),List.getElem_append_right (by rw [List.length_take];omega),List.getElem_replicate]
   · simp only [List.size_toArray] at hj
     have hji:j < i:=by omega
     rw [get_arr,get_arr,at_eq (by rw [List.length_append,List.length_take];omega),at_eq hj,List.getElem_append_left (by rw [List.length_take];omega),List.getElem_take]
end
structure SC (P:Program) (k:Nat) (zv:Value):Prop extends SF P k where
 tB:P.underlying 165=some (TypeDesc.func #[70,70] #[4] false)
 aB:∀ w,(isAgg 165).run P w=.ok false w
 zB:∀ w,(Go.sizeOf 165).run P w=.ok 1 w
 vB:∀ w,(zeroValue 165).run P w=.ok (Value.nilFunc) w
 vE:∀ w,(zeroValue 70).run P w=.ok zv w
 fc:P.funcs[137]?=some Tryz.f137
theorem sc_prog:SC Tryz.prog 9 (.agg (encF default).toArray) where
 toSF:=sf_prog
 tB:=Tryz.underlying165
 aB:=Tryz.isAgg165
 zB:=Tryz.sizeOf165
 vB:=Tryz.zeroValue165
 vE:=Tryz.zeroValue70
 fc:=Tryz.func137
structure EM (P:Program) (enc:Nat→List Value) (sm:Nat→Nat→Bool):Prop where
 eg:∀ args w,(callFunc 138 args).run P w=.ok (.enter 138 args) w
 c:∀ (x y:Nat) (W:World),Calls P 138 #[.agg (enc x).toArray,.agg (enc y).toArray] W fun e w'=>e=.returned (.bool (sm x y))∧∃ q os',w'=grow (W.drewN q) os'
variable {P:Program}{k:Nat}{enc:Nat→List Value}{sm:Nat→Nat→Bool}{zv:Value}
set_option maxHeartbeats 4000000 in
set_option maxRecDepth 1000000 in
theorem compact_any (F:SC P k zv) (C:EM P enc sm) {w0 w:World}{g n cap:Nat} (b:Bs enc k w0 g n) (L:List Nat) (z:Nat) (hz:zv.cells=(enc z).toArray) (k0:0 < k) (hcap:n≤cap) (hl:L.length=n) (h:SL enc k w0 g L w) (h2:2≤n) :
 Calls P 137 #[.slice (some ⟨g,0,none⟩) n cap,sameNameV] w fun e w' =>
  e=.returned (.slice (some ⟨g,0,none⟩) (cu sm L n).length cap)∧SL enc k w0 g (cu sm L n++List.replicate (n - (cu sm L n).length) z) w':=by
 unfold sameNameV;have hn:=b.hn;have mixed:=F.mixed;have t0:=F.t0;have a0:=F.a0;have z0:=F.z0;have v0:=F.v0;have t3:=F.t3;have a3:=F.a3;have z3:=F.z3;have v3:=F.v3;have t4:=F.t4;have a4:=F.a4;have z4:=F.z4;have v4:=F.v4;have t22:=F.t22;have a22:=F.a22;have z22:=F.z22;have v22:=F.v22;have aE:=F.aE;have zE:=F.zE;have vE:=F.vE;have tB:=F.tB;have aB:=F.aB;have zB:=F.zB;have vB:=F.vB;have u22:=run_underlying F.t22;have FC:=F.fc;have eg:=C.eg;have HC:=hide C.c;have HB:Hid (Bs enc k w0 g n):=b;have HL:Hid (L.length=n):=hl;have HZ:=hide hz;have HH:=hide h;have h2z:¬ (n:Int) < 2:=by omega
 clear F C b hl h hz
 go_enter FC,Tryz.ntmps137
 go_wp2
 go_loopw [5] (fun v wr=>∃ (i:Nat),v=.int .i64 (i:Int)∧1≤i∧i≤n∧SL enc k w0 g L wr∧∀ j,j < i→j=0∨sm (at' L j) (at' L (j - 1))=false) (fun v _=>n - (intOf v).toNat)
 case atStart=>exact ⟨1,rfl,Nat.le_refl _,by omega,uh HH,fun j hj=>.inl (by omega)⟩
 case round =>
  obtain ⟨i,rfl,hi1,hin,hS,hall⟩:=hrel;have HS:=hide hS;have HA:=hide hall;clear hS hall HH
  by_cases hlt:i < n
  · have hltz:(i:Int) < (n:Int):=by omega
    obtain ⟨p,hp⟩:∃ p,i=p+1:=⟨i - 1,by omega⟩;have HPI:=hide hp;have ll1:∀ n' os',Sem.run P (loadCellsFrom ⟨g,i*k,none⟩ 0 k #[]) (grow (wr.drewN n') os')=.ok (enc (at' L i)).toArray (grow (wr.drewN n') os'):=fun n' os'=>SL.load (P:=P) HB.out ((uh HS).grown n' os') (uh HL) i (by omega)
    have ll2:∀ n' os',Sem.run P (loadCellsFrom ⟨g,p*k,none⟩ 0 k #[]) (grow (wr.drewN n') os')=.ok (enc (at' L p)).toArray (grow (wr.drewN n') os'):=fun n' os'=>SL.load (P:=P) HB.out ((uh HS).grown n' os') (uh HL) p (by omega)
    have hcg:=fun W=>uh HC (at' L i) (at' L p) W
    have q1:=HB.out.len (at' L i);have q2:=HB.out.len (at' L p);generalize hsm:sm (at' L i) (at' L p)=r at hcg;generalize enc (at' L i)=c1 at ll1 hcg q1;generalize enc (at' L p)=c2 at ll2 hcg q2;have HSM:Hid (sm (at' L i) (at' L (i - 1))=r):=by show _=_;rw [hp,Nat.add_sub_cancel,← hp];exact hsm
    have hcg':=hide hcg;have wp:IntKind.i64.wrap ((i:Int) - 1)=(p:Int):=by rw [IntKind.wrap_i64];omega
    have jz:(p:Int) < (n:Int):=by omega
    have pz:(0:Int)≤(p:Int):=by omega
    clear hcg hsm hp
    cases r with
    | false =>
      go_wp2_with fail
      go_quiet_grown (first|(go_at_fn 138;refine Calls.grown_of (uh hcg' _)))
      go_wp2
      go_round
      case measure=>simp only [intOf];omega
      case rel=>exact ⟨i+1,by first|rfl|go_num,by omega,by omega,(uh HS).grown _ _,fun j hj=>by
       by_cases e:j=i
       · subst e;exact .inr (uh HSM)
       · exact uh HA j (by omega)⟩
    | true =>
      go_wp2_with fail
      go_quiet_grown (first|(go_at_fn 138;refine Calls.grown_of (uh hcg' _)))
      clear ll1 ll2 hcg';go_wp2;obtain ⟨ni,hni⟩:∃ x,n - i=x:=⟨_,rfl⟩;rw [hni];have HNI:Hid (i+ni=n):=by show _=_;omega
      have hni1:1≤ni:=by omega
      clear hni q1 q2 wp jz pz HPI
      go_loopw [5,7] (fun v u wr'=>∃ (kk k2:Nat) (C:List Nat),v=.int .i64 (kk:Int)∧u=.int .i64 (k2:Int)∧1≤k2∧k2≤ni∧CI sm L (i+k2) kk C∧SL enc k w0 g C wr') (fun _ u _=>ni - (intOf u).toNat)
      case atStart=>exact ⟨i,1,L,rfl,rfl,Nat.le_refl _,hni1,CI.start (by omega) (by rw [uh HL];exact hlt) (uh HA) (uh HSM),(uh HS).grown _ _⟩
      case round =>
       obtain ⟨kk,k2,C,rfl,rfl,hk1,hk2,hI,hS⟩:=hrel;have HS2:=hide hS;have HI:=hide hI;have hkk:=hI.lt;have hCl:C.length=n:=by rw [hI.size];exact uh HL
       have HCL:=hide hCl;have hnn:=uh HNI;have hkn:kk < n:=by omega
       clear hS hI hCl HS HA HSM
       by_cases hlt2:k2 < ni
       · have hltz2:(k2:Int) < (ni:Int):=by omega
         obtain ⟨p,hp⟩:∃ p,k2=p+1:=⟨k2 - 1,by omega⟩
         have ll1:∀ n' os',Sem.run P (loadCellsFrom ⟨g,i*k+k2*k,none⟩ 0 k #[]) (grow (wr.drewN n') os')=.ok (enc (at' L (i+k2))).toArray (grow (wr.drewN n') os'):=fun n' os'=>by
          have:=SL.load (P:=P) HB.out ((uh HS2).grown n' os') (uh HCL) (i+k2) (by omega);rw [(uh HI).high (i+k2) (by omega),Nat.add_mul] at this;exact this
         have ll2:∀ n' os',Sem.run P (loadCellsFrom ⟨g,i*k+p*k,none⟩ 0 k #[]) (grow (wr.drewN n') os')=.ok (enc (at' L (i+p))).toArray (grow (wr.drewN n') os'):=fun n' os'=>by
          have:=SL.load (P:=P) HB.out ((uh HS2).grown n' os') (uh HCL) (i+p) (by omega);rw [(uh HI).high (i+p) (by omega),Nat.add_mul] at this;exact this
         have sp:∀ n' os',Sem.run P (storeCells ⟨g,kk*k,none⟩ (enc (at' L (i+k2))) 0) (grow (wr.drewN n') os')=.ok () ((grow (wr.drewN n') os').setCells g (kk*k) (enc (at' L (i+k2)))):=fun n' os'=>(SL.put (P:=P) HB.out ((uh HS2).grown n' os') (uh HCL) kk _ hkn).1
         have sl:Hid (∀ n' os',SL enc k w0 g (C.set kk (at' L (i+k2))) ((grow (wr.drewN n') os').setCells g (kk*k) (enc (at' L (i+k2))))):=fun n' os'=>(SL.put (P:=P) HB.out ((uh HS2).grown n' os') (uh HCL) kk _ hkn).2
         have hcg:=fun W=>uh HC (at' L (i+k2)) (at' L (i+p)) W
         have q1:=HB.out.len (at' L (i+k2));have q2:=HB.out.len (at' L (i+p));generalize hsm:sm (at' L (i+k2)) (at' L (i+p))=r at hcg;generalize enc (at' L (i+k2))=c1 at ll1 hcg q1 sp sl;generalize enc (at' L (i+p))=c2 at ll2 hcg q2
         have HSM:Hid (sm (at' L (i+k2)) (at' L (i+k2 - 1))=r):=by
          show _=_;rw [show i+k2 - 1=i+p by omega];exact hsm
         have hcg':=hide hcg;have wp:IntKind.i64.wrap ((k2:Int) - 1)=(p:Int):=by rw [IntKind.wrap_i64];omega
         have jz:(p:Int) < (ni:Int):=by omega
         have kz:(kk:Int) < (n:Int):=by omega
         have HPI:=hide hp;clear hcg hsm hp
         cases r with
         | true =>
           go_wp2_with fail
           go_quiet_grown (first|(go_at_fn 138;refine Calls.grown_of (uh hcg' _)))
           go_wp2
           go_round
           case measure=>simp only [intOf];omega
           case rel=>exact ⟨kk,k2+1,C,by first|rfl|go_num,by first|rfl|go_num,by omega,by omega,(uh HI).skip (by omega) (uh HSM),(uh HS2).grown _ _⟩
         | false =>
           go_wp2_with fail
           go_quiet_grown (first|(go_at_fn 138;refine Calls.grown_of (uh hcg' _)))
           go_wp2
           go_round
           case measure=>simp only [intOf];omega
           case rel=>exact ⟨kk+1,k2+1,C.set kk (at' L (i+k2)),by first|rfl|go_num,by first|rfl|go_num,by omega,by omega,(uh HI).keep (by rw [uh HL];omega) (uh HSM),uh sl _ _⟩
       · obtain rfl:k2=ni:=by omega
         have hltz2:¬ (k2:Int) < (k2:Int):=by omega
         have hik:i+k2=n:=hnn
         obtain ⟨vs,hcl,hz⟩:∃ vs,(∀ ty,(Builtin.clear_ #[26] ty #[.slice (some ⟨g,kk*k,none⟩) (n - kk) (cap - kk)]).run P wr=.ok (.tuple #[]) (wr.setCells g (kk*k) vs))∧SL enc k w0 g (C.take kk++List.replicate (n - kk) z) (wr.setCells g (kk*k) vs):=by
          obtain ⟨vs,h1,h2⟩:=SL.zap (P:=P) HB.out (uh HS2) (uh HCL) kk z (cap - kk) hkn 26 70 0 zv t22 vE (uh HZ) k0;exact ⟨vs,fun ty=>h1,h2⟩
         have HZ2:=hide hz
         have hlen:(cu sm L n).length=kk:=by
          rw [← hik];exact (uh HI).len (by rw [uh HL];omega)
         have hlow:C.take kk=cu sm L n:=by rw [(uh HI).low,hik]
         have HLEN:=hide hlen;have HLOW:=hide hlow;clear hz hlen hlow hik hnn;go_wp2;go_ret;rw [uh HLEN,← uh HLOW];exact ⟨rfl,uh HZ2⟩
  · obtain rfl:i=n:=by omega
    have hltz:¬ (i:Int) < (i:Int):=by omega
    have e:cu sm L i=L:=by rw [cu_all i (by rw [uh HL];exact Nat.le_refl _) (uh HA),List.take_of_length_le (by rw [uh HL];exact Nat.le_refl _)]
    have HE:=hide e;clear e;go_wp2;go_ret;rw [uh HE,uh HL,Nat.sub_self,List.replicate_zero,List.append_nil];exact ⟨rfl,uh HS⟩
theorem stable_row2 {w:World}{B:Nat}{sv:Value}{D:List Fd} (hl:D.length≤1000000000) (hp:D.Pairwise (fun a b=>cmpF a b < 0)) (ho:w.ownsRow B 70 9 sv D.length (D.flatMap encF)) :
 Calls Tryz.prog 135 #[sv,byNameV] w fun e w'=>e=.returned (.tuple #[])∧w'.ownsRow B 70 9 sv D.length (D.flatMap encF)∧Below B w w':=by
 rcases ho.2 with ⟨rfl,h0⟩|⟨g,cap,cur,rfl,hB,_⟩
 · refine (stable_none none 0 w).mono ?_
   rintro e w' ⟨rfl,rfl⟩;exact ⟨rfl,ho,Below.refl _ _⟩
 · have h:=stable_all (by omega) ho
   rw [stb_id hp,range_fd] at h;refine h.mono ?_;rintro e w' ⟨rfl,h1,hM⟩;refine ⟨rfl,h1,hM.os,hM.tape,hM.output,hM.size,fun b hb=>hM.block b ?_ (by omega)⟩;have:=(mm.row_lt ho g rfl).2;omega
set_option maxRecDepth 100000 in
set_option maxHeartbeats 6400000 in
theorem fieldsOf_ris {D:List Fd} (z0 z1 z2 z3 z4 z5 z6 fv:Value) (w:World) (hsv:mm.SV w fv D.length 9 (D.flatMap encF)) (hl:D.length≤1000000000) (hz:∀ x∈D,x.nm.size≤35184372088832) (hp:(D.map sd).Pairwise (fun a b=>cmpF a b < 0)) :
 Calls Tryz.prog 115 #[.agg #[z0,z1,z2,z3,z4,z5,z6,fv]] w fun e w'=>∃ sv,e=.returned sv∧w'.ownsRow (w.heap.size+1) 70 9 sv D.length ((D.map sd).flatMap encF)∧Below w.heap.size w w':=by
 obtain ⟨oa,c,rfl,hn1,hn2⟩:=hsv.form;have B1:=hide (one_box w [z0,z1,z2,z3,z4,z5,z6,.slice oa D.length c]);have HS:=hide hsv;have HZ:=hide hz;have HP:=hide hp;clear hsv hz hp hn1 hn2
 go_enter Tryz.func115,Tryz.ntmps115
 go_wp2;obtain ⟨q0,q1,q2⟩:=uh B1 _ rfl;generalize w.alloc (.cells [z0,z1,z2,z3,z4,z5,z6,.slice oa D.length c].toArray 28)=W at *;have hWs:W.heap.size=w.heap.size+1:=q2;have HW0:=hide q1;clear q0 q1 q2 B1
 go_loopw [3,9] (fun sv iv wr=>∃ (i:Nat),iv=.int .i64 (i:Int)∧i≤D.length∧Hid (wr.ownsRow (w.heap.size+1) 70 9 sv i (((D.take i).map sd).flatMap encF))∧Hid (Below (w.heap.size+1) W wr)) (fun _ iv _=>D.length - (intOf iv).toNat)
 case atStart=>exact ⟨0,rfl,by omega,World.ownsRow_nil _ _ _ _,Below.refl _ _⟩
 case round =>
  obtain ⟨i,rfl,hi,HO,HB⟩:=hrel
  by_cases hc:i < D.length
  · obtain ⟨x,hx⟩:∃ x,D[i]?=some x:=⟨_,List.getElem?_eq_getElem hc⟩
    have hbw:Below w.heap.size w wr:=(uh HW0).trans ((uh HB).mono (by omega));have hi1:(i:Int) < (D.length:Int):=by omega
    obtain ⟨a,c',e,_,_,hat⟩:=(uh HS).some (by omega);simp only [Value.slice.injEq] at e;obtain ⟨rfl,_,rfl⟩:=e;have hat2:∀ (j:Nat) (u:Value),(D.flatMap encF)[j]?=some u→wr.cell? (a.add j)=some u:=fun j u hu=>kc hbw (hat j u hu)
    have C9:=fd9 hat2 hx 0 #[];rw [grow_empty] at C9;generalize ha:a.add (i*9)=ad at C9;obtain ⟨y0,y1,y2,y3,y4,y5,y6,y7,y8⟩:wr.cell? ad=some (.string x.nm)∧wr.cell? ⟨ad.block,ad.off+1,none⟩=some (.int .i64 x.k)∧wr.cell? ⟨ad.block,ad.off+2,none⟩=some (.bool x.t)∧wr.cell? ⟨ad.block,ad.off+3,none⟩=some (.bool x.ng)∧wr.cell? ⟨ad.block,ad.off+4,none⟩=some (.string x.dg)∧wr.cell? ⟨ad.block,ad.off+5,none⟩=some (.int .i64 x.ex)∧wr.cell? ⟨ad.block,ad.off+6,none⟩=some (.string x.x)∧wr.cell? ⟨ad.block,ad.off+7,none⟩=some (.slice x.q1 x.n1 x.m1)∧wr.cell? ⟨ad.block,ad.off+8,none⟩=some (.slice x.q2 x.n2 x.m2):=C9;have HX:=hide hx;clear hat hat2 hx;go_upto_region 5 with fail;have CS:=hide (fun W'=>said_any x.nm W' (uh HZ x (List.mem_of_getElem? (uh HX))));have hbf:BF (wr.alloc (.cells #[.string x.nm,.int .i64 x.k,.bool x.t,.bool x.ng,.string x.dg,.int .i64 x.ex,.string x.x,.slice x.q1 x.n1 x.m1,.slice x.q2 x.n2 x.m2] 70)) wr.heap.size [.string x.nm,.int .i64 x.k,.bool x.t,.bool x.ng,.string x.dg,.int .i64 x.ex,.string x.x,.slice x.q1 x.n1 x.m1,.slice x.q2 x.n2 x.m2]:=heap_alloc_new wr _;have hba:Below wr.heap.size wr (wr.alloc (.cells #[.string x.nm,.int .i64 x.k,.bool x.t,.bool x.ng,.string x.dg,.int .i64 x.ex,.string x.x,.slice x.q1 x.n1 x.m1,.slice x.q2 x.n2 x.m2] 70)):=(Below.refl _ wr).alloc (Nat.le_refl _) _;generalize wr.alloc (.cells #[.string x.nm,.int .i64 x.k,.bool x.t,.bool x.ng,.string x.dg,.int .i64 x.ex,.string x.x,.slice x.q1 x.n1 x.m1,.slice x.q2 x.n2 x.m2] 70)=wa at *;have hma:=blk_lt hbf;have hwm:w.heap.size+1≤wr.heap.size:=by rw [← hWs];exact (uh HB).size
    generalize hmm:wr.heap.size=m at *;have HBA:=hide hba;obtain ⟨g0,g1,g2,g3,g4,g5,g6,g7,g8⟩:=hbf.cells;have HBF:=hide hbf;have HO1:=hide (mm.row_below (uh HO) (hmm ▸ hba) (by omega));clear y0 y1 y2 y3 y4 y5 y6 y7 y8 hba hbf
    go_region_law (first
     | (go_simp;go_at_call 114;refine (uh CS _).mono ?_;rintro e u2 ⟨rfl,hbl2⟩
        have hb3:Below wa.heap.size wa u2:=⟨hbl2.os,hbl2.tape,hbl2.output,hbl2.size,hbl2.block⟩;have k1:=kc hb3 g1;have k2:=kc hb3 g2;have k3:=kc hb3 g3;have k4:=kc hb3 g4;have k5:=kc hb3 g5;have k6:=kc hb3 g6;have k7:=kc hb3 g7;have k8:=kc hb3 g8;have HO2:=hide (mm.row_below (uh HO1) hb3 (Nat.le_refl _))
        have hBu:Hid (w.heap.size+1≤u2.heap.size):=Nat.le_trans (by omega) hb3.size)
     | (refine step_addf u2 _ (w.heap.size+1) i u3 (((D.take i).map sd).flatMap encF) (encF (sd x)) (.tmp 13) (.tmp 20) (by rfl) (by rfl) (by rfl) (by rfl) HO2 (encF_len _) (encF_one _) (by show i+1≤1000000000000;omega) hBu (by rfl) ?_
        intro g cap w4 HG
        have hb4:Below (w.heap.size+1) wa w4:=(uh HG).below (uh HO2) (hb3.mono (by omega)) (Nat.le_refl _) (uh hBu)))
    all_goals clear g0 g1 g2 g3 g4 g5 g6 g7 g8
    all_goals go_wp2
    all_goals refine ⟨⟨i+1,by go_num,by omega,?_,(uh HB).trans (((uh HBA).mono (by omega)).trans hb4)⟩,by simp [intOf];omega⟩
    all_goals rw [take_succ' (uh HX),List.map_append,List.flatMap_append]
    all_goals refine hide ?_
    all_goals simpa using (uh HG).row
  · obtain rfl:i=D.length:=by omega
    have hno:¬ (D.length:Int) < (D.length:Int):=by omega
    rw [List.take_of_length_le (Nat.le_refl _)] at HO;have ho:=uh HO;rw [← List.length_map (f:=sd)] at ho;have hl2:(D.map sd).length≤1000000000:=by rw [List.length_map];exact hl
    have CS:=hide (stable_row2 hl2 (uh HP) ho);have hwm:w.heap.size+1≤wr.heap.size:=by rw [← hWs];exact (uh HB).size
    have HBW:Hid (Below w.heap.size w wr):=(uh HW0).trans ((uh HB).mono (by omega));have HL:Hid ((D.map sd).length=D.length):=List.length_map _;clear ho hl2;unfold byNameV at CS
    go_wp2_with (first
     | (go_at_call 135;refine (uh CS).mono ?_;rintro e w1 ⟨rfl,h1,h2⟩
        have CC:=hide (compact_fresh (mm.own_sv h1) (fresh_of (uh HP)))
        unfold sameNameV at CC)
     | (go_at_call 137;refine (uh CC).mono ?_;rintro e w2 ⟨rfl,q,os,rfl⟩))
    go_ret;have hb2:=below_grown w1 q os;have hs1:=h2.size;refine ⟨_,rfl,?_,(uh HBW).trans ((h2.mono (by omega)).trans (hb2.mono (by omega)))⟩;have:=mm.row_below h1 hb2 (Nat.le_refl _);rw [uh HL] at this;exact this
variable {α:Type}
def Fst (F:List (ByteArray × α)) (p:ByteArray × α):Prop:=∃ i,F[i]?=some p∧∀ (j:Nat) (q:ByteArray × α),j < i→F[j]?=some q→q.1≠p.1
theorem fst_name {F:List (ByteArray × α)}:∀ {i:Nat}{p:ByteArray × α},F[i]?=some p→∃ q,Fst F q∧q.1=p.1:=by
 intro i
 induction i using Nat.strongRecOn with
 | ind i ih =>
   intro p h
   by_cases hc:∃ j q,j < i∧F[j]?=some q∧q.1=p.1
   · obtain ⟨j,q,h1,h2,h3⟩:=hc
     obtain ⟨r,hr,e⟩:=ih j h1 h2;exact ⟨r,hr,e.trans h3⟩
   · exact ⟨p,⟨i,h,fun j q h1 h2 h3=>hc ⟨j,q,h1,h2,h3⟩⟩,rfl⟩
theorem fst_snoc_old {F:List (ByteArray × α)}{x p:ByteArray × α} (hx:∃ q,Fst F q∧q.1=x.1):Fst (F++[x]) p↔Fst F p:=by
 constructor
 · rintro ⟨i,h1,h2⟩
   by_cases hi:i < F.length
   · refine ⟨i,by rwa [List.getElem?_append_left hi] at h1,fun j q hj hq=>h2 j q hj ?_⟩
     rw [List.getElem?_append_left (by omega)];exact hq
   · exfalso
     have hi2:i=F.length:=by
      obtain ⟨hlt,_⟩:=List.getElem?_eq_some_iff.1 h1;simp at hlt;omega
     subst hi2;rw [List.getElem?_append_right (Nat.le_refl _),Nat.sub_self] at h1;simp at h1;subst h1;obtain ⟨q,⟨j,hj,_⟩,e⟩:=hx;obtain ⟨hlt,_⟩:=List.getElem?_eq_some_iff.1 hj;exact h2 j q hlt (by rw [List.getElem?_append_left hlt];exact hj) e
 · rintro ⟨i,h1,h2⟩
   obtain ⟨hlt,_⟩:=List.getElem?_eq_some_iff.1 h1;refine ⟨i,by rw [List.getElem?_append_left hlt];exact h1,fun j q hj hq=>h2 j q hj ?_⟩
   rwa [List.getElem?_append_left (by omega)] at hq
theorem fst_snoc_new {F:List (ByteArray × α)}{x p:ByteArray × α} (hx:∀ (i:Nat) (q:ByteArray × α),F[i]?=some q→q.1≠x.1):Fst (F++[x]) p↔p=x∨Fst F p:=by
 constructor
 · rintro ⟨i,h1,h2⟩
   by_cases hi:i < F.length
   · right
     refine ⟨i,by rwa [List.getElem?_append_left hi] at h1,fun j q hj hq=>h2 j q hj ?_⟩;rw [List.getElem?_append_left (by omega)];exact hq
   · left
     have hi2:i=F.length:=by
      obtain ⟨hlt,_⟩:=List.getElem?_eq_some_iff.1 h1;simp at hlt;omega
     subst hi2;rw [List.getElem?_append_right (Nat.le_refl _),Nat.sub_self] at h1;simp at h1;exact h1.symm
 · rintro (rfl|⟨i,h1,h2⟩)
   · refine ⟨F.length,by rw [List.getElem?_append_right (Nat.le_refl _),Nat.sub_self];rfl,fun j q hj hq=>?_⟩
     rw [List.getElem?_append_left hj] at hq;exact hx j q hq
   · obtain ⟨hlt,_⟩:=List.getElem?_eq_some_iff.1 h1
     refine ⟨i,by rw [List.getElem?_append_left hlt];exact h1,fun j q hj hq=>h2 j q hj ?_⟩
     rwa [List.getElem?_append_left (by omega)] at hq
theorem puts_fst (F:List (ByteArray × α)):(∀ p,p∈jn.puts F↔Fst F p)∧jn.Ris (jn.puts F):=by
 have key:∀ (R:List (ByteArray × α)) (F:List (ByteArray × α)),F=R.reverse→(∀ p,p∈jn.puts F↔Fst F p)∧jn.Ris (jn.puts F):=by
  intro R
  induction R with
  | nil =>
    intro F e;subst e;refine ⟨fun p=>?_,List.Pairwise.nil⟩
    constructor
    · intro h;simp [jn.puts] at h
    · rintro ⟨i,h,_⟩;simp at h
  | cons x R ih =>
    intro F e;obtain ⟨i1,i2⟩:=ih R.reverse rfl;rw [List.reverse_cons] at e;subst e;generalize R.reverse=G at *;have es:jn.puts (G++[x])=jn.putP (jn.puts G) x:=by unfold jn.puts;rw [List.foldl_append];rfl
    rw [es];unfold jn.putP
    by_cases hc:(jn.puts G).any (fun p=>decide (p.1=x.1))=true
    · rw [if_pos hc]
      obtain ⟨q,hq,e⟩:=List.any_eq_true.1 hc;have hx:∃ q,Fst G q∧q.1=x.1:=⟨q,(i1 q).1 hq,of_decide_eq_true e⟩;exact ⟨fun p=>by rw [fst_snoc_old hx];exact i1 p,i2⟩
    · rw [if_neg hc]
      have hn:∀ q∈jn.puts G,q.1≠x.1:=fun q hq e=>hc (List.any_eq_true.2 ⟨q,hq,decide_eq_true e⟩)
      have hx:∀ (i:Nat) (q:ByteArray × α),G[i]?=some q→q.1≠x.1:=fun i q hq e=>by
       obtain ⟨r,hr,er⟩:=fst_name hq;exact hn r ((i1 r).2 hr) (er.trans e)
      have hp:=jn.ins_perm (jn.puts G) x;refine ⟨fun p=>?_,?_⟩
      · rw [fst_snoc_new hx,hp.mem_iff,List.mem_cons,i1 p]
      · have hs:=jn.ins_srt (jn.puts G) x (i2.imp fun {a b} h=>by omega)
        have hnd:((jn.ins (jn.puts G) x).map fun p=>p.1).Nodup:=by
         rw [(hp.map _).nodup_iff,List.map_cons,List.nodup_cons];refine ⟨fun hm=>?_,?_⟩
         · obtain ⟨q,hq,e⟩:=List.mem_map.1 hm
           exact hn q hq e
         · rw [List.Nodup,List.pairwise_map]
           exact i2.imp fun {a b} h e=>by rw [e,cb.self] at h;omega
        rw [List.Nodup,List.pairwise_map] at hnd;unfold jn.Srt at hs;unfold jn.Ris;refine (hs.and hnd).imp fun {a b} q=>?_
        have h2:¬ Lib.compareBytes a.1.data.toList b.1.data.toList=0:=fun e=>q.2 (by
         have:=cb.eq_of _ _ e
         cases ha:a.1;cases hb:b.1
         rw [ha,hb] at this;simp at this
         rw [this])
        have:=q.1;omega
 exact key F.reverse F (by simp)
theorem ris_uniq {A B:List (ByteArray × α)} (ha:jn.Ris A) (hb:jn.Ris B) (h:∀ p,p∈A↔p∈B):A=B:=by
 have nd:∀ {A:List (ByteArray × α)},jn.Ris A→A.Nodup:=fun h=>h.imp fun {a b} q e=>by rw [e,cb.self] at q;omega
 have hp:A.Perm B:=(List.perm_ext_iff_of_nodup (nd ha) (nd hb)).2 h;refine rd.sorted_eq (r:=fun (a b:ByteArray × α)=>Lib.compareBytes a.1.data.toList b.1.data.toList < 0) A B hp ha hb fun a _ b _ q1 q2=>?_
 have:=cb.sym a.1.data.toList b.1.data.toList;omega
variable (D:List Fd)
def smN (x y:Nat):Bool:=decide ((fdI D x).nm=(fdI D y).nm)
theorem cf_nm {x y:Nat}:cfI D x y=0↔(fdI D x).nm=(fdI D y).nm:=by
 unfold cfI cmpF
 constructor
 · intro h
   have:=cb.eq_of _ _ h
   cases ha:(fdI D x).nm;cases hb:(fdI D y).nm
   rw [ha,hb] at this;simp at this;rw [this]
 · intro h;rw [h];exact cb.self _
theorem stb_perm (n:Nat):(stb D n).Perm (List.range n):=List.mergeSort_perm _ _
theorem stb_pw (n:Nat):(stb D n).Pairwise (lr D):=by
 have h:=List.pairwise_mergeSort (le:=fun x y=>!lxI D y x) (fun a b c h1 h2=>by
  simp only [Bool.not_eq_true'] at h1 h2 ⊢;rw [lx_not] at h1 h2 ⊢;have s1:=cf_sym D a b;have s2:=cf_sym D b c;have s3:=cf_sym D a c;have t1:=cf_trans D a b c (by omega) (by omega);refine ⟨by omega,fun e=>?_⟩;have t2:=cf_trans D c a b (by omega) (by omega);have t3:=cf_trans D b c a (by omega) (by omega);have s4:=cf_sym D c b;have s5:=cf_sym D b a;have:=h1.2 (by omega);have:=h2.2 (by omega)
  omega) (fun a b=>by
  cases h:lxI D a b
  · simp
  · simp only [Bool.or_eq_true,Bool.not_eq_true']
    left
    rw [lx_not];have:=(lx_iff D a b).1 h;have s:=cf_sym D a b
    exact ⟨by omega,fun e=>by omega⟩) (List.range n)
 have hn:(stb D n).Nodup:=(stb_perm D n).nodup_iff.2 List.nodup_range;unfold stb at hn ⊢;refine (h.and hn).imp fun {a b} q=>?_
 show lxI D a b=true;have h1:lxI D b a=false:=by simpa using q.1
 cases h2:lxI D a b
 · exact absurd (lx_total D a b h2 h1) q.2
 · rfl
theorem cu_mem {sm:Nat→Nat→Bool}{L:List Nat}{x:Nat}:∀ m,x∈cu sm L m↔∃ j,j < m∧x=at' L j∧(j=0∨sm (at' L j) (at' L (j - 1))=false)
 | 0=>by simp [cu]
 | m+1=>by
   rw [cu,List.mem_append,cu_mem m]
   constructor
   · rintro (⟨j,h1,h2,h3⟩|h)
     · exact ⟨j,by omega,h2,h3⟩
     · split at h
       · rename_i hc
         simp at h;exact ⟨m,by omega,h,hc⟩
       · simp at h
   · rintro ⟨j,h1,h2,h3⟩
     by_cases e:j=m
     · subst e
       right
       rw [if_pos h3];simp [h2]
     · exact .inl ⟨j,by omega,h2,h3⟩
theorem cu_pw {sm:Nat→Nat→Bool}{L:List Nat}{r:Nat→Nat→Prop} (h:L.Pairwise r):∀ m,m≤L.length→(cu sm L m).Pairwise r
 | 0,_=>List.Pairwise.nil
 | m+1,hm=>by
   rw [cu,List.pairwise_append];refine ⟨cu_pw h m (by omega),by split <;> simp,fun a ha b hb=>?_⟩
   split at hb
   · simp at hb
     subst hb;obtain ⟨j,h1,rfl,_⟩:=(cu_mem m).1 ha;rw [at_eq (by omega),at_eq (by omega)];exact List.pairwise_iff_getElem.1 h j m (by omega) (by omega) h1
   · simp at hb
theorem keeps_iff {n x:Nat}:x∈cu (smN D) (stb D n) n↔x < n∧∀ y,y < x→(fdI D y).nm≠(fdI D x).nm:=by
 have hl:(stb D n).length=n:=by rw [(stb_perm D n).length_eq];simp
 have hpw:=stb_pw D n;rw [cu_mem]
 constructor
 · rintro ⟨j,hj,rfl,hk⟩
   have hm:at' (stb D n) j < n:=by
    have:=(stb_perm D n).mem_iff.1 (at_mem (L:=stb D n) (i:=j) (by omega));simpa using this
   refine ⟨hm,fun y hy e=>?_⟩;have hym:y∈stb D n:=(stb_perm D n).mem_iff.2 (by simp;omega);obtain ⟨i,hi,rfl⟩:=mem_at hym
   have hij:i < j:=by
    rcases Nat.lt_trichotomy i j with q|q|q
    · exact q
    · subst q;omega
    · exfalso
      have h1:=pw_at D hpw q hi;have h2:=(lx_iff D _ _).1 h1;have h3:=(cf_nm D).2 e.symm;omega
   rcases hk with hk|hk
   · omega
   · have e1:(fdI D (at' (stb D n) j)).nm=(fdI D (at' (stb D n) (j - 1))).nm:=by
      rw [← cf_nm];have h1:=(lx_iff D _ _).1 (pw_at D hpw (show j - 1 < j by omega) (by omega));have h3:=(cf_nm D).2 e;have s1:=cf_sym D (at' (stb D n) (j - 1)) (at' (stb D n) j);have s2:=cf_sym D (at' (stb D n) i) (at' (stb D n) j)
      by_cases ei:i=j - 1
      · subst ei;omega
      · have h2:=(lx_iff D _ _).1 (pw_at D hpw (show i < j - 1 by omega) (by omega))
        have h4:=cf_trans D (at' (stb D n) j) (at' (stb D n) i) (at' (stb D n) (j - 1)) (by omega) (by omega);omega
     unfold smN at hk;rw [decide_eq_true e1] at hk
     cases hk
 · rintro ⟨hx,hy⟩
   have hxm:x∈stb D n:=(stb_perm D n).mem_iff.2 (by simp;omega);obtain ⟨j,hj,rfl⟩:=mem_at hxm;refine ⟨j,by omega,rfl,?_⟩
   by_cases h0:j=0
   · exact .inl h0
   · right
     unfold smN;refine decide_eq_false fun e=>?_
     have h1:=(lx_iff D _ _).1 (pw_at D hpw (show j - 1 < j by omega) hj);have h2:=(cf_nm D).2 e;have s:=cf_sym D (at' (stb D n) (j - 1)) (at' (stb D n) j);have h3:at' (stb D n) (j - 1) < at' (stb D n) j:=by omega
     exact hy _ h3 e.symm
theorem kept_puts {F:List (ByteArray × α)} (hF:F.length=D.length) (hn:∀ (i:Nat) (p:ByteArray × α),F[i]?=some p→p.1=(fdI D i).nm) (G:List (ByteArray × α)) (hG:G.map some=(cu (smN D) (stb D D.length) D.length).map fun i=>F[i]?):G=jn.puts F:=by
 obtain ⟨h1,h2⟩:=puts_fst F;have hl:(stb D D.length).length=D.length:=by rw [(stb_perm D D.length).length_eq];simp
 have hgl:G.length=(cu (smN D) (stb D D.length) D.length).length:=by
  have:=congrArg List.length hG;simpa using this
 have hgi:∀ j (hj:j < G.length),F[(cu (smN D) (stb D D.length) D.length)[j]'(by omega)]?=some G[j]:=fun j hj=>by
  have e1:(G.map some)[j]?=some (some G[j]):=by rw [List.getElem?_map,List.getElem?_eq_getElem hj];rfl
  rw [hG,List.getElem?_map,List.getElem?_eq_getElem (by omega)] at e1;exact Option.some.inj e1
 refine ris_uniq ?_ h2 fun p=>?_
 · unfold jn.Ris
   rw [List.pairwise_iff_getElem];intro i j hi hj hij;have e1:=hgi i hi;have e2:=hgi j hj;have n1:=hn _ _ e1;have n2:=hn _ _ e2;have hpw:=List.pairwise_iff_getElem.1 (cu_pw (sm:=smN D) (stb_pw D D.length) D.length (by omega)) i j (by omega) (by omega) hij;have hk:=(keeps_iff D).1 (List.getElem_mem (show j < (cu (smN D) (stb D D.length) D.length).length by omega));rw [n1,n2];have q:=(lx_iff D _ _).1 hpw
   rcases q with q|⟨q1,q2⟩
   · unfold cfI cmpF at q;exact q
   · exact absurd ((cf_nm D).1 q1) (hk.2 _ q2)
 · rw [h1 p]
   constructor
   · intro hp
     obtain ⟨j,hj,rfl⟩:=List.getElem_of_mem hp;have e1:=hgi j hj;have hk:=(keeps_iff D).1 (List.getElem_mem (show j < (cu (smN D) (stb D D.length) D.length).length by omega));refine ⟨_,e1,fun i q hi hq e=>?_⟩;rw [hn _ _ hq,hn _ _ e1] at e;exact hk.2 i hi e
   · rintro ⟨i,hi,hf⟩
     obtain ⟨hlt,_⟩:=List.getElem?_eq_some_iff.1 hi
     have hm:i∈cu (smN D) (stb D D.length) D.length:=(keeps_iff D).2 ⟨by omega,fun y hy e=>by
      have hyl:y < F.length:=by omega
      have e2:F[y]?=some F[y]:=List.getElem?_eq_getElem hyl;refine hf y _ hy e2 ?_;rw [hn _ _ e2,hn _ _ hi]
      exact e⟩
     obtain ⟨j,hj,ej⟩:=List.getElem_of_mem hm;have:=hgi j (by omega);rw [ej,hi] at this;rw [Option.some.inj this];exact List.getElem_mem _
end Go.Proofs.YthnhobplgmojeaaGreatDoor.rd.ss
