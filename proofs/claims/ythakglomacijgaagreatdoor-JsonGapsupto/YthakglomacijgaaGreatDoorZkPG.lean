/- Texts in one: Zk Zl -/
import Derived.Test.YthakglomacijgaaGreatDoorZtPG
import Derived.Test.YthakglomacijgaaGreatDoorScPG
import Derived.Lib.SliceRun
namespace Go.Proofs.YthakglomacijgaaGreatDoor.rd.ss
open Go.RowKit Go.Shelf Go.Lib Go.Sort
def cu (sm:Nat→Nat→Bool) (L:List Nat):Nat→List Nat
 | 0=>[]
 | m+1=>cu sm L m++(if m=0∨sm (at' L m) (at' L (m - 1))=false then [at' L m] else [])
theorem cu_keep {sm:Nat→Nat→Bool}{L:List Nat}{m:Nat} (h:m=0∨sm (at' L m) (at' L (m - 1))=false):cu sm L (m+1)=cu sm L m++[at' L m]:=by rw [cu,if_pos h]
theorem cu_skip {sm:Nat→Nat→Bool}{L:List Nat}{m:Nat} (h0:0 < m) (h:sm (at' L m) (at' L (m - 1))=true):cu sm L (m+1)=cu sm L m:=by
 rw [cu,if_neg,List.append_nil]
 rintro (q|q)
 · omega
 · rw [h] at q;cases q
theorem cu_all {sm:Nat→Nat→Bool}{L:List Nat}:∀ m,m≤L.length→(∀ j,j < m→j=0∨sm (at' L j) (at' L (j - 1))=false)→cu sm L m=L.take m
 | 0,_,_=>rfl
 | m+1,hm,h=>by
   rw [cu_keep (h m (by omega)),cu_all m (by omega) (fun j hj=>h j (by omega)),take_at (by omega)]
structure CI (sm:Nat→Nat→Bool) (L:List Nat) (m k:Nat) (C:List Nat):Prop where
 size:C.length=L.length
 lt:k < m
 low:C.take k=cu sm L m
 high:∀ j,k≤j→at' C j=at' L j
theorem CI.len {sm:Nat→Nat→Bool}{L C:List Nat}{m k:Nat} (h:CI sm L m k C) (hm:m≤L.length):(cu sm L m).length=k:=by
 rw [← h.low,List.length_take]
 have:=h.lt
 have:=h.size
 omega
theorem CI.start {sm:Nat→Nat→Bool}{L:List Nat}{k:Nat} (h0:0 < k) (hk:k < L.length) (hall:∀ j,j < k→j=0∨sm (at' L j) (at' L (j - 1))=false) (hd:sm (at' L k) (at' L (k - 1))=true):CI sm L (k+1) k L :=
 ⟨rfl,Nat.lt_succ_self _,by rw [cu_skip h0 hd,cu_all k (by omega) hall],fun _ _=>rfl⟩
theorem at_set {C:List Nat}{k j x:Nat} (h:j≠k):at' (C.set k x) j=at' C j:=by
 unfold at'
 simp only [Array.getElem!_eq_getD,Array.getD_eq_getD_getElem?,List.getElem?_toArray]
 rw [List.getElem?_set_ne (Ne.symm h)]
theorem CI.keep {sm:Nat→Nat→Bool}{L C:List Nat}{m k:Nat} (h:CI sm L m k C) (hm:m < L.length) (hk:sm (at' L m) (at' L (m - 1))=false):CI sm L (m+1) (k+1) (C.set k (at' L m)):=by
 have h1:=h.lt
 have h2:=h.size
 refine ⟨by simp [h2],by omega,?_,fun j hj=>?_⟩
 · have hlt:k < (C.set k (at' L m)).length:=by rw [List.length_set];omega
   rw [cu_keep (.inr hk),← h.low,take_at hlt,at_eq hlt,List.getElem_set_self,List.take_set_of_le (Nat.le_refl _)]
 · rw [at_set (by omega),h.high j (by omega)]
theorem CI.skip {sm:Nat→Nat→Bool}{L C:List Nat}{m k:Nat} (h:CI sm L m k C) (h0:0 < m) (hk:sm (at' L m) (at' L (m - 1))=true):CI sm L (m+1) k C :=
 ⟨h.size,by have:=h.lt;omega,by rw [cu_skip h0 hk];exact h.low,h.high⟩
section
variable {k:Nat}{enc:Nat→List Value}
theorem setMany_run (hk:∀ x,(enc x).length=k) (d d':Array Nat) (i m:Nat) (vs:List Value) (hs:d'.size=d.size) (hv:vs.length=m*k) (hin:∀ t,t < m*k→vs[t]! = (enc d'[i+t / k]!)[t % k]!) (hout:∀ j,j < d.size→j < i∨i+m≤j→d'[j]! = d[j]!) :
 setMany (flatK enc k d) (i*k) vs=flatK enc k d':=by
 refine ext_get! (by simp [hs]) fun t ht=>?_
 have ht':t < d.size*k:=by simpa using ht
 have k0:0 < k:=by
  rcases Nat.eq_zero_or_pos k with h|h
  · subst h;simp at ht'
  · exact h
 rw [get_setMany _ _ _ t (by simpa using ht'),get_flatK _ _ _ t ht',get_flatK _ _ _ t (by rw [hs];exact ht'),hv]
 by_cases c:i*k≤t∧t < i*k+m*k
 · rw [if_pos c]
   obtain ⟨u,rfl⟩:∃ u,t=i*k+u:=⟨t - i*k,by omega⟩
   have e1:(i*k+u) / k=i+u / k:=by rw [Nat.add_comm,Nat.add_mul_div_right _ _ k0,Nat.add_comm]
   have e2:(i*k+u) % k=u % k:=by rw [Nat.add_comm,Nat.add_mul_mod_self_right]
   rw [Nat.add_sub_cancel_left,hin u (by omega),e1,e2]
 · rw [if_neg c,hout (t / k) ((Nat.div_lt_iff_lt_mul k0).2 ht')]
   rcases Nat.lt_or_ge t (i*k) with q|q
   · exact .inl ((Nat.div_lt_iff_lt_mul k0).2 q)
   · right
     have:(i+m)*k≤t:=by rw [Nat.add_mul];omega
     exact (Nat.le_div_iff_mul_le k0).2 this
theorem SWK.run {w0 W:World}{g:Nat}{d d':Array Nat} (h:SWK enc k w0 g 0 d W) (hg:g < w0.heap.size) (i:Nat) (vs:List Value) (hs:setMany (flatK enc k d) (i*k) vs=flatK enc k d') (hv:i*k+vs.length≤d.size*k):SWK enc k w0 g 0 d' (W.setCells g (i*k) vs):=by
 obtain ⟨n,os,rfl⟩:=h
 refine ⟨n,os,?_⟩
 unfold sortWorldK
 rw [← putRowK_grow enc k (Sort.ahead w0 n) os g 0 d hg,← putRowK_grow enc k (Sort.ahead w0 n) os g 0 d' hg]
 unfold putRowK
 have:=setCells_putRow (grow (Sort.ahead w0 n) os) g 0 vs (i*k) (flatK enc k d) (by rw [size_flatK];exact hv)
 rw [Nat.zero_add] at this
 rw [this,hs]
theorem get_arr (L:List Nat) (j:Nat):L.toArray[j]! = at' L j:=rfl
theorem SL.put {P:Program}{w0 W:World}{g n:Nat}{L:List Nat} (b:Bs enc k w0 g n) (h:SL enc k w0 g L W) (hl:L.length=n) (i x:Nat) (hi:i < n) :
 Sem.run P (storeCells ⟨g,i*k,none⟩ (enc x) 0) W=.ok () (W.setCells g (i*k) (enc x))∧SL enc k w0 g (L.set i x) (W.setCells g (i*k) (enc x)):=by
 have bnd:i*k+k≤L.length*k:=by
  have:=Nat.mul_le_mul_right k (show i+1≤L.length by omega)
  rwa [Nat.add_mul,Nat.one_mul] at this
 have q1:=stores_of_holds P (h.holds b hl) (i*k) (enc x) (by rw [b.len,size_flatK];simpa using bnd) (b.one _)
 rw [Nat.zero_add] at q1
 refine ⟨q1,?_⟩
 refine SWK.run h b.hg i (enc x) ?_ (by rw [b.len];simpa using bnd)
 refine setMany_run b.len _ _ i 1 _ (by simp) (by rw [b.len];omega) (fun t ht=>?_) (fun j hj hn=>?_)
 · have h0:t / k=0:=Nat.div_eq_of_lt (by omega)
   have h1:t % k=t:=Nat.mod_eq_of_lt (by omega)
   rw [h0,h1,Nat.add_zero,get_arr,at_eq (by simp;omega),List.getElem_set_self]
 · rw [get_arr,get_arr,at_set (by omega)]
theorem SL.zap {P:Program}{w0 W:World}{g n:Nat}{L:List Nat} (b:Bs enc k w0 g n) (h:SL enc k w0 g L W) (hl:L.length=n) (i z c:Nat) (hi:i < n) (t e ty:TypeId) (zv:Value) (ht:P.underlying t=some (.slice e)) (hzv:∀ w,(zeroValue e).run P w=.ok zv w) (hz:zv.cells=(enc z).toArray) (k0:0 < k) :
 ∃ vs,(Builtin.clear_ #[t] ty #[.slice (some ⟨g,i*k,none⟩) (n - i) c]).run P W=.ok (.tuple #[]) (W.setCells g (i*k) vs)∧SL enc k w0 g (L.take i++List.replicate (n - i) z) (W.setCells g (i*k) vs):=by
 have hzl:(enc z).toArray.size=k:=by simp [b.len]
 have hzc:(Builtin.zeroCells zv.cells (n - i)).toList=(List.range ((n - i)*k)).map fun u=>(enc z).toArray[u % k]!:=by
  unfold Builtin.zeroCells
  rw [hz,hzl,Array.toList_map,Array.toList_range]
 have hin:∀ u,(enc z).toArray[u % k]! = (enc z)[u % k]!:=fun u=>by
  have h2:u % k < (enc z).length:=by rw [b.len];exact Nat.mod_lt _ k0
  rw [getElem!_pos (enc z) (u % k) h2,getElem!_pos (enc z).toArray (u % k) (by simpa using h2)]
  simp
 have hvl:((List.range ((n - i)*k)).map fun u=>(enc z).toArray[u % k]!).length=(n - i)*k:=by simp
 have hvg:∀ u,u < (n - i)*k→((List.range ((n - i)*k)).map fun u=>(enc z).toArray[u % k]!)[u]! = (enc z)[u % k]!:=fun u hu=>by
  rw [getElem!_pos _ u (by rw [hvl];exact hu),List.getElem_map,List.getElem_range,hin]
 have hone:∀ v∈((List.range ((n - i)*k)).map fun u=>(enc z).toArray[u % k]!),v.oneCell'=true:=fun v hv=>by
  obtain ⟨u,_,rfl⟩:=List.mem_map.1 hv
  have h2:u % k < (enc z).length:=by rw [b.len];exact Nat.mod_lt _ k0
  rw [hin,getElem!_pos (enc z) (u % k) h2]
  exact b.one z _ (List.getElem_mem h2)
 have bnd:i*k+(n - i)*k≤L.length*k:=by rw [← Nat.add_mul,hl];exact Nat.mul_le_mul_right k (by omega)
 generalize hgv:((List.range ((n - i)*k)).map fun u=>(enc z).toArray[u % k]!)=vs at *
 refine ⟨vs,?_,?_⟩
 · have q1:=stores_of_holds P (h.holds b hl) (i*k) vs (by rw [hvl,size_flatK];simpa using bnd) hone
   rw [Nat.zero_add] at q1
   obtain ⟨m,hm⟩:∃ m,n - i=m+1:=⟨n - i - 1,by omega⟩
   rw [hm] at hzc ⊢
   simp [Builtin.clear_,run_underlying ht,hzv,hzc,q1]
 · refine SWK.run h b.hg i _ ?_ (by rw [hvl];simpa using bnd)
   refine setMany_run b.len _ _ i (n - i) _ (by simp;omega) hvl (fun u hu=>?_) (fun j hj hn=>?_)
   · rw [hvg u hu,get_arr]
     have hd:u / k < n - i:=(Nat.div_lt_iff_lt_mul k0).2 hu
     generalize u / k=q at hd ⊢
     rw [at_eq (by rw [List.length_append,List.length_take,List.length_replicate];omega),List.getElem_append_right (by rw [List.length_take];omega),List.getElem_replicate]
   · simp only [List.size_toArray] at hj
     have hji:j < i:=by omega
     rw [get_arr,get_arr,at_eq (by rw [List.length_append,List.length_take];omega),at_eq hj,List.getElem_append_left (by rw [List.length_take];omega),List.getElem_take]
end
structure SC (P:Program) (k:Nat) (zv:Value):Prop extends SF P k where
 tB:P.underlying 83=some (TypeDesc.func #[62,62] #[4] false)
 aB:∀ w,(isAgg 83).run P w=.ok false w
 zB:∀ w,(Go.sizeOf 83).run P w=.ok 1 w
 vB:∀ w,(zeroValue 83).run P w=.ok (Value.nilFunc) w
 vE:∀ w,(zeroValue 62).run P w=.ok zv w
 fc:P.funcs[79]?=some Tryz.f79
theorem sc_prog:SC Tryz.prog 9 (.agg (encF default).toArray) where
 toSF:=sf_prog
 tB:=Tryz.underlying83
 aB:=Tryz.isAgg83
 zB:=Tryz.sizeOf83
 vB:=Tryz.zeroValue83
 vE:=Tryz.zeroValue62
 fc:=Tryz.func79
structure EM (P:Program) (enc:Nat→List Value) (sm:Nat→Nat→Bool):Prop where
 eg:∀ args w,(callFunc 80 args).run P w=.ok (.enter 80 args) w
 c:∀ (x y:Nat) (W:World),Calls P 80 #[.agg (enc x).toArray,.agg (enc y).toArray] W fun e w'=>e=.returned (.bool (sm x y))∧∃ q os',w'=grow (W.drewN q) os'
variable {P:Program}{k:Nat}{enc:Nat→List Value}{sm:Nat→Nat→Bool}{zv:Value}
set_option maxHeartbeats 4000000 in
set_option maxRecDepth 1000000 in
theorem compact_any (F:SC P k zv) (C:EM P enc sm) {w0 w:World}{g n cap:Nat} (b:Bs enc k w0 g n) (L:List Nat) (z:Nat) (hz:zv.cells=(enc z).toArray) (k0:0 < k) (hcap:n≤cap) (hl:L.length=n) (h:SL enc k w0 g L w) (h2:2≤n) :
 Calls P 79 #[.slice (some ⟨g,0,none⟩) n cap,sameNameV] w fun e w' =>
  e=.returned (.slice (some ⟨g,0,none⟩) (cu sm L n).length cap)∧SL enc k w0 g (cu sm L n++List.replicate (n - (cu sm L n).length) z) w':=by
 unfold sameNameV
 have hn:=b.hn
 have mixed:=F.mixed;have t0:=F.t0;have a0:=F.a0;have z0:=F.z0;have v0:=F.v0;have t3:=F.t3;have a3:=F.a3;have z3:=F.z3;have v3:=F.v3;have t4:=F.t4;have a4:=F.a4;have z4:=F.z4;have v4:=F.v4;have t22:=F.t22;have a22:=F.a22;have z22:=F.z22;have v22:=F.v22
 have aE:=F.aE;have zE:=F.zE;have vE:=F.vE;have tB:=F.tB;have aB:=F.aB;have zB:=F.zB;have vB:=F.vB
 have u22:=run_underlying F.t22
 have FC:=F.fc
 have eg:=C.eg
 have HC:=hide C.c
 have HB:Hid (Bs enc k w0 g n):=b
 have HL:Hid (L.length=n):=hl
 have HZ:=hide hz
 have HH:=hide h
 have h2z:¬ (n:Int) < 2:=by omega
 clear F C b hl h hz
 go_enter FC,Tryz.ntmps79
 go_wp2
 go_loopw [5] (fun v wr=>∃ (i:Nat),v=.int .i64 (i:Int)∧1≤i∧i≤n∧SL enc k w0 g L wr∧∀ j,j < i→j=0∨sm (at' L j) (at' L (j - 1))=false) (fun v _=>n - (intOf v).toNat)
 case atStart=>exact ⟨1,rfl,Nat.le_refl _,by omega,uh HH,fun j hj=>.inl (by omega)⟩
 case round =>
  obtain ⟨i,rfl,hi1,hin,hS,hall⟩:=hrel
  have HS:=hide hS
  have HA:=hide hall
  clear hS hall HH
  by_cases hlt:i < n
  · have hltz:(i:Int) < (n:Int):=by omega
    obtain ⟨p,hp⟩:∃ p,i=p+1:=⟨i - 1,by omega⟩
    have HPI:=hide hp
    have ll1:∀ n' os',Sem.run P (loadCellsFrom ⟨g,i*k,none⟩ 0 k #[]) (grow (wr.drewN n') os')=.ok (enc (at' L i)).toArray (grow (wr.drewN n') os'):=fun n' os'=>SL.load (P:=P) HB.out ((uh HS).grown n' os') (uh HL) i (by omega)
    have ll2:∀ n' os',Sem.run P (loadCellsFrom ⟨g,p*k,none⟩ 0 k #[]) (grow (wr.drewN n') os')=.ok (enc (at' L p)).toArray (grow (wr.drewN n') os'):=fun n' os'=>SL.load (P:=P) HB.out ((uh HS).grown n' os') (uh HL) p (by omega)
    have hcg:=fun W=>uh HC (at' L i) (at' L p) W
    have q1:=HB.out.len (at' L i)
    have q2:=HB.out.len (at' L p)
    generalize hsm:sm (at' L i) (at' L p)=r at hcg
    generalize enc (at' L i)=c1 at ll1 hcg q1
    generalize enc (at' L p)=c2 at ll2 hcg q2
    have HSM:Hid (sm (at' L i) (at' L (i - 1))=r):=by show _=_;rw [hp,Nat.add_sub_cancel,← hp];exact hsm
    have hcg':=hide hcg
    have wp:IntKind.i64.wrap ((i:Int) - 1)=(p:Int):=by rw [IntKind.wrap_i64];omega
    have jz:(p:Int) < (n:Int):=by omega
    have pz:(0:Int)≤(p:Int):=by omega
    clear hcg hsm hp
    cases r with
    | false =>
      go_wp2_with fail
      go_quiet_grown (first|(go_at_fn 80;refine Calls.grown_of (uh hcg' _)))
      go_wp2
      go_round
      case measure=>simp only [intOf];omega
      case rel=>exact ⟨i+1,by first|rfl|go_num,by omega,by omega,(uh HS).grown _ _,fun j hj=>by
       by_cases e:j=i
       · subst e;exact .inr (uh HSM)
       · exact uh HA j (by omega)⟩
    | true =>
      go_wp2_with fail
      go_quiet_grown (first|(go_at_fn 80;refine Calls.grown_of (uh hcg' _)))
      clear ll1 ll2 hcg'
      go_wp2
      obtain ⟨ni,hni⟩:∃ x,n - i=x:=⟨_,rfl⟩
      rw [hni]
      have HNI:Hid (i+ni=n):=by show _=_;omega
      have hni1:1≤ni:=by omega
      clear hni q1 q2 wp jz pz HPI
      go_loopw [5,7] (fun v u wr'=>∃ (kk k2:Nat) (C:List Nat),v=.int .i64 (kk:Int)∧u=.int .i64 (k2:Int)∧1≤k2∧k2≤ni∧CI sm L (i+k2) kk C∧SL enc k w0 g C wr') (fun _ u _=>ni - (intOf u).toNat)
      case atStart=>exact ⟨i,1,L,rfl,rfl,Nat.le_refl _,hni1,CI.start (by omega) (by rw [uh HL];exact hlt) (uh HA) (uh HSM),(uh HS).grown _ _⟩
      case round =>
       obtain ⟨kk,k2,C,rfl,rfl,hk1,hk2,hI,hS⟩:=hrel
       have HS2:=hide hS
       have HI:=hide hI
       have hkk:=hI.lt
       have hCl:C.length=n:=by rw [hI.size];exact uh HL
       have HCL:=hide hCl
       have hnn:=uh HNI
       have hkn:kk < n:=by omega
       clear hS hI hCl HS HA HSM
       by_cases hlt2:k2 < ni
       · have hltz2:(k2:Int) < (ni:Int):=by omega
         obtain ⟨p,hp⟩:∃ p,k2=p+1:=⟨k2 - 1,by omega⟩
         have ll1:∀ n' os',Sem.run P (loadCellsFrom ⟨g,i*k+k2*k,none⟩ 0 k #[]) (grow (wr.drewN n') os')=.ok (enc (at' L (i+k2))).toArray (grow (wr.drewN n') os'):=fun n' os'=>by
          have:=SL.load (P:=P) HB.out ((uh HS2).grown n' os') (uh HCL) (i+k2) (by omega)
          rw [(uh HI).high (i+k2) (by omega),Nat.add_mul] at this
          exact this
         have ll2:∀ n' os',Sem.run P (loadCellsFrom ⟨g,i*k+p*k,none⟩ 0 k #[]) (grow (wr.drewN n') os')=.ok (enc (at' L (i+p))).toArray (grow (wr.drewN n') os'):=fun n' os'=>by
          have:=SL.load (P:=P) HB.out ((uh HS2).grown n' os') (uh HCL) (i+p) (by omega)
          rw [(uh HI).high (i+p) (by omega),Nat.add_mul] at this
          exact this
         have sp:∀ n' os',Sem.run P (storeCells ⟨g,kk*k,none⟩ (enc (at' L (i+k2))) 0) (grow (wr.drewN n') os')=.ok () ((grow (wr.drewN n') os').setCells g (kk*k) (enc (at' L (i+k2)))):=fun n' os'=>(SL.put (P:=P) HB.out ((uh HS2).grown n' os') (uh HCL) kk _ hkn).1
         have sl:Hid (∀ n' os',SL enc k w0 g (C.set kk (at' L (i+k2))) ((grow (wr.drewN n') os').setCells g (kk*k) (enc (at' L (i+k2))))):=fun n' os'=>(SL.put (P:=P) HB.out ((uh HS2).grown n' os') (uh HCL) kk _ hkn).2
         have hcg:=fun W=>uh HC (at' L (i+k2)) (at' L (i+p)) W
         have q1:=HB.out.len (at' L (i+k2))
         have q2:=HB.out.len (at' L (i+p))
         generalize hsm:sm (at' L (i+k2)) (at' L (i+p))=r at hcg
         generalize enc (at' L (i+k2))=c1 at ll1 hcg q1 sp sl
         generalize enc (at' L (i+p))=c2 at ll2 hcg q2
         have HSM:Hid (sm (at' L (i+k2)) (at' L (i+k2 - 1))=r):=by
          show _=_
          rw [show i+k2 - 1=i+p by omega]
          exact hsm
         have hcg':=hide hcg
         have wp:IntKind.i64.wrap ((k2:Int) - 1)=(p:Int):=by rw [IntKind.wrap_i64];omega
         have jz:(p:Int) < (ni:Int):=by omega
         have kz:(kk:Int) < (n:Int):=by omega
         have HPI:=hide hp
         clear hcg hsm hp
         cases r with
         | true =>
           go_wp2_with fail
           go_quiet_grown (first|(go_at_fn 80;refine Calls.grown_of (uh hcg' _)))
           go_wp2
           go_round
           case measure=>simp only [intOf];omega
           case rel=>exact ⟨kk,k2+1,C,by first|rfl|go_num,by first|rfl|go_num,by omega,by omega,(uh HI).skip (by omega) (uh HSM),(uh HS2).grown _ _⟩
         | false =>
           go_wp2_with fail
           go_quiet_grown (first|(go_at_fn 80;refine Calls.grown_of (uh hcg' _)))
           go_wp2
           go_round
           case measure=>simp only [intOf];omega
           case rel=>exact ⟨kk+1,k2+1,C.set kk (at' L (i+k2)),by first|rfl|go_num,by first|rfl|go_num,by omega,by omega,(uh HI).keep (by rw [uh HL];omega) (uh HSM),uh sl _ _⟩
       · obtain rfl:k2=ni:=by omega
         have hltz2:¬ (k2:Int) < (k2:Int):=by omega
         have hik:i+k2=n:=hnn
         obtain ⟨vs,hcl,hz⟩:∃ vs,(∀ ty,(Builtin.clear_ #[25] ty #[.slice (some ⟨g,kk*k,none⟩) (n - kk) (cap - kk)]).run P wr=.ok (.tuple #[]) (wr.setCells g (kk*k) vs))∧SL enc k w0 g (C.take kk++List.replicate (n - kk) z) (wr.setCells g (kk*k) vs):=by
          obtain ⟨vs,h1,h2⟩:=SL.zap (P:=P) HB.out (uh HS2) (uh HCL) kk z (cap - kk) hkn 25 62 0 zv t22 vE (uh HZ) k0
          exact ⟨vs,fun ty=>h1,h2⟩
         have HZ2:=hide hz
         have hlen:(cu sm L n).length=kk:=by
          rw [← hik]
          exact (uh HI).len (by rw [uh HL];omega)
         have hlow:C.take kk=cu sm L n:=by rw [(uh HI).low,hik]
         have HLEN:=hide hlen
         have HLOW:=hide hlow
         clear hz hlen hlow hik hnn
         go_wp2
         go_ret
         rw [uh HLEN,← uh HLOW]
         exact ⟨rfl,uh HZ2⟩
  · obtain rfl:i=n:=by omega
    have hltz:¬ (i:Int) < (i:Int):=by omega
    have e:cu sm L i=L:=by rw [cu_all i (by rw [uh HL];exact Nat.le_refl _) (uh HA),List.take_of_length_le (by rw [uh HL];exact Nat.le_refl _)]
    have HE:=hide e
    clear e
    go_wp2
    go_ret
    rw [uh HE,uh HL,Nat.sub_self,List.replicate_zero,List.append_nil]
    exact ⟨rfl,uh HS⟩
end Go.Proofs.YthakglomacijgaaGreatDoor.rd.ss
