/- Texts in one: Sc Ss Sw Sj Vx Pj Nz Zs -/
import Derived.Test.YthnhobplgmojeaaGreatDoorBnP
import Derived.Test.YthnhobplgmojeaaGreatDoorNuP
import Derived.Test.YthnhobplgmojeaaGreatDoorBdP
import Derived.Shelf.SlSortCmp.NoneTotal
import Derived.Test.YthnhobplgmojeaaGreatDoorIeP
namespace Go.Proofs.YthnhobplgmojeaaGreatDoor.rd
open Go.RowKit Go.Shelf Go.Lib Go.Sort
instance:Inhabited Fd:=⟨⟨⟨#[]⟩,0,false,false,⟨#[]⟩,0,⟨#[]⟩,none,0,0,none,0,0⟩⟩
theorem swoF:SWO (ltOf cmpF) where
 irrefl x:=by
  unfold ltOf cmpF;rw [cb.self];rfl
 trans x y z h1 h2:=by
  unfold ltOf cmpF at *;simp only [decide_eq_true_eq] at *;rw [cb.lt_iff] at h1 h2 ⊢;intro h3;refine h2 (cb.trans _ _ _ h3 ?_);have:=cb.total x.nm.data.toList y.nm.data.toList;omega
 ntrans x y z h1 h2:=by
  unfold ltOf cmpF at *;simp only [decide_eq_false_iff_not] at *;rw [cb.lt_iff,Decidable.not_not] at h1 h2 ⊢;exact cb.trans _ _ _ h2 h1
theorem flat_get {α:Type} [Inhabited α] (enc:α→List Value) (k:Nat) (hk:0 < k) (he:∀ x,(enc x).length=k):∀ (D:List α) (t:Nat),t < D.length*k→(D.flatMap enc)[t]?=some ((enc D.toArray[t / k]!)[t % k]!)
 | [],t,h=>by simp at h
 | x::D,t,h=>by
   rw [List.flatMap_cons]
   by_cases q:t < k
   · rw [List.getElem?_append_left (by rw [he];exact q),Nat.div_eq_of_lt q,Nat.mod_eq_of_lt q]
     have:(enc x)[t]?=some ((enc x)[t]'(by rw [he];exact q)):=List.getElem?_eq_getElem _;rw [this];simp [he,q]
   · have h2:t - k < D.length*k:=by simp only [List.length_cons,Nat.add_mul,Nat.one_mul] at h;omega
     rw [List.getElem?_append_right (by rw [he];omega),he,flat_get enc k hk he D (t - k) h2]
     have e1:t / k=(t - k) / k+1:=by
      rw [Nat.div_eq_sub_div hk (by omega)]
     have e2:t % k=(t - k) % k:=Nat.mod_eq_sub_mod (by omega);have h3:(t - k) / k < D.length:=(Nat.div_lt_iff_lt_mul hk).2 h2;rw [e1,e2];simp
theorem flat_eq {α:Type} [Inhabited α] (enc:α→List Value) (k:Nat) (hk:0 < k) (he:∀ x,(enc x).length=k) (D:List α):(flatK enc k D.toArray).toList=D.flatMap enc:=by
 have hl:(D.flatMap enc).length=D.length*k:=by
  induction D with
  | nil=>simp
  | cons x D ih=>simp [List.flatMap_cons,ih,he,Nat.add_mul];omega
 apply List.ext_getElem?;intro t
 by_cases h:t < D.length*k
 · rw [flat_get enc k hk he D t h]
   have h1:=get_flatK enc k D.toArray t (by simpa using h);have h2:t < (flatK enc k D.toArray).size:=by simpa using h
   rw [← h1,Array.getElem?_toList,Array.getElem?_eq_getElem h2,getElem!_pos _ t h2]
 · rw [List.getElem?_eq_none (by simp;omega),List.getElem?_eq_none (by omega)]
theorem sortC0:SortC0:=fun p cap w=>AnyF.slices_SortFunc_none Tryz.sortFd p cap byNameV w
theorem enter_byName (args:Array Value) (w:World):(callFunc 136 args).run Tryz.prog w=.ok (.enter 136 args) w :=
 MuLone.run_callFunc_enter Tryz.func136 (by kernel_rfl) (c:=Tryz.f136.body.get (by kernel_rfl)) (by kernel_rfl) args w
theorem sortC:SortC:=by
 intro w B g cap D hpos hl ho;obtain ⟨hxl,hh⟩:=ho
 rcases hh with ⟨hq,_⟩|⟨g',cap',cur,hq,hB,hg,hcap,hmax,hcs,htake⟩
 · cases hq
 cases hq
 have hF:=flat_eq encF 9 (by omega) encF_len D
 have hH:HoldsK encF 9 w g 0 D.toArray:=by
  intro j hj;have hj':j < D.length*9:=by simpa using hj
  refine ⟨?_,blk_free hg _⟩;rw [blk_cell hg];have h2:(cur.toList.take (D.length*9))[j]?=(D.flatMap encF)[j]?:=by rw [htake]
  rw [List.getElem?_take,if_pos hj',← hF,Array.getElem?_toList,Array.getElem?_toList] at h2;rw [Nat.zero_add,h2,Array.getElem?_eq_getElem hj,id,getElem!_pos _ j hj]
 have h:=AnyQ.slices_SortFunc Tryz.sortFd 9 Tryz.isAgg70 Tryz.sizeOf70 encF encF_len encF_one cmpF swoF 136 #[] g 0 cap D.toArray w enter_byName (fun m os dk _ x y=>byName_any x y _) hH (blk_lt hg) (by simp;omega);refine Calls.mono (show Calls Tryz.prog 165 #[.slice (some ⟨g,0,none⟩) D.length cap,byNameV] w _ from h) ?_;rintro e w' ⟨rfl,d',n,os,hp,hs,hw⟩;have hsz:d'.size=D.length:=by simpa using hp.1
 refine ⟨rfl,d'.toList,?_,?_,?_,?_⟩
 · have h3:=hp.2.2
   have e1:d'.extract 0 D.toArray.size=d':=by rw [show D.toArray.size=d'.size by simp [hsz]];simp
   rw [e1] at h3;simpa using h3
 · rw [List.pairwise_iff_getElem]
   intro i j hi hj hij;have hj':j < d'.size:=by simpa using hj
   have hi':i < d'.size:=by omega
   have h3:=hs i j (by omega) hij (by simp;omega);rw [getElem!_pos _ j hj',getElem!_pos _ i hi'] at h3;unfold ltOf at h3;simp only [decide_eq_false_iff_not] at h3;unfold cmpF at h3 ⊢;rw [cb.lt_iff,Decidable.not_not] at h3;simpa using h3
 · have hF':=flat_eq encF 9 (by omega) encF_len d'.toList
   have hfs:(flatK encF 9 d').size=D.length*9:=by simp [hsz]
   have hlt:g < w.heap.size:=blk_lt hg;refine ⟨?_,.inr ⟨g,cap,putCells id 0 (flatK encF 9 d') cur,rfl,hB,?_,hcap,hmax,by simp [putCells,hcs],?_⟩⟩
   · rw [← hF']
     simp [hsz]
   · rw [hw]
     show ((w.heap.modify g _)++os)[g]?=_;rw [Array.getElem?_append_left (by simpa using hlt),Array.getElem?_modify,if_pos rfl,hg];rfl
   · rw [← hF']
     simp only [Array.toArray_toList];apply List.ext_getElem?;intro t;rw [List.getElem?_take]
     split
     · rename_i ht
       have ht2:t < (flatK encF 9 d').size:=by omega
       have htc:t < cur.size:=by rw [hcs];exact Nat.lt_of_lt_of_le ht (Nat.mul_le_mul_right 9 hcap)
       rw [Array.getElem?_toList,Array.getElem?_toList,Array.getElem?_eq_getElem ht2];simp only [putCells,Array.getElem?_mapIdx,Array.getElem?_eq_getElem htc,Option.map_some,id];rw [if_pos ⟨by omega,by omega⟩,Nat.sub_zero,getElem!_pos _ t ht2]
     · rename_i ht
       rw [List.getElem?_eq_none];simpa [hsz] using ht
 · rw [hw]
   refine ⟨rfl,rfl,rfl,?_,fun b hb hn=>?_⟩
   · show w.heap.size≤((w.heap.modify g _)++os).size
     simp
   · show ((w.heap.modify g _)++os)[b]?=_
     rw [Array.getElem?_append_left (by simpa using hb),Array.getElem?_modify,if_neg (fun e=>hn e.symm)]
end Go.Proofs.YthnhobplgmojeaaGreatDoor.rd
namespace Go.Proofs.YthnhobplgmojeaaGreatDoor.rd.ss
open Go.RowKit Go.Shelf Go.Lib Go.Sort
variable (D:List Fd)
def fdI (i:Nat):Fd:=D.getD i default
def cfI (i j:Nat):Int:=cmpF (fdI D i) (fdI D j)
def lxI (i j:Nat):Bool:=decide (cfI D i j < 0) || (decide (cfI D i j=0) && decide (i < j))
theorem cf_self (i:Nat):cfI D i i=0:=by unfold cfI cmpF;exact cb.self _
theorem cf_sym (i j:Nat):cfI D j i=- cfI D i j:=by unfold cfI cmpF;exact cb.sym _ _
theorem cf_trans (i j k:Nat) (h1:cfI D i j≤0) (h2:cfI D j k≤0):cfI D i k≤0:=by unfold cfI cmpF at *;exact cb.trans _ _ _ h1 h2
theorem lx_iff (i j:Nat):lxI D i j=true↔cfI D i j < 0∨(cfI D i j=0∧i < j):=by
 unfold lxI;simp
theorem lx_not (i j:Nat):lxI D i j=false↔0≤cfI D i j∧(cfI D i j=0→j≤i):=by
 rw [← Bool.not_eq_true,lx_iff]
 constructor
 · intro h
   refine ⟨?_,fun e=>?_⟩
   · exact Decidable.byContradiction fun q=>h (.inl (by omega))
   · exact Decidable.byContradiction fun q=>h (.inr ⟨e,by omega⟩)
 · rintro ⟨h1,h2⟩ (q|q)
   · omega
   · have:=h2 q.1;omega
theorem swoX:SWO (lxI D) where
 irrefl x:=by rw [lx_not];exact ⟨by rw [cf_self];omega,fun _=>Nat.le_refl _⟩
 trans x y z h1 h2:=by
  rw [lx_iff] at *;have t:=cf_trans D x y z (by omega) (by omega);have t2:=cf_trans D y z x;have t3:=cf_trans D z x y;have s1:=cf_sym D x z;have s2:=cf_sym D x y;have s3:=cf_sym D y z
  by_cases e:cfI D x z=0
  · refine .inr ⟨e,?_⟩
    have a1:=t2 (by omega) (by omega);have a2:=t3 (by omega) (by omega);omega
  · exact .inl (by omega)
 ntrans x y z h1 h2:=by
  rw [lx_not] at *;have s1:=cf_sym D x z;have s2:=cf_sym D x y;have s3:=cf_sym D y z;have t:=cf_trans D z y x (by omega) (by omega);have t2:=cf_trans D y x z;have t3:=cf_trans D x z y;refine ⟨by omega,fun e=>?_⟩;have a1:=t2 (by omega) (by omega);have a2:=t3 (by omega) (by omega);have b1:=h1.2 (by omega);have b2:=h2.2 (by omega);omega
theorem lx_total (x y:Nat) (h1:lxI D x y=false) (h2:lxI D y x=false):x=y:=by
 rw [lx_not] at *;have s:=cf_sym D x y;have a:=h1.2 (by omega);have b:=h2.2 (by omega);omega
theorem inner_size (lt:Nat→Nat→Bool) (a:Nat):∀ (j:Nat) (d:Array Nat),(insInner lt a j d).size=d.size
 | 0,d=>by unfold insInner;rfl
 | j+1,d=>by
   unfold insInner
   split
   · rw [inner_size lt a j,swp_size]
   · rfl
theorem inner_out (lt:Nat→Nat→Bool) (a:Nat):∀ (j:Nat) (d:Array Nat) (q:Nat),j < q→(insInner lt a j d)[q]! = d[q]!
 | 0,d,q,_=>by unfold insInner;rfl
 | j+1,d,q,h=>by
   unfold insInner
   split
   · rw [inner_out lt a j _ q (by omega),swp_other d _ _ q (by omega) (by omega)]
   · rfl
theorem inner_bd (lt:Nat→Nat→Bool) (a B:Nat):∀ (j:Nat) (d:Array Nat),j < d.size→(∀ p,a≤p→p≤j→d[p]! < B)→∀ p,a≤p→p≤j→(insInner lt a j d)[p]! < B
 | 0,d,_,h,p,h1,h2=>by unfold insInner;exact h p h1 h2
 | j+1,d,hj,h,p,h1,h2=>by
   unfold insInner
   split
   · rename_i hc
     simp only [Bool.and_eq_true,decide_eq_true_eq] at hc
     by_cases hp:p=j+1
     · subst hp
       rw [inner_out lt a j _ (j+1) (by omega),swp_left d _ _ hj (by omega)];exact h j (by omega) (by omega)
     · refine inner_bd lt a B j _ (by rw [swp_size];omega) (fun q q1 q2=>?_) p h1 (by omega)
       by_cases hq:q=j
       · subst hq
         rw [swp_right d _ _ (by omega)];exact h (q+1) (by omega) (by omega)
       · rw [swp_other d _ _ q (by omega) hq]
         exact h q q1 (by omega)
   · exact h p h1 h2
theorem inner_eq (a:Nat):∀ (j:Nat) (d:Array Nat),j < d.size→(∀ p,a≤p→p < j→d[p]! < d[j]!)→insInner (ltOf (cfI D)) a j d=insInner (lxI D) a j d
 | 0,d,_,_=>by unfold insInner;rfl
 | j+1,d,hj,h=>by
   unfold insInner
   by_cases ha:j+1 > a
   · have hlt:=h j (by omega) (by omega)
     have e:ltOf (cfI D) d[j+1]! d[j]! = lxI D d[j+1]! d[j]!:=by
      unfold ltOf lxI;have:decide (d[j+1]! < d[j]!)=false:=decide_eq_false (by omega);rw [this,Bool.and_false,Bool.or_false]
     rw [e]
     split
     · refine inner_eq a j _ (by rw [swp_size];omega) (fun p p1 p2=>?_)
       rw [swp_right d _ _ (by omega),swp_other d _ _ p (by omega) (by omega)];exact h p p1 (by omega)
     · rfl
   · have e0:decide (j+1 > a)=false:=decide_eq_false ha
     rw [e0];simp
theorem outer_eq (a b:Nat):∀ (n i:Nat) (d:Array Nat),b - i=n→a < i→b≤d.size→(∀ p q,a≤p→p < q→i≤q→q < b→d[p]! < d[q]!)→insOuter (ltOf (cfI D)) a b i d=insOuter (lxI D) a b i d
 | 0,i,d,hn,_,_,_=>by
   rw [insOuter,if_neg (by omega),insOuter,if_neg (by omega)]
 | n+1,i,d,hn,hai,hb,h=>by
   have hib:i < b:=by omega
   have u:∀ lt:Nat→Nat→Bool,insOuter lt a b i d=insOuter lt a b (i+1) (insInner lt a i d):=fun lt=>by
    conv=>lhs;rw [insOuter]
    rw [if_pos hib]
   have hid:i < d.size:=by omega
   rw [u,u,inner_eq D a i d hid (fun p p1 p2=>h p i p1 p2 (Nat.le_refl _) hib)];refine outer_eq a b n (i+1) (insInner (lxI D) a i d) (by omega) (by omega) (by rw [inner_size];exact hb) (fun p q p1 p2 q1 q2=>?_);rw [inner_out (lxI D) a i d q (by omega)]
   by_cases hp:p≤i
   · exact inner_bd (lxI D) a (d[q]!) i d hid (fun r r1 r2=>h r q r1 (by omega) (by omega) q2) p p1 hp
   · rw [inner_out (lxI D) a i d p (by omega)]
     exact h p q p1 p2 (by omega) q2
theorem ins_eq (d:Array Nat) (a b:Nat) (hb:b≤d.size) (h:∀ p q,a≤p→p < q→q < b→d[p]! < d[q]!):insertionSort (ltOf (cfI D)) d a b=insertionSort (lxI D) d a b :=
 outer_eq D a b (b - (a+1)) (a+1) d rfl (by omega) hb (fun p q p1 p2 _ q2=>h p q p1 p2 q2)
def rng (n:Nat):Array Nat:=(List.range n).toArray
theorem rng_size (n:Nat):(rng n).size=n:=by simp [rng]
def stb (n:Nat):List Nat:=(List.range n).mergeSort (fun x y=>!lxI D y x)
def encI (D:List Fd) (i:Nat):List Value:=encF (fdI D i)
theorem range_fd (D:List Fd):(List.range D.length).map (fdI D)=D:=by
 apply List.ext_getElem
 · simp
 · intro i h1 h2
   simp [fdI,h2]
theorem range_flat (D:List Fd):(List.range D.length).flatMap (encI D)=D.flatMap encF:=by
 conv=>rhs;rw [← range_fd D]
 rw [List.flatMap_map];rfl
theorem holds_row {w:World}{B g cap:Nat}{D:List Fd} (ho:w.ownsRow B 70 9 (.slice (some ⟨g,0,none⟩) D.length cap) D.length (D.flatMap encF)):HoldsK (encI D) 9 w g 0 (rng D.length)∧g < w.heap.size:=by
 obtain ⟨hxl,hh⟩:=ho
 rcases hh with ⟨hq,_⟩|⟨g',cap',cur,hq,hB,hg,hcap,hmax,hcs,htake⟩
 · cases hq
 cases hq
 have hF:=(flat_eq (encI D) 9 (by omega) (fun x=>encF_len _) (List.range D.length)).trans (range_flat D);refine ⟨?_,blk_lt hg⟩;intro j hj;have hj':j < D.length*9:=by simpa [rng] using hj
 refine ⟨?_,blk_free hg _⟩;rw [blk_cell hg];have h2:(cur.toList.take (D.length*9))[j]?=(D.flatMap encF)[j]?:=by rw [htake]
 rw [List.getElem?_take,if_pos hj',← hF,Array.getElem?_toList,Array.getElem?_toList] at h2;unfold rng at hj ⊢;rw [Nat.zero_add,h2,Array.getElem?_eq_getElem hj,id,getElem!_pos _ j hj]
theorem sorted_row {w:World}{B g cap:Nat}{D:List Fd} (ho:w.ownsRow B 70 9 (.slice (some ⟨g,0,none⟩) D.length cap) D.length (D.flatMap encF)) (d':Array Nat) (hsz:d'.size=D.length) (m:Nat) (os:Array Obj) :
 (sortWorldK (encI D) 9 w g 0 m d' os).ownsRow B 70 9 (.slice (some ⟨g,0,none⟩) D.length cap) D.length ((d'.toList.map (fdI D)).flatMap encF)∧Mv g w (sortWorldK (encI D) 9 w g 0 m d' os):=by
 obtain ⟨hxl,hh⟩:=ho
 rcases hh with ⟨hq,_⟩|⟨g',cap',cur,hq,hB,hg,hcap,hmax,hcs,htake⟩
 · cases hq
 cases hq
 have hF':(flatK (encI D) 9 d').toList=(d'.toList.map (fdI D)).flatMap encF:=by
  rw [List.flatMap_map];exact flat_eq (encI D) 9 (by omega) (fun x=>encF_len _) d'.toList
 have hfs:(flatK (encI D) 9 d').size=D.length*9:=by simp [hsz]
 have hlt:g < w.heap.size:=blk_lt hg;refine ⟨⟨?_,.inr ⟨g,cap,putCells id 0 (flatK (encI D) 9 d') cur,rfl,hB,?_,hcap,hmax,by simp [putCells,hcs],?_⟩⟩,?_⟩
 · rw [← hF']
   simp [hsz]
 · show ((w.heap.modify g _)++os)[g]?=_
   rw [Array.getElem?_append_left (by simpa using hlt),Array.getElem?_modify,if_pos rfl,hg];rfl
 · rw [← hF']
   apply List.ext_getElem?;intro t;rw [List.getElem?_take]
   split
   · rename_i ht
     have ht2:t < (flatK (encI D) 9 d').size:=by omega
     have htc:t < cur.size:=by rw [hcs];exact Nat.lt_of_lt_of_le ht (Nat.mul_le_mul_right 9 hcap)
     rw [Array.getElem?_toList,Array.getElem?_toList,Array.getElem?_eq_getElem ht2];simp only [putCells,Array.getElem?_mapIdx,Array.getElem?_eq_getElem htc,Option.map_some,id];rw [if_pos ⟨by omega,by omega⟩,Nat.sub_zero,getElem!_pos _ t ht2]
   · rename_i ht
     rw [List.getElem?_eq_none];simpa [hsz] using ht
 · refine ⟨rfl,rfl,rfl,?_,fun b hb hn=>?_⟩
   · show w.heap.size≤((w.heap.modify g _)++os).size
     simp
   · show ((w.heap.modify g _)++os)[b]?=_
     rw [Array.getElem?_append_left (by simpa using hb),Array.getElem?_modify,if_neg (fun e=>hn e.symm)]
def sameNameV:Value:=.func (.func 138) #[] #[]
theorem enter_sameName (args:Array Value) (w:World):(callFunc 138 args).run Tryz.prog w=.ok (.enter 138 args) w :=
 MuLone.run_callFunc_enter Tryz.func138 (by kernel_rfl) (c:=Tryz.f138.body.get (by kernel_rfl)) (by kernel_rfl) args w
theorem nm_eq (a b:ByteArray):(a.toList == b.toList)=decide (a=b):=by
 rw [ByteArray.toList_eq,ByteArray.toList_eq]
 by_cases h:a=b
 · subst h;simp
 · rw [decide_eq_false h,beq_eq_false_iff_ne]
   intro q;exact h (by cases a;cases b;simp at q;rw [q])
set_option maxHeartbeats 1600000 in
theorem sameName_any (a b:Fd) (x:Bool) (hx:decide (a.nm=b.nm)=x) (W:World):Calls Tryz.prog 138 #[.agg (encF a).toArray,.agg (encF b).toArray] W fun e w'=>e=.returned (.bool x)∧∃ q os',w'=grow (W.drewN q) os':=by
 obtain ⟨an,ak,at',ang,adg,aex,ax,aq1,an1,am1,aq2,an2,am2⟩:=a;obtain ⟨bn,bk,bt,bng,bdg,bex,bx,bq1,bn1,bm1,bq2,bn2,bm2⟩:=b;simp only [encF,c8] at hx ⊢;have HX:=hide hx;clear hx
 go_enter Tryz.func138,Tryz.ntmps138
 go_wp2;go_ret;refine ⟨?_,0,_,by rw [alloc_eq_grow,alloc_eq_grow,grow_grow];rfl⟩;rw [← uh HX];simp only [nm_eq];rfl
set_option maxHeartbeats 1600000 in
set_option maxRecDepth 100000 in
theorem stable_none (p:Option Addr) (cap:Nat) (w:World):Calls Tryz.prog 135 #[.slice p 0 cap,byNameV] w fun e w'=>e=.returned (.tuple #[])∧w'=w:=by
 unfold byNameV
 have hi:Calls Tryz.prog 177 #[.slice p 0 cap,.int .i64 0,.int .i64 0,.func (.func 136) #[] #[]] w fun e w'=>e=.returned (.tuple #[])∧w'=w:=by
  go_enter Tryz.func177,Tryz.ntmps177
  go_wp2;refine wp_loop_rounds 1 ?_;rw [rounds_succ];go_wp2
  go_end0
  exact ⟨rfl,rfl⟩
 have hc:=hide hi;clear hi
 have hs:Calls Tryz.prog 151 #[.slice p 0 cap,.int .i64 0,.func (.func 136) #[] #[]] w fun e w'=>e=.returned (.tuple #[])∧w'=w:=by
  go_enter Tryz.func151,Tryz.ntmps151
  go_wp2;refine wp_loop_rounds 1 ?_;rw [rounds_succ]
  go_wp2_with (go_at_call 177;refine (uh hc).mono ?_;rintro e w1 ⟨rfl,rfl⟩)
  refine wp_loop_rounds 1 ?_;rw [rounds_succ];go_wp2
  go_end0
  exact ⟨rfl,rfl⟩
 have hs':=hide hs;clear hs hc
 go_enter Tryz.func135,Tryz.ntmps135
 go_wp2_with (go_at_call 151;refine (uh hs').mono ?_;rintro e w1 ⟨rfl,rfl⟩)
 go_end0
 exact ⟨rfl,rfl⟩
theorem fd_at {w:World}{a:Addr}{D:List Fd} (h:∀ (j:Nat) (u:Value),(D.flatMap encF)[j]?=some u→w.cell? (a.add j)=some u) {i:Nat}{x:Fd} (hx:D[i]?=some x) (j:Nat) (u:Value) (hu:(encF x)[j]?=some u) (n:Nat) (os:Array Obj) :
 (grow (w.drewN n) os).cell? ((a.add (i*9)).add j)=some u:=by
 have h2:=sv_at (w:=w) (a:=a) (s:=9) (css:=D.map encF) (fun c hc=>by obtain ⟨p,_,rfl⟩:=List.mem_map.1 hc;exact encF_len p) (by rw [← List.flatMap_def];exact h) (k:=i) (c:=encF x) (by rw [List.getElem?_map,hx];rfl) j u hu;exact cell_grown (mm.cell_lt h2) h2 n os
theorem fd9 {w:World}{a:Addr}{D:List Fd} (h:∀ (j:Nat) (u:Value),(D.flatMap encF)[j]?=some u→w.cell? (a.add j)=some u) {i:Nat}{x:Fd} (hx:D[i]?=some x) (n:Nat) (os:Array Obj) :
 (grow (w.drewN n) os).cell? (a.add (i*9))=some (.string x.nm)∧(grow (w.drewN n) os).cell? ⟨(a.add (i*9)).block,(a.add (i*9)).off+1,none⟩=some (.int .i64 x.k)∧(grow (w.drewN n) os).cell? ⟨(a.add (i*9)).block,(a.add (i*9)).off+2,none⟩=some (.bool x.t)∧(grow (w.drewN n) os).cell? ⟨(a.add (i*9)).block,(a.add (i*9)).off+3,none⟩=some (.bool x.ng)∧(grow (w.drewN n) os).cell? ⟨(a.add (i*9)).block,(a.add (i*9)).off+4,none⟩=some (.string x.dg)∧(grow (w.drewN n) os).cell? ⟨(a.add (i*9)).block,(a.add (i*9)).off+5,none⟩=some (.int .i64 x.ex)∧(grow (w.drewN n) os).cell? ⟨(a.add (i*9)).block,(a.add (i*9)).off+6,none⟩=some (.string x.x)∧(grow (w.drewN n) os).cell? ⟨(a.add (i*9)).block,(a.add (i*9)).off+7,none⟩=some (.slice x.q1 x.n1 x.m1)∧(grow (w.drewN n) os).cell? ⟨(a.add (i*9)).block,(a.add (i*9)).off+8,none⟩=some (.slice x.q2 x.n2 x.m2) :=
 cells9 (fun j u hu=>fd_at h hx j u hu n os)
set_option maxHeartbeats 4000000 in
set_option maxRecDepth 100000 in
theorem compact_fresh {w:World}{sv:Value}{D:List Fd} (hsv:mm.SV w sv D.length 9 (D.flatMap encF)) (hd:∀ (i:Nat) (x y:Fd),D[i]?=some x→D[i+1]?=some y→y.nm≠x.nm) :
 Calls Tryz.prog 137 #[sv,sameNameV] w fun e w'=>e=.returned sv∧∃ q os',w'=grow (w.drewN q) os':=by
 unfold sameNameV;obtain ⟨hl,oa,c,rfl,h1,h2,h3,h4⟩:=hsv;have hm:D.length≤maxLen:=Nat.le_trans h1 h2;unfold maxLen at hm
 by_cases h0:D.length < 2
 · generalize D.length=n at h0 ⊢
   have h0z:(n:Int) < 2:=by omega
   clear h1 h2 h3 h4 hl hm hd
   go_enter Tryz.func137,Tryz.ntmps137
   go_wp2
   all_goals first|(exfalso;omega)|(go_ret;exact ⟨rfl,0,#[],by rw [grow_empty];rfl⟩)
 · cases oa with
   | none=>have:=(h3 rfl).1;omega
   | some a =>
     have HC:=hide (h4 a rfl);have HD:=hide hd;clear h3 h4 hl h1 h2 hd;have mixed:Tryz.prog.follows .mixedOrders=true:=by kernel_rfl
     generalize hn:D.length=n at h0 hm ⊢;have HN:Hid (D.length=n):=hn;clear hn;have h0z:¬ (n:Int) < 2:=by omega
     go_enter Tryz.func137,Tryz.ntmps137
     go_wp2
     go_loopw [5] (fun v wr=>∃ (k:Nat) (q:Nat) (os:Array Obj),v=.int .i64 (k:Int)∧1≤k∧k≤n∧wr=grow (w.drewN q) os) (fun v _=>n - (intOf v).toNat)
     case atStart=>exact ⟨1,0,#[],rfl,by omega,by omega,by rw [grow_empty];rfl⟩
     case round =>
      obtain ⟨k,q,os,rfl,hk1,hkn,rfl⟩:=hrel
      by_cases hk:k < n
      · have hkz:(k:Int) < (n:Int):=by omega
        obtain ⟨kp,rfl⟩:∃ kp,k=kp+1:=⟨k - 1,by omega⟩
        have HW:∀ (j:Nat) (u:Value),(D.flatMap encF)[j]?=some u→(grow (w.drewN q) os).cell? (a.add j)=some u:=fun j u hu=>by
         have:=uh HC j u hu;exact cell_grown (mm.cell_lt this) this q os
        obtain ⟨x,hx⟩:∃ x,D[kp+1]?=some x:=⟨_,List.getElem?_eq_getElem (by have:=HN.out;omega)⟩;obtain ⟨y,hy⟩:∃ y,D[kp]?=some y:=⟨_,List.getElem?_eq_getElem (by have:=HN.out;omega)⟩;have hne:decide (x.nm=y.nm)=false:=decide_eq_false (uh HD kp y x hy hx);have hcg:=fun W'=>sameName_any x y false hne W'
        generalize hwq:grow (w.drewN q) os=wq at HW ⊢;have HQ:Hid (grow (w.drewN q) os=wq):=hwq;clear hwq;obtain ⟨xn,xk,xt,xng,xdg,xex,xx,xq1,xn1,xm1,xq2,xn2,xm2⟩:=x;obtain ⟨yn,yk,yt,yng,ydg,yex,yx,yq1,yn1,ym1,yq2,yn2,ym2⟩:=y;have CX:=fd9 HW hx;have CY:=fd9 HW hy;generalize hax:a.add ((kp+1)*9)=ax at CX;generalize hay:a.add (kp*9)=ay at CY;have X0:=fun n os=>(CX n os).1
        have X1:=fun n os=>(CX n os).2.1
        have X2:=fun n os=>(CX n os).2.2.1
        have X3:=fun n os=>(CX n os).2.2.2.1
        have X4:=fun n os=>(CX n os).2.2.2.2.1
        have X5:=fun n os=>(CX n os).2.2.2.2.2.1
        have X6:=fun n os=>(CX n os).2.2.2.2.2.2.1
        have X7:=fun n os=>(CX n os).2.2.2.2.2.2.2.1
        have X8:=fun n os=>(CX n os).2.2.2.2.2.2.2.2
        have Y0:=fun n os=>(CY n os).1
        have Y1:=fun n os=>(CY n os).2.1
        have Y2:=fun n os=>(CY n os).2.2.1
        have Y3:=fun n os=>(CY n os).2.2.2.1
        have Y4:=fun n os=>(CY n os).2.2.2.2.1
        have Y5:=fun n os=>(CY n os).2.2.2.2.2.1
        have Y6:=fun n os=>(CY n os).2.2.2.2.2.2.1
        have Y7:=fun n os=>(CY n os).2.2.2.2.2.2.2.1
        have Y8:=fun n os=>(CY n os).2.2.2.2.2.2.2.2
        clear CX CY;dsimp only at X0 X1 X2 X3 X4 X5 X6 X7 X8 Y0 Y1 Y2 Y3 Y4 Y5 Y6 Y7 Y8;simp only [encF,c8] at hcg;clear HW hx hy hne;have hcg':=hide hcg;clear hcg;have hwp:IntKind.i64.wrap (kp:Int)=(kp:Int):=by rw [IntKind.wrap_i64];omega
        have jz:(kp:Int)+1 < (n:Int):=by omega
        have jz1:(kp:Int) < (n:Int):=by omega
        have p0:(0:Int)≤(kp:Int)+1:=by omega
        have e0:((kp:Int)+1).toNat=kp+1:=by omega
        have eg:=enter_sameName
        go_wp2_with fail
        go_quiet_grown (first|(go_at_call 138;refine Calls.grown_of (uh hcg' _))|(go_at_fn 138;refine Calls.grown_of (uh hcg' _)))
        go_wp2
        go_round
        case measure=>simp [intOf];omega
        case rel =>
         refine ⟨kp+1+1,q+nq,os++osq,by first|rfl|go_num|(congr 1;omega),by omega,by omega,?_⟩;rw [← HQ.out];show grow (grow ((w.drewN q).drewN nq) os) osq=_;rw [grow_grow,World.drewN_drewN]
      · have hkz:¬ (k:Int) < (n:Int):=by omega
        go_wp2;go_ret;exact ⟨rfl,q,os,rfl⟩
end Go.Proofs.YthnhobplgmojeaaGreatDoor.rd.ss
namespace Go.Proofs.YthnhobplgmojeaaGreatDoor.rd
open Go.RowKit
def leN (a b:ByteArray × JT):Bool:=decide (Lib.compareBytes a.1.data.toList b.1.data.toList≤0)
def objR (vf:Nat→(JT × Nat) ⊕ (Nat × Nat)) (s:ByteArray) (o:Int) (k:Nat):(JT × Nat) ⊕ (Nat × Nat):=match rowR (ostep vf s) 125 s o [] k with
 | .inl (f,k')=>.inl (JT.mk 5 false zed ⟨#[]⟩ [] (f.mergeSort leN),k')
 | .inr e=>.inr e
theorem nms_inj:∀ (f:List (ByteArray × JT)) (a b:ByteArray × JT),(nms f).Nodup→a∈f→b∈f→a.1.data.toList=b.1.data.toList→a=b
 | [],a,b,_,h,_,_=>by simp at h
 | c::f,a,b,hn,ha,hb,e=>by
   unfold nms at hn;rw [List.map_cons,List.nodup_cons] at hn
   rcases List.mem_cons.1 ha with ha|ha <;> rcases List.mem_cons.1 hb with hb|hb
   · rw [ha,hb]
   · exact absurd (List.mem_map.2 ⟨b,hb,by rw [← e,ha]⟩) hn.1
   · exact absurd (List.mem_map.2 ⟨a,ha,by rw [e,hb]⟩) hn.1
   · exact nms_inj f a b hn.2 ha hb e
theorem obj_sorted {f f':List (ByteArray × JT)} (hp:f'.Perm f) (hs:f'.Pairwise (fun a b=>Lib.compareBytes a.1.data.toList b.1.data.toList≤0)) (hn:(nms f).Nodup):f'=f.mergeSort leN:=by
 have h1:(f.mergeSort leN).Pairwise (fun a b=>Lib.compareBytes a.1.data.toList b.1.data.toList≤0):=by
  refine (List.pairwise_mergeSort (le:=leN) (fun a b c h1 h2=>?_) (fun a b=>?_) f).imp fun {a b} h=>by simpa [leN] using h
  · simp only [leN,decide_eq_true_eq] at *
    exact cb.trans _ _ _ h1 h2
  · have:=cb.total a.1.data.toList b.1.data.toList
    simpa [leN,Bool.or_eq_true] using this
 refine sorted_eq f' _ (hp.trans (List.mergeSort_perm f leN).symm) hs h1 fun a ha b hb q1 q2=>?_
 exact nms_inj f a b hn (hp.mem_iff.1 ha) (hp.mem_iff.1 hb) (cb.anti _ _ q1 q2)
theorem obj_row {vf:Nat→(JT × Nat) ⊕ (Nat × Nat)}{s:ByteArray}{o:Int}{k:Nat}{f:List (ByteArray × JT)}{k':Nat} (hup:Ups s vf) (hk:k < s.size) (h:rowR (ostep vf s) 125 s o [] k=.inl (f,k')):(nms f).Nodup∧f.length≤s.size:=by
 unfold rowR at h
 split at h
 · cases h
 · split at h
   · cases h
     exact ⟨by simp [nms],by simp⟩
   · unfold rowE at h
     split at h
     · cases h
     · rename_i st1 k1 hr
       cases h
       have:=rowF_bd (ostep vf s) 125 s (fun f k=>f.length≤k∧(nms f).Nodup) (fun f k k' q1 q2=>⟨by omega,q1.2⟩)
        (fun f k f' k' q1 q2 q3=>by
         obtain ⟨a1,a2,a3,a4⟩:=ostep_up hup q3
         exact ⟨⟨by omega,a4 q1.2⟩,a1,a3 q2⟩) _ _ _ _ _ ⟨by simp,by simp [nms]⟩ (gap_le s (k+1) (by omega)) hr
       exact ⟨this.1.2,by omega⟩
theorem objR_up {vf:Nat→(JT × Nat) ⊕ (Nat × Nat)}{s:ByteArray}{o:Int}{k:Nat}{v:JT}{k':Nat} (hup:Ups s vf) (h:objR vf s o k=.inl (v,k')):k < k'∧(k < s.size→k'≤s.size):=by
 unfold objR at h
 split at h
 · rename_i f k1 hr
   cases h
   exact ⟨rowR_up (fun f k f' k' q=>(ostep_up hup q).1) hr,fun hk=>rowR_le (by omega) (fun f k f' k' q1 q2=>(ostep_up hup q2).2.2.1 q1) hk hr⟩
 · cases h
theorem valR_up {lf of:Nat→(JT × Nat) ⊕ (Nat × Nat)}{s:ByteArray} (hl:∀ k v k',lf k=.inl (v,k')→k < k'∧(k < s.size→k'≤s.size)) (ho:∀ k v k',of k=.inl (v,k')→k < k'∧(k < s.size→k'≤s.size)):Ups s (valR lf of s):=by
 have key:∀ k v k',valR lf of s k=.inl (v,k')→gap s k < k'∧(k≤s.size→k'≤s.size):=by
  intro k v k' h;have hg:=gap_le s k;have hns:=fun hk=>nxt_some s (gap s k) (hg hk)
  unfold valR at h
  split at h
  · have:=wordR_up (by decide) h
    exact ⟨this.1,fun hk=>this.2 (hg hk)⟩
  split at h
  · have:=wordR_up (by decide) h
    exact ⟨this.1,fun hk=>this.2 (hg hk)⟩
  split at h
  · have:=wordR_up (by decide) h
    exact ⟨this.1,fun hk=>this.2 (hg hk)⟩
  split at h
  · have:=numJ_up h
    exact ⟨this.1,fun hk=>this.2 (hg hk)⟩
  split at h
  · rename_i q
    have:=textR_up h;exact ⟨this.1,fun hk=>this.2 (hns hk (by omega))⟩
  split at h
  · rename_i q
    have:=hl _ _ _ h;exact ⟨this.1,fun hk=>this.2 (hns hk (by omega))⟩
  split at h
  · rename_i q
    have:=ho _ _ _ h;exact ⟨this.1,fun hk=>this.2 (hns hk (by omega))⟩
  · cases h
 refine ⟨fun k v k' h=>?_,fun k v k' hk h=>(key k v k' h).2 hk⟩;have h1:=(key k v k' h).1;have h2:=gap_ge s k;omega
def vfN (s:ByteArray):Nat→Nat→(JT × Nat) ⊕ (Nat × Nat)
 | 0=>valR (listR (fun k=>.inr (0,k)) s 64) (objR (fun k=>.inr (0,k)) s 64) s
 | n+1=>valR (listR (vfN s n) s (64 - ((n+1:Nat):Int))) (objR (vfN s n) s (64 - ((n+1:Nat):Int))) s
theorem vfN_up (s:ByteArray):∀ n,Ups s (vfN s n)
 | 0=>valR_up (fun k v k' h=>listR_up ⟨fun _ _ _ h=>(by simp at h),fun _ _ _ _ h=>(by simp at h)⟩ h) (fun k v k' h=>objR_up ⟨fun _ _ _ h=>(by simp at h),fun _ _ _ _ h=>(by simp at h)⟩ h)
 | n+1=>valR_up (fun k v k' h=>listR_up (vfN_up s n) h) (fun k v k' h=>objR_up (vfN_up s n) h)
theorem object_val (E:Nat→Value) (rb:Nat) (s:ByteArray) (o:Int) (vf:Nat→(JT × Nat) ⊕ (Nat × Nat)) (hs:s.size≤1048576) (hr:17≤rb) (ho0:0≤o) (ho:o≤64)
 (VC:o≠64→∀ (w:World) (k:Nat),RL w rb s k (o+1)→Env E w→k≤s.size→Calls Tryz.prog 118 #[.pointer (some ⟨rb,0,none⟩)] w (ValPost E rb s (o+1) w (vf k)))
 (hup:Ups s vf) (w:World) (k:Nat) (h:RL w rb s k o) (hE:Env E w) (hk:k < s.size) :
 Calls Tryz.prog 144 #[.pointer (some ⟨rb,0,none⟩)] w (ValPost E rb s o w (objR vf s o k)):=by
 refine (object_any sortC sortC0 E rb s o vf hs hr ho0 ho VC (fun f k f' k' q=>⟨(ostep_up hup q).1,(ostep_up hup q).2.1⟩) w k h hk hE (fun f k' q=>by have:=(obj_row hup hk q).2;omega)).mono ?_;rintro e w' ⟨r,hr,hp⟩
 have:r=objR vf s o k:=by
  unfold objR
  split at hr
  · rename_i f k' q
    obtain ⟨f',h1,h2,rfl⟩:=hr;rw [q,obj_sorted h1 h2 (obj_row hup hk q).1]
  · rename_i e q
    rw [q,hr]
 rw [← this];exact hp
theorem value_at (E:Nat→Value) (rb:Nat) (s:ByteArray) (hs:s.size≤1048576) (hr:17≤rb):∀ (n:Nat),n≤64→∀ (w:World) (k:Nat),RL w rb s k (64 - (n:Int))→Env E w→k≤s.size→Calls Tryz.prog 118 #[.pointer (some ⟨rb,0,none⟩)] w (ValPost E rb s (64 - (n:Int)) w (vfN s n k))
 | 0,_,w,k,h,hE,hk=>by
   have h0:(64 - ((0:Nat):Int))=64:=rfl;rw [h0] at h ⊢
   exact value_any E rb s 64 hs hr _ _ (fun u k h1 h2 h3=>list_any E rb s 64 _ hs hr (by omega) (by omega) (fun q=>absurd rfl q) (fun _ _ _ h=>(by simp at h)) u k h1 h3 h2)
    (fun u k h1 h2 h3=>object_val E rb s 64 _ hs hr (by omega) (by omega) (fun q=>absurd rfl q) ⟨fun _ _ _ h=>(by simp at h),fun _ _ _ _ h=>(by simp at h)⟩ u k h1 h2 h3) w k h hk hE
 | n+1,hn,w,k,h,hE,hk=>by
   have e:64 - ((n+1:Nat):Int)+1=64 - (n:Int):=by omega
   have VC:∀ (w:World) (k:Nat),RL w rb s k (64 - ((n+1:Nat):Int)+1)→Env E w→k≤s.size→Calls Tryz.prog 118 #[.pointer (some ⟨rb,0,none⟩)] w (ValPost E rb s (64 - ((n+1:Nat):Int)+1) w (vfN s n k)):=by
    rw [e];exact value_at E rb s hs hr n (by omega)
   exact value_any E rb s _ hs hr _ _ (fun u k h1 h2 h3=>list_any E rb s _ _ hs hr (by omega) (by omega) (fun _=>VC) (vfN_up s n).1 u k h1 h3 h2)
    (fun u k h1 h2 h3=>object_val E rb s _ _ hs hr (by omega) (by omega) (fun _=>VC) (vfN_up s n) u k h1 h2 h3) w k h hk hE
def parseJ (s:ByteArray):JT ⊕ (Nat × Nat) :=
 if 1048576 < s.size then .inr (4,0) else match vfN s 64 0 with
  | .inr e=>.inr e
  | .inl (v,k)=>if nxt s (gap s k)=-1 then .inl v else .inr (5,gap s k)
def ParsePost (E:Nat→Value) (w:World) (r:JT ⊕ (Nat × Nat)) (e:Ending) (w':World):Prop :=
 ((∃ v cs p,r=.inl v∧e=.returned (.tuple #[.agg cs.toArray,.nilIface])∧VRep w' w.heap.size v cs p∧p.Nodup) ∨
  (∃ g k fb,r=.inr (g,k)∧e=.returned (.tuple #[.agg vNull,.iface 178 (.pointer (some ⟨fb,0,none⟩))])∧w.heap.size≤fb∧FL w' fb (k:Nat) 264 (E g)))∧Below w.heap.size w w'
theorem ret_jparse {m:Nat} (w:World) (k:Int) (t:Bool) (d:Dn) (x:ByteArray) (lv fv ev:Value) (h:VL w m (vc k t d x lv fv)) (tmps:Array Value) (h2:tmps[2]?.getD undef=.pointer (some ⟨m,0,none⟩)) (h3:tmps[3]?.getD undef=ev) :
 (results Tryz.f101 tmps).run Tryz.prog w=.ok (.tuple #[.agg (vc k t d x lv fv),ev]) w:=by
 obtain ⟨q0,q1,q2,q3,q4,q5,q6,q7⟩:=VL.cells h;simp [results,Tryz.results101,h2,h3,go_sem,q0,q1,q2,q3,q4,q5,q6,q7,vc]
def prsW (w:World) (s:ByteArray):World:=(w.alloc (.cells vNull 28)).alloc (.cells #[.string s,.int .i64 0,.int .i64 0] 157)
theorem prsW_size (w:World) (s:ByteArray):(prsW w s).heap.size=w.heap.size+2:=by
 show ((w.heap.push _).push _).size=_;simp
theorem prsW_below (w:World) (s:ByteArray):Below w.heap.size w (prsW w s):=((Below.refl _ _).alloc (Nat.le_refl _) _).alloc (by simp) _
theorem prsW_rl (w:World) (s:ByteArray):RL (prsW w s) (w.heap.size+1) s 0 0:=by
 have:=heap_alloc_new (w.alloc (.cells vNull 28)) (.cells #[.string s,.int .i64 0,.int .i64 0] 157);rw [show (w.alloc (.cells vNull 28)).heap.size=w.heap.size+1 from Array.size_push _] at this;exact this
theorem prsW_vl (w:World) (s:ByteArray):VL (prsW w s) w.heap.size vNull:=by
 unfold VL prsW;rw [Below.heap_alloc _ _ _ (by show w.heap.size < (w.heap.push _).size;simp)];exact vl_new w vNull
set_option maxRecDepth 100000 in
set_option maxHeartbeats 3200000 in
theorem parse_long (E:Nat→Value) (s:ByteArray) (w:World) (hE:Env E w) (hng:17≤w.heap.size) (hs:1048576 < s.size) (hs2:s.size≤9223372036854775807) :
 Calls Tryz.prog 101 #[.string s] w (ParsePost E w (.inr (4,0))):=by
 have hs':(1048576:Int) < (s.size:Int):=by omega
 have hT:=hE.err 4 (by simp);have hT2:=(hE.below (prsW_below w s)).err 4 (by simp);have hg:4 < w.heap.size:=by omega
 have FA:=hide (fault_any (w.heap.size+1) s 0 0 264 (E 4) (prsW w s) (prsW_rl w s));have hb:=prsW_below w s;have hv:=prsW_vl w s;have hsz:=prsW_size w s;have hrl:=prsW_rl w s;clear hE;simp only [prsW,vNull,vc,zed,nilS] at FA hT2;have hne1:¬ w.heap.size=4:=by omega
 have hne2:¬ 4=w.heap.size:=by omega
 have hne3:4 < w.heap.size+1:=by omega
 go_enter Tryz.func101,Tryz.ntmps101
 go_wp2_with fail
 refine (uh FA).mono ?_;rintro e u1 ⟨rfl,hu⟩;obtain ⟨hb1,hf1,hr1⟩:=fault_said (w:=prsW w s) hu hrl;have hA1:=hide ((hb1.block _ (by omega)).trans hv);have HM:=hide (show Below w.heap.size w u1 from hb.trans (hb1.mono (by omega)));have HFL:=hide hf1;have hsl:(prsW w s).heap.size=w.heap.size+1+1:=hsz;clear hu hb1 hf1 hr1 hb hv hrl FA hT hT2 hg;obtain ⟨q0,q1,q2,q3,q4,q5,q6,q7⟩:=VL.cells (show VL u1 w.heap.size (vc 0 false zed ⟨#[]⟩ nilS nilS) from uh hA1);obtain ⟨g0,g1,g2,g3,g4,g5,g6,g7⟩:=VL.frees (uh hA1);simp only [zed,nilS] at q0 q1 q2 q3 q4 q5 q6 q7;have hnf:w.heap.size≠(prsW w s).heap.size:=by omega
 go_wp2;have hU:=put8_upd u1 w.heap.size 0 false zed ⟨#[]⟩ nilS nilS;have hF2:=uh HFL;rw [hsl] at hF2;refine bodyPost_ret (ret_jparse (m:=w.heap.size) _ 0 false zed ⟨#[]⟩ nilS nilS (.iface 178 (.pointer (some ⟨w.heap.size+1+1,0,none⟩))) (put8_lies (k':=0) (t':=false) (d':=zed) (x':=⟨#[]⟩) (lv':=nilS) (fv':=nilS) (uh hA1) 0 false zed ⟨#[]⟩ nilS nilS) _ rfl rfl) rfl ?_;refine ⟨.inr ⟨4,0,w.heap.size+1+1,rfl,rfl,by omega,?_⟩,?_⟩
 · exact hU.obj (by omega) hF2
 · exact (uh HM).trans (hU.below (Nat.le_refl _) (uh HM).size)
set_option maxRecDepth 100000 in
set_option maxHeartbeats 6400000 in
theorem parse_fit (E:Nat→Value) (s:ByteArray) (w:World) (hE:Env E w) (hng:17≤w.heap.size) (hs:s.size≤1048576) (r:JT ⊕ (Nat × Nat))
 (hr:r=match vfN s 64 0 with
  | .inr e=>.inr e
  | .inl (v,k)=>if nxt s (gap s k)=-1 then .inl v else .inr (5,gap s k)) :
 Calls Tryz.prog 101 #[.string s] w (ParsePost E w r):=by
 have hs':(s.size:Int)≤1048576:=by omega
 have hb:=prsW_below w s;have hv:=prsW_vl w s;have hsz:=prsW_size w s;have hrl:=prsW_rl w s;have hE0:=hE.below hb;have RV:=hide (value_at E (w.heap.size+1) s hs (by omega) 64 (by omega) (prsW w s) 0 hrl hE0 (by omega));have e0:(64 - ((64:Nat):Int))=0:=rfl;rw [e0] at RV;have HR:=hide hr;have HEn:=hide hE;have SK:=hide (fun (k:Nat) (w':World) h1 h2=>skip_any gapB (w.heap.size+1) s k 0 w' h1 h2 (by omega));have NX:=hide (fun (k:Nat) (w':World) h1 h2 h3=>next_any (w.heap.size+1) s k 0 w' h1 h2 E h3);have FA:=hide (fun (k:Nat) (w':World) h1=>fault_any (w.heap.size+1) s k 0 264 (E 5) w' h1);have HGP:Hid (∀ k,skipTo gapB.data.toList s k=gap s k):=fun _=>rfl
 have HGL:=hide (gap_le s);generalize vfN s 64 0=rr at RV HR;clear hE hr hE0 e0 hrl;simp only [prsW,vNull,vc,zed,nilS] at RV hb hv hsz
 go_enter Tryz.func101,Tryz.ntmps101
 go_wp2_with fail
 refine (uh RV).mono ?_;rintro e u1 ⟨hh,hM⟩;have hA1:=hide ((hM.block w.heap.size (by omega) (by omega)).trans hv);have HB1:=hide (show Below w.heap.size w u1 from hb.trans (hM.below (by omega) (by omega)));have hsz1:=hM.size;rw [hsz] at hsz1;clear hv hb hM RV
 rcases hh with ⟨v,k,cs,p,rfl,hk,rfl,hR,hV,hn⟩|⟨g,k,fb,rfl,hk,rfl,hfb,hfl,kx,ox,hRx⟩
 · obtain ⟨a,t,ng,dg,ex,x,q1,n1,m1,q2,n2,m2,hcs⟩:=hV.shape
   rw [hsz] at hV;have HV:=hide hV;have HN:=hide hn;have HR1:=hide hR;clear hV hn hR hsz;rw [hcs];have HCS:=hide hcs;clear hcs;have hR2:=hide ((uh HR1).below (B:=u1.heap.size) ((Below.refl _ _).alloc (Nat.le_refl _) (.cells (c8 a t ng dg ex x q1 n1 m1 q2 n2 m2) 28)) (by omega));have SK2:=hide (uh SK k _ (uh hR2) hk);have hP0:=hide (vl_new u1 (c8 a t ng dg ex x q1 n1 m1 q2 n2 m2));have HB2:Hid (Below u1.heap.size u1 (u1.alloc (.cells (c8 a t ng dg ex x q1 n1 m1 q2 n2 m2) 28))):=(Below.refl _ _).alloc (Nat.le_refl _) _;clear HR1;simp only [c8] at SK2 hP0 HB2 ⊢;clear SK hR2
   go_wp2_with fail
   refine (uh SK2).mono ?_;rintro e u2 ⟨rfl,hR2,hM2⟩;rw [uh HGP] at hR2;have gl2:=uh HGL k hk;have hP2:=hide (hM2.obj (by omega) (uh hP0));have hA2:=hide (hM2.obj (by omega) (((uh HB2).block w.heap.size (by omega)).trans (uh hA1)));have hs2:=(uh HB2).size;have HB3:=hide (show Mv (w.heap.size+1) u1 u2 from (Mv.of (uh HB2)).trans hM2);have HRr:=hide hR2;clear HB2 hP0 hA1 hM2 hR2 SK2 HGP HGL hs2;generalize gap s k=k1 at *;have hEn2:=hide (((uh HEn).below (uh HB1)).mv (uh HB3) (by omega));have NX2:=hide (uh NX k1 u2 (uh HRr) gl2 (uh hEn2));clear NX
   go_wp2_with fail
   refine (uh NX2).mono ?_;rintro e u3 ⟨rfl,hb3⟩;have hP3:=hide ((hb3.block _ (blk_lt (uh hP2))).trans (uh hP2));have hA3:=hide ((hb3.block _ (blk_lt (uh hA2))).trans (uh hA2));have hR3:=hide ((uh HRr).below hb3 (blk_lt (uh HRr)));have hEn3:=hide ((uh hEn2).below hb3);have HB4:=hide (show Mv (w.heap.size+1) u1 u3 from (uh HB3).trans (Mv.of hb3));have hs3:=(uh HB4).size;clear hb3 HB3 hP2 hA2 HRr hEn2 NX2;obtain ⟨q0,q1',q2',q3,q4,q5,q6,q7⟩:=VL.cells (show VL u3 w.heap.size (vc 0 false zed ⟨#[]⟩ nilS nilS) from uh hA3);obtain ⟨g0,g1,g2,g3,g4,g5,g6,g7⟩:=VL.frees (uh hA3);obtain ⟨p0,p1,p2,p3,p4,p5,p6,p7⟩:=VL.cells (show VL u3 u1.heap.size (vc a t ⟨ng,dg,ex⟩ x (.slice q1 n1 m1) (.slice q2 n2 m2)) from uh hP3);simp only [zed,nilS] at q0 q1' q2' q3 q4 q5 q6 q7 p0 p1 p2 p3 p4 p5 p6 p7
   by_cases hx:nxt s k1=-1
   · have hx':(nxt s k1 != -1)=false:=by simp [hx]
     have HR2:=hide ((uh HR).trans (if_pos hx));clear HR;generalize nxt s k1=nx at *;clear hx;go_wp2;have hU:=put8_upd u3 w.heap.size a t ⟨ng,dg,ex⟩ x (.slice q1 n1 m1) (.slice q2 n2 m2);refine bodyPost_ret (ret_jparse (m:=w.heap.size) _ a t ⟨ng,dg,ex⟩ x (.slice q1 n1 m1) (.slice q2 n2 m2) .nilIface (put8_lies (k':=0) (t':=false) (d':=zed) (x':=⟨#[]⟩) (lv':=nilS) (fv':=nilS) (uh hA3) a t ⟨ng,dg,ex⟩ x (.slice q1 n1 m1) (.slice q2 n2 m2)) _ rfl rfl) rfl ?_
     have hkeep:∀ b∈p,(put8 u3 w.heap.size a t ⟨ng,dg,ex⟩ x (.slice q1 n1 m1) (.slice q2 n2 m2)).heap[b]?=u1.heap[b]?:=fun b hbp=>by
      have hge:=(uh HV).ge b hbp;exact (hU.block b (by omega) (by omega)).trans ((uh HB4).block b hge.2 (by omega))
     refine ⟨.inl ⟨v,cs,p,uh HR2,?_,((uh HV).keep hkeep).base (by omega),uh HN⟩,?_⟩
     · rw [uh HCS]
       rfl
     · exact ((uh HB1).trans ((uh HB4).below (by omega) (by omega))).trans (hU.below (Nat.le_refl _) (by omega))
   · have hx':(nxt s k1 != -1)=true:=by simp [hx]
     have HR2:=hide ((uh HR).trans (if_neg hx));have hT:=(uh hEn3).err 5 (by simp);have FA2:=hide (uh FA k1 u3 (uh hR3));clear HR FA;generalize nxt s k1=nx at *;clear hx p0 p1 p2 p3 p4 p5 p6 p7 q0 q1' q2' q3 q4 q5 q6 q7 g0 g1 g2 g3 g4 g5 g6 g7
     go_wp2_with fail
     refine (uh FA2).mono ?_;rintro e u4 ⟨rfl,hu⟩;obtain ⟨hb4,hf4,hr4⟩:=fault_said hu (uh hR3);have hA4:=hide ((hb4.block _ (blk_lt (uh hA3))).trans (uh hA3));have HFL:=hide hf4;have HB5:=hide (show Mv (w.heap.size+1) u1 u4 from (uh HB4).trans (Mv.of hb4));have hs4:=hb4.size;clear hu hb4 hf4 hr4 hA3 hT FA2;obtain ⟨q0,q1',q2',q3,q4,q5,q6,q7⟩:=VL.cells (show VL u4 w.heap.size (vc 0 false zed ⟨#[]⟩ nilS nilS) from uh hA4);obtain ⟨g0,g1,g2,g3,g4,g5,g6,g7⟩:=VL.frees (uh hA4);simp only [zed,nilS] at q0 q1' q2' q3 q4 q5 q6 q7;go_wp2;have hU:=put8_upd u4 w.heap.size 0 false zed ⟨#[]⟩ nilS nilS;refine bodyPost_ret (ret_jparse (m:=w.heap.size) _ 0 false zed ⟨#[]⟩ nilS nilS (.iface 178 (.pointer (some ⟨u3.heap.size,0,none⟩))) (put8_lies (k':=0) (t':=false) (d':=zed) (x':=⟨#[]⟩) (lv':=nilS) (fv':=nilS) (uh hA4) 0 false zed ⟨#[]⟩ nilS nilS) _ rfl rfl) rfl ?_;refine ⟨.inr ⟨5,k1,u3.heap.size,uh HR2,rfl,by omega,?_⟩,?_⟩
     · exact hU.obj (by omega) (uh HFL)
     · exact ((uh HB1).trans ((uh HB5).below (by omega) (by omega))).trans (hU.below (Nat.le_refl _) (by omega))
 · have HFL:=hide hfl
   clear hfl hRx SK NX FA HGP HGL;simp only [vNull,vc,zed,nilS];have hB2:Below u1.heap.size u1 (u1.alloc (.cells vNull 28)):=(Below.refl _ _).alloc (Nat.le_refl _) _;have hA2:=hide ((hB2.block w.heap.size (by omega)).trans (uh hA1));have HFL2:=hide ((hB2.block fb (blk_lt (uh HFL))).trans (uh HFL));have HB2:=hide (show Below w.heap.size w (u1.alloc (.cells vNull 28)) from (uh HB1).trans (hB2.mono (by omega)));have hfb':w.heap.size+2≤fb:=by rw [← hsz];exact hfb
   clear hB2 hsz hfb;obtain ⟨q0,q1,q2,q3,q4,q5,q6,q7⟩:=VL.cells (show VL (u1.alloc (.cells vNull 28)) w.heap.size (vc 0 false zed ⟨#[]⟩ nilS nilS) from uh hA2);obtain ⟨g0,g1,g2,g3,g4,g5,g6,g7⟩:=VL.frees (uh hA2);simp only [vNull,vc,zed,nilS] at HB2 HFL2 hA2 q0 q1 q2 q3 q4 q5 q6 q7 g0 g1 g2 g3 g4 g5 g6 g7;go_wp2;have hU:=put8_upd (u1.alloc (.cells vNull 28)) w.heap.size 0 false zed ⟨#[]⟩ nilS nilS;refine bodyPost_ret (ret_jparse (m:=w.heap.size) _ 0 false zed ⟨#[]⟩ nilS nilS (.iface 178 (.pointer (some ⟨fb,0,none⟩))) (put8_lies (k':=0) (t':=false) (d':=zed) (x':=⟨#[]⟩) (lv':=nilS) (fv':=nilS) (uh hA2) 0 false zed ⟨#[]⟩ nilS nilS) _ rfl rfl) rfl ?_;refine ⟨.inr ⟨g,k,fb,uh HR,rfl,by omega,?_⟩,?_⟩
   · exact hU.obj (by omega) (uh HFL2)
   · exact (uh HB2).trans (hU.below (Nat.le_refl _) (uh HB2).size)
theorem jparse_any (E:Nat→Value) (s:ByteArray) (w:World) (hE:Env E w) (hng:17≤w.heap.size) (hs:s.size≤9223372036854775807):Calls Tryz.prog 101 #[.string s] w (ParsePost E w (parseJ s)):=by
 unfold parseJ
 by_cases h:1048576 < s.size
 · rw [if_pos h]
   exact parse_long E s w hE hng h hs
 · rw [if_neg h]
   exact parse_fit E s w hE hng (by omega) _ rfl
def Szd (s:ByteArray) (vf:Nat→(JT × Nat) ⊕ (Nat × Nat)):Prop:=∀ k v k',k≤s.size→vf k=.inl (v,k')→k+nds v≤k'
end Go.Proofs.YthnhobplgmojeaaGreatDoor.rd
namespace Go.Proofs.YthnhobplgmojeaaGreatDoor.rd.ss
open Go.RowKit Go.Shelf Go.Lib Go.Sort
def at' (L:List Nat) (i:Nat):Nat:=L.toArray[i]!
theorem at_eq {L:List Nat}{i:Nat} (h:i < L.length):at' L i=L[i]:=by
 unfold at';rw [getElem!_pos _ i (by simpa using h)];simp
theorem at_left {P R:List Nat}{i:Nat} (h:i < P.length):at' (P++R) i=at' P i:=by
 rw [at_eq h,at_eq (by rw [List.length_append];omega),List.getElem_append_left h]
theorem at_right {P R:List Nat}{i:Nat} (h:i < R.length):at' (P++R) (P.length+i)=at' R i:=by
 rw [at_eq h,at_eq (by rw [List.length_append];omega),List.getElem_append_right (by omega)]
 congr 1
 omega
theorem at_mem {L:List Nat}{i:Nat} (h:i < L.length):at' L i∈L:=by rw [at_eq h];exact List.getElem_mem h
theorem mem_at {L:List Nat}{x:Nat} (h:x∈L):∃ i,i < L.length∧at' L i=x:=by
 obtain ⟨i,hi,rfl⟩:=List.getElem_of_mem h;exact ⟨i,hi,at_eq hi⟩
theorem at_take {L:List Nat}{k i:Nat} (h:i < k) (hk:k≤L.length):at' (L.take k) i=at' L i:=by
 rw [at_eq (by rw [List.length_take];omega),at_eq (by omega),List.getElem_take]
theorem at_drop {L:List Nat}{k i:Nat} (h:k+i < L.length):at' (L.drop k) i=at' L (k+i):=by
 rw [at_eq (by rw [List.length_drop];omega),at_eq h,List.getElem_drop]
theorem cut_at {L:List Nat}{k:Nat} (h:k < L.length):L.drop k=at' L k::L.drop (k+1):=by
 rw [at_eq h];exact List.drop_eq_getElem_cons h
theorem take_at {L:List Nat}{k:Nat} (h:k < L.length):L.take (k+1)=L.take k++[at' L k]:=by
 rw [at_eq h,List.take_succ_eq_append_getElem h]
theorem swp_at {P M S:List Nat}{x y i j:Nat} (hi:i=P.length) (hj:j=P.length+1+M.length):swp (P++x::(M++y::S)).toArray i j=(P++y::(M++x::S)).toArray:=by
 subst hi hj
 have hx:(P++x::(M++y::S)).toArray[P.length]! = x:=by
  rw [getElem!_pos _ _ (by simp)];simp
 have hy:(P++x::(M++y::S)).toArray[P.length+1+M.length]! = y:=by
  rw [getElem!_pos _ _ (by simp;omega)];simp only [List.getElem_toArray];rw [List.getElem_append_right (by omega)];have e:P.length+1+M.length - P.length=M.length+1:=by omega
  simp [e]
 unfold swp;rw [hx,hy];apply Array.toList_inj.1;simp only [Array.toList_setIfInBounds,List.set_append_right,Nat.le_refl,Nat.sub_self,List.set_cons_zero];rw [List.set_append_right _ _ (by omega)];have e:P.length+1+M.length - P.length=M.length+1:=by omega
 rw [e,List.set_cons_succ,List.set_append_right _ _ (Nat.le_refl _),Nat.sub_self,List.set_cons_zero]
theorem swp_at' {P M S:List Nat}{x y i j:Nat} (hi:i=P.length) (hj:j=P.length+1+M.length):swp (P++x::(M++y::S)).toArray j i=(P++y::(M++x::S)).toArray:=by
 refine Eq.trans ?_ (swp_at hi hj);unfold swp;rw [Array.setIfInBounds_comm _ _ (by omega)]
section
variable (D:List Fd)
abbrev lr (x y:Nat):Prop:=lxI D x y=true
theorem lr_trans {x y z:Nat} (h1:lr D x y) (h2:lr D y z):lr D x z:=(swoX D).trans x y z h1 h2
theorem lr_of_lt {x y:Nat} (h:cfI D y x < 0):lr D y x:=(lx_iff D y x).2 (.inl h)
theorem lr_of_not {x y:Nat} (hxy:x < y) (h:¬ cfI D y x < 0):lr D x y:=by
 refine (lx_iff D x y).2 ?_;have:=cf_sym D x y
 by_cases e:cfI D x y=0
 · exact .inr ⟨e,hxy⟩
 · exact .inl (by omega)
structure Pre (A B:List Nat):Prop where
 a:A.Pairwise (lr D)
 b:B.Pairwise (lr D)
 x:∀ x∈A,∀ y∈B,x < y
def Post (A B C:List Nat):Prop:=C.Perm (A++B)∧C.Pairwise (lr D)
theorem Pre.take {A B:List Nat} (h:Pre D A B) (i j:Nat):Pre D (A.take i) (B.take j) :=
 ⟨h.a.sublist (List.take_sublist _ _),h.b.sublist (List.take_sublist _ _),fun x hx y hy=>h.x x (List.mem_of_mem_take hx) y (List.mem_of_mem_take hy)⟩
theorem Pre.drop {A B:List Nat} (h:Pre D A B) (i j:Nat):Pre D (A.drop i) (B.drop j) :=
 ⟨h.a.sublist (List.drop_sublist _ _),h.b.sublist (List.drop_sublist _ _),fun x hx y hy=>h.x x (List.mem_of_mem_drop hx) y (List.mem_of_mem_drop hy)⟩
theorem pw_at {A:List Nat} (h:A.Pairwise (lr D)) {i j:Nat} (hij:i < j) (hj:j < A.length):lr D (at' A i) (at' A j):=by
 rw [at_eq (by omega),at_eq hj];exact List.pairwise_iff_getElem.1 h i j (by omega) hj hij
theorem Post.len {A B C:List Nat} (h:Post D A B C):C.length=A.length+B.length:=by rw [h.1.length_eq,List.length_append]
theorem post_left {A B:List Nat} (h:Pre D A B) (hB:B=[]):Post D A B (A++B):=⟨.refl _,by subst hB;rw [List.append_nil];exact h.a⟩
theorem post_right {A B:List Nat} (h:Pre D A B) (hA:A=[]):Post D A B (A++B):=⟨.refl _,by subst hA;exact h.b⟩
theorem post_one {x k:Nat}{B:List Nat} (h:Pre D [x] B) (hk:k≤B.length) (h1:∀ i,i < k→lr D (at' B i) x) (h2:∀ i,k≤i→i < B.length→lr D x (at' B i)):Post D [x] B (B.take k++x::B.drop k):=by
 refine ⟨?_,?_⟩
 · refine List.perm_middle.trans ?_
   rw [List.take_append_drop];exact .refl _
 · rw [List.pairwise_append]
   refine ⟨(Pre.take D h 0 k).b,List.pairwise_cons.2 ⟨fun y hy=>?_,(Pre.drop D h 0 k).b⟩,fun y hy z hz=>?_⟩
   · obtain ⟨i,hi,rfl⟩:=mem_at hy
     rw [List.length_drop] at hi;rw [at_drop (by omega)];exact h2 _ (by omega) (by omega)
   · obtain ⟨i,hi,rfl⟩:=mem_at hy
     rw [List.length_take] at hi;have hy2:lr D (at' (B.take k) i) x:=by rw [at_take (by omega) hk];exact h1 i (by omega)
     rcases List.mem_cons.1 hz with rfl|hz
     · exact hy2
     · refine lr_trans D hy2 ?_
       obtain ⟨j,hj,rfl⟩:=mem_at hz;rw [List.length_drop] at hj;rw [at_drop (by omega)];exact h2 _ (by omega) (by omega)
theorem post_last {y k:Nat}{A:List Nat} (h:Pre D A [y]) (hk:k≤A.length) (h1:∀ i,i < k→lr D (at' A i) y) (h2:∀ i,k≤i→i < A.length→lr D y (at' A i)):Post D A [y] (A.take k++y::A.drop k):=by
 refine ⟨?_,?_⟩
 · refine List.perm_middle.trans ?_
   rw [List.take_append_drop];exact (List.perm_append_singleton y A).symm
 · rw [List.pairwise_append]
   refine ⟨(Pre.take D h k 0).a,List.pairwise_cons.2 ⟨fun x hx=>?_,(Pre.drop D h k 0).a⟩,fun x hx z hz=>?_⟩
   · obtain ⟨i,hi,rfl⟩:=mem_at hx
     rw [List.length_drop] at hi;rw [at_drop (by omega)];exact h2 _ (by omega) (by omega)
   · obtain ⟨i,hi,rfl⟩:=mem_at hx
     rw [List.length_take] at hi;have hy2:lr D (at' (A.take k) i) y:=by rw [at_take (by omega) hk];exact h1 i (by omega)
     rcases List.mem_cons.1 hz with rfl|hz
     · exact hy2
     · refine lr_trans D hy2 ?_
       obtain ⟨j,hj,rfl⟩:=mem_at hz;rw [List.length_drop] at hj;rw [at_drop (by omega)];exact h2 _ (by omega) (by omega)
theorem post_two {A B C1 C2:List Nat}{i j:Nat} (h1:Post D (A.take i) (B.take j) C1) (h2:Post D (A.drop i) (B.drop j) C2) (hp:Pre D A B)
 (hx:∀ x∈A.take i,∀ y∈B.drop j,lr D x y) (hy:∀ y∈B.take j,∀ x∈A.drop i,lr D y x):Post D A B (C1++C2):=by
 refine ⟨?_,?_⟩
 · refine (h1.1.append h2.1).trans ?_
   have e:(A++B)=(A.take i++A.drop i)++(B.take j++B.drop j):=by rw [List.take_append_drop,List.take_append_drop]
   rw [e,List.append_assoc,List.append_assoc];refine List.Perm.append_left _ ?_;rw [← List.append_assoc,← List.append_assoc];exact List.Perm.append_right _ List.perm_append_comm
 · rw [List.pairwise_append]
   refine ⟨h1.2,h2.2,fun u hu v hv=>?_⟩;have hu':=(h1.1.mem_iff).1 hu;have hv':=(h2.1.mem_iff).1 hv;rw [List.mem_append] at hu' hv';have ha:=hp.a;rw [← List.take_append_drop i A,List.pairwise_append] at ha;have hb:=hp.b;rw [← List.take_append_drop j B,List.pairwise_append] at hb
   rcases hu' with hu'|hu' <;> rcases hv' with hv'|hv'
   · exact ha.2.2 u hu' v hv'
   · exact hx u hu' v hv'
   · exact hy u hu' v hv'
   · exact hb.2.2 u hu' v hv'
theorem side_x {A B:List Nat}{i j:Nat} (hp:Pre D A B) (hi:i≤A.length) (h:i=0∨j=B.length∨(0 < i∧j < B.length∧lr D (at' A (i - 1)) (at' B j))):∀ x∈A.take i,∀ y∈B.drop j,lr D x y:=by
 intro x hx y hy;obtain ⟨u,hu,rfl⟩:=mem_at hx;obtain ⟨v,hv,rfl⟩:=mem_at hy;rw [List.length_take] at hu;rw [List.length_drop] at hv
 rcases h with h|h|⟨h1,h2,h3⟩
 · omega
 · omega
 rw [at_take (by omega) hi,at_drop (by omega)]
 have h4:lr D (at' A u) (at' B j):=by
  by_cases e:u=i - 1
  · rw [e];exact h3
  · exact lr_trans D (pw_at D hp.a (by omega) (by omega)) h3
 by_cases e:v=0
 · rw [e];exact h4
 · exact lr_trans D h4 (pw_at D hp.b (by omega) (by omega))
theorem side_y {A B:List Nat}{i j:Nat} (hp:Pre D A B) (hj:j≤B.length) (h:j=0∨i=A.length∨(0 < j∧i < A.length∧lr D (at' B (j - 1)) (at' A i))):∀ y∈B.take j,∀ x∈A.drop i,lr D y x:=by
 intro y hy x hx;obtain ⟨u,hu,rfl⟩:=mem_at hx;obtain ⟨v,hv,rfl⟩:=mem_at hy;rw [List.length_drop] at hu;rw [List.length_take] at hv
 rcases h with h|h|⟨h1,h2,h3⟩
 · omega
 · omega
 rw [at_take (by omega) hj,at_drop (by omega)]
 have h4:lr D (at' B v) (at' A i):=by
  by_cases e:v=j - 1
  · rw [e];exact h3
  · exact lr_trans D (pw_at D hp.b (by omega) (by omega)) h3
 by_cases e:u=0
 · rw [e];exact h4
 · exact lr_trans D h4 (pw_at D hp.a (by omega) (by omega))
end
end Go.Proofs.YthnhobplgmojeaaGreatDoor.rd.ss
