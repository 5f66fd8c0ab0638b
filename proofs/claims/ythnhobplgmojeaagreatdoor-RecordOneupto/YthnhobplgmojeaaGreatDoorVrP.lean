/- Texts in one: Vr Li Lj Lk Lm Fv -/
import Derived.Test.YthnhobplgmojeaaGreatDoorRuP
import Derived.Test.YthnhobplgmojeaaGreatDoorIaP
import Derived.Laws.OwnMore
import Derived.Deep.RegionHeld3
import Derived.Deep.Cut
import Derived.Deep.RegionLaw
import Derived.Conc.MuLone
namespace Go.Proofs.YthnhobplgmojeaaGreatDoor.rd
open Go.RowKit
def ValPost (E:Nat→Value) (rb:Nat) (s:ByteArray) (o:Int) (w:World) (r:(JT × Nat) ⊕ (Nat × Nat)) (e:Ending) (w':World):Prop :=
 ((∃ v k cs p,r=.inl (v,k)∧k≤s.size∧e=.returned (.tuple #[.agg cs.toArray,.nilIface])∧RL w' rb s k o∧VRep w' w.heap.size v cs p∧p.Nodup) ∨
  (∃ g k fb,r=.inr (g,k)∧k≤s.size∧e=.returned (.tuple #[.agg vNull,.iface 178 (.pointer (some ⟨fb,0,none⟩))])∧w.heap.size≤fb∧FL w' fb k 264 (E g)∧∃ k' o',RL w' rb s k' o'))∧Mv rb w w'
def LSt (rb rp lb B:Nat) (l:List JT) (w:World):Prop :=
 w.heap[rp]?=some (.cells #[.pointer (some ⟨rb,0,none⟩)] 177 (0,0)) ∧
 ∃ (sv:Value) (css:List (List Value)) (ps:List (List Nat)),w.heap[lb]?=some (.cells #[sv] 25 (0,0))∧w.ownsRow B 28 8 sv l.length css.flatten∧css.length=l.length∧ps.length=l.length ∧
   (∀ (i:Nat) (v:JT) (c:List Value) (p:List Nat),l[i]?=some v→css[i]?=some c→ps[i]?=some p→VRep w B v c p)∧(own sv++ps.flatten).Nodup
def c8 (k:Int) (t ng:Bool) (dg:ByteArray) (ex:Int) (x:ByteArray) (q1:Option Addr) (n1 m1:Nat) (q2:Option Addr) (n2 m2:Nat):Array Value:=#[.int .i64 k,.bool t,.bool ng,.string dg,.int .i64 ex,.string x,.slice q1 n1 m1,.slice q2 n2 m2]
theorem owns_slice {w:World}{B:Nat}{e:TypeId}{size:Nat}{v:Value}{n:Nat}{xs:List Value} (h:w.ownsRow B e size v n xs):∃ q m,v=.slice q n m∧∀ b,v.ownBlock=some b→q=some ⟨b,0,none⟩:=by
 rcases h.2 with ⟨rfl,rfl⟩|⟨g,cap,cur,rfl,_⟩
 · exact ⟨none,0,rfl,fun b hb=>by simp [Value.ownBlock] at hb⟩
 · exact ⟨_,_,rfl,fun b hb=>by simp [Value.ownBlock] at hb;rw [hb]⟩
theorem VRep.shape {w:World}{B:Nat}{v:JT}{cs:List Value}{p:List Nat} (h:VRep w B v cs p):∃ k t ng dg ex x q1 n1 m1 q2 n2 m2,cs.toArray=c8 k t ng dg ex x q1 n1 m1 q2 n2 m2:=by
 cases h with
 | mk hl hf h1 h2 h3 h4 hle hfe =>
   obtain ⟨q1,m1,rfl,_⟩:=owns_slice hl;obtain ⟨q2,m2,rfl,_⟩:=owns_slice hf;exact ⟨_,_,_,_,_,_,_,_,_,_,_,_,rfl⟩
def putAt (w:World) (g o:Nat) (a0 a1 a2 a3 a4 a5 a6 a7:Value):World :=
 (((((((w.setCell ⟨g,o,none⟩ a0).setCell ⟨g,o+1,none⟩ a1).setCell ⟨g,o+2,none⟩ a2).setCell ⟨g,o+3,none⟩ a3).setCell ⟨g,o+4,none⟩ a4).setCell ⟨g,o+5,none⟩ a5).setCell ⟨g,o+6,none⟩ a6).setCell ⟨g,o+7,none⟩ a7
theorem putAt_upd (w:World) (g o:Nat) (a0 a1 a2 a3 a4 a5 a6 a7:Value):Mv g w (putAt w g o a0 a1 a2 a3 a4 a5 a6 a7) :=
 (((((((Mv.set _ _ _).trans (Mv.set _ _ _)).trans (Mv.set _ _ _)).trans (Mv.set _ _ _)).trans (Mv.set _ _ _)).trans (Mv.set _ _ _)).trans (Mv.set _ _ _)).trans (Mv.set _ _ _)
theorem set_at {xs ys:List Value}{n j:Nat} (hx:xs.length=n) (a:Value):(xs++ys).set (n+j) a=xs++ys.set j a:=by
 rw [List.set_append_right _ _ (by omega)]
 congr 2
 omega
theorem putAt_owns {w:World}{B:Nat}{e:TypeId}{g n m cap:Nat}{xs:List Value}{z0 z1 z2 z3 z4 z5 z6 z7:Value} (h:w.ownsRow B e 8 (.slice (some ⟨g,0,none⟩) m cap) m (xs++[z0,z1,z2,z3,z4,z5,z6,z7])) (hx:xs.length=n) (a0 a1 a2 a3 a4 a5 a6 a7:Value) :
 (putAt w g n a0 a1 a2 a3 a4 a5 a6 a7).ownsRow B e 8 (.slice (some ⟨g,0,none⟩) m cap) m (xs++[a0,a1,a2,a3,a4,a5,a6,a7]):=by
 have h0:=(h.stored (n+0) a0).1;have h1:=(h0.stored (n+1) a1).1;have h2:=(h1.stored (n+2) a2).1;have h3:=(h2.stored (n+3) a3).1;have h4:=(h3.stored (n+4) a4).1;have h5:=(h4.stored (n+5) a5).1;have h6:=(h5.stored (n+6) a6).1;have h7:=(h6.stored (n+7) a7).1;rw [set_at hx,set_at hx,set_at hx,set_at hx,set_at hx,set_at hx,set_at hx,set_at hx] at h7;exact h7
structure Added (u wf:World) (lb:Nat) (sv:Value) (n g cap:Nat) (row:List Value):Prop where
 os:wf.os=u.os
 tape:wf.tape=u.tape
 output:wf.output=u.output
 size:u.heap.size≤wf.heap.size
 block:∀ b,b < u.heap.size→b≠lb→b ∉ own sv→wf.heap[b]?=u.heap[b]?
 list:wf.heap[lb]?=some (.cells #[.slice (some ⟨g,0,none⟩) (n+1) cap] 25 (0,0))
 owns:wf.ownsRow (lb+1) 28 8 (.slice (some ⟨g,0,none⟩) (n+1) cap) (n+1) row
 lies:g∈own sv∨u.heap.size≤g
theorem added_core {u U w1 wf:World}{lb:Nat}{sv:Value}{n g cap:Nat}{row:List Value}{o:Obj} (hb:Below u.heap.size u U) (hg:(U.alloc o).grownBy w1 sv.ownBlock)
 (hat:sv.ownBlock=some g∨U.heap.size≤g) (hos:wf.os=w1.os) (htape:wf.tape=w1.tape) (hout:wf.output=w1.output) (hsz:w1.heap.size≤wf.heap.size) (hbl:∀ b,b < w1.heap.size→b≠lb→b≠g→wf.heap[b]?=w1.heap[b]?)
 (hlist:wf.heap[lb]?=some (.cells #[.slice (some ⟨g,0,none⟩) (n+1) cap] 25 (0,0))) (hown:wf.ownsRow (lb+1) 28 8 (.slice (some ⟨g,0,none⟩) (n+1) cap) (n+1) row):Added u wf lb sv n g cap row:=by
 have hs1:=hg.size;have hs2:=hb.size;have hal:(U.alloc o).heap.size=U.heap.size+1:=Array.size_push _;refine ⟨?_,?_,?_,by omega,?_,hlist,hown,?_⟩
 · rw [hos,hg.os];exact hb.os
 · rw [htape,hg.tape];exact hb.tape
 · rw [hout,hg.output];exact hb.output
 · intro b hbu hbl' hbo
   have hne:b≠g:=by
    rcases hat with h|h
    · intro e
      apply hbo;rw [e];simp [own,h]
    · omega
   rw [hbl b (by omega) hbl' hne,hg.block b (by omega) (fun e=>hbo (by simp [own,← e]))];exact (Below.heap_alloc U o b (by omega)).trans (hb.block b hbu)
 · rcases hat with h|h
   · exact .inl (by simp [own,h])
   · exact .inr (by omega)
def lstep (vf:Nat→(JT × Nat) ⊕ (Nat × Nat)) (l:List JT) (k:Nat):(List JT × Nat) ⊕ (Nat × Nat):=match vf k with
 | .inl (v,k')=>.inl (l++[v],k')
 | .inr e=>.inr e
theorem LSt.mv {rb rp lb B:Nat}{l:List JT}{w w':World} (h:LSt rb rp lb B l w) (hm:Mv rb w w') (h1:rb < rp) (h2:rb < lb) (h3:rb < B):LSt rb rp lb B l w':=by
 obtain ⟨hp,sv,css,ps,hl,ho,e1,e2,hv,hn⟩:=h;refine ⟨hm.obj (by omega) hp,sv,css,ps,hm.obj (by omega) hl,owns_keep ho fun b hb=>?_,e1,e2,fun i v c p a1 a2 a3=>?_,hn⟩
 · have:=owns_ge ho b hb
   exact hm.block b this.2 (by omega)
 · have hr:=hv i v c p a1 a2 a3
   refine hr.keep fun b hb=>?_
   have:=hr.ge b hb;exact hm.block b this.2 (by omega)
theorem get_snoc {α:Type}{l:List α}{x y:α}{i:Nat} (h:(l++[x])[i]?=some y):l[i]?=some y∨(i=l.length∧y=x):=by
 rcases Nat.lt_trichotomy i l.length with hi|hi|hi
 · rw [List.getElem?_append_left hi] at h
   exact .inl h
 · rw [List.getElem?_append_right (by omega),hi,Nat.sub_self] at h
   exact .inr ⟨hi,by simpa using h.symm⟩
 · rw [List.getElem?_append_right (by omega)] at h
   have:i - l.length=(i - l.length - 1)+1:=by omega
   rw [this] at h;simp at h
theorem get_lt {α:Type}{l:List α}{y:α}{i:Nat} (h:l[i]?=some y):i < l.length:=by
 obtain ⟨h,_⟩:=List.getElem?_eq_some_iff.1 h;exact h
theorem LSt.add {rb rp lb:Nat}{l:List JT}{u wf:World}{sv:Value}{css:List (List Value)}{ps:List (List Nat)}{g cap B:Nat}{v:JT}{c:List Value}{p:List Nat}
 (hp:u.heap[rp]?=some (.cells #[.pointer (some ⟨rb,0,none⟩)] 177 (0,0))) (hrp:rp < lb) (ho:u.ownsRow (lb+1) 28 8 sv l.length css.flatten) (e1:css.length=l.length) (e2:ps.length=l.length)
 (hv:∀ (i:Nat) (v:JT) (c:List Value) (p:List Nat),l[i]?=some v→css[i]?=some c→ps[i]?=some p→VRep u (lb+1) v c p) (hn:(own sv++ps.flatten).Nodup)
 (hB:lb+1≤B) (hlow:∀ b∈own sv++ps.flatten,b < B) (hnew:VRep u B v c p) (hpn:p.Nodup) (hA:Added u wf lb sv l.length g cap (css.flatten++c)):LSt rb rp lb (lb+1) (l++[v]) wf:=by
 have hsv:=owns_ge ho;have hpg:=hnew.ge;have hsub:∀ b,b∈own sv→b < B:=fun b hb=>hlow b (by simp [hb])
 have hg:g ∉ ps.flatten∧g ∉ p:=by
  rcases hA.lies with h|h
  · refine ⟨fun q=>?_,fun q=>?_⟩
    · exact (List.nodup_append.1 hn).2.2 g h g q rfl
    · have:=hsub g h;have:=(hpg g q).1;omega
  · refine ⟨fun q=>?_,fun q=>?_⟩
    · obtain ⟨p',hp',hq⟩:=List.mem_flatten.1 q
      obtain ⟨i,hi⟩:=List.getElem?_of_mem hp';have hil:=get_lt hi;have:=((hv i _ _ p' (List.getElem?_eq_getElem (by omega)) (List.getElem?_eq_getElem (by omega)) hi).ge g hq).2;omega
    · have:=(hpg g q).2;omega
 have hkeep:∀ b,b < u.heap.size→lb < b→b ∉ own sv→wf.heap[b]?=u.heap[b]?:=fun b h1 h2 h3=>hA.block b h1 (by omega) h3
 refine ⟨?_,.slice (some ⟨g,0,none⟩) (l.length+1) cap,css++[c],ps++[p],hA.list,?_,by simp [e1],by simp [e2],?_,?_⟩
 · rw [hA.block rp (blk_lt hp) (by omega) (fun q=>by have:=(hsv rp q).1;omega)]
   exact hp
 · simpa using hA.owns
 · intro i v' c' p' a1 a2 a3
   rcases get_snoc a1 with b1|⟨b1,rfl⟩
   · have hi:=get_lt b1
     have b2:css[i]?=some c':=by rwa [List.getElem?_append_left (by omega)] at a2
     have b3:ps[i]?=some p':=by rwa [List.getElem?_append_left (by omega)] at a3
     have hr:=hv i v' c' p' b1 b2 b3;refine hr.keep fun b hb=>?_
     have hbg:=hr.ge b hb;exact hkeep b hbg.2 (by omega) fun q=>(List.nodup_append.1 hn).2.2 b q b (mem_flat b3 hb) rfl
   · have b2:c'=c:=by
      rcases get_snoc a2 with q|⟨_,q⟩
      · have:=get_lt q;omega
      · exact q
     have b3:p'=p:=by
      rcases get_snoc a3 with q|⟨_,q⟩
      · have:=get_lt q;omega
      · exact q
     subst b2 b3;refine (hnew.base hB).keep fun b hb=>?_
     have hbg:=hpg b hb;exact hkeep b hbg.2 (by omega) fun q=>by have:=hsub b q;omega
 · have hnp:=(List.nodup_append.1 hn).2.1
   have hog:own (.slice (some ⟨g,0,none⟩) (l.length+1) cap)=[g]:=by simp [own,Value.ownBlock]
   rw [hog,List.flatten_append];simp only [List.flatten_cons,List.flatten_nil,List.append_nil,List.singleton_append];refine List.nodup_cons.2 ⟨by simp only [List.mem_append];exact fun q=>q.elim hg.1 hg.2,?_⟩;refine List.nodup_append.2 ⟨hnp,hpn,fun a ha b hb e=>?_⟩;have:=hlow a (by simp [ha]);have:=(hpg b hb).1;omega
theorem infoV:(Tryz.prog.info? 28).map (fun i=>(i.zero,i.size,i.bytes))=some (some (.agg vNull),8,112):=by kernel_rfl
theorem owns_mv {rb:Nat}{w w':World}{B:Nat}{e:TypeId}{size:Nat}{v:Value}{n:Nat}{xs:List Value} (h:w.ownsRow B e size v n xs) (hm:Mv rb w w') (hr:rb < B):w'.ownsRow B e size v n xs :=
 owns_keep h fun b hb=>hm.block b (owns_ge h b hb).2 (by have:=(owns_ge h b hb).1;omega)
theorem list1_fin {E:Nat→Value}{rb rp lb:Nat}{s:ByteArray}{o:Int}{vf:Nat→(JT × Nat) ⊕ (Nat × Nat)}{w u1:World}{l:List JT}{k:Nat}{sv:Value}{css:List (List Value)}{ps:List (List Nat)}{e:Ending}
 (h1:rb < rp) (h2:rp < lb)
 (hp:w.heap[rp]?=some (.cells #[.pointer (some ⟨rb,0,none⟩)] 177 (0,0))) (hl:w.heap[lb]?=some (.cells #[sv] 25 (0,0))) (ho:w.ownsRow (lb+1) 28 8 sv l.length css.flatten) (e1:css.length=l.length) (e2:ps.length=l.length)
 (hv:∀ (i:Nat) (v:JT) (c:List Value) (p:List Nat),l[i]?=some v→css[i]?=some c→ps[i]?=some p→VRep w (lb+1) v c p) (hn:(own sv++ps.flatten).Nodup)
 (h:ValPost E rb s o w (vf k) e u1) :
 ∃ a t ng dg ex x q1 n1 m1 q2 n2 m2 ev,e=.returned (.tuple #[.agg (c8 a t ng dg ex x q1 n1 m1 q2 n2 m2),ev]) ∧
   ∀ wf g cap,Added u1 wf lb sv l.length g cap (css.flatten++(c8 a t ng dg ex x q1 n1 m1 q2 n2 m2).toList)→ItemPost (LSt rb rp lb (lb+1)) E rb s o lb w (lstep vf l k) (.returned ev) wf:=by
 obtain ⟨h,hM⟩:=h;have hlw:=blk_lt hl;have hsv:=owns_ge ho
 have hstep:∀ r,vf k=r→lstep vf l k=match r with
  | .inl (v,k')=>.inl (l++[v],k')
  | .inr e=>.inr e:=fun r hr=>by rw [← hr];rfl
 have hMB:∀ (wf:World) (g cap:Nat) (row:List Value),Added u1 wf lb sv l.length g cap row→MvB rb lb w wf:=fun wf g cap row hA =>
  ⟨hA.os.trans hM.os,hA.tape.trans hM.tape,hA.output.trans hM.output,Nat.le_trans hM.size hA.size,fun b hb hne =>
   (hA.block b (by have:=hM.size;omega) (by omega) (fun q=>by have:=(hsv b q).1;omega)).trans (hM.block b (by omega) hne)⟩
 have hrl:∀ (wf:World) (g cap:Nat) (row:List Value) (a b:Int),Added u1 wf lb sv l.length g cap row→RL u1 rb s a b→RL wf rb s a b:=fun wf g cap row a b hA hR =>
  (hA.block rb (blk_lt hR) (by omega) (fun q=>by have:=(hsv rb q).1;omega)).trans hR
 rcases h with ⟨v,k',cs,p,hr,hk',rfl,hR,hV,hpn⟩|⟨g,k',fb,hr,hk',rfl,hfb,hfl,kx,ox,hRx⟩
 · obtain ⟨a,t,ng,dg,ex,x,q1,n1,m1,q2,n2,m2,hc⟩:=hV.shape
   refine ⟨a,t,ng,dg,ex,x,q1,n1,m1,q2,n2,m2,.nilIface,by rw [hc],fun wf g cap hA=>⟨.inl ⟨l++[v],k',hstep _ hr,hk',rfl,hrl _ _ _ _ _ _ hA hR,?_⟩,hMB _ _ _ _ hA⟩⟩;have hcs:(c8 a t ng dg ex x q1 n1 m1 q2 n2 m2).toList=cs:=by rw [← hc]
   rw [hcs] at hA
   have hvg:∀ (i:Nat) (v:JT) (c:List Value) (p:List Nat),l[i]?=some v→css[i]?=some c→ps[i]?=some p→VRep u1 (lb+1) v c p:=fun i v c p a1 a2 a3=>by
    have hr:=hv i v c p a1 a2 a3;exact hr.keep fun b hb=>hM.block b (hr.ge b hb).2 (by have:=(hr.ge b hb).1;omega)
   refine LSt.add (B:=w.heap.size) (hM.obj (by omega) hp) h2 (owns_mv ho hM (by omega)) e1 e2 hvg hn (by omega) ?_ hV hpn hA;intro b hb
   rcases List.mem_append.1 hb with hb|hb
   · exact (hsv b hb).2
   · obtain ⟨p',hp',hq⟩:=List.mem_flatten.1 hb
     obtain ⟨i,hi⟩:=List.getElem?_of_mem hp';have hil:=get_lt hi;exact ((hv i _ _ p' (List.getElem?_eq_getElem (by omega)) (List.getElem?_eq_getElem (by omega)) hi).ge b hq).2
 · refine ⟨0,false,false,⟨#[]⟩,0,⟨#[]⟩,none,0,0,none,0,0,_,rfl,fun wf g' cap hA=>⟨.inr ⟨g,k',fb,hstep _ hr,hk',rfl,by omega,?_,kx,ox,hrl _ _ _ _ _ _ hA hRx⟩,hMB _ _ _ _ hA⟩⟩
   exact (hA.block fb (blk_lt hfl) (by omega) (fun q=>by have:=(hsv fb q).2;omega)).trans hfl
theorem far {w w1:World}{o:Obj}{v:Value}{b j:Nat}{x:Value} (hg:(w.alloc o).grownBy w1 v.ownBlock) (hb:b < w.heap.size) (hn:b ∉ own v) (h:w.cell? ⟨b,j,none⟩=some x):w1.cell? ⟨b,j,none⟩=some x:=by
 have hs:(w.alloc o).heap.size=w.heap.size+1:=Array.size_push _;rw [hg.cell_far ⟨b,j,none⟩ (by show b < _;omega) (fun e=>hn (by simp [own,← e])),World.cell?_of_block (w:=w) (w':=w.alloc o) (a:=⟨b,j,none⟩) (Below.heap_alloc w o b hb)];exact h
theorem farF {w w1:World}{o:Obj}{v:Value}{b j:Nat} (hg:(w.alloc o).grownBy w1 v.ownBlock) (hb:b < w.heap.size) (hn:b ∉ own v) (h:w.frozen? ⟨b,j,none⟩=false):w1.frozen? ⟨b,j,none⟩=false:=by
 have hs:(w.alloc o).heap.size=w.heap.size+1:=Array.size_push _;rw [hg.frozen_far ⟨b,j,none⟩ (by show b < _;omega) (fun e=>hn (by simp [own,← e])),World.frozen?_of_block (w:=w) (w':=w.alloc o) (a:=⟨b,j,none⟩) (Below.heap_alloc w o b hb)];exact h
theorem row_at {w1:World}{B:Nat}{e:TypeId}{g n cap:Nat}{xs zs:List Value} (h:w1.ownsRow B e 8 (.slice (some ⟨g,0,none⟩) (n+1) cap) (n+1) (xs++zs)) (hx:xs.length=n*8) (j:Nat) (hj:j < 8):w1.cell? ⟨g,n*8+j,none⟩=zs[j]?:=by
 rw [h.cellAt (n*8+j) (by omega),List.getElem?_append_right (by omega)]
 congr 1
 omega
structure Grew (wc w1:World) (lb n:Nat) (sv:Value) (xs:List Value) (g cap:Nat):Prop where
 grown:(wc.drew.alloc (.cells vNull 28)).grownBy w1 sv.ownBlock
 owns:w1.ownsRow (lb+1) 28 8 (.slice (some ⟨g,0,none⟩) (n+1) cap) (n+1) (xs++vNull.toList)
 lies:sv.ownBlock=some g∨wc.heap.size≤g
theorem step_add {ops:Array Oper}{op:Oper}{a:Act}{K:Act→World→Prop}{Q:Exit→Act→World→Prop}{E0:Prop} (wc:World) (lb n:Nat) (sv:Value) (xs:List Value) (hgd:op.guard=none)
 (ho:op.op=.call { callee:=.builtin .append,args:=#[.tmp 10,.tmp 13],argTypes:=#[25,25] }) (hs:a.eval (.tmp 10)=sv) (hx:a.eval (.tmp 13)=.slice (some ⟨wc.heap.size,0,none⟩) 1 1)
 (hown:Hid (wc.ownsRow (lb+1) 28 8 sv n xs)) (hn:n+1≤1048577) (hlb:lb < wc.heap.size)
 (h:∀ g cap w1,Hid (Grew wc w1 lb n sv xs g cap)→K (a.put op.dst (.slice (some ⟨g,0,none⟩) (n+1) cap)) w1) :
 if Region.wanted op (yielded ops a.tmps)=true then Oper.wp Tryz.prog op a (wc.drew.alloc (.cells #[.int .i64 0,.bool false,.bool false,.string ⟨#[]⟩,.int .i64 0,.string ⟨#[]⟩,.slice none 0 0,.slice none 0 0] 28)) K Q else E0:=by
 obtain ⟨i0,hi,hz0,hz1,hz2⟩:=info_parts infoV
 refine step_append_lies _ hgd _ _ _ ho (lb+1) 28 i0 (.agg vNull) 8 112 Tryz.underlying25 hi hz0 hz1 hz2 rfl (by omega) sv n xs hs (((uh hown).alloc _).drew)
  ⟨wc.heap.size,0,none⟩ 1 1 vNull.toList hx rfl (World.news_of_block (cs:=vNull) (t:=28) (fr:=(0,0)) (heap_alloc_new wc _)) ?_ (by omega) (by unfold maxLen;omega) (by omega) ?_ (wc.heap.size+1) (Array.size_push _) ?_
 · intro u hu
   simp only [vNull,vc,zed,nilS,List.mem_cons,List.not_mem_nil,or_false] at hu
   rcases hu with rfl|rfl|rfl|rfl|rfl|rfl|rfl|rfl <;> rfl
 · show lb+1≤(Array.push _ _).size
   rw [Array.size_push];exact Nat.succ_le_succ (Nat.le_of_lt hlb)
 · intro g cap w1 hown1 hgrow hat hlt
   exact h g cap w1 ⟨hgrow,hown1,hat.imp id (fun e=>by omega)⟩
theorem Grew.ne {wc w1:World}{lb n:Nat}{sv:Value}{xs:List Value}{g cap b:Nat} (h:Grew wc w1 lb n sv xs g cap) (hb:b < wc.heap.size) (hn:b ∉ own sv):g≠b:=by
 rcases h.lies with e|e
 · intro q
   exact hn (by rw [← q];simp [own,e])
 · omega
theorem Grew.keep {wc w1:World}{lb n:Nat}{sv:Value}{xs:List Value}{g cap b j:Nat}{x:Value} (h:Grew wc w1 lb n sv xs g cap) (hb:b < wc.heap.size) (hn:b ∉ own sv) (hc:wc.cell? ⟨b,j,none⟩=some x):w1.cell? ⟨b,j,none⟩=some x:=far h.grown hb hn hc
theorem Grew.keepF {wc w1:World}{lb n:Nat}{sv:Value}{xs:List Value}{g cap b j:Nat} (h:Grew wc w1 lb n sv xs g cap) (hb:b < wc.heap.size) (hn:b ∉ own sv) (hc:wc.frozen? ⟨b,j,none⟩=false):w1.frozen? ⟨b,j,none⟩=false:=farF h.grown hb hn hc
theorem Grew.cells {wc w1:World}{lb n:Nat}{sv:Value}{xs:List Value}{g cap:Nat} (h:Grew wc w1 lb n sv xs g cap) (hx:xs.length=n*8) :
 w1.cell? ⟨g,n*8,none⟩=some (.int .i64 0)∧w1.cell? ⟨g,n*8+1,none⟩=some (.bool false)∧w1.cell? ⟨g,n*8+2,none⟩=some (.bool false)∧w1.cell? ⟨g,n*8+3,none⟩=some (.string ⟨#[]⟩)∧w1.cell? ⟨g,n*8+4,none⟩=some (.int .i64 0)∧w1.cell? ⟨g,n*8+5,none⟩=some (.string ⟨#[]⟩)∧w1.cell? ⟨g,n*8+6,none⟩=some (.slice none 0 0)∧w1.cell? ⟨g,n*8+7,none⟩=some (.slice none 0 0) :=
 ⟨row_at h.owns hx 0 (by omega),row_at h.owns hx 1 (by omega),row_at h.owns hx 2 (by omega),row_at h.owns hx 3 (by omega),row_at h.owns hx 4 (by omega),row_at h.owns hx 5 (by omega),row_at h.owns hx 6 (by omega),row_at h.owns hx 7 (by omega)⟩
theorem Grew.frees {wc w1:World}{lb n:Nat}{sv:Value}{xs:List Value}{g cap:Nat} (h:Grew wc w1 lb n sv xs g cap) :
 w1.frozen? ⟨g,n*8,none⟩=false∧w1.frozen? ⟨g,n*8+1,none⟩=false∧w1.frozen? ⟨g,n*8+2,none⟩=false∧w1.frozen? ⟨g,n*8+3,none⟩=false∧w1.frozen? ⟨g,n*8+4,none⟩=false∧w1.frozen? ⟨g,n*8+5,none⟩=false∧w1.frozen? ⟨g,n*8+6,none⟩=false∧w1.frozen? ⟨g,n*8+7,none⟩=false :=
 ⟨h.owns.frozenAt _,h.owns.frozenAt _,h.owns.frozenAt _,h.owns.frozenAt _,h.owns.frozenAt _,h.owns.frozenAt _,h.owns.frozenAt _,h.owns.frozenAt _⟩
theorem Grew.added {u wc w1:World}{lb n:Nat}{sv:Value}{xs:List Value}{g cap:Nat} (h:Grew wc w1 lb n sv xs g cap) (hx:xs.length=n*8) (hb:Below u.heap.size u wc) (hl:wc.heap[lb]?=some (.cells #[sv] 25 (0,0))) (hls:lb ∉ own sv) (a0 a1 a2 a3 a4 a5 a6 a7:Value) :
 Added u ((putAt w1 g (n*8) a0 a1 a2 a3 a4 a5 a6 a7).setCell ⟨lb,0,none⟩ (.slice (some ⟨g,0,none⟩) (n+1) cap)) lb sv n g cap (xs++[a0,a1,a2,a3,a4,a5,a6,a7]):=by
 have hgl:=h.ne (blk_lt hl) hls;have hU:=putAt_upd w1 g (n*8) a0 a1 a2 a3 a4 a5 a6 a7;have hs:(wc.drew.alloc (.cells vNull 28)).heap.size=wc.heap.size+1:=Array.size_push _
 have hl1:w1.heap[lb]?=some (.cells #[sv] 25 (0,0)):=by
  have hlt:=blk_lt hl;rw [h.grown.block lb (by omega) (fun e=>hls (by simp [own,← e]))];exact (Below.heap_alloc wc.drew _ lb hlt).trans hl
 have hS:=Mv.set (rb:=lb) (putAt w1 g (n*8) a0 a1 a2 a3 a4 a5 a6 a7) 0 (.slice (some ⟨g,0,none⟩) (n+1) cap);refine added_core (U:=wc.drew) (w1:=w1) hb.drew h.grown h.lies (hS.os.trans hU.os) (hS.tape.trans hU.tape) (hS.output.trans hU.output) (Nat.le_trans hU.size hS.size) ?_ ?_ ?_
 · intro b hb1 hb2 hb3
   exact (hS.block b (by have:=hU.size;omega) hb2).trans (hU.block b hb1 hb3)
 · exact blk_set (hU.obj (Ne.symm hgl) hl1) 0 _
 · have ho:=putAt_owns h.owns hx a0 a1 a2 a3 a4 a5 a6 a7
   refine owns_keep ho fun b hb'=>?_
   have hbg:b=g:=by simpa [own,Value.ownBlock] using hb'
   exact hS.block b (owns_ge ho b hb').2 (by omega)
theorem Grew.added' {u wc w1:World}{lb n:Nat}{sv:Value}{xs:List Value}{g cap:Nat} (h:Grew wc w1 lb n sv xs g cap) (hx:xs.length=n*8) (hb:Below u.heap.size u wc) (hl:wc.heap[lb]?=some (.cells #[sv] 25 (0,0))) (hls:lb ∉ own sv) (a0 a1 a2 a3 a4 a5 a6 a7:Value) :
 Added u (putAt (w1.setCell ⟨lb,0,none⟩ (.slice (some ⟨g,0,none⟩) (n+1) cap)) g (n*8) a0 a1 a2 a3 a4 a5 a6 a7) lb sv n g cap (xs++[a0,a1,a2,a3,a4,a5,a6,a7]):=by
 have hgl:=h.ne (blk_lt hl) hls;have hS:=Mv.set (rb:=lb) w1 0 (.slice (some ⟨g,0,none⟩) (n+1) cap);have hU:=putAt_upd (w1.setCell ⟨lb,0,none⟩ (.slice (some ⟨g,0,none⟩) (n+1) cap)) g (n*8) a0 a1 a2 a3 a4 a5 a6 a7;have hs:(wc.drew.alloc (.cells vNull 28)).heap.size=wc.heap.size+1:=Array.size_push _
 have hl1:w1.heap[lb]?=some (.cells #[sv] 25 (0,0)):=by
  have hlt:=blk_lt hl;rw [h.grown.block lb (by omega) (fun e=>hls (by simp [own,← e]))];exact (Below.heap_alloc wc.drew _ lb hlt).trans hl
 refine added_core (U:=wc.drew) (w1:=w1) hb.drew h.grown h.lies (hU.os.trans hS.os) (hU.tape.trans hS.tape) (hU.output.trans hS.output) (Nat.le_trans hS.size hU.size) ?_ ?_ ?_
 · intro b hb1 hb2 hb3
   exact (hU.block b (by have:=hS.size;omega) hb3).trans (hS.block b hb1 hb2)
 · exact hU.obj (Ne.symm hgl) (blk_set hl1 0 _)
 · refine putAt_owns (owns_keep h.owns fun b hb'=>?_) hx a0 a1 a2 a3 a4 a5 a6 a7
   have hbg:b=g:=by simpa [own,Value.ownBlock] using hb'
   exact hS.block b (owns_ge h.owns b hb').2 (by omega)
set_option maxRecDepth 100000 in
set_option maxHeartbeats 6400000 in
theorem list1_any (E:Nat→Value) (rb rp lb:Nat) (s:ByteArray) (o:Int) (vf:Nat→(JT × Nat) ⊕ (Nat × Nat)) (hs:s.size≤1048576) (h1:rb < rp) (h2:rp < lb)
 (VC:∀ (w:World) (k:Nat),RL w rb s k o→Env E w→k≤s.size→Calls Tryz.prog 118 #[.pointer (some ⟨rb,0,none⟩)] w (ValPost E rb s o w (vf k)))
 (w:World) (l:List JT) (k:Nat) (h:RL w rb s k o) (hS:LSt rb rp lb (lb+1) l w) (hE:Env E w) (hk:k≤s.size) (hBd:l.length≤k) :
 Calls Tryz.prog 161 #[.pointer (some ⟨rp,0,none⟩),.pointer (some ⟨lb,0,none⟩)] w (ItemPost (LSt rb rp lb (lb+1)) E rb s o lb w (lstep vf l k)):=by
 obtain ⟨hp,sv,css,ps,hl,ho,e1,e2,hv,hn⟩:=hS;obtain ⟨q,cap0,hsvq,_⟩:=owns_slice ho;have cp:w.cell? ⟨rp,0,none⟩=some (.pointer (some ⟨rb,0,none⟩)):=blk_cell hp 0;have FN:=hide (fun (e:Ending) (u1:World) (hh:ValPost E rb s o w (vf k) e u1)=>list1_fin (l:=l) (sv:=sv) (css:=css) (ps:=ps) h1 h2 hp hl ho e1 e2 hv hn hh);have HV:=hide (VC w k h hE hk);have HO:=hide ho;have HL:=hide hl;have hlw:=blk_lt hl;have hsvg:=owns_ge ho;have hlen:css.flatten.length=l.length*8:=ho.1;have hnn:l.length+1≤1048577:=by omega
 clear hv hn ho hl hp e1 e2 VC h hE hBd hs;generalize hN:l.length=n at *;generalize css.flatten=xs at *
 go_enter Tryz.func161,Tryz.ntmps161
 go_upto_region 1 with fail
 go_cut [3,4] from 5 (fun s3 s4 wx=>∃ (u1:World) (a:Int) (t ng:Bool) (dg:ByteArray) (ex:Int) (x:ByteArray) (q1:Option Addr) (n1 m1:Nat) (q2:Option Addr) (n2 m2:Nat) (ev:Value),s3=.pointer (some ⟨u1.heap.size,0,none⟩)∧s4=ev∧Hid (VL wx u1.heap.size (c8 a t ng dg ex x q1 n1 m1 q2 n2 m2))∧Hid (Below u1.heap.size u1 wx)∧Hid (Mv rb w u1) ∧
  Hid (∀ wf g cap,Added u1 wf lb sv n g cap (xs++(c8 a t ng dg ex x q1 n1 m1 q2 n2 m2).toList)→ItemPost (LSt rb rp lb (lb+1)) E rb s o lb w (lstep vf l k) (.returned ev) wf))
 case first =>
  go_wp2_with fail
  refine (uh HV).mono ?_;rintro e u1 hP;have hMv:=hide hP.2;obtain ⟨a,t,ng,dg,ex,x,q1,n1,m1,q2,n2,m2,ev,rfl,hF⟩:=uh FN e u1 hP;have HF:=hide hF;clear hF hP FN HV;simp only [c8];go_wp2;go_meet;exact ⟨u1,a,t,ng,dg,ex,x,q1,n1,m1,q2,n2,m2,ev,rfl,rfl,vl_new u1 _,(Below.refl _ _).alloc (Nat.le_refl _) _,hMv,HF⟩
 case rest =>
  clear FN HV;obtain ⟨u1,a,t,ng,dg,ex,x,q1,n1,m1,q2,n2,m2,ev,rfl,rfl,hVL,hb,hM,HF⟩:=hcut;have hc:=(show VL wc u1.heap.size (vc a t ⟨ng,dg,ex⟩ x (.slice q1 n1 m1) (.slice q2 n2 m2)) from uh hVL);obtain ⟨q0',q1',q2',q3',q4',q5',q6',q7'⟩:=hc.cells;simp only at q0' q1' q2' q3' q4' q5' q6' q7';have hmw:u1.heap.size < wc.heap.size:=blk_lt hc;have hwu:=(uh hM).size;have hlu:=(uh hM).obj (b:=lb) (by omega) (uh HL);have hlc:=((uh hb).block lb (by omega)).trans hlu;have hlb0:wc.cell? ⟨lb,0,none⟩=some sv:=blk_cell hlc 0;have hlf:wc.frozen? ⟨lb,0,none⟩=false:=blk_free hlc 0;have hou:=owns_mv (uh HO) (uh hM) (by omega);have hoc:wc.ownsRow (lb+1) 28 8 sv n xs:=owns_keep hou fun b hq=>(uh hb).block b (by have:=(hsvg b hq).2;omega)
  have HOC:=hide hoc;have hlm:lb≠u1.heap.size:=by omega
  have hml:u1.heap.size≠lb:=by omega
  have hms:u1.heap.size ∉ own sv:=fun q=>by have:=(hsvg _ q).2;omega
  have hls:lb ∉ own sv:=fun q=>by have:=(hsvg _ q).1;omega
  have hlbc:lb < wc.heap.size:=by omega
  have hwm:wc.heap.size≠u1.heap.size:=by omega
  have hwl:wc.heap.size≠lb:=by omega
  have b1:(0:Int)≤(n:Int):=by omega
  have b2:(n:Int) < ((n+1:Nat):Int):=by omega
  have b3:(n:Int) < (n:Int)+1:=by omega
  have HF0:∀ wf g cap,Added u1 wf lb sv n g cap (xs++(c8 a t ng dg ex x q1 n1 m1 q2 n2 m2).toList)→∀ ev',ev'=u4→ItemPost (LSt rb rp lb (lb+1)) E rb s o lb w (lstep vf l k) (.returned ev') wf:=fun wf g cap hA ev' he=>by rw [he];exact uh HF wf g cap hA
  have fa:=fun (w1:World) (g cap:Nat) (hG:Hid (Grew wc w1 lb n sv xs g cap))=>HF0 _ g cap ((uh hG).added hlen (uh hb) hlc hls (.int .i64 a) (.bool t) (.bool ng) (.string dg) (.int .i64 ex) (.string x) (.slice q1 n1 m1) (.slice q2 n2 m2))
  have fb:=fun (w1:World) (g cap:Nat) (hG:Hid (Grew wc w1 lb n sv xs g cap))=>HF0 _ g cap ((uh hG).added' hlen (uh hb) hlc hls (.int .i64 a) (.bool t) (.bool ng) (.string dg) (.int .i64 ex) (.string x) (.slice q1 n1 m1) (.slice q2 n2 m2))
  simp only [putAt] at fa fb;have FA:=hide fa;have FB:=hide fb;clear fa fb HF0 HF;generalize hm:u1.heap.size=m at *;clear hc hlu hlc hou hoc HO HL cp hsvg;subst hsvq;go_wp2
  go_region_law ((refine step_add wc lb n (.slice q n cap0) xs (by rfl) (by rfl) (by rfl) (by rfl) HOC hnn hlbc ?_
                  intro g cap w1 HG;have hgm:=(uh HG).ne hmw hms;have hgl:=(uh HG).ne hlbc hls;have hmg:m≠g:=fun e=>hgm e.symm
                  have hlg:lb≠g:=fun e=>hgl e.symm
                  obtain ⟨z0,z1,z2,z3,z4,z5,z6,z7⟩:=(uh HG).cells hlen;obtain ⟨y0,y1,y2,y3,y4,y5,y6,y7⟩:=(uh HG).frees;have x0:=(uh HG).keep hmw hms q0';have x1:=(uh HG).keep hmw hms q1';have x2:=(uh HG).keep hmw hms q2';have x3:=(uh HG).keep hmw hms q3';have x4:=(uh HG).keep hmw hms q4';have x5:=(uh HG).keep hmw hms q5';have x6:=(uh HG).keep hmw hms q6';have x7:=(uh HG).keep hmw hms q7';have v0:=(uh HG).keep hlbc hls hlb0
                  have v1:=(uh HG).keepF hlbc hls hlf))
  all_goals go_wp2
  all_goals go_ret
  all_goals first
   | (with_reducible refine uh FA w1 g cap HG _ ?_);rfl
   | (with_reducible refine uh FB w1 g cap HG _ ?_);rfl
theorem ret_list {m:Nat} (w:World) (k:Int) (t:Bool) (d:Dn) (x:ByteArray) (lv fv ev:Value) (h:VL w m (vc k t d x lv fv)) (tmps:Array Value) (h2:tmps[2]?.getD undef=.pointer (some ⟨m,0,none⟩)) (h3:tmps[3]?.getD undef=ev) :
 (results Tryz.f143 tmps).run Tryz.prog w=.ok (.tuple #[.agg (vc k t d x lv fv),ev]) w:=by
 obtain ⟨q0,q1,q2,q3,q4,q5,q6,q7⟩:=VL.cells h;simp [results,Tryz.results143,h2,h3,go_sem,q0,q1,q2,q3,q4,q5,q6,q7,vc]
theorem enter_list1 (args:Array Value) (w:World):(callFunc 161 args).run Tryz.prog w=.ok (.enter 161 args) w :=
 MuLone.run_callFunc_enter Tryz.func161 (by kernel_rfl) (c:=Tryz.f161.body.get (by kernel_rfl)) (by kernel_rfl) args w
def listR (vf:Nat→(JT × Nat) ⊕ (Nat × Nat)) (s:ByteArray) (o:Int) (k:Nat):(JT × Nat) ⊕ (Nat × Nat):=match rowR (lstep vf) 93 s o [] k with
 | .inl (l,k')=>.inl (JT.mk 4 false zed ⟨#[]⟩ l [],k')
 | .inr e=>.inr e
theorem lst_new (w:World) (rb:Nat):LSt rb w.heap.size (w.heap.size+2) (w.heap.size+2+1) [] (((w.alloc (.cells #[.pointer (some ⟨rb,0,none⟩)] 177)).alloc (.cells vNull 28)).alloc (.cells #[.slice none 0 0] 25)):=by
 have s1:(w.alloc (.cells #[.pointer (some ⟨rb,0,none⟩)] 177)).heap.size=w.heap.size+1:=Array.size_push _;have s2:((w.alloc (.cells #[.pointer (some ⟨rb,0,none⟩)] 177)).alloc (.cells vNull 28)).heap.size=w.heap.size+2:=(Array.size_push _).trans (by rw [s1]);refine ⟨?_,.slice none 0 0,[],[],?_,World.ownsRow_nil _ _ _ _,rfl,rfl,fun i v c p h=>by simp at h,by simp [own,Value.ownBlock]⟩
 · rw [Below.heap_alloc _ _ _ (by omega),Below.heap_alloc _ _ _ (by omega)]
   exact heap_alloc_new w _
 · have:=heap_alloc_new ((w.alloc (.cells #[.pointer (some ⟨rb,0,none⟩)] 177)).alloc (.cells vNull 28)) (.cells #[.slice none 0 0] 25)
   rw [s2] at this;exact this
theorem res_new (w:World) (rb:Nat):VL (((w.alloc (.cells #[.pointer (some ⟨rb,0,none⟩)] 177)).alloc (.cells vNull 28)).alloc (.cells #[.slice none 0 0] 25)) (w.heap.size+1) vNull:=by
 have s1:(w.alloc (.cells #[.pointer (some ⟨rb,0,none⟩)] 177)).heap.size=w.heap.size+1:=Array.size_push _;have s2:((w.alloc (.cells #[.pointer (some ⟨rb,0,none⟩)] 177)).alloc (.cells vNull 28)).heap.size=w.heap.size+2:=(Array.size_push _).trans (by rw [s1]);have:=vl_new (w.alloc (.cells #[.pointer (some ⟨rb,0,none⟩)] 177)) vNull;rw [s1] at this;unfold VL;rw [Below.heap_alloc _ _ _ (by omega)];exact this
theorem lstep_up {vf:Nat→(JT × Nat) ⊕ (Nat × Nat)} (hup:∀ k v k',vf k=.inl (v,k')→k < k') {l l':List JT}{k k':Nat} (h:lstep vf l k=.inl (l',k')):k < k'∧l'.length=l.length+1:=by
 unfold lstep at h
 split at h
 · rename_i v k1 hv
   cases h
   exact ⟨hup _ _ _ hv,by simp⟩
 · cases h
theorem lst_val {lb m:Nat}{l:List JT}{w wf:World}{B:Nat}{sv:Value}{css:List (List Value)}{ps:List (List Nat)} (ho:w.ownsRow (lb+1) 28 8 sv l.length css.flatten) (e1:css.length=l.length) (e2:ps.length=l.length)
 (hv:∀ (i:Nat) (v:JT) (c:List Value) (p:List Nat),l[i]?=some v→css[i]?=some c→ps[i]?=some p→VRep w (lb+1) v c p) (hB:B≤lb) (hm:m≤lb) (hk:Mv m w wf):VRep wf B (JT.mk 4 false zed ⟨#[]⟩ l []) (vc 4 false zed ⟨#[]⟩ sv nilS).toList (own sv++ps.flatten):=by
 have hb:∀ b,lb+1≤b∧b < w.heap.size→wf.heap[b]?=w.heap[b]?:=fun b h=>hk.block b h.2 (by omega)
 have:=VRep.mk (w:=wf) (B:=B) (k:=4) (t:=false) (d:=zed) (x:=⟨#[]⟩) (l:=l) (f:=[]) (lv:=sv) (fv:=nilS) (css:=css) (gss:=[]) (ps:=ps) (qs:=[])
  (owns_base (owns_keep ho fun b h=>hb b (owns_ge ho b h)) (by omega)) (World.ownsRow_nil _ _ _ _) e1 e2 rfl rfl
  (fun i v c p a1 a2 a3=>((hv i v c p a1 a2 a3).keep fun b h=>hb b ((hv i v c p a1 a2 a3).ge b h)).base (by omega)) (fun i n v c p h=>by simp at h)
 have e:own sv++own nilS++ps.flatten++([]:List (List Nat)).flatten=own sv++ps.flatten:=by simp [own,nilS,Value.ownBlock]
 rw [e] at this;exact this
set_option maxRecDepth 100000 in
set_option maxHeartbeats 3200000 in
theorem list_any (E:Nat→Value) (rb:Nat) (s:ByteArray) (o:Int) (vf:Nat→(JT × Nat) ⊕ (Nat × Nat)) (hs:s.size≤1048576) (hr:17≤rb) (ho0:0≤o) (ho:o≤64)
 (VC:o≠64→∀ (w:World) (k:Nat),RL w rb s k (o+1)→Env E w→k≤s.size→Calls Tryz.prog 118 #[.pointer (some ⟨rb,0,none⟩)] w (ValPost E rb s (o+1) w (vf k)))
 (hup:∀ k v k',vf k=.inl (v,k')→k < k')
 (w:World) (k:Nat) (h:RL w rb s k o) (hk:k < s.size) (hE:Env E w) :
 Calls Tryz.prog 143 #[.pointer (some ⟨rb,0,none⟩)] w (ValPost E rb s o w (listR vf s o k)):=by
 have hrl:=blk_lt h;have hA0:=res_new w rb;have hL0:=lst_new w rb;have hB0:Below w.heap.size w (((w.alloc (.cells #[.pointer (some ⟨rb,0,none⟩)] 177)).alloc (.cells vNull 28)).alloc (.cells #[.slice none 0 0] 25)):=(((Below.refl _ _).alloc (Nat.le_refl _) _).alloc (by simp) _).alloc (by simp;omega) _;have hR0:=h.below hB0 hrl;have hng:17≤w.heap.size:=by omega
 have RO:=hide (row_any (σ:=List JT) 161 #[.pointer (some ⟨w.heap.size,0,none⟩),.pointer (some ⟨w.heap.size+2,0,none⟩)] enter_list1 (LSt rb w.heap.size (w.heap.size+2) (w.heap.size+2+1)) (lstep vf) E rb (w.heap.size+2) s o 93
  hs hr (by omega) (by omega) (by omega) (by omega) (fun a b l hl hm=>hl.mv hm (by omega) (by omega) (by omega)) (fun l k l' k' q=>Nat.le_of_lt (lstep_up hup q).1) (fun l k=>l.length≤k) (fun l k k' q1 q2=>by omega) (fun l k l' k' q1 q2=>by have:=lstep_up hup q2;omega)
  (fun h64 a l k q1 q2 q3 q4 q5 _=>list1_any E rb w.heap.size (w.heap.size+2) s (o+1) vf hs (by omega) (by omega) (VC h64) a l k q1 q2 q3 q4 q5) [] k _ hR0 hk ho0 ho hL0 (by simp) (hE.below hB0) (by simp))
 have HR:Hid (listR vf s o k=match rowR (lstep vf) 93 s o [] k with
  | .inl (l,k')=>.inl (JT.mk 4 false zed ⟨#[]⟩ l [],k')
  | .inr e=>.inr e):=rfl
 generalize rowR (lstep vf) 93 s o [] k=rr at RO HR;generalize listR vf s o k=res at HR ⊢;clear VC hup hE h hL0 hR0 hk;simp only [vNull,vc,zed,nilS] at RO hB0 hA0
 go_enter Tryz.func143,Tryz.ntmps143
 go_wp2_with fail
 refine (uh RO).mono ?_;rintro e u1 ⟨hh,hM⟩;have hA1:=hide ((hM.block (w.heap.size+1) (by omega) (by omega)).trans hA0);have hM1:=hide (show Mv rb w u1 from ⟨hM.os.trans hB0.os,hM.tape.trans hB0.tape,hM.output.trans hB0.output,Nat.le_trans hB0.size hM.size,fun k hk hn=>(hM.block k (by omega) hn).trans (hB0.block k hk)⟩);clear hA0 hB0 hM RO;obtain ⟨q0,q1,q2,q3,q4,q5,q6,q7⟩:=VL.cells (show VL u1 (w.heap.size+1) (vc 0 false zed ⟨#[]⟩ nilS nilS) from uh hA1);obtain ⟨g0,g1,g2,g3,g4,g5,g6,g7⟩:=VL.frees (uh hA1);simp only [zed,nilS] at q0 q1 q2 q3 q4 q5 q6 q7
 rcases hh with ⟨l,k',rfl,hk',rfl,hR,hL⟩|⟨g,k',fb,rfl,hk',rfl,hfb,hfl,kx,ox,hRx⟩
 · obtain ⟨hp,sv,css,ps,hl,ho',e1,e2,hv,hn⟩:=hL
   obtain ⟨q,cap0,rfl,hq⟩:=owns_slice ho';have cl:u1.cell? ⟨w.heap.size+2,0,none⟩=some (.slice q l.length cap0):=blk_cell hl 0;have HO:=hide ho';have HV:=hide hv;have HN:=hide hn;have HRd:=hide hR;have hne:w.heap.size+1≠rb:=by omega
   clear hp hl ho' hv hn hR hq;go_wp2;have hU:=put8_upd u1 (w.heap.size+1) 4 false zed ⟨#[]⟩ (.slice q l.length cap0) nilS
   exact bodyPost_ret (ret_list (m:=w.heap.size+1) _ 4 false zed ⟨#[]⟩ (.slice q l.length cap0) nilS .nilIface (put8_lies (k':=0) (t':=false) (d':=zed) (x':=⟨#[]⟩) (lv':=nilS) (fv':=nilS) (uh hA1) 4 false zed ⟨#[]⟩ (.slice q l.length cap0) nilS) _ rfl rfl) rfl
    ⟨.inl ⟨_,k',_,_,uh HR,hk',rfl,hU.obj (Ne.symm hne) (uh HRd),lst_val (uh HO) e1 e2 (uh HV) (by omega) (by omega) hU,uh HN⟩,(uh hM1).own (by omega) hU⟩
 · have HRd:=hide hRx
   have HFL:=hide hfl;have hne:w.heap.size+1≠rb:=by omega
   have hnf:w.heap.size+1≠fb:=by omega
   clear hRx hfl;go_wp2;have hU:=put8_upd u1 (w.heap.size+1) 0 false zed ⟨#[]⟩ nilS nilS
   exact bodyPost_ret (ret_list (m:=w.heap.size+1) _ 0 false zed ⟨#[]⟩ nilS nilS _ (put8_lies (k':=0) (t':=false) (d':=zed) (x':=⟨#[]⟩) (lv':=nilS) (fv':=nilS) (uh hA1) 0 false zed ⟨#[]⟩ nilS nilS) _ rfl rfl) rfl
    ⟨.inr ⟨g,k',fb,uh HR,hk',rfl,by omega,hU.obj (Ne.symm hnf) (uh HFL),kx,ox,hU.obj (Ne.symm hne) (uh HRd)⟩,(uh hM1).own (by omega) hU⟩
theorem ret_fieldValue {m:Nat} (w:World) (k:Int) (t:Bool) (d:Dn) (x:ByteArray) (lv fv ev:Value) (h:VL w m (vc k t d x lv fv)) (tmps:Array Value) (h2:tmps[2]?.getD undef=.pointer (some ⟨m,0,none⟩)) (h3:tmps[3]?.getD undef=ev) :
 (results Tryz.f164 tmps).run Tryz.prog w=.ok (.tuple #[.agg (vc k t d x lv fv),ev]) w:=by
 obtain ⟨q0,q1,q2,q3,q4,q5,q6,q7⟩:=VL.cells h;simp [results,Tryz.results164,h2,h3,go_sem,q0,q1,q2,q3,q4,q5,q6,q7,vc]
def fvR (vf:Nat→(JT × Nat) ⊕ (Nat × Nat)) (s:ByteArray) (k:Nat):(JT × Nat) ⊕ (Nat × Nat) :=
 if nxt s (gap s k)=58 then vf (gap s k+1) else .inr (5,gap s k)
set_option maxRecDepth 100000 in
set_option maxHeartbeats 3200000 in
theorem fieldValue_any (E:Nat→Value) (rb:Nat) (s:ByteArray) (o:Int) (vf:Nat→(JT × Nat) ⊕ (Nat × Nat)) (hs:s.size≤1048576) (hr:17≤rb)
 (VC:∀ (w:World) (k:Nat),RL w rb s k o→Env E w→k≤s.size→Calls Tryz.prog 118 #[.pointer (some ⟨rb,0,none⟩)] w (ValPost E rb s o w (vf k)))
 (w:World) (k:Nat) (h:RL w rb s k o) (hk:k≤s.size) (hE:Env E w) :
 Calls Tryz.prog 164 #[.pointer (some ⟨rb,0,none⟩)] w (ValPost E rb s o w (fvR vf s k)):=by
 have hrl:=blk_lt h;have hA0:VL (w.alloc (.cells vNull 28)) w.heap.size vNull:=vl_new w vNull;have hB0:Below w.heap.size w (w.alloc (.cells vNull 28)):=(Below.refl _ _).alloc (Nat.le_refl _) _;have hR0:=h.below hB0 hrl;have HR:Hid (fvR vf s k=if nxt s (gap s k)=58 then vf (gap s k+1) else .inr (5,gap s k)):=rfl;have SK:=hide (skip_any gapB rb s k o _ hR0 hk (by omega));have NX:=hide (fun (k:Nat) (w:World) h1 h2 h3=>next_any rb s k o w h1 h2 E h3);have FA:=hide (fun (k:Nat) (w:World) h1=>fault_any rb s k o 264 (E 5) w h1);have HVC:=hide VC;have HEn:=hide hE;have NS:=hide (nxt_some s);obtain ⟨gl1,gl2⟩:=skipTo_le gapB.data.toList s k hk;have hgp:∀ k,skipTo gapB.data.toList s k=gap s k:=fun _=>rfl
 rw [hgp] at gl1 gl2;generalize fvR vf s k=res at HR ⊢;clear hE h VC hR0;simp only [vc,nilS,vNull,zed] at SK
 go_enter Tryz.func164,Tryz.ntmps164
 go_wp2_with fail
 refine (uh SK).mono ?_;rintro e u1 ⟨rfl,hR1,hM1⟩;rw [hgp] at hR1;generalize gap s k=k1 at *;have hA1:=hide (hM1.obj (by omega) hA0);have HR1:=hide hR1;have HM1:=hide ((Mv.of hB0).trans hM1);clear hA0 hB0 hR1 hM1 SK hgp
 go_wp2_with fail
 refine (uh NX k1 _ (uh HR1) gl2 ((uh HEn).mv (uh HM1) hr)).mono ?_;rintro e u2 ⟨rfl,hb2⟩;have hA2:=hide ((hb2.block _ (blk_lt (uh hA1))).trans (uh hA1));have HR2:=hide ((uh HR1).below hb2 (blk_lt (uh HR1)));have HM2:=hide ((uh HM1).trans (Mv.of hb2));clear hb2 hA1 HR1 HM1 NX;have hNS:=hide (uh NS k1 gl2);obtain ⟨n0,n1⟩:=nxt_bd s k1;generalize nxt s k1=nx at *;have hEn2:=hide ((uh HEn).mv (uh HM2) hr);have hw2:w.heap.size < u2.heap.size:=blk_lt (uh hA2);obtain ⟨c0,c1,c2⟩:=(uh HR2).cells;obtain ⟨f1,f2⟩:=(uh HR2).frees
 by_cases q58:nx=58
 · subst q58
   have hk1:k1 < s.size:=uh hNS (by omega);have HR0:Hid (res=vf (k1+1)):=(uh HR).trans (if_pos rfl);have hRa:=(uh HR2).to ((k1:Int)+1);rw [show ((k1:Int)+1)=((k1+1:Nat):Int) by omega] at hRa;have hMa:Mv rb u2 (u2.setCell ⟨rb,1,none⟩ (.int .i64 ((k1+1:Nat):Int))):=Mv.set _ 1 _;have HV:=hide (uh HVC _ (k1+1) hRa ((uh hEn2).mv hMa hr) (by omega));have hb1:((k1:Int)+1)=((k1+1:Nat):Int):=by omega
   have hAa:=hide (hMa.obj (by omega) (uh hA2));have HMa:=hide ((uh HM2).trans hMa);have hsz:u2.heap.size≤(u2.setCell ⟨rb,1,none⟩ (.int .i64 ((k1+1:Nat):Int))).heap.size:=hMa.size;clear hRa hMa HR HVC FA hNS;rw [← hb1] at HV hAa HMa hsz;clear hb1;generalize vf (k1+1)=vr at *
   go_wp2_with fail
   refine (uh HV).mono ?_;rintro e u3 ⟨hh,hM3⟩;have hA3:=hide (hM3.obj (by omega) (uh hAa));have HM3:=hide ((uh HMa).trans hM3);have hsz3:w.heap.size < (u2.setCell ⟨rb,1,none⟩ (.int .i64 ((k1:Int)+1))).heap.size:=by omega
   generalize (u2.setCell ⟨rb,1,none⟩ (.int .i64 ((k1:Int)+1))).heap.size=H3 at *;clear hM3 hAa HMa HV c0 c1 c2 f1 f2 hA2 HR2 HM2 hEn2;obtain ⟨q0,q1,q2,q3,q4,q5,q6,q7⟩:=VL.cells (show VL u3 w.heap.size (vc 0 false zed ⟨#[]⟩ nilS nilS) from uh hA3);obtain ⟨g0,g1,g2,g3,g4,g5,g6,g7⟩:=VL.frees (uh hA3);simp only [zed,nilS] at q0 q1 q2 q3 q4 q5 q6 q7;have hne:w.heap.size≠rb:=by omega
   rcases hh with ⟨v,k',cs,p,rfl,hk',rfl,hR,hV,hpn⟩|⟨g,k',fb,rfl,hk',rfl,hfb,hfl,kx,ox,hRx⟩
   · obtain ⟨a,t,ng,dg,ex,x,q1',n1',m1',q2',n2',m2',hc⟩:=hV.shape
     rw [hc];have hcs:(vc a t ⟨ng,dg,ex⟩ x (.slice q1' n1' m1') (.slice q2' n2' m2')).toList=cs:=(congrArg Array.toList hc).symm;have HV:=hide hV;have HR':=hide hR;have HPN:=hide hpn;clear hV hR hpn hc;simp only [c8];go_wp2;have hU:=put8_upd u3 w.heap.size a t ⟨ng,dg,ex⟩ x (.slice q1' n1' m1') (.slice q2' n2' m2')
     have hVf:VRep (put8 u3 w.heap.size a t ⟨ng,dg,ex⟩ x (.slice q1' n1' m1') (.slice q2' n2' m2')) w.heap.size v (vc a t ⟨ng,dg,ex⟩ x (.slice q1' n1' m1') (.slice q2' n2' m2')).toList p:=by
      rw [hcs];exact ((uh HV).keep fun b hb=>hU.block b ((uh HV).ge b hb).2 (by have:=((uh HV).ge b hb).1;omega)).base (by omega)
     exact bodyPost_ret (ret_fieldValue (m:=w.heap.size) _ a t ⟨ng,dg,ex⟩ x (.slice q1' n1' m1') (.slice q2' n2' m2') .nilIface (put8_lies (k':=0) (t':=false) (d':=zed) (x':=⟨#[]⟩) (lv':=nilS) (fv':=nilS) (uh hA3) a t ⟨ng,dg,ex⟩ x (.slice q1' n1' m1') (.slice q2' n2' m2')) _ rfl rfl) rfl
      ⟨.inl ⟨v,k',_,p,uh HR0,hk',rfl,hU.obj (Ne.symm hne) (uh HR'),hVf,uh HPN⟩,(uh HM3).own (Nat.le_refl _) hU⟩
   · have HR':=hide hRx
     have HFL:=hide hfl;clear hRx hfl;simp only [vNull,vc,zed,nilS];go_wp2;have hU:=put8_upd u3 w.heap.size 0 false zed ⟨#[]⟩ nilS nilS
     exact bodyPost_ret (ret_fieldValue (m:=w.heap.size) _ 0 false zed ⟨#[]⟩ nilS nilS _ (put8_lies (k':=0) (t':=false) (d':=zed) (x':=⟨#[]⟩) (lv':=nilS) (fv':=nilS) (uh hA3) 0 false zed ⟨#[]⟩ nilS nilS) _ rfl rfl) rfl
      ⟨.inr ⟨g,k',fb,uh HR0,hk',rfl,by omega,hU.obj (by omega) (uh HFL),kx,ox,hU.obj (Ne.symm hne) (uh HR')⟩,(uh HM3).own (Nat.le_refl _) hU⟩
 · have HR0:Hid (res=.inr (5,k1)):=(uh HR).trans (if_neg q58)
   have q58':(nx == 58)=false:=by simpa using q58
   have hT:=(uh hEn2).err 5 (by simp);clear HR HVC hNS q58
   go_wp2_with fail
   refine (uh FA k1 _ (uh HR2)).mono ?_;rintro e u3 ⟨rfl,hu⟩;have hb:Below u2.heap.size u2 u3:=by rw [hu];exact (Below.refl _ _).alloc (Nat.le_refl _) _
   have hfl:FL u3 u2.heap.size k1 264 (E 5):=by
    rw [hu];show (Array.push _ _)[_]?=_;rw [Array.getElem?_push_size]
   have hA3:=hide ((hb.block _ hw2).trans (uh hA2));have HM3:=hide ((uh HM2).trans (Mv.of hb));have HR3:=hide ((uh HR2).below hb (blk_lt (uh HR2)));have HFL:=hide hfl;clear hu hfl hb hA2 HM2 HR2 hT c0 c1 c2 f1 f2 FA;obtain ⟨q0,q1,q2,q3,q4,q5,q6,q7⟩:=VL.cells (show VL u3 w.heap.size (vc 0 false zed ⟨#[]⟩ nilS nilS) from uh hA3);obtain ⟨g0,g1,g2,g3,g4,g5,g6,g7⟩:=VL.frees (uh hA3);simp only [zed,nilS] at q0 q1 q2 q3 q4 q5 q6 q7;have hne:w.heap.size≠rb:=by omega
   have hnf:w.heap.size≠u2.heap.size:=by omega
   go_wp2;have hU:=put8_upd u3 w.heap.size 0 false zed ⟨#[]⟩ nilS nilS
   exact bodyPost_ret (ret_fieldValue (m:=w.heap.size) _ 0 false zed ⟨#[]⟩ nilS nilS _ (put8_lies (k':=0) (t':=false) (d':=zed) (x':=⟨#[]⟩) (lv':=nilS) (fv':=nilS) (uh hA3) 0 false zed ⟨#[]⟩ nilS nilS) _ rfl rfl) rfl
    ⟨.inr ⟨_,k1,u2.heap.size,uh HR0,gl2,rfl,by omega,hU.obj (Ne.symm hnf) (uh HFL),k1,o,hU.obj (Ne.symm hne) (uh HR3)⟩,(uh HM3).own (Nat.le_refl _) hU⟩
end Go.Proofs.YthnhobplgmojeaaGreatDoor.rd
