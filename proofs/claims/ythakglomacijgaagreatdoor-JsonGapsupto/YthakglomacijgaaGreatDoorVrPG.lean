/- Texts in one: Vr Li Lj -/
import Derived.Test.YthakglomacijgaaGreatDoorRuPG
import Derived.Test.YthakglomacijgaaGreatDoorIaPG
import Derived.Laws.OwnMore
import Derived.Deep.RegionHeld3
import Derived.Deep.Cut
namespace Go.Proofs.YthakglomacijgaaGreatDoor.rd
open Go.RowKit
def ValPost (E:Nat→Value) (rb:Nat) (s:ByteArray) (o:Int) (w:World) (r:(JT × Nat) ⊕ (Nat × Nat)) (e:Ending) (w':World):Prop :=
 ((∃ v k cs p,r=.inl (v,k)∧k≤s.size∧e=.returned (.tuple #[.agg cs.toArray,.nilIface])∧RL w' rb s k o∧VRep w' w.heap.size v cs p∧p.Nodup) ∨
  (∃ g k fb,r=.inr (g,k)∧k≤s.size∧e=.returned (.tuple #[.agg vNull,.iface 92 (.pointer (some ⟨fb,0,none⟩))])∧w.heap.size≤fb∧FL w' fb k 231 (E g)∧∃ k' o',RL w' rb s k' o'))∧Mv rb w w'
def LSt (rb rp lb B:Nat) (l:List JT) (w:World):Prop :=
 w.heap[rp]?=some (.cells #[.pointer (some ⟨rb,0,none⟩)] 109 (0,0)) ∧
 ∃ (sv:Value) (css:List (List Value)) (ps:List (List Nat)),w.heap[lb]?=some (.cells #[sv] 24 (0,0))∧w.ownsRow B 27 8 sv l.length css.flatten∧css.length=l.length∧ps.length=l.length ∧
   (∀ (i:Nat) (v:JT) (c:List Value) (p:List Nat),l[i]?=some v→css[i]?=some c→ps[i]?=some p→VRep w B v c p)∧(own sv++ps.flatten).Nodup
def c8 (k:Int) (t ng:Bool) (dg:ByteArray) (ex:Int) (x:ByteArray) (q1:Option Addr) (n1 m1:Nat) (q2:Option Addr) (n2 m2:Nat):Array Value:=#[.int .i64 k,.bool t,.bool ng,.string dg,.int .i64 ex,.string x,.slice q1 n1 m1,.slice q2 n2 m2]
theorem owns_slice {w:World}{B:Nat}{e:TypeId}{size:Nat}{v:Value}{n:Nat}{xs:List Value} (h:w.ownsRow B e size v n xs):∃ q m,v=.slice q n m∧∀ b,v.ownBlock=some b→q=some ⟨b,0,none⟩:=by
 rcases h.2 with ⟨rfl,rfl⟩|⟨g,cap,cur,rfl,_⟩
 · exact ⟨none,0,rfl,fun b hb=>by simp [Value.ownBlock] at hb⟩
 · exact ⟨_,_,rfl,fun b hb=>by simp [Value.ownBlock] at hb;rw [hb]⟩
theorem VRep.shape {w:World}{B:Nat}{v:JT}{cs:List Value}{p:List Nat} (h:VRep w B v cs p):∃ k t ng dg ex x q1 n1 m1 q2 n2 m2,cs.toArray=c8 k t ng dg ex x q1 n1 m1 q2 n2 m2:=by
 cases h with
 | mk hl hf h1 h2 h3 h4 hle hfe =>
   obtain ⟨q1,m1,rfl,_⟩:=owns_slice hl
   obtain ⟨q2,m2,rfl,_⟩:=owns_slice hf
   exact ⟨_,_,_,_,_,_,_,_,_,_,_,_,rfl⟩
def putAt (w:World) (g o:Nat) (a0 a1 a2 a3 a4 a5 a6 a7:Value):World :=
 (((((((w.setCell ⟨g,o,none⟩ a0).setCell ⟨g,o+1,none⟩ a1).setCell ⟨g,o+2,none⟩ a2).setCell ⟨g,o+3,none⟩ a3).setCell ⟨g,o+4,none⟩ a4).setCell ⟨g,o+5,none⟩ a5).setCell ⟨g,o+6,none⟩ a6).setCell ⟨g,o+7,none⟩ a7
theorem putAt_upd (w:World) (g o:Nat) (a0 a1 a2 a3 a4 a5 a6 a7:Value):Mv g w (putAt w g o a0 a1 a2 a3 a4 a5 a6 a7) :=
 (((((((Mv.set _ _ _).trans (Mv.set _ _ _)).trans (Mv.set _ _ _)).trans (Mv.set _ _ _)).trans (Mv.set _ _ _)).trans (Mv.set _ _ _)).trans (Mv.set _ _ _)).trans (Mv.set _ _ _)
theorem set_at {xs ys:List Value}{n j:Nat} (hx:xs.length=n) (a:Value):(xs++ys).set (n+j) a=xs++ys.set j a:=by
 rw [List.set_append_right _ _ (by omega)]
 congr 2
 omega
theorem putAt_owns {w:World}{B:Nat}{e:TypeId}{g n m cap:Nat}{xs:List Value}{z0 z1 z2 z3 z4 z5 z6 z7:Value} (h:w.ownsRow B e 8 (.slice (some ⟨g,0,none⟩) m cap) m (xs++[z0,z1,z2,z3,z4,z5,z6,z7])) (hx:xs.length=n) (a0 a1 a2 a3 a4 a5 a6 a7:Value) :
 (putAt w g n a0 a1 a2 a3 a4 a5 a6 a7).ownsRow B e 8 (.slice (some ⟨g,0,none⟩) m cap) m (xs++[a0,a1,a2,a3,a4,a5,a6,a7]):=by
 have h0:=(h.stored (n+0) a0).1
 have h1:=(h0.stored (n+1) a1).1
 have h2:=(h1.stored (n+2) a2).1
 have h3:=(h2.stored (n+3) a3).1
 have h4:=(h3.stored (n+4) a4).1
 have h5:=(h4.stored (n+5) a5).1
 have h6:=(h5.stored (n+6) a6).1
 have h7:=(h6.stored (n+7) a7).1
 rw [set_at hx,set_at hx,set_at hx,set_at hx,set_at hx,set_at hx,set_at hx,set_at hx] at h7
 exact h7
structure Added (u wf:World) (lb:Nat) (sv:Value) (n g cap:Nat) (row:List Value):Prop where
 os:wf.os=u.os
 tape:wf.tape=u.tape
 output:wf.output=u.output
 size:u.heap.size≤wf.heap.size
 block:∀ b,b < u.heap.size→b≠lb→b ∉ own sv→wf.heap[b]?=u.heap[b]?
 list:wf.heap[lb]?=some (.cells #[.slice (some ⟨g,0,none⟩) (n+1) cap] 24 (0,0))
 owns:wf.ownsRow (lb+1) 27 8 (.slice (some ⟨g,0,none⟩) (n+1) cap) (n+1) row
 lies:g∈own sv∨u.heap.size≤g
theorem added_core {u U w1 wf:World}{lb:Nat}{sv:Value}{n g cap:Nat}{row:List Value}{o:Obj} (hb:Below u.heap.size u U) (hg:(U.alloc o).grownBy w1 sv.ownBlock)
 (hat:sv.ownBlock=some g∨U.heap.size≤g) (hos:wf.os=w1.os) (htape:wf.tape=w1.tape) (hout:wf.output=w1.output) (hsz:w1.heap.size≤wf.heap.size) (hbl:∀ b,b < w1.heap.size→b≠lb→b≠g→wf.heap[b]?=w1.heap[b]?)
 (hlist:wf.heap[lb]?=some (.cells #[.slice (some ⟨g,0,none⟩) (n+1) cap] 24 (0,0))) (hown:wf.ownsRow (lb+1) 27 8 (.slice (some ⟨g,0,none⟩) (n+1) cap) (n+1) row):Added u wf lb sv n g cap row:=by
 have hs1:=hg.size
 have hs2:=hb.size
 have hal:(U.alloc o).heap.size=U.heap.size+1:=Array.size_push _
 refine ⟨?_,?_,?_,by omega,?_,hlist,hown,?_⟩
 · rw [hos,hg.os];exact hb.os
 · rw [htape,hg.tape];exact hb.tape
 · rw [hout,hg.output];exact hb.output
 · intro b hbu hbl' hbo
   have hne:b≠g:=by
    rcases hat with h|h
    · intro e
      apply hbo
      rw [e]
      simp [own,h]
    · omega
   rw [hbl b (by omega) hbl' hne,hg.block b (by omega) (fun e=>hbo (by simp [own,← e]))]
   exact (Below.heap_alloc U o b (by omega)).trans (hb.block b hbu)
 · rcases hat with h|h
   · exact .inl (by simp [own,h])
   · exact .inr (by omega)
def lstep (vf:Nat→(JT × Nat) ⊕ (Nat × Nat)) (l:List JT) (k:Nat):(List JT × Nat) ⊕ (Nat × Nat):=match vf k with
 | .inl (v,k')=>.inl (l++[v],k')
 | .inr e=>.inr e
theorem LSt.mv {rb rp lb B:Nat}{l:List JT}{w w':World} (h:LSt rb rp lb B l w) (hm:Mv rb w w') (h1:rb < rp) (h2:rb < lb) (h3:rb < B):LSt rb rp lb B l w':=by
 obtain ⟨hp,sv,css,ps,hl,ho,e1,e2,hv,hn⟩:=h
 refine ⟨hm.obj (by omega) hp,sv,css,ps,hm.obj (by omega) hl,owns_keep ho fun b hb=>?_,e1,e2,fun i v c p a1 a2 a3=>?_,hn⟩
 · have:=owns_ge ho b hb
   exact hm.block b this.2 (by omega)
 · have hr:=hv i v c p a1 a2 a3
   refine hr.keep fun b hb=>?_
   have:=hr.ge b hb
   exact hm.block b this.2 (by omega)
theorem get_snoc {α:Type}{l:List α}{x y:α}{i:Nat} (h:(l++[x])[i]?=some y):l[i]?=some y∨(i=l.length∧y=x):=by
 rcases Nat.lt_trichotomy i l.length with hi|hi|hi
 · rw [List.getElem?_append_left hi] at h
   exact .inl h
 · rw [List.getElem?_append_right (by omega),hi,Nat.sub_self] at h
   exact .inr ⟨hi,by simpa using h.symm⟩
 · rw [List.getElem?_append_right (by omega)] at h
   have:i - l.length=(i - l.length - 1)+1:=by omega
   rw [this] at h
   simp at h
theorem get_lt {α:Type}{l:List α}{y:α}{i:Nat} (h:l[i]?=some y):i < l.length:=by
 obtain ⟨h,_⟩:=List.getElem?_eq_some_iff.1 h
 exact h
theorem LSt.add {rb rp lb:Nat}{l:List JT}{u wf:World}{sv:Value}{css:List (List Value)}{ps:List (List Nat)}{g cap B:Nat}{v:JT}{c:List Value}{p:List Nat}
 (hp:u.heap[rp]?=some (.cells #[.pointer (some ⟨rb,0,none⟩)] 109 (0,0))) (hrp:rp < lb) (ho:u.ownsRow (lb+1) 27 8 sv l.length css.flatten) (e1:css.length=l.length) (e2:ps.length=l.length)
 (hv:∀ (i:Nat) (v:JT) (c:List Value) (p:List Nat),l[i]?=some v→css[i]?=some c→ps[i]?=some p→VRep u (lb+1) v c p) (hn:(own sv++ps.flatten).Nodup)
 (hB:lb+1≤B) (hlow:∀ b∈own sv++ps.flatten,b < B) (hnew:VRep u B v c p) (hpn:p.Nodup) (hA:Added u wf lb sv l.length g cap (css.flatten++c)):LSt rb rp lb (lb+1) (l++[v]) wf:=by
 have hsv:=owns_ge ho
 have hpg:=hnew.ge
 have hsub:∀ b,b∈own sv→b < B:=fun b hb=>hlow b (by simp [hb])
 have hg:g ∉ ps.flatten∧g ∉ p:=by
  rcases hA.lies with h|h
  · refine ⟨fun q=>?_,fun q=>?_⟩
    · exact (List.nodup_append.1 hn).2.2 g h g q rfl
    · have:=hsub g h;have:=(hpg g q).1;omega
  · refine ⟨fun q=>?_,fun q=>?_⟩
    · obtain ⟨p',hp',hq⟩:=List.mem_flatten.1 q
      obtain ⟨i,hi⟩:=List.getElem?_of_mem hp'
      have hil:=get_lt hi
      have:=((hv i _ _ p' (List.getElem?_eq_getElem (by omega)) (List.getElem?_eq_getElem (by omega)) hi).ge g hq).2
      omega
    · have:=(hpg g q).2;omega
 have hkeep:∀ b,b < u.heap.size→lb < b→b ∉ own sv→wf.heap[b]?=u.heap[b]?:=fun b h1 h2 h3=>hA.block b h1 (by omega) h3
 refine ⟨?_,.slice (some ⟨g,0,none⟩) (l.length+1) cap,css++[c],ps++[p],hA.list,?_,by simp [e1],by simp [e2],?_,?_⟩
 · rw [hA.block rp (blk_lt hp) (by omega) (fun q=>by have:=(hsv rp q).1;omega)]
   exact hp
 · simpa using hA.owns
 · intro i v' c' p' a1 a2 a3
   rcases get_snoc a1 with b1|⟨b1,rfl⟩
   · have hi:=get_lt b1
     have b2:css[i]?=some c':=by rwa [List.getElem?_append_left (by omega)] at a2
     have b3:ps[i]?=some p':=by rwa [List.getElem?_append_left (by omega)] at a3
     have hr:=hv i v' c' p' b1 b2 b3
     refine hr.keep fun b hb=>?_
     have hbg:=hr.ge b hb
     exact hkeep b hbg.2 (by omega) fun q=>(List.nodup_append.1 hn).2.2 b q b (mem_flat b3 hb) rfl
   · have b2:c'=c:=by
      rcases get_snoc a2 with q|⟨_,q⟩
      · have:=get_lt q;omega
      · exact q
     have b3:p'=p:=by
      rcases get_snoc a3 with q|⟨_,q⟩
      · have:=get_lt q;omega
      · exact q
     subst b2 b3
     refine (hnew.base hB).keep fun b hb=>?_
     have hbg:=hpg b hb
     exact hkeep b hbg.2 (by omega) fun q=>by have:=hsub b q;omega
 · have hnp:=(List.nodup_append.1 hn).2.1
   have hog:own (.slice (some ⟨g,0,none⟩) (l.length+1) cap)=[g]:=by simp [own,Value.ownBlock]
   rw [hog,List.flatten_append]
   simp only [List.flatten_cons,List.flatten_nil,List.append_nil,List.singleton_append]
   refine List.nodup_cons.2 ⟨by simp only [List.mem_append];exact fun q=>q.elim hg.1 hg.2,?_⟩
   refine List.nodup_append.2 ⟨hnp,hpn,fun a ha b hb e=>?_⟩
   have:=hlow a (by simp [ha])
   have:=(hpg b hb).1
   omega
theorem infoV:(Tryz.prog.info? 27).map (fun i=>(i.zero,i.size,i.bytes))=some (some (.agg vNull),8,112):=by kernel_rfl
theorem owns_mv {rb:Nat}{w w':World}{B:Nat}{e:TypeId}{size:Nat}{v:Value}{n:Nat}{xs:List Value} (h:w.ownsRow B e size v n xs) (hm:Mv rb w w') (hr:rb < B):w'.ownsRow B e size v n xs :=
 owns_keep h fun b hb=>hm.block b (owns_ge h b hb).2 (by have:=(owns_ge h b hb).1;omega)
theorem list1_fin {E:Nat→Value}{rb rp lb:Nat}{s:ByteArray}{o:Int}{vf:Nat→(JT × Nat) ⊕ (Nat × Nat)}{w u1:World}{l:List JT}{k:Nat}{sv:Value}{css:List (List Value)}{ps:List (List Nat)}{e:Ending}
 (h1:rb < rp) (h2:rp < lb)
 (hp:w.heap[rp]?=some (.cells #[.pointer (some ⟨rb,0,none⟩)] 109 (0,0))) (hl:w.heap[lb]?=some (.cells #[sv] 24 (0,0))) (ho:w.ownsRow (lb+1) 27 8 sv l.length css.flatten) (e1:css.length=l.length) (e2:ps.length=l.length)
 (hv:∀ (i:Nat) (v:JT) (c:List Value) (p:List Nat),l[i]?=some v→css[i]?=some c→ps[i]?=some p→VRep w (lb+1) v c p) (hn:(own sv++ps.flatten).Nodup)
 (h:ValPost E rb s o w (vf k) e u1) :
 ∃ a t ng dg ex x q1 n1 m1 q2 n2 m2 ev,e=.returned (.tuple #[.agg (c8 a t ng dg ex x q1 n1 m1 q2 n2 m2),ev]) ∧
   ∀ wf g cap,Added u1 wf lb sv l.length g cap (css.flatten++(c8 a t ng dg ex x q1 n1 m1 q2 n2 m2).toList)→ItemPost (LSt rb rp lb (lb+1)) E rb s o lb w (lstep vf l k) (.returned ev) wf:=by
 obtain ⟨h,hM⟩:=h
 have hlw:=blk_lt hl
 have hsv:=owns_ge ho
 have hstep:∀ r,vf k=r→lstep vf l k=match r with
  | .inl (v,k')=>.inl (l++[v],k')
  | .inr e=>.inr e:=fun r hr=>by rw [← hr];rfl
 have hMB:∀ (wf:World) (g cap:Nat) (row:List Value),Added u1 wf lb sv l.length g cap row→MvB rb lb w wf:=fun wf g cap row hA =>
  ⟨hA.os.trans hM.os,hA.tape.trans hM.tape,hA.output.trans hM.output,Nat.le_trans hM.size hA.size,fun b hb hne =>
   (hA.block b (by have:=hM.size;omega) (by omega) (fun q=>by have:=(hsv b q).1;omega)).trans (hM.block b (by omega) hne)⟩
 have hrl:∀ (wf:World) (g cap:Nat) (row:List Value) (a b:Int),Added u1 wf lb sv l.length g cap row→RL u1 rb s a b→RL wf rb s a b:=fun wf g cap row a b hA hR =>
  (hA.block rb (blk_lt hR) (by omega) (fun q=>by have:=(hsv rb q).1;omega)).trans hR
 rcases h with ⟨v,k',cs,p,hr,hk',rfl,hR,hV,hpn⟩|⟨g,k',fb,hr,hk',rfl,hfb,hfl,kx,ox,hRx⟩
 · obtain ⟨a,t,ng,dg,ex,x,q1,n1,m1,q2,n2,m2,hc⟩:=hV.shape
   refine ⟨a,t,ng,dg,ex,x,q1,n1,m1,q2,n2,m2,.nilIface,by rw [hc],fun wf g cap hA=>⟨.inl ⟨l++[v],k',hstep _ hr,hk',rfl,hrl _ _ _ _ _ _ hA hR,?_⟩,hMB _ _ _ _ hA⟩⟩
   have hcs:(c8 a t ng dg ex x q1 n1 m1 q2 n2 m2).toList=cs:=by rw [← hc]
   rw [hcs] at hA
   have hvg:∀ (i:Nat) (v:JT) (c:List Value) (p:List Nat),l[i]?=some v→css[i]?=some c→ps[i]?=some p→VRep u1 (lb+1) v c p:=fun i v c p a1 a2 a3=>by
    have hr:=hv i v c p a1 a2 a3
    exact hr.keep fun b hb=>hM.block b (hr.ge b hb).2 (by have:=(hr.ge b hb).1;omega)
   refine LSt.add (B:=w.heap.size) (hM.obj (by omega) hp) h2 (owns_mv ho hM (by omega)) e1 e2 hvg hn (by omega) ?_ hV hpn hA
   intro b hb
   rcases List.mem_append.1 hb with hb|hb
   · exact (hsv b hb).2
   · obtain ⟨p',hp',hq⟩:=List.mem_flatten.1 hb
     obtain ⟨i,hi⟩:=List.getElem?_of_mem hp'
     have hil:=get_lt hi
     exact ((hv i _ _ p' (List.getElem?_eq_getElem (by omega)) (List.getElem?_eq_getElem (by omega)) hi).ge b hq).2
 · refine ⟨0,false,false,⟨#[]⟩,0,⟨#[]⟩,none,0,0,none,0,0,_,rfl,fun wf g' cap hA=>⟨.inr ⟨g,k',fb,hstep _ hr,hk',rfl,by omega,?_,kx,ox,hrl _ _ _ _ _ _ hA hRx⟩,hMB _ _ _ _ hA⟩⟩
   exact (hA.block fb (blk_lt hfl) (by omega) (fun q=>by have:=(hsv fb q).2;omega)).trans hfl
end Go.Proofs.YthakglomacijgaaGreatDoor.rd
