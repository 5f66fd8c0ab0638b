/- Texts in one: Lr Lt Lu Lv Or Ou -/
import Derived.Test.YtilhjecnkaokeaaGreatDoorIwP
import Derived.Test.YtilhjecnkaokeaaGreatDoorScP
import Derived.Test.YtilhjecnkaokeaaGreatDoorLcP
namespace Go.Proofs.YtilhjecnkaokeaaGreatDoor.rd
open Go.RowKit
theorem nl_addM {m B:Nat}{wr u w4:World}{ls:List JT}{sv:Value}{css:List (List Value)}{ps:List (List Nat)}{v:JT}{cs:List Value}{p:List Nat}{g cap:Nat}
 (hm:m < B) (hx:BX wr m [.int .i64 4,.bool false,.bool false,.string ⟨#[]⟩,.int .i64 0,.string ⟨#[]⟩,sv,.slice none 0 0])
 (ho:wr.ownsRow (B) 28 8 sv ls.length css.flatten) (e1:css.length=ls.length) (e2:ps.length=ls.length)
 (hv:∀ (i:Nat) (v:JT) (c:List Value) (p:List Nat),ls[i]?=some v→css[i]?=some c→ps[i]?=some p→VRep wr (B) v c p) (hn:(own sv++ps.flatten).Nodup)
 (hsu:wr.heap.size≤u.heap.size) (hbk:∀ b,m≤b→b < wr.heap.size→u.heap[b]?=wr.heap[b]?) (hr:VRep u wr.heap.size v cs p) (hp:p.Nodup) (hs:B≤wr.heap.size) (hg:GR u w4 (B) ls.length sv css.flatten cs g cap) :
 NL m B (w4.setCell ⟨m,6,none⟩ (.slice (some ⟨g,0,none⟩) (ls.length+1) cap)) (ls++[v]):=by
 have hU:=Upd.setCell (m) 6 w4 (.slice (some ⟨g,0,none⟩) (ls.length+1) cap)
 have hsv:∀ b,sv.ownBlock=some b→B≤b∧b < wr.heap.size:=fun b hb=>mm.row_lt ho b hb
 have hgb:B≤g:=by
  rcases hg.lies with e|e
  · exact (hsv g e).1
  · omega
 have stay:∀ b,b < u.heap.size→sv.ownBlock≠some b→b≠m→(w4.setCell ⟨m,6,none⟩ (.slice (some ⟨g,0,none⟩) (ls.length+1) cap)).heap[b]?=u.heap[b]?:=fun b h1 h2 h3=>(hU.block b h3).trans (hg.far h1 h2)
 have hold:∀ b∈ps.flatten,B≤b∧b < wr.heap.size:=by
  intro b hbm
  obtain ⟨q,hq,hbq⟩:=List.mem_flatten.1 hbm
  obtain ⟨i,hi⟩:=List.getElem?_of_mem hq
  obtain ⟨hlt,_⟩:=List.getElem?_eq_some_iff.1 hi
  exact (hv i _ _ q (List.getElem?_eq_getElem (by omega)) (List.getElem?_eq_getElem (by omega)) hi).ge b hbq
 have hnew:∀ b∈p,wr.heap.size≤b∧b < u.heap.size:=hr.ge
 have hnd:=List.nodup_append.1 hn
 refine ⟨.slice (some ⟨g,0,none⟩) (ls.length+1) cap,css++[cs],ps++[p],?_,?_,by simp [e1],by simp [e2],?_,?_⟩
 · have h6:w4.heap[m]?=some (.cells #[.int .i64 4,.bool false,.bool false,.string ⟨#[]⟩,.int .i64 0,.string ⟨#[]⟩,sv,.slice none 0 0] 28 (0,0)) :=
    (hg.far (by omega) (fun e=>by have:=(hsv _ e).1;omega)).trans ((hbk _ (Nat.le_refl _) (by omega)).trans hx)
   have:=blk_set h6 6 (.slice (some ⟨g,0,none⟩) (ls.length+1) cap)
   simpa [BX] using this
 · rw [List.flatten_append,List.length_append]
   have:=hg.row
   refine mm.row_keep (by simpa using this) (fun k hk=>hU.block k ?_)
   cases hk
   show g≠m
   omega
 · intro i v' c q h1 h2 h3
   by_cases hi:i < ls.length
   · rw [List.getElem?_append_left hi] at h1
     rw [List.getElem?_append_left (by omega)] at h2 h3
     have:=hv i v' c q h1 h2 h3
     refine this.keep fun b hbq=>?_
     have hm:=mem_flat h3 hbq
     have h4:=hold b hm
     exact (stay b (by omega) (fun e=>hnd.2.2 b (own_mem.2 e) b hm rfl) (by omega)).trans (hbk b (by omega) h4.2)
   · have hil:i=ls.length:=by
      obtain ⟨hlt,_⟩:=List.getElem?_eq_some_iff.1 h1
      rw [List.length_append,List.length_singleton] at hlt
      omega
     subst hil
     rw [List.getElem?_append_right (Nat.le_refl _),Nat.sub_self] at h1
     rw [List.getElem?_append_right (by omega)] at h2 h3
     rw [show ls.length - css.length=0 by omega] at h2
     rw [show ls.length - ps.length=0 by omega] at h3
     simp only [List.getElem?_cons_zero,Option.some.injEq] at h1 h2 h3
     subst h1 h2 h3
     refine (hr.base hs).keep fun b hbq=>?_
     have h4:=hnew b hbq
     exact stay b h4.2 (fun e=>by have:=(hsv b e).2;omega) (by omega)
 · rw [List.flatten_append]
   simp only [List.flatten_cons,List.flatten_nil,List.append_nil]
   have hog:own (.slice (some ⟨g,0,none⟩) (ls.length+1) cap)=[g]:=rfl
   rw [hog]
   have hgo:g ∉ ps.flatten:=by
    intro hm
    rcases hg.lies with e|e
    · exact hnd.2.2 g (own_mem.2 e) g hm rfl
    · have:=(hold g hm).2;omega
   have hgp:g ∉ p:=by
    intro hm
    rcases hg.lies with e|e
    · have:=(hsv g e).2
      have:=(hnew g hm).1
      omega
    · have:=(hnew g hm).2;omega
   rw [List.nodup_append]
   refine ⟨by simp,?_,?_⟩
   · rw [List.nodup_append]
     exact ⟨hnd.2.1,hp,fun a ha b hb' e=>by have:=(hold a ha).2;have:=(hnew b hb').1;omega⟩
   · intro a ha b hb' e
     simp only [List.mem_singleton] at ha
     subst ha
     subst e
     rcases List.mem_append.1 hb' with q|q
     · exact hgo q
     · exact hgp q
theorem VRep.sh8 {w:World}{B:Nat}{v:JT}{cs:List Value}{p:List Nat} (h:VRep w B v cs p):Sh8 cs:=by
 cases h with
 | mk hl hf _ _ _ _ _ _ =>
   obtain ⟨q1,n1,e1,_⟩:=mm.SV.form (mm.own_sv hl)
   obtain ⟨q2,n2,e2,_⟩:=mm.SV.form (mm.own_sv hf)
   subst e1 e2
   exact ⟨_,_,_,_,_,_,_,_,_,_,_,_,rfl⟩
theorem Sh8.one {cs:List Value} (h:Sh8 cs):cs.length=8∧∀ u∈cs,u.oneCell'=true:=by
 obtain ⟨k,t,ng,dg,ex,x,q1,n1,m1,q2,n2,m2,rfl⟩:=h
 refine ⟨rfl,fun u hu=>?_⟩
 simp only [List.mem_cons,List.not_mem_nil,or_false] at hu
 rcases hu with rfl|rfl|rfl|rfl|rfl|rfl|rfl|rfl <;> rfl
def RVC (rb:Nat) (s:ByteArray) (o:Int) (w:World) (r:(JT × Nat) ⊕ (Nat × Nat)) (cs:List Value) (w':World):Prop :=
 (∃ v k vr a p,r=.inl (v,k)∧k≤s.size∧a≤s.size∧gap s a=gap s k∧RF w' rb s (a:Nat) 0 o∧VRep w' w.heap.size vr cs p∧p.Nodup∧nrm vr=v∧Bd vr) ∨
 (∃ g k o',r=.inr (g,k)∧k≤s.size∧cdE g≠0∧(o - 1≤o'∧o'≤o+1)∧RF w' rb s (k:Nat) (cdE g) o')
theorem RVP.cells {rb:Nat}{s:ByteArray}{o:Int}{w:World}{r:(JT × Nat) ⊕ (Nat × Nat)}{e:Ending}{w':World} (h:RVP rb s o w r e w'):∃ cs,e=.returned (.agg cs.toArray)∧Sh8 cs∧RVC rb s o w r cs w'∧Mv rb w w':=by
 obtain ⟨h|h,hm⟩:=h
 · obtain ⟨v,k,vr,a,cs,p,e1,e2,e3,e4,e5,e6,e7,e8,e9,e10⟩:=h
   exact ⟨cs,e5,e7.sh8,.inl ⟨v,k,vr,a,p,e1,e2,e3,e4,e6,e7,e8,e9,e10⟩,hm⟩
 · obtain ⟨g,k,cs,o',e1,e2,e3,e4,e5,e7,e6⟩:=h
   exact ⟨cs,e4,e5,.inr ⟨g,k,o',e1,e2,e3,e7,e6⟩,hm⟩
theorem RVC.post {rb:Nat}{s:ByteArray}{o:Int}{w:World}{r:(JT × Nat) ⊕ (Nat × Nat)}{cs:List Value}{w':World} (h:RVC rb s o w r cs w') (h8:Sh8 cs) (hm:Mv rb w w'):RVP rb s o w r (.returned (.agg cs.toArray)) w':=by
 refine ⟨?_,hm⟩
 rcases h with h|h
 · obtain ⟨v,k,vr,a,p,e1,e2,e3,e4,e6,e7,e8,e9,e10⟩:=h
   exact .inl ⟨v,k,vr,a,cs,p,e1,e2,e3,e4,rfl,e6,e7,e8,e9,e10⟩
 · obtain ⟨g,k,o',e1,e2,e3,e7,e6⟩:=h
   exact .inr ⟨g,k,cs,o',e1,e2,e3,rfl,h8,e7,e6⟩
theorem isC_by (s:ByteArray) (k:Nat) (h:k < s.size) (b:UInt8):isC s k b=true↔by_ s k=(b.toNat:Int):=by
 rw [by_eq s k h]
 unfold isC
 have h2:k < s.data.toList.length:=by rw [Array.length_toList];exact h
 rw [List.getElem?_eq_getElem h2,beq_iff_eq,Option.some.injEq]
 exact Iff.rfl
theorem isC_nxt (s:ByteArray) (k:Nat) (hk:k≤s.size) (b:UInt8) (hb:b.toNat < 128):isC s k b=decide (nxt s k=(b.toNat:Int)):=by
 rcases Nat.lt_or_ge k s.size with h|h
 · rw [Bool.eq_iff_iff,isC_by s k h b,decide_eq_true_eq,nxt_low s k h b.toNat hb]
 · have e:nxt s k=-1:=if_pos (by omega)
   rw [e,decide_eq_false (by omega)]
   unfold isC
   rw [List.getElem?_eq_none (by rw [Array.length_toList];exact h)]
   rfl
theorem ret_rlist {m:Nat}{w:World}{a0 a1 a2 a3 a4 a5 a6 a7:Value} (h:BX w m [a0,a1,a2,a3,a4,a5,a6,a7]) (tmps:Array Value) (h2:tmps[2]?.getD undef=.pointer (some ⟨m,0,none⟩)) :
 (results Tryz.f81 tmps).run Tryz.prog w=.ok (.agg #[a0,a1,a2,a3,a4,a5,a6,a7]) w:=by
 obtain ⟨q0,q1,q2,q3,q4,q5,q6,q7⟩:=BX.cells h
 simp [results,Tryz.results81,h2,go_sem,q0,q1,q2,q3,q4,q5,q6,q7]
def lcs (sv:Value):List Value:=[.int .i64 4,.bool false,.bool false,.string ⟨#[]⟩,.int .i64 0,.string ⟨#[]⟩,sv,.slice none 0 0]
def LRel (rb m:Nat) (s:ByteArray) (o:Int) (vf:Nat→(JT × Nat) ⊕ (Nat × Nat)) (R:(List JT × Nat) ⊕ (Nat × Nat)) (w:World) (b:Bool) (wr:World):Prop :=
 Mv rb w wr∧((b=true∧∃ (ls:List JT) (a f:Nat),a≤s.size∧gap s a=a∧s.size+1≤a+f∧ls.length≤a∧RF wr rb s (a:Nat) 0 o∧NL m (m+1) wr ls∧(∀ v∈ls,Bd v)∧R=rowF (lstep vf) 93 s f (ls.map nrm) a) ∨
 (b=false∧∃ (ls:List JT) (g:Nat),g≤s.size∧gap s g=g∧ls.length≤s.size∧RF wr rb s (g:Nat) 0 o∧NL m (m+1) wr ls∧(∀ v∈ls,Bd v)∧R=if nxt s g=93 then .inl (ls.map nrm,g) else .inr (1,g)) ∨
 (b=false∧∃ (g k:Nat) (o':Int) (q:Option Addr) (n c:Nat),k≤s.size∧cdE g≠0∧(o - 1≤o'∧o'≤o+1)∧RF wr rb s (k:Nat) (cdE g) o'∧BX wr m (lcs (.slice q n c))∧R=.inr (g,k)))
theorem row_open {σ:Type} (step:σ→Nat→(σ × Nat) ⊕ (Nat × Nat)) (endc:Int) (s:ByteArray) (o:Int) (st:σ) (k:Nat) (ho:o≠64) :
 rowR step endc s o st k=rowE (if nxt s (gap s (k+1))=endc then .inl (st,gap s (k+1)) else rowF step endc s (s.size+1) st (gap s (k+1))):=by
 unfold rowR
 rw [if_neg ho]
 split <;> rfl
theorem rowF_ok {σ:Type}{step:σ→Nat→(σ × Nat) ⊕ (Nat × Nat)}{endc:Int}{s:ByteArray}{f:Nat}{st st':σ}{k k1:Nat} (h:step st k=.inl (st',k1)) :
 rowF step endc s (f+1) st k=if nxt s (gap s k1)=44 then rowF step endc s f st' (gap s k1+1) else if nxt s (gap s k1)=endc then .inl (st',gap s k1) else .inr (1,gap s k1):=by
 conv=>lhs;unfold rowF
 rw [h]
theorem rowF_err {σ:Type}{step:σ→Nat→(σ × Nat) ⊕ (Nat × Nat)}{endc:Int}{s:ByteArray}{f:Nat}{st:σ}{k:Nat}{e:Nat × Nat} (h:step st k=.inr e):rowF step endc s (f+1) st k=.inr e:=by
 conv=>lhs;unfold rowF
 rw [h]
theorem lstep_ok {vf:Nat→(JT × Nat) ⊕ (Nat × Nat)}{l:List JT}{k:Nat}{v:JT}{k1:Nat} (h:vf k=.inl (v,k1)):lstep vf l k=.inl (l++[v],k1):=by
 unfold lstep;rw [h]
theorem lstep_err {vf:Nat→(JT × Nat) ⊕ (Nat × Nat)}{l:List JT}{k:Nat}{e:Nat × Nat} (h:vf k=.inr e):lstep vf l k=.inr e:=by
 unfold lstep;rw [h]
theorem rowF_gap {vf:Nat→(JT × Nat) ⊕ (Nat × Nat)}{s:ByteArray} (hvf:∀ k,k≤s.size→vf k=vf (gap s k)) {f:Nat}{l:List JT}{k:Nat} (hk:k≤s.size) (hf:0 < f):rowF (lstep vf) 93 s f l k=rowF (lstep vf) 93 s f l (gap s k):=by
 obtain ⟨f,rfl⟩:∃ g,f=g+1:=⟨f - 1,by omega⟩
 unfold rowF
 have e:lstep vf l k=lstep vf l (gap s k):=by
  unfold lstep
  rw [hvf k hk]
 rw [e]
def LW (rb:Nat) (s:ByteArray) (w u:World) (k c o:Int) (cs:List Value):Prop:=RF u rb s k c o∧BX u w.heap.size zcells∧BX u (w.heap.size+1) cs∧Mv rb w u
theorem LW.upd {rb:Nat}{s:ByteArray}{w u u':World}{k c o k' c' o':Int}{cs:List Value} (h:LW rb s w u k c o cs) (hrl:rb < w.heap.size) (hU:Upd rb u u') (hR:RF u' rb s k' c' o'):LW rb s w u' k' c' o' cs :=
 ⟨hR,(upd_mv hU).obj (by omega) h.2.1,(upd_mv hU).obj (by omega) h.2.2.1,h.2.2.2.trans (upd_mv hU)⟩
theorem LW.drewN {rb:Nat}{s:ByteArray}{w u u':World}{k c o:Int}{cs:List Value} (h:LW rb s w u k c o cs) {n:Nat} (e:u'=u.drewN n):LW rb s w u' k c o cs:=by
 subst e
 exact ⟨h.1.drewN n,h.2.1,h.2.2.1,h.2.2.2.drewN n⟩
def rowMr (s:ByteArray) (rb:Nat) (b:Value) (w:World):Nat:=match b with
 | .bool true=>s.size+1 - atOf w rb
 | _=>0
set_option maxRecDepth 100000 in
set_option maxHeartbeats 1600000 in
theorem rlist_deep (rb:Nat) (s:ByteArray) (vf:Nat→(JT × Nat) ⊕ (Nat × Nat)) (w:World) (k:Nat) (h:RF w rb s k 0 64) (hk:k≤s.size) :
 Calls Tryz.prog 81 #[.pointer (some ⟨rb,0,none⟩)] w (RVP rb s 64 w (listR vf s 64 k)):=by
 have hrl:=blk_lt h
 obtain ⟨res,hres⟩:∃ res,res=listR vf s 64 k:=⟨_,rfl⟩
 rw [← hres]
 have HRES:Hid (res=.inr (5,k)):=by
  show _=_
  rw [hres]
  unfold listR rowR
  rw [if_pos rfl]
 clear hres
 obtain ⟨b0,b1,b2⟩:=box_two w zcells (lcs (.slice none 0 0))
 have HW:Hid (LW rb s w _ (k:Int) 0 64 (lcs (.slice none 0 0))):=⟨h.below b2,b0,b1,Mv.of b2⟩
 have OP:=hide (ropens_deep rb s k _ (h.below b2))
 clear b0 b1 b2 h
 have hid1:(lcs (.slice none 0 0)).toArray=#[.int .i64 4,.bool false,.bool false,.string ⟨#[]⟩,.int .i64 0,.string ⟨#[]⟩,.slice none 0 0,.slice none 0 0]:=rfl
 have hid0:zcells.toArray=#[.int .i64 0,.bool false,.bool false,.string ⟨#[]⟩,.int .i64 0,.string ⟨#[]⟩,.slice none 0 0,.slice none 0 0]:=rfl
 rw [hid0,hid1] at HW OP
 clear hid0 hid1
 go_enter Tryz.func81,Tryz.ntmps81
 go_wp2_with fail
 refine (uh OP).mono ?_
 clear OP
 generalize (w.alloc (.cells #[.int .i64 0,.bool false,.bool false,.string ⟨#[]⟩,.int .i64 0,.string ⟨#[]⟩,.slice none 0 0,.slice none 0 0] 28)).alloc (.cells #[.int .i64 4,.bool false,.bool false,.string ⟨#[]⟩,.int .i64 0,.string ⟨#[]⟩,.slice none 0 0,.slice none 0 0] 28)=W at *
 rintro e u1 ⟨rfl,hR1,hU1⟩
 have HW1:=hide ((uh HW).upd hrl hU1 hR1)
 have IS:=hide (ris_any rb s k 7 64 93 u1 hR1 hk)
 have e7:(decide ((7:Int)=0) && isC s k 93)=false:=rfl
 rw [e7] at IS
 clear HW hR1 hU1 e7
 go_wp2_with fail
 refine (uh IS).mono ?_
 rintro e u2 ⟨rfl,n2,hu2⟩
 have HW2:=hide ((uh HW1).drewN hu2)
 clear hu2 HW1 IS
 obtain ⟨c0,c1,c2,c3⟩:=(uh HW2).1.cells
 clear c0 c1 c3
 go_wp2
 go_loopw [5] (fun v wr=>v=.bool true∧wr=u2) (fun _ _=>0)
 case atStart=>exact ⟨rfl,rfl⟩
 case round =>
  obtain ⟨rfl,rfl⟩:=hrel
  have DU:=hide (rdue_off rb s (k:Int) 7 64 93 _ (uh HW2).1 (by decide))
  go_wp2_with fail
  refine (uh DU).mono ?_
  rintro e u3 ⟨rfl,hR3,hU3⟩
  have HW3:=hide ((uh HW2).upd hrl hU3 hR3)
  clear HW2 hR3 hU3 DU c2
  obtain ⟨c0,c1,c2,c3⟩:=(uh HW3).1.cells
  obtain ⟨f1,f2,f3⟩:=(uh HW3).1.frees
  have HX0:=hide (uh HW3).2.1
  have HX1:=hide (uh HW3).2.2.1
  simp only [zcells] at HX0
  simp only [lcs] at HX1
  obtain ⟨z0,z1,z2,z3,z4,z5,z6,z7⟩:=(uh HX1).cells
  obtain ⟨q0,q1,q2,q3,q4,q5,q6,q7⟩:=(uh HX0).cells
  obtain ⟨g0,g1,g2,g3,g4,g5,g6,g7⟩:=(uh HX0).frees
  have hw0:w.heap.size≠rb:=by omega
  have hw1:w.heap.size+1≠rb:=by omega
  have hw2:rb≠w.heap.size:=by omega
  have hw3:rb≠w.heap.size+1:=by omega
  clear c0 c1 c2 f1 f2
  go_wp2
  have hSx:=Mv.set (rb:=rb) u3 3 (.int .i64 (64 - 1))
  have hXs:BX (u3.setCell ⟨rb,3,none⟩ (.int .i64 (64 - 1))) w.heap.size _:=hSx.obj hw0 (uh HX0)
  have hX:=st8_bx hXs rfl (.int .i64 4) (.bool false) (.bool false) (.string ⟨#[]⟩) (.int .i64 0) (.string ⟨#[]⟩) (.slice none 0 0) (.slice none 0 0)
  have hU:=st8_upd (u3.setCell ⟨rb,3,none⟩ (.int .i64 (64 - 1))) w.heap.size (.int .i64 4) (.bool false) (.bool false) (.string ⟨#[]⟩) (.int .i64 0) (.string ⟨#[]⟩) (.slice none 0 0) (.slice none 0 0)
  have hRz:=(upd_mv hU).obj hw2 (RF.at3 (uh HW3).1 (64 - 1))
  have hMz:=((uh HW3).2.2.2.trans hSx).own (Nat.le_refl _) (upd_mv hU)
  simp only [st8] at hX hRz hMz
  exact bodyPost_ret (ret_rlist hX _ rfl) rfl ⟨.inr ⟨5,k,_,63,uh HRES,hk,by decide,rfl,⟨4,false,false,⟨#[]⟩,0,⟨#[]⟩,none,0,0,none,0,0,rfl⟩,⟨by omega,by omega⟩,hRz⟩,hMz⟩
theorem nl_val {m:Nat}{w u wf:World}{ls:List JT}{sv:Value}{css:List (List Value)}{ps:List (List Nat)} (ho:u.ownsRow (m+1) 28 8 sv ls.length css.flatten) (e1:css.length=ls.length) (e2:ps.length=ls.length)
 (hv:∀ (i:Nat) (v:JT) (c:List Value) (p:List Nat),ls[i]?=some v→css[i]?=some c→ps[i]?=some p→VRep u (m+1) v c p) (hn:(own sv++ps.flatten).Nodup) (hB:w.heap.size≤m+1) (hk:∀ b,m+1≤b→b < u.heap.size→wf.heap[b]?=u.heap[b]?) :
 ∃ p,VRep wf w.heap.size (JT.mk 4 false zed ⟨#[]⟩ ls []) (lcs sv) p∧p.Nodup:=by
 have:=VRep.mk (w:=wf) (B:=w.heap.size) (k:=4) (t:=false) (d:=zed) (x:=⟨#[]⟩) (l:=ls) (f:=[]) (lv:=sv) (fv:=.slice none 0 0) (css:=css) (gss:=[]) (ps:=ps) (qs:=[])
  (owns_base (owns_keep ho fun b h=>hk b (owns_ge ho b h).1 (owns_ge ho b h).2) hB) (World.ownsRow_nil _ _ _ _) e1 e2 rfl rfl
  (fun i v c p a1 a2 a3=>((hv i v c p a1 a2 a3).keep fun b h=>hk b ((hv i v c p a1 a2 a3).ge b h).1 ((hv i v c p a1 a2 a3).ge b h).2).base hB) (fun i n v c p h=>by simp at h)
 exact ⟨_,this,by simpa [own,Value.ownBlock] using hn⟩
theorem nl_mv {rb m B:Nat}{w w':World}{ls:List JT} (h:NL m B w ls) (hm:Mv rb w w') (hr:rb < m∧rb < B):NL m B w' ls:=by
 obtain ⟨sv,css,ps,n1,n2,n3,n4,n5,n6⟩:=h.ex
 exact ⟨sv,css,ps,hm.obj (by omega) n1,owns_rf n2 hm hr.2,n3,n4,fun i v c p h1 h2 h3=>(n5 i v c p h1 h2 h3).keep fun b hb=>by
  have:=(n5 i v c p h1 h2 h3).ge b hb
  exact hm.block b this.2 (by omega),n6⟩
theorem bd_list {ls:List JT} (hb:∀ v∈ls,Bd v) (hl:ls.length≤1048576):Bd (JT.mk 4 false zed ⟨#[]⟩ ls []) :=
 .mk ⟨by omega,by omega⟩ (by decide) ⟨by decide,by decide⟩ (by decide) (by omega) (by simp) hb (fun p hp=>by simp at hp) (fun p hp=>by simp at hp)
theorem nrm_l (ls:List JT):nrm (JT.mk 4 false zed ⟨#[]⟩ ls [])=JT.mk 4 false zed ⟨#[]⟩ (ls.map nrm) []:=by
 rw [nrm_mk,if_neg (by decide),if_neg (by decide),if_neg (by decide),if_pos rfl]
def listE (R:(List JT × Nat) ⊕ (Nat × Nat)):(JT × Nat) ⊕ (Nat × Nat):=match R with
 | .inl (l,k')=>.inl (JT.mk 4 false zed ⟨#[]⟩ l [],k'+1)
 | .inr e=>.inr e
theorem listR_open (vf:Nat→(JT × Nat) ⊕ (Nat × Nat)) (s:ByteArray) (o:Int) (k:Nat) (ho:o≠64) (R:(List JT × Nat) ⊕ (Nat × Nat)) (hR:R=if nxt s (gap s (k+1))=93 then .inl ([],gap s (k+1)) else rowF (lstep vf) 93 s (s.size+1) [] (gap s (k+1))) :
 listR vf s o k=listE R:=by
 unfold listR
 rw [row_open _ _ _ _ _ _ ho,← hR]
 unfold rowE listE
 cases R with
 | inl x=>rfl
 | inr x=>rfl
set_option maxRecDepth 100000 in
set_option maxHeartbeats 6400000 in
theorem rlist_ok (rb:Nat) (s:ByteArray) (o:Int) (vf:Nat→(JT × Nat) ⊕ (Nat × Nat)) (hs:s.size≤1048576) (ho0:0≤o) (ho:o < 64)
 (VC:∀ (w:World) (k:Nat),RF w rb s k 0 (o+1)→k≤s.size→gap s k=k→Calls Tryz.prog 39 #[.pointer (some ⟨rb,0,none⟩)] w (RVP rb s (o+1) w (vf k)))
 (hup:∀ k v k',k≤s.size→vf k=.inl (v,k')→k < k'∧k'≤s.size) (hvf:∀ k,k≤s.size→vf k=vf (gap s k))
 (w:World) (k:Nat) (h:RF w rb s k 0 o) (hk:k < s.size) :
 Calls Tryz.prog 81 #[.pointer (some ⟨rb,0,none⟩)] w (RVP rb s o w (listR vf s o k)):=by
 have hrl:=blk_lt h
 obtain ⟨res,hres⟩:∃ res,res=listR vf s o k:=⟨_,rfl⟩
 rw [← hres]
 obtain ⟨R,hR⟩:∃ R,R=if nxt s (gap s (k+1))=93 then .inl ([],gap s (k+1)) else rowF (lstep vf) 93 s (s.size+1) [] (gap s (k+1)):=⟨_,rfl⟩
 have HRES:=hide (hres.trans (listR_open vf s o k (by omega) R hR))
 have HRR:=hide hR
 have hg0:=gap_le2 s (k+1) (by omega)
 have hgf:=gap_fix s (k+1) (by omega)
 have hbC:=isC_nxt s (gap s (k+1)) hg0.2 93 (by decide)
 obtain ⟨b0,b1,b2⟩:=box_two w zcells (lcs (.slice none 0 0))
 have HW:Hid (LW rb s w _ (k:Int) 0 o (lcs (.slice none 0 0))):=⟨h.below b2,b0,b1,Mv.of b2⟩
 have OP:=hide (ropens_ok rb s k o _ (h.below b2) hk hs ho0 ho)
 have HVC:=hide VC
 have HUP:=hide hup
 have HVF:=hide hvf
 clear b0 b1 b2 h hR hres VC hup hvf
 have hid1:(lcs (.slice none 0 0)).toArray=#[.int .i64 4,.bool false,.bool false,.string ⟨#[]⟩,.int .i64 0,.string ⟨#[]⟩,.slice none 0 0,.slice none 0 0]:=rfl
 have hid0:zcells.toArray=#[.int .i64 0,.bool false,.bool false,.string ⟨#[]⟩,.int .i64 0,.string ⟨#[]⟩,.slice none 0 0,.slice none 0 0]:=rfl
 rw [hid0,hid1] at HW OP
 clear hid0 hid1
 generalize gap s (k+1)=g0 at *
 have HG:=hide hgf
 have HBC:=hide hbC
 clear hgf hbC
 go_enter Tryz.func81,Tryz.ntmps81
 go_wp2_with fail
 refine (uh OP).mono ?_
 clear OP
 generalize (w.alloc (.cells #[.int .i64 0,.bool false,.bool false,.string ⟨#[]⟩,.int .i64 0,.string ⟨#[]⟩,.slice none 0 0,.slice none 0 0] 28)).alloc (.cells #[.int .i64 4,.bool false,.bool false,.string ⟨#[]⟩,.int .i64 0,.string ⟨#[]⟩,.slice none 0 0,.slice none 0 0] 28)=W at *
 rintro e u1 ⟨rfl,hR1,hU1⟩
 have HW1:=hide ((uh HW).upd hrl hU1 hR1)
 have IS:=hide (ris_any rb s g0 0 (o+1) 93 u1 hR1 hg0.2)
 have e7:(decide ((0:Int)=0) && isC s g0 93)=isC s g0 93:=by simp
 rw [e7] at IS
 clear HW hR1 hU1 e7
 generalize isC s g0 93=e0 at *
 go_wp2_with fail
 refine (uh IS).mono ?_
 rintro e u2 ⟨rfl,n2,hu2⟩
 have HW2:=hide ((uh HW1).drewN hu2)
 clear hu2 HW1 IS
 go_wp2
 go_loopw [5] (fun v wr=>∃ b,v=.bool b∧Hid (BX wr w.heap.size zcells)∧Hid (LRel rb (w.heap.size+1) s (o+1) vf R w b wr)) (fun v wr=>rowMr s rb v wr)
 case atStart =>
  have hw:=uh HW2
  refine ⟨!e0,rfl,hw.2.1,hw.2.2.2,?_⟩
  have hbx:NL (w.heap.size+1) (w.heap.size+1+1) u2 []:=⟨.slice none 0 0,[],[],hw.2.2.1,World.ownsRow_nil _ _ _ _,rfl,rfl,fun i v c p h=>by simp at h,by simp [own,Value.ownBlock]⟩
  have hb:=uh HBC
  have hRR:=uh HRR
  cases e0 with
  | false =>
    have hn:¬ nxt s g0=93:=of_decide_eq_false hb.symm
    rw [if_neg hn] at hRR
    exact .inl ⟨rfl,[],g0,s.size+1,hg0.2,uh HG,by omega,by simp,hw.1,hbx,fun v hv=>by simp at hv,hRR⟩
  | true =>
    have hn:nxt s g0=93:=of_decide_eq_true hb.symm
    exact .inr (.inl ⟨rfl,[],g0,hg0.2,uh HG,by simp,hw.1,hbx,fun v hv=>by simp at hv,by rw [if_pos hn,hRR,if_pos hn];rfl⟩)
 case round =>
  obtain ⟨b,rfl,HZ,hrel⟩:=hrel
  clear HRR HG HBC HW2 hg0
  obtain ⟨hMr,hA|hB|hC⟩:=uh hrel
  · obtain ⟨rfl,ls,a,f,ha,hga,hf,hll,hRa,hNL,hBd,hRR⟩:=hA
    clear hrel
    obtain ⟨f,rfl⟩:∃ q,f=q+1:=⟨f - 1,by omega⟩
    obtain ⟨sv,css,ps,n1,n2,n3,n4,n5,n6⟩:=hNL.ex
    obtain ⟨z0,z1,z2,z3,z4,z5,z6,z7⟩:=n1.cells
    obtain ⟨f0,f1,f2,f3,f4,f5,f6,f7⟩:=n1.frees
    obtain ⟨c0,c1,c2,c3⟩:=hRa.cells
    have hbw:=(uh HZ).cells
    have hz:w.heap.size+1 < wr.heap.size:=blk_lt n1
    have CN:=hide (uh HVC wr.drew a hRa ha hga)
    have FIN:=hide (fun (u w4:World) (vr:JT) (cs:List Value) (p:List Nat) (g cap:Nat) q0 q1 (q2:VRep u wr.heap.size vr cs p) (q3:p.Nodup) q4=>nl_addM (g:=g) (cap:=cap) (w4:=w4) (u:=u) (by omega:w.heap.size+1 < w.heap.size+1+1) n1 n2 n3 n4 n5 n6 q0 q1 q2 q3 (by omega) q4)
    have HO:=hide n2
    have HN1:=hide n1
    have HLS:=hide (show ls.length+1≤1000000000000 by omega)
    have HBd:=hide hBd
    have HRR:=hide hRR
    have HMr:=hide hMr
    have hsv:sv.ownBlock≠some (w.heap.size+1):=fun e=>by have:=(mm.row_lt (uh HO) _ e).1;omega
    have hsv0:sv.ownBlock≠some w.heap.size:=fun e=>by have:=(mm.row_lt (uh HO) _ e).1;omega
    have hsvr:sv.ownBlock≠some rb:=fun e=>by have:=(mm.row_lt (uh HO) _ e).1;omega
    have hm1:w.heap.size+1≠rb:=by omega
    have HAT:=hide (rf_at hRa)
    have HRW:=hide hRa
    clear n1 n2 n3 n4 n5 n6 hNL hBd hRR hMr hbw z0 z1 z2 z3 z4 z5 z7 f0 f1 f2 f3 f4 f5 f7 c0 c1 c3 hRa
    have hmw:=hz
    have hBW:Hid (w.heap.size+1+1≤wr.heap.size):=hz
    go_upto_region 6 with fail
    go_region_law (first
     | (go_simp;go_at_call 39;refine (uh CN).mono ?_;intro e u2 hv0
        obtain ⟨cs,he,h8,hvc,hM2⟩:=hv0.cells
        have h81:=h8.one
        obtain ⟨kk,tt,ng,dg,ex,xx,q1,m1,r1,q2,m2,r2,rfl⟩:=h8
        subst he
        have hMx:Mv rb wr u2:=⟨hM2.os,hM2.tape,hM2.output,hM2.size,hM2.block⟩
        have z6':=hMx.cell hm1 z6
        have hmu:w.heap.size+1 < u2.heap.size:=Nat.lt_of_lt_of_le hmw hMx.size
        have f6':u2.frozen? ⟨w.heap.size+1,6,none⟩=false:=by rw [World.frozen?_of_block (w:=wr) (w':=u2) (a:=⟨w.heap.size+1,6,none⟩) (hMx.block _ hmw hm1)];exact f6
        have HO2:=hide (owns_rf (uh HO) hMx (by omega))
        have H18:=hide h81.2
        have hVC2:=hide hvc
        have hBu:Hid (w.heap.size+1+1≤u2.heap.size):=Nat.le_trans (uh hBW) hMx.size
        have HMx:=hide hMx
        clear hvc hM2 hv0 h81 hMx)
     | (refine step_addv u2 _ (w.heap.size+1+1) ls.length sv css.flatten [.int .i64 kk,.bool tt,.bool ng,.string dg,.int .i64 ex,.string xx,.slice q1 m1 r1,.slice q2 m2 r2] (.tmp 22) (.tmp 25) (by rfl) (by rfl) (by rfl) (by rfl) HO2 rfl H18 HLS hBu (by rfl) ?_
        intro g cap w4 HG
        have z6'':=(uh HG).cell hsv z6'
        have f6'':=(uh HG).frozen hmu hsv f6'))
    all_goals clear z6 z6' f6 f6' CN
    all_goals
     have hG:=uh HG
     have hMx:=uh HMx
     have hU5:=Upd.setCell (w.heap.size+1) 6 w4 (.slice (some ⟨g,0,none⟩) (ls.length+1) cap)
     have hst:∀ b,b < u2.heap.size→sv.ownBlock≠some b→b≠w.heap.size+1→(w4.setCell ⟨w.heap.size+1,6,none⟩ (.slice (some ⟨g,0,none⟩) (ls.length+1) cap)).heap[b]?=u2.heap[b]?:=fun b h1 h2 h3=>(hU5.block b h3).trans (hG.far h1 h2)
     have hrb2:rb < u2.heap.size:=by have:=hMx.size;omega
     have HR5:Hid (∀ (x c1 o1:Int),RF u2 rb s x c1 o1→RF (w4.setCell ⟨w.heap.size+1,6,none⟩ (.slice (some ⟨g,0,none⟩) (ls.length+1) cap)) rb s x c1 o1):=fun x c1 o1 hq=>(hst rb hrb2 hsvr (by omega)).trans hq
     have HZ5:Hid (BX (w4.setCell ⟨w.heap.size+1,6,none⟩ (.slice (some ⟨g,0,none⟩) (ls.length+1) cap)) w.heap.size zcells):=(hst _ (by omega) hsv0 (by omega)).trans (hMx.obj (by omega) (uh HZ))
     have HM5:Hid (Mv rb w (w4.setCell ⟨w.heap.size+1,6,none⟩ (.slice (some ⟨g,0,none⟩) (ls.length+1) cap))) :=
      ((((uh HMr).trans hMx).trans (Mv.of ((Below.refl _ _).alloc (Nat.le_refl _) _))).grown hG.grow (fun k hk=>by have:=(mm.row_lt (uh HO) k hk).1;omega)).own (Nat.le_succ _) (upd_mv hU5)
     have HB5:Hid (BX (w4.setCell ⟨w.heap.size+1,6,none⟩ (.slice (some ⟨g,0,none⟩) (ls.length+1) cap)) (w.heap.size+1) (lcs (.slice (some ⟨g,0,none⟩) (ls.length+1) cap))):=by
      have h6:w4.heap[w.heap.size+1]?=_:=(hG.far hmu hsv).trans (hMx.obj hm1 (uh HN1))
      have:=blk_set h6 6 (.slice (some ⟨g,0,none⟩) (ls.length+1) cap)
      show BX _ _ _
      simpa [BX,lcs] using this
     have hbk:Hid (∀ b,w.heap.size+1≤b→b < wr.heap.size→u2.heap[b]?=wr.heap[b]?):=fun b h1 h2=>hMx.block b h2 (by omega)
     have hsz2:=hMx.size
     clear hU5 hst hMx hG
     rcases uh hVC2 with ⟨v,k1,vr,a1,p,e1,hk1,ha1,hgg,hRu,hV,hpn,hnr,hbd⟩|⟨gg,kz,o',e1,hkz,hcd,hoo,hRu⟩
     · have HNL:=hide (uh FIN u2 w4 vr _ p g cap hsz2 (uh hbk) hV hpn (uh HG))
       obtain ⟨up1,up2⟩:=uh HUP a v k1 ha e1
       have HR6:=hide ((uh HRR).trans (rowF_ok (lstep_ok e1)))
       have G1:=hide (rgap_on rb s a1 (o+1) _ (uh HR5 _ _ _ hRu) ha1 (by omega))
       rw [hgg] at G1
       have gl:=gap_le2 s k1 hk1
       have HGF:=hide (gap_fix s k1 hk1)
       have HBD2:Hid (∀ x∈ls++[vr],Bd x):=by
        intro x hx
        rcases List.mem_append.1 hx with q|q
        · exact uh HBd x q
        · rw [List.mem_singleton.1 q];exact hbd
       have HMAP:Hid ((ls++[vr]).map nrm=ls.map nrm++[v]):=by
        show _=_
        rw [List.map_append,← hnr];rfl
       clear FIN hbk HG hVC2 HR5 HRR hRu hV hpn e1 hgg ha1 HMx HO2 H18 hBu HB5 hnr hbd
       generalize gap s k1=gz at *
       have hlx:ls.length+1≤gz:=by omega
       have hgz:=gl.2
       have hga2:a < gz:=by omega
       clear gl up1 up2 hk1
       go_wp2_with fail
       refine (uh G1).mono ?_
       rintro e u6 ⟨rfl,hR6,hU6⟩
       have HNL6:Hid (NL (w.heap.size+1) (w.heap.size+1+1) u6 (ls++[vr])):=nl_mv (uh HNL) (upd_mv hU6) (by omega)
       have HZ6:Hid (BX u6 w.heap.size zcells):=(upd_mv hU6).obj (by omega) (uh HZ5)
       have HM6:=hide ((uh HM5).trans (upd_mv hU6))
       have HRF6:=hide hR6
       have I1:=hide (ris_any rb s gz 0 (o+1) 44 u6 hR6 hgz)
       have e7:(decide ((0:Int)=0) && isC s gz 44)=isC s gz 44:=by simp
       rw [e7,isC_nxt s gz hgz 44 (by decide)] at I1
       clear hR6 hU6 HNL HZ5 HM5 G1 e7
       by_cases hx:nxt s gz=44
       · have hR7:=(uh HR6).trans (if_pos hx)
         have hbC:isC s (gap s gz) 44=true:=by rw [uh HGF,isC_nxt s gz hgz 44 (by decide)];exact decide_eq_true hx
         have hgl:gz < s.size:=nxt_some s gz hgz (by rw [hx];decide)
         have D1:=hide (fun u hu=>rdue_yes rb s gz (o+1) 44 u hu hgz hs hbC)
         rw [uh HGF] at D1
         have gl2:=gap_le2 s (gz+1) (by omega)
         have HGF2:=hide (gap_fix s (gz+1) (by omega))
         have HR8:=hide (hR7.trans (rowF_gap (uh HVF) (by omega) (by omega)))
         have hxd:(decide (nxt s gz=((44:UInt8).toNat:Int)))=true:=decide_eq_true hx
         rw [hxd] at I1
         clear hR7 HR6 hbC hx hxd HGF
         generalize gap s (gz+1)=gy at *
         go_wp2_with fail
         refine (uh I1).mono ?_
         rintro e u7 ⟨rfl,n7,hu7⟩
         have HRF7:Hid (RF u7 rb s (gz:Nat) 0 (o+1)):=by rw [hu7];exact (uh HRF6).drewN n7
         have HNL7:Hid (NL (w.heap.size+1) (w.heap.size+1+1) u7 (ls++[vr])):=by rw [hu7];exact nl_mv (uh HNL6) ((Mv.refl rb u6).drewN n7) (by omega)
         have HZ7:Hid (BX u7 w.heap.size zcells):=by rw [hu7];exact uh HZ6
         have HM7:Hid (Mv rb w u7):=by rw [hu7];exact (uh HM6).drewN n7
         clear hu7 HRF6 HNL6 HZ6 HM6 I1
         go_wp2_with fail
         refine (uh D1 u7 (uh HRF7)).mono ?_
         rintro e u8 ⟨rfl,hR8,hU8⟩
         have HNL8:Hid (NL (w.heap.size+1) (w.heap.size+1+1) u8 (ls++[vr])):=nl_mv (uh HNL7) (upd_mv hU8) (by omega)
         have HZ8:Hid (BX u8 w.heap.size zcells):=(upd_mv hU8).obj (by omega) (uh HZ7)
         have HM8:=hide ((uh HM7).trans (upd_mv hU8))
         have HRF8:=hide hR8
         clear hR8 hU8 HNL7 HZ7 HM7 HRF7 D1
         go_wp2
         refine ⟨⟨true,rfl,HZ8,uh HM8,.inl ⟨rfl,ls++[vr],gy,f,gl2.2,uh HGF2,by omega,by rw [List.length_append,List.length_singleton];omega,uh HRF8,uh HNL8,uh HBD2,by rw [uh HMAP];exact uh HR8⟩⟩,?_⟩
         show s.size+1 - atOf u8 rb < s.size+1 - atOf wr rb
         rw [uh HAT,rf_at (uh HRF8)]
         omega
       · have HR8:=hide ((uh HR6).trans (if_neg hx))
         have hxd:(decide (nxt s gz=((44:UInt8).toNat:Int)))=false:=decide_eq_false hx
         rw [hxd] at I1
         clear HR6 hx hxd
         go_wp2_with fail
         refine (uh I1).mono ?_
         rintro e u7 ⟨rfl,n7,hu7⟩
         have HRF7:Hid (RF u7 rb s (gz:Nat) 0 (o+1)):=by rw [hu7];exact (uh HRF6).drewN n7
         have HNL7:Hid (NL (w.heap.size+1) (w.heap.size+1+1) u7 (ls++[vr])):=by rw [hu7];exact nl_mv (uh HNL6) ((Mv.refl rb u6).drewN n7) (by omega)
         have HZ7:Hid (BX u7 w.heap.size zcells):=by rw [hu7];exact uh HZ6
         have HM7:Hid (Mv rb w u7):=by rw [hu7];exact (uh HM6).drewN n7
         clear hu7 HRF6 HNL6 HZ6 HM6 I1
         go_wp2
         refine ⟨⟨false,rfl,HZ7,uh HM7,.inr (.inl ⟨rfl,ls++[vr],gz,hgz,uh HGF,by rw [List.length_append,List.length_singleton];omega,uh HRF7,uh HNL7,uh HBD2,by rw [uh HMAP];exact uh HR8⟩)⟩,?_⟩
         show 0 < s.size+1 - atOf wr rb
         rw [uh HAT]
         omega
     · have HR6:=hide ((uh HRR).trans (rowF_err (lstep_err e1)))
       have hR5:=uh HR5 _ _ _ hRu
       have G1:=hide (rgap_off rb s (kz:Int) (cdE gg) o' _ hR5 hcd)
       have HCD:=hide hcd
       have HOO:=hide hoo
       clear FIN hbk HG hVC2 HR5 HRR hRu e1 HMx HO2 H18 hBu hR5 hcd hoo
       go_wp2_with fail
       refine (uh G1).mono ?_
       rintro e u6 ⟨rfl,hR6,hU6⟩
       have HB6:Hid (BX u6 (w.heap.size+1) (lcs (.slice (some ⟨g,0,none⟩) (ls.length+1) cap))):=(upd_mv hU6).obj (by omega) (uh HB5)
       have HZ6:Hid (BX u6 w.heap.size zcells):=(upd_mv hU6).obj (by omega) (uh HZ5)
       have HM6:=hide ((uh HM5).trans (upd_mv hU6))
       have HRF6:=hide hR6
       have I1:=hide (ris_any rb s kz (cdE gg) o' 44 u6 hR6 hkz)
       have e7:(decide (cdE gg=0) && isC s kz 44)=false:=by rw [decide_eq_false (uh HCD)];rfl
       rw [e7] at I1
       clear hR6 hU6 HB5 HZ5 HM5 G1 e7
       go_wp2_with fail
       refine (uh I1).mono ?_
       rintro e u7 ⟨rfl,n7,hu7⟩
       have HRF7:Hid (RF u7 rb s (kz:Nat) (cdE gg) o'):=by rw [hu7];exact (uh HRF6).drewN n7
       have HB7:Hid (BX u7 (w.heap.size+1) (lcs (.slice (some ⟨g,0,none⟩) (ls.length+1) cap))):=by rw [hu7];exact uh HB6
       have HZ7:Hid (BX u7 w.heap.size zcells):=by rw [hu7];exact uh HZ6
       have HM7:Hid (Mv rb w u7):=by rw [hu7];exact (uh HM6).drewN n7
       clear hu7 HRF6 HB6 HZ6 HM6 I1
       go_wp2
       refine ⟨⟨false,rfl,HZ7,uh HM7,.inr (.inr ⟨rfl,gg,kz,o',_,_,_,hkz,uh HCD,uh HOO,uh HRF7,uh HB7,uh HR6⟩)⟩,?_⟩
       show 0 < s.size+1 - atOf wr rb
       rw [uh HAT]
       omega
  · obtain ⟨rfl,ls,g,hg,hgg,hll,hRg,hNL,hBd,hRR⟩:=hB
    clear hrel
    obtain ⟨sv,css,ps,n1,n2,n3,n4,n5,n6⟩:=hNL.ex
    obtain ⟨qa,qc,esv,_,_⟩:=mm.SV.form (mm.own_sv n2)
    subst esv
    have HN2:=hide n2
    have HN5:=hide n5
    have HN6:=hide n6
    have HBd:=hide hBd
    have HW3:Hid (LW rb s w wr (g:Int) 0 (o+1) (lcs (.slice qa ls.length qc))):=⟨hRg,uh HZ,n1,hMr⟩
    have hbC:=isC_nxt s g hg 93 (by decide)
    have hbC2:isC s (gap s g) 93=decide (nxt s g=93):=by rw [hgg];exact hbC
    clear HZ hNL n1 n2 n5 n6 hBd hbC HVC HUP HVF
    by_cases hx:nxt s g=93
    · rw [if_pos hx] at hRR
      have HRES2:=hide ((uh HRES).trans (congrArg listE hRR))
      have hgl:g < s.size:=nxt_some s g hg (by rw [hx];decide)
      have DU:=hide (rdue_yes rb s g (o+1) 93 wr hRg hg hs (by rw [hbC2,decide_eq_true hx]))
      rw [hgg] at DU
      have hge:=gap_le2 s (g+1) (by omega)
      obtain ⟨gz,hgz⟩:∃ z,gap s (g+1)=z:=⟨_,rfl⟩
      have HGF:Hid (gap s gz=gap s (g+1)):=by
       show _=_
       rw [← hgz];exact gap_fix s (g+1) (by omega)
      rw [hgz] at DU hge
      clear HRES hRR hRg hMr hbC2 hx hgz
      obtain ⟨c0,c1,c2,c3⟩:=(uh HW3).1.cells
      clear c0 c1 c3
      go_wp2_with fail
      refine (uh DU).mono ?_
      rintro e u3 ⟨rfl,hR3,hU3⟩
      have HK3:=hide hU3
      have HW4:=hide ((uh HW3).upd hrl hU3 hR3)
      clear HW3 hR3 hU3 DU c2
      have HW3:=HW4
      clear HW4
      obtain ⟨c0,c1,c2,c3⟩:=(uh HW3).1.cells
      obtain ⟨f1,f2,f3⟩:=(uh HW3).1.frees
      have HX0:=hide (uh HW3).2.1
      have HX1:=hide (uh HW3).2.2.1
      simp only [zcells] at HX0
      simp only [lcs] at HX1
      obtain ⟨z0,z1,z2,z3,z4,z5,z6,z7⟩:=(uh HX1).cells
      obtain ⟨q0,q1,q2,q3,q4,q5,q6,q7⟩:=(uh HX0).cells
      obtain ⟨g0,g1,g2,g3,g4,g5,g6,g7⟩:=(uh HX0).frees
      have hw0:w.heap.size≠rb:=by omega
      have hw1:w.heap.size+1≠rb:=by omega
      have hw2:rb≠w.heap.size:=by omega
      have hw3:rb≠w.heap.size+1:=by omega
      clear c0 c1 c2 f1 f2
      go_wp2
      have hSx:=Mv.set (rb:=rb) u3 3 (.int .i64 o)
      have hXs:BX (u3.setCell ⟨rb,3,none⟩ (.int .i64 o)) w.heap.size _:=hSx.obj hw0 (uh HX0)
      have hX:=st8_bx hXs rfl (.int .i64 4) (.bool false) (.bool false) (.string ⟨#[]⟩) (.int .i64 0) (.string ⟨#[]⟩) (.slice qa ls.length qc) (.slice none 0 0)
      have hU:=st8_upd (u3.setCell ⟨rb,3,none⟩ (.int .i64 o)) w.heap.size (.int .i64 4) (.bool false) (.bool false) (.string ⟨#[]⟩) (.int .i64 0) (.string ⟨#[]⟩) (.slice qa ls.length qc) (.slice none 0 0)
      have hRz:=(upd_mv hU).obj hw2 (RF.at3 (uh HW3).1 o)
      have hMz:=((uh HW3).2.2.2.trans hSx).own (Nat.le_refl _) (upd_mv hU)
      simp only [st8] at hX hRz hMz
      have hU3:=uh HK3
      have hkp:∀ b,w.heap.size+1+1≤b→b < wr.heap.size→_=wr.heap[b]?:=fun b h1 h2=>(hU.block b (by omega)).trans ((hSx.block b (by rw [hU3.size];exact h2) (by omega)).trans (hU3.block b (by omega)))
      obtain ⟨p,hp,hpn⟩:=nl_val (w:=w) (uh HN2) n3 n4 (uh HN5) (uh HN6) (by omega) hkp
      simp only [st8,lcs] at hp
      exact bodyPost_ret (ret_rlist hX _ rfl) rfl ⟨.inl ⟨_,g+1,JT.mk 4 false zed ⟨#[]⟩ ls [],gz,_,p,uh HRES2,by omega,hge.2,(uh HGF),rfl,hRz,hp,hpn,nrm_l ls,bd_list (uh HBd) (by omega)⟩,hMz⟩
    · rw [if_neg hx] at hRR
      have HRES2:=hide ((uh HRES).trans (congrArg listE hRR))
      have DU:=hide (rdue_no rb s g (o+1) 93 wr hRg hg hs (by rw [hbC2,decide_eq_false hx]))
      rw [hgg] at DU
      clear HRES hRR hRg hMr hbC2 hx
      obtain ⟨c0,c1,c2,c3⟩:=(uh HW3).1.cells
      clear c0 c1 c3
      go_wp2_with fail
      refine (uh DU).mono ?_
      rintro e u3 ⟨rfl,hR3,hU3⟩
      have HW4:=hide ((uh HW3).upd hrl hU3 hR3)
      clear HW3 hR3 hU3 DU c2
      have HW3:=HW4
      clear HW4
      obtain ⟨c0,c1,c2,c3⟩:=(uh HW3).1.cells
      obtain ⟨f1,f2,f3⟩:=(uh HW3).1.frees
      have HX0:=hide (uh HW3).2.1
      have HX1:=hide (uh HW3).2.2.1
      simp only [zcells] at HX0
      simp only [lcs] at HX1
      obtain ⟨z0,z1,z2,z3,z4,z5,z6,z7⟩:=(uh HX1).cells
      obtain ⟨q0,q1,q2,q3,q4,q5,q6,q7⟩:=(uh HX0).cells
      obtain ⟨g0,g1,g2,g3,g4,g5,g6,g7⟩:=(uh HX0).frees
      have hw0:w.heap.size≠rb:=by omega
      have hw1:w.heap.size+1≠rb:=by omega
      have hw2:rb≠w.heap.size:=by omega
      have hw3:rb≠w.heap.size+1:=by omega
      clear c0 c1 c2 f1 f2
      go_wp2
      have hSx:=Mv.set (rb:=rb) u3 3 (.int .i64 o)
      have hXs:BX (u3.setCell ⟨rb,3,none⟩ (.int .i64 o)) w.heap.size _:=hSx.obj hw0 (uh HX0)
      have hX:=st8_bx hXs rfl (.int .i64 4) (.bool false) (.bool false) (.string ⟨#[]⟩) (.int .i64 0) (.string ⟨#[]⟩) (.slice qa ls.length qc) (.slice none 0 0)
      have hU:=st8_upd (u3.setCell ⟨rb,3,none⟩ (.int .i64 o)) w.heap.size (.int .i64 4) (.bool false) (.bool false) (.string ⟨#[]⟩) (.int .i64 0) (.string ⟨#[]⟩) (.slice qa ls.length qc) (.slice none 0 0)
      have hRz:=(upd_mv hU).obj hw2 (RF.at3 (uh HW3).1 o)
      have hMz:=((uh HW3).2.2.2.trans hSx).own (Nat.le_refl _) (upd_mv hU)
      simp only [st8] at hX hRz hMz
      have hcv:cdE 1=6:=rfl
      exact bodyPost_ret (ret_rlist hX _ rfl) rfl ⟨.inr ⟨1,g,_,o,uh HRES2,hg,by decide,rfl,⟨4,false,false,⟨#[]⟩,0,⟨#[]⟩,qa,ls.length,qc,none,0,0,rfl⟩,⟨by omega,by omega⟩,hRz⟩,hMz⟩
  · obtain ⟨rfl,g,kk,o',q,n,c,hkk,hcd,hoo,hRk,hbx,hRR⟩:=hC
    clear hrel
    have HRES2:=hide ((uh HRES).trans (congrArg listE hRR))
    have HW3:Hid (LW rb s w wr (kk:Int) (cdE g) o' (lcs (.slice q n c))):=⟨hRk,uh HZ,hbx,hMr⟩
    have hc0:(cdE g == 0)=false:=beq_eq_false_iff_ne.mpr hcd
    have DU:=hide (rdue_off rb s (kk:Int) (cdE g) o' 93 wr hRk hcd)
    have hob:-1≤o'∧o'≤66:=by omega
    have HOO:=hide hoo
    have HCD:=hide hcd
    clear HRES hRR hRk hbx hMr hcd HZ hoo HVC HUP HVF
    generalize hcv:cdE g=cv at *
    obtain ⟨c0,c1,c2,c3⟩:=(uh HW3).1.cells
    clear c0 c1 c3
    go_wp2_with fail
    refine (uh DU).mono ?_
    rintro e u3 ⟨rfl,hR3,hU3⟩
    have HW4:=hide ((uh HW3).upd hrl hU3 hR3)
    clear HW3 hR3 hU3 DU c2
    have HW3:=HW4
    clear HW4
    have HCV:=hide hcv
    clear hcv
    obtain ⟨o1,o2⟩:=hob
    obtain ⟨c0,c1,c2,c3⟩:=(uh HW3).1.cells
    obtain ⟨f1,f2,f3⟩:=(uh HW3).1.frees
    have HX0:=hide (uh HW3).2.1
    have HX1:=hide (uh HW3).2.2.1
    simp only [zcells] at HX0
    simp only [lcs] at HX1
    obtain ⟨z0,z1,z2,z3,z4,z5,z6,z7⟩:=(uh HX1).cells
    obtain ⟨q0,q1,q2,q3,q4,q5,q6,q7⟩:=(uh HX0).cells
    obtain ⟨g0,g1,g2,g3,g4,g5,g6,g7⟩:=(uh HX0).frees
    have hw0:w.heap.size≠rb:=by omega
    have hw1:w.heap.size+1≠rb:=by omega
    have hw2:rb≠w.heap.size:=by omega
    have hw3:rb≠w.heap.size+1:=by omega
    clear c0 c1 c2 f1 f2
    go_wp2
    have hSx:=Mv.set (rb:=rb) u3 3 (.int .i64 (o' - 1))
    have hXs:BX (u3.setCell ⟨rb,3,none⟩ (.int .i64 (o' - 1))) w.heap.size _:=hSx.obj hw0 (uh HX0)
    have hX:=st8_bx hXs rfl (.int .i64 4) (.bool false) (.bool false) (.string ⟨#[]⟩) (.int .i64 0) (.string ⟨#[]⟩) (.slice q n c) (.slice none 0 0)
    have hU:=st8_upd (u3.setCell ⟨rb,3,none⟩ (.int .i64 (o' - 1))) w.heap.size (.int .i64 4) (.bool false) (.bool false) (.string ⟨#[]⟩) (.int .i64 0) (.string ⟨#[]⟩) (.slice q n c) (.slice none 0 0)
    have hRz:=(upd_mv hU).obj hw2 (RF.at3 (uh HW3).1 (o' - 1))
    have hMz:=((uh HW3).2.2.2.trans hSx).own (Nat.le_refl _) (upd_mv hU)
    simp only [st8] at hX hRz hMz
    have hcv:=uh HCV
    have hoo:=uh HOO
    rw [← hcv] at hRz
    exact bodyPost_ret (ret_rlist hX _ rfl) rfl ⟨.inr ⟨g,kk,_,o' - 1,uh HRES2,hkk,by rw [hcv];exact uh HCD,rfl,⟨4,false,false,⟨#[]⟩,0,⟨#[]⟩,q,n,c,none,0,0,rfl⟩,⟨by omega,by omega⟩,hRz⟩,hMz⟩
structure GF (u w4:World) (B n:Nat) (fv:Value) (xs cs:List Value) (g cap:Nat):Prop where
 row:w4.ownsRow B 74 9 (.slice (some ⟨g,0,none⟩) (n+1) cap) (n+1) (xs++cs)
 grow:(u.alloc (.cells cs.toArray 74)).grownBy w4 fv.ownBlock
 lies:fv.ownBlock=some g∨u.heap.size≤g
theorem GF.far {u w4:World}{B n:Nat}{fv:Value}{xs cs:List Value}{g cap:Nat} (h:GF u w4 B n fv xs cs g cap) {b:Nat} (hb:b < u.heap.size) (hn:fv.ownBlock≠some b):w4.heap[b]?=u.heap[b]?:=by
 rw [h.grow.block b (by rw [World.size_alloc];omega) (fun e=>hn e.symm)]
 exact Below.heap_alloc u _ b hb
theorem GF.cell {u w4:World}{B n:Nat}{fv:Value}{xs cs:List Value}{g cap:Nat} (h:GF u w4 B n fv xs cs g cap) {b o:Nat}{v:Value} (hn:fv.ownBlock≠some b) (hc:u.cell? ⟨b,o,none⟩=some v):w4.cell? ⟨b,o,none⟩=some v:=by
 rw [World.cell?_of_block (w:=u) (w':=w4) (a:=⟨b,o,none⟩) (h.far (mm.cell_lt hc) hn)];exact hc
theorem GF.frozen {u w4:World}{B n:Nat}{fv:Value}{xs cs:List Value}{g cap:Nat} (h:GF u w4 B n fv xs cs g cap) {b o:Nat} (hb:b < u.heap.size) (hn:fv.ownBlock≠some b) (hc:u.frozen? ⟨b,o,none⟩=false):w4.frozen? ⟨b,o,none⟩=false:=by
 rw [World.frozen?_of_block (w:=u) (w':=w4) (a:=⟨b,o,none⟩) (h.far hb hn)];exact hc
theorem wpList_addf {ops:Array Oper}{rest:List Oper}{op:Oper}{a:Act}{Q:Exit→Act→World→Prop} (u W:World) (B n:Nat) (fv:Value) (xs cs:List Value) (S X:Operand) (hgd:op.guard=none)
 (ho:op.op=.call { callee:=.builtin .append,args:=#[S,X],argTypes:=#[26,26] }) (hs:a.eval S=fv) (hx:a.eval X=.slice (some ⟨u.heap.size,0,none⟩) 1 1)
 (hown:Hid (u.ownsRow B 74 9 fv n xs)) (h9:Hid (cs.length=9)) (h1:Hid (∀ v∈cs,v.oneCell'=true)) (hn:Hid (n+1≤1000000000000)) (hB:Hid (B≤u.heap.size)) (hW:W=u.alloc (.cells cs.toArray 74))
 (h:∀ g cap w4,Hid (GF u w4 B n fv xs cs g cap)→wpList Tryz.prog ops Q rest (a.put op.dst (.slice (some ⟨g,0,none⟩) (n+1) cap)) w4):wpList Tryz.prog ops Q (op::rest) a W:=by
 subst hW
 obtain ⟨i0,hi,hz0,hz1,hz2⟩:=info_parts infoFd
 have hN:=uh hn
 have hb:=uh hB
 refine wpList_append_lies _ hgd _ _ _ ho B 74 i0 _ 9 128 undFd hi hz0 hz1 hz2 rfl (by omega) fv n xs hs (mm.row_below (uh hown) ((Below.refl _ _).alloc (Nat.le_refl _) _) (Nat.le_refl _))
  ⟨u.heap.size,0,none⟩ 1 1 cs hx (by rw [uh h9]) (fun j v hv=>?_) (uh h1) (by omega) (by unfold maxLen;omega) (by omega) (by rw [World.size_alloc];omega) (u.heap.size+1) (World.size_alloc _ _) ?_
 · rw [mm.add0,blk_cell (heap_alloc_new u _)]
   simpa using hv
 · intro g cap w4 h5 h6 h7 _
   exact h g cap w4 ⟨h5,h6,h7.imp id (fun e=>by omega)⟩
def ocs (fv:Value):List Value:=[.int .i64 5,.bool false,.bool false,.string ⟨#[]⟩,.int .i64 0,.string ⟨#[]⟩,.slice none 0 0,fv]
theorem nf_end {m B:Nat}{wr u w4:World}{fv:Value}{T:List FT}{nm:ByteArray}{v:JT}{cs:List Value}{p:List Nat}{g cap:Nat} (hm:m < B) (hx:BX wr m (ocs fv))
 (ho:wr.ownsRow B 74 9 fv T.length (flat9 (T.map tc))) (hv:∀ q∈T,VRep wr B q.2.1 q.2.2.1 q.2.2.2) (hn:(own fv++(T.map tp).flatten).Nodup)
 (hsu:wr.heap.size≤u.heap.size) (hbk:∀ b,m≤b→b < wr.heap.size→u.heap[b]?=wr.heap[b]?) (hr:VRep u wr.heap.size v cs p) (hp:p.Nodup) (hs:B≤wr.heap.size) (hg:GF u w4 B T.length fv (flat9 (T.map tc)) (.string nm::cs) g cap) :
 NF m B (w4.setCell ⟨m,7,none⟩ (.slice (some ⟨g,0,none⟩) (T.length+1) cap)) (T.map tf++[(nm,v)]):=by
 have hU:=Upd.setCell m 7 w4 (.slice (some ⟨g,0,none⟩) (T.length+1) cap)
 have hfv:∀ b,fv.ownBlock=some b→B≤b∧b < wr.heap.size:=fun b hb=>mm.row_lt ho b hb
 have hgb:B≤g:=by
  rcases hg.lies with e|e
  · exact (hfv g e).1
  · omega
 have stay:∀ b,b < u.heap.size→fv.ownBlock≠some b→b≠m→(w4.setCell ⟨m,7,none⟩ (.slice (some ⟨g,0,none⟩) (T.length+1) cap)).heap[b]?=u.heap[b]?:=fun b h1 h2 h3=>(hU.block b h3).trans (hg.far h1 h2)
 have hold:∀ b∈(T.map tp).flatten,B≤b∧b < wr.heap.size:=by
  intro b hbm
  obtain ⟨q,hq,hbq⟩:=List.mem_flatten.1 hbm
  obtain ⟨t,ht,rfl⟩:=List.mem_map.1 hq
  exact (hv t ht).ge b hbq
 have hnew:∀ b∈p,wr.heap.size≤b∧b < u.heap.size:=hr.ge
 have hnd:=List.nodup_append.1 hn
 refine ⟨.slice (some ⟨g,0,none⟩) (T.length+1) cap,T++[(nm,v,cs,p)],?_,by simp [tf],?_,?_,?_⟩
 · have h6:w4.heap[m]?=some (.cells #[.int .i64 5,.bool false,.bool false,.string ⟨#[]⟩,.int .i64 0,.string ⟨#[]⟩,.slice none 0 0,fv] 28 (0,0)) :=
    (hg.far (by omega) (fun e=>by have:=(hfv _ e).1;omega)).trans ((hbk _ (Nat.le_refl _) (by omega)).trans hx)
   have:=blk_set h6 7 (.slice (some ⟨g,0,none⟩) (T.length+1) cap)
   simpa [BX] using this
 · have e1:flat9 ((T++[(nm,v,cs,p)]).map tc)=flat9 (T.map tc)++(.string nm::cs):=by
    rw [List.map_append,flat9_app]
    simp [flat9,tc]
   rw [e1,List.length_append,List.length_singleton]
   refine mm.row_keep hg.row (fun k hk=>hU.block k ?_)
   cases hk
   show g≠m
   omega
 · intro q hq
   rcases List.mem_append.1 hq with hq|hq
   · refine (hv q hq).keep fun b hbq=>?_
     have hm2:=mem_tp hq hbq
     have h4:=hold b hm2
     exact (stay b (by omega) (fun e=>hnd.2.2 b (own_mem.2 e) b hm2 rfl) (by omega)).trans (hbk b (by omega) h4.2)
   · rw [List.mem_singleton] at hq
     subst hq
     refine (hr.base hs).keep fun b hbq=>?_
     have h4:=hnew b hbq
     exact stay b h4.2 (fun e=>by have:=(hfv b e).2;omega) (by omega)
 · have e1:((T++[(nm,v,cs,p)]).map tp).flatten=(T.map tp).flatten++p:=by
    rw [List.map_append,List.flatten_append]
    simp [tp]
   rw [e1]
   have hog:own (.slice (some ⟨g,0,none⟩) (T.length+1) cap)=[g]:=rfl
   rw [hog]
   have hgo:g ∉ (T.map tp).flatten:=by
    intro hm
    rcases hg.lies with e|e
    · exact hnd.2.2 g (own_mem.2 e) g hm rfl
    · have:=(hold g hm).2;omega
   have hgp:g ∉ p:=by
    intro hm
    rcases hg.lies with e|e
    · have:=(hfv g e).2
      have:=(hnew g hm).1
      omega
    · have:=(hnew g hm).2;omega
   rw [List.nodup_append]
   refine ⟨by simp,?_,?_⟩
   · rw [List.nodup_append]
     exact ⟨hnd.2.1,hp,fun a ha b hb' e=>by have:=(hold a ha).2;have:=(hnew b hb').1;omega⟩
   · intro a ha b hb' e
     simp only [List.mem_singleton] at ha
     subst ha
     subst e
     rcases List.mem_append.1 hb' with q|q
     · exact hgo q
     · exact hgp q
theorem nf_mv {rb m B:Nat}{w w':World}{fl:List (ByteArray × JT)} (h:NF m B w fl) (hm:Mv rb w w') (hr:rb < m∧rb < B):NF m B w' fl:=by
 obtain ⟨fv,T,n1,n2,n3,n4,n5⟩:=h.ex
 exact ⟨fv,T,hm.obj (by omega) n1,n2,owns_rf n3 hm hr.2,fun q hq=>(n4 q hq).keep fun b hb=>by
  have:=(n4 q hq).ge b hb
  exact hm.block b this.2 (by omega),n5⟩
def nfl (fl:List (ByteArray × JT)):List (ByteArray × JT):=fl.map fun p=>(p.1,nrm p.2)
def ORel (rb m:Nat) (s:ByteArray) (o:Int) (vf:Nat→(JT × Nat) ⊕ (Nat × Nat)) (R:(List (ByteArray × JT) × Nat) ⊕ (Nat × Nat)) (w:World) (b:Bool) (wr:World):Prop :=
 Mv rb w wr∧((b=true∧∃ (fl:List (ByteArray × JT)) (a f:Nat),a≤s.size∧gap s a=a∧s.size+1≤a+f∧fl.length≤a∧RF wr rb s (a:Nat) 0 o∧NF m (m+1) wr fl∧(∀ p∈fl,Bd p.2∧p.1.size≤4194304∧pt.clean p.1=p.1)∧R=rowF (ostep vf s) 125 s f (nfl fl) a) ∨
 (b=false∧∃ (fl:List (ByteArray × JT)) (g:Nat),g≤s.size∧gap s g=g∧fl.length≤s.size∧RF wr rb s (g:Nat) 0 o∧NF m (m+1) wr fl∧(∀ p∈fl,Bd p.2∧p.1.size≤4194304∧pt.clean p.1=p.1)∧R=if nxt s g=125 then .inl (nfl fl,g) else .inr (1,g)) ∨
 (b=false∧∃ (g k:Nat) (o':Int) (q:Option Addr) (n c:Nat),k≤s.size∧cdE g≠0∧(o - 1≤o'∧o'≤o+1)∧RF wr rb s (k:Nat) (cdE g) o'∧BX wr m (ocs (.slice q n c))∧R=.inr (g,k)))
def OW (rb:Nat) (s:ByteArray) (w u:World) (k c o:Int) (fl:List (ByteArray × JT)):Prop:=RF u rb s k c o∧BX u w.heap.size zcells∧NF (w.heap.size+1) (w.heap.size+1+1) u fl∧Mv rb w u
theorem OW.step {rb:Nat}{s:ByteArray}{w u u':World}{k c o k' c' o':Int}{fl:List (ByteArray × JT)} (h:OW rb s w u k c o fl) (hrl:rb < w.heap.size) (hM:Mv rb u u') (hR:RF u' rb s k' c' o'):OW rb s w u' k' c' o' fl :=
 ⟨hR,hM.obj (by omega) h.2.1,nf_mv h.2.2.1 hM (by omega),h.2.2.2.trans hM⟩
def hasN (ns:List (ByteArray × JT)) (nm:ByteArray):Bool:=ns.any (fun p=>decide (p.1=nm))
def chkK (ns:List (ByteArray × JT)) (nm:ByteArray) (k0 c0 a:Int):Int:=if c0=0∧hasN ns nm=true then a else k0
def chkC (ns:List (ByteArray × JT)) (nm:ByteArray) (c0:Int):Int:=if c0=0∧hasN ns nm=true then 8 else c0
theorem chk_step {fl:List (ByteArray × JT)}{i:Nat}{p:ByteArray × JT} (h:fl[i]?=some p) (nm:ByteArray) (k0 c0 a:Int) :
 (p.1=nm→chkK (fl.take (i+1)) nm k0 c0 a=(if chkC (fl.take i) nm c0=0 then a else chkK (fl.take i) nm k0 c0 a)∧chkC (fl.take (i+1)) nm c0=(if chkC (fl.take i) nm c0=0 then 8 else chkC (fl.take i) nm c0)) ∧
 (p.1≠nm→chkK (fl.take (i+1)) nm k0 c0 a=chkK (fl.take i) nm k0 c0 a∧chkC (fl.take (i+1)) nm c0=chkC (fl.take i) nm c0):=by
 have ht:fl.take (i+1)=fl.take i++[p]:=by
  rw [List.take_add_one,h]
  rfl
 have hh:hasN (fl.take (i+1)) nm=(hasN (fl.take i) nm || decide (p.1=nm)):=by
  unfold hasN
  rw [ht,List.any_append]
  simp
 unfold chkK chkC
 rw [hh]
 constructor
 · intro e
   rw [decide_eq_true e,Bool.or_true]
   by_cases h0:c0=0
   · cases hm:hasN (fl.take i) nm
     · simp [h0]
     · simp [h0]
   · simp [h0]
 · intro e
   rw [decide_eq_false e,Bool.or_false]
   exact ⟨rfl,rfl⟩
def objE (R:(List (ByteArray × JT) × Nat) ⊕ (Nat × Nat)):(JT × Nat) ⊕ (Nat × Nat):=match R with
 | .inl (f,k')=>.inl (JT.mk 5 false zed ⟨#[]⟩ [] (f.mergeSort leN),k'+1)
 | .inr e=>.inr e
theorem objR_open (vf:Nat→(JT × Nat) ⊕ (Nat × Nat)) (s:ByteArray) (o:Int) (k:Nat) (ho:o≠64) (R:(List (ByteArray × JT) × Nat) ⊕ (Nat × Nat)) (hR:R=if nxt s (gap s (k+1))=125 then .inl ([],gap s (k+1)) else rowF (ostep vf s) 125 s (s.size+1) [] (gap s (k+1))) :
 objR vf s o k=objE R:=by
 unfold objR
 rw [row_open _ _ _ _ _ _ ho,← hR]
 unfold rowE objE
 cases R with
 | inl x=>rfl
 | inr x=>rfl
theorem nrm_o (fl:List (ByteArray × JT)) (hc:∀ p∈fl,pt.clean p.1=p.1) (hn:(nms (nfl fl)).Nodup):nrm (JT.mk 5 false zed ⟨#[]⟩ [] fl)=JT.mk 5 false zed ⟨#[]⟩ [] ((nfl fl).mergeSort leN):=by
 rw [nrm_mk,if_neg (by decide),if_neg (by decide),if_neg (by decide),if_neg (by decide),if_pos rfl]
 have e:(fl.map fun p=>(pt.clean p.1,nrm p.2))=nfl fl:=List.map_congr_left fun p hp=>by rw [hc p hp]
 rw [e]
 have hn2:((nfl fl).map (·.1)).Nodup:=by
  unfold nms at hn
  have e2:(nfl fl).map (fun p=>p.1.data.toList)=((nfl fl).map (·.1)).map (fun b=>b.data.toList):=by rw [List.map_map];rfl
  rw [e2] at hn
  exact List.Pairwise.of_map (fun b=>b.data.toList) (fun a b h e=>h (by rw [e])) hn
 obtain ⟨h1,h2⟩:=jn.puts_ok (nfl fl) hn2
 rw [obj_sorted h1 h2 hn]
def st8f (w:World) (m:Nat) (a0 a1 a2 a3 a4 a5 a6 a7:Value):World :=
 (((((((w.setCell ⟨m,1,none⟩ a0).setCell ⟨m,2,none⟩ a1).setCell ⟨m,3,none⟩ a2).setCell ⟨m,4,none⟩ a3).setCell ⟨m,5,none⟩ a4).setCell ⟨m,6,none⟩ a5).setCell ⟨m,7,none⟩ a6).setCell ⟨m,8,none⟩ a7
theorem st8f_upd (w:World) (m:Nat) (a0 a1 a2 a3 a4 a5 a6 a7:Value):Upd m w (st8f w m a0 a1 a2 a3 a4 a5 a6 a7) :=
 (((((((Upd.setCell m 1 _ _).trans (Upd.setCell m 2 _ _)).trans (Upd.setCell m 3 _ _)).trans (Upd.setCell m 4 _ _)).trans (Upd.setCell m 5 _ _)).trans (Upd.setCell m 6 _ _)).trans (Upd.setCell m 7 _ _)).trans (Upd.setCell m 8 _ _)
theorem st8f_bf {w:World}{m:Nat}{z b0 b1 b2 b3 b4 b5 b6 b7:Value} (h:w.heap[m]?=some (.cells #[z,b0,b1,b2,b3,b4,b5,b6,b7] 74 (0,0))) (a0 a1 a2 a3 a4 a5 a6 a7:Value):(st8f w m a0 a1 a2 a3 a4 a5 a6 a7).heap[m]?=some (.cells #[z,a0,a1,a2,a3,a4,a5,a6,a7] 74 (0,0)):=by
 have h8:=blk_set (blk_set (blk_set (blk_set (blk_set (blk_set (blk_set (blk_set h 1 a0) 2 a1) 3 a2) 4 a3) 5 a4) 6 a5) 7 a6) 8 a7
 unfold st8f
 simpa using h8
theorem hasN_mem (fl:List (ByteArray × JT)) (l:List UInt8):hasN fl ⟨l.toArray⟩=true↔l∈(nfl fl).map (fun p=>p.1.data.toList):=by
 unfold hasN nfl
 rw [List.any_eq_true,List.map_map,List.mem_map]
 constructor
 · rintro ⟨p,hp,e⟩
   refine ⟨p,hp,?_⟩
   show p.1.data.toList=l
   rw [of_decide_eq_true e]
 · rintro ⟨p,hp,e⟩
   refine ⟨p,hp,decide_eq_true ?_⟩
   have e':p.1.data.toList=l:=e
   rw [← e']
theorem ostep_due {vf:Nat→(JT × Nat) ⊕ (Nat × Nat)}{s:ByteArray}{F:List (ByteArray × JT)}{a:Nat} (hga:gap s a=a) (hq:¬ nxt s a=34):ostep vf s F a=.inr (1,a):=by
 unfold ostep nmR
 rw [hga,if_neg hq]
theorem ostep_text {vf:Nat→(JT × Nat) ⊕ (Nat × Nat)}{s:ByteArray}{F:List (ByteArray × JT)}{a j:Nat} (hga:gap s a=a) (hq:nxt s a=34) (hl:letts s a=.inr j):ostep vf s F a=.inr (4,j):=by
 unfold ostep nmR
 rw [hga,if_pos hq,hl]
theorem ostep_twice {vf:Nat→(JT × Nat) ⊕ (Nat × Nat)}{s:ByteArray}{fl:List (ByteArray × JT)}{a j:Nat}{l:List UInt8} (hga:gap s a=a) (hq:nxt s a=34) (hl:letts s a=.inl (l,j)) (hh:hasN fl ⟨l.toArray⟩=true):ostep vf s (nfl fl) a=.inr (6,a):=by
 unfold ostep nmR
 rw [hga,if_pos hq,hl]
 simp only
 rw [if_pos ((hasN_mem fl l).1 hh)]
theorem ostep_colon {vf:Nat→(JT × Nat) ⊕ (Nat × Nat)}{s:ByteArray}{fl:List (ByteArray × JT)}{a j:Nat}{l:List UInt8} (hga:gap s a=a) (hq:nxt s a=34) (hl:letts s a=.inl (l,j)) (hh:hasN fl ⟨l.toArray⟩=false) (hx:¬ nxt s (gap s j)=58):ostep vf s (nfl fl) a=.inr (1,gap s j):=by
 unfold ostep nmR
 rw [hga,if_pos hq,hl]
 simp only
 rw [if_neg (fun q=>by rw [(hasN_mem fl l).2 q] at hh;cases hh)]
 simp only
 unfold fvR
 rw [if_neg hx]
theorem ostep_ok {vf:Nat→(JT × Nat) ⊕ (Nat × Nat)}{s:ByteArray}{fl:List (ByteArray × JT)}{a j k:Nat}{l:List UInt8}{v:JT} (hga:gap s a=a) (hq:nxt s a=34) (hl:letts s a=.inl (l,j)) (hh:hasN fl ⟨l.toArray⟩=false) (hx:nxt s (gap s j)=58) (hv:vf (gap s j+1)=.inl (v,k)):ostep vf s (nfl fl) a=.inl (nfl fl++[(⟨l.toArray⟩,v)],k):=by
 unfold ostep nmR
 rw [hga,if_pos hq,hl]
 simp only
 rw [if_neg (fun q=>by rw [(hasN_mem fl l).2 q] at hh;cases hh)]
 simp only
 unfold fvR
 rw [if_pos hx,hv]
theorem ostep_err {vf:Nat→(JT × Nat) ⊕ (Nat × Nat)}{s:ByteArray}{fl:List (ByteArray × JT)}{a j:Nat}{l:List UInt8}{e:Nat × Nat} (hga:gap s a=a) (hq:nxt s a=34) (hl:letts s a=.inl (l,j)) (hh:hasN fl ⟨l.toArray⟩=false) (hx:nxt s (gap s j)=58) (hv:vf (gap s j+1)=.inr e):ostep vf s (nfl fl) a=.inr e:=by
 unfold ostep nmR
 rw [hga,if_pos hq,hl]
 simp only
 rw [if_neg (fun q=>by rw [(hasN_mem fl l).2 q] at hh;cases hh)]
 simp only
 unfold fvR
 rw [if_pos hx,hv]
theorem rowF_gapO {vf:Nat→(JT × Nat) ⊕ (Nat × Nat)}{s:ByteArray}{f:Nat}{F:List (ByteArray × JT)}{k:Nat} (hk:k≤s.size) (hf:0 < f):rowF (ostep vf s) 125 s f F k=rowF (ostep vf s) 125 s f F (gap s k):=by
 obtain ⟨f,rfl⟩:∃ g,f=g+1:=⟨f - 1,by omega⟩
 unfold rowF
 have e:ostep vf s F k=ostep vf s F (gap s k):=by
  unfold ostep nmR
  rw [gap_fix s k hk]
 rw [e]
theorem letts_len4 {s:ByteArray}{a:Nat}{l:List UInt8}{j:Nat} (h:letts s a=.inl (l,j)) (hj:j≤s.size):l.length≤4*s.size:=by
 have key:∀ (f k:Nat) (acc l:List UInt8) (j:Nat),lettF s f k acc=.inl (l,j)→l.length+4*k≤acc.length+4*j:=by
  intro f
  induction f with
  | zero=>intro k acc l j h;cases h
  | succ f ih =>
    intro k acc l j h
    unfold lettF at h
    split at h
    · cases h;omega
    · split at h
      · cases h
      · rename_i hn hz
        have h1:=ih _ _ _ _ h
        have h2:=Lib.runeCells_le (letAt (s.extract k s.size)).1
        rw [Lib.runeCells_length] at h2
        rw [List.length_append] at h1
        have h3:0≤(letAt (s.extract k s.size)).2:=(letAt_bd _).1
        have h4:1≤(letAt (s.extract k s.size)).2.toNat:=by omega
        omega
 have:=key _ _ _ _ _ h
 simp only [List.length_nil] at this
 omega
theorem ret_robj {m:Nat}{w:World}{a0 a1 a2 a3 a4 a5 a6 a7:Value} (h:BX w m [a0,a1,a2,a3,a4,a5,a6,a7]) (tmps:Array Value) (h2:tmps[2]?.getD undef=.pointer (some ⟨m,0,none⟩)) :
 (results Tryz.f82 tmps).run Tryz.prog w=.ok (.agg #[a0,a1,a2,a3,a4,a5,a6,a7]) w:=by
 obtain ⟨q0,q1,q2,q3,q4,q5,q6,q7⟩:=BX.cells h
 simp [results,Tryz.results82,h2,go_sem,q0,q1,q2,q3,q4,q5,q6,q7]
set_option maxRecDepth 100000 in
set_option maxHeartbeats 1600000 in
theorem robj_deep (rb:Nat) (s:ByteArray) (vf:Nat→(JT × Nat) ⊕ (Nat × Nat)) (w:World) (k:Nat) (h:RF w rb s k 0 64) (hk:k≤s.size) :
 Calls Tryz.prog 82 #[.pointer (some ⟨rb,0,none⟩)] w (RVP rb s 64 w (objR vf s 64 k)):=by
 have hrl:=blk_lt h
 obtain ⟨res,hres⟩:∃ res,res=objR vf s 64 k:=⟨_,rfl⟩
 rw [← hres]
 have HRES:Hid (res=.inr (5,k)):=by
  show _=_
  rw [hres]
  unfold objR rowR
  rw [if_pos rfl]
 clear hres
 obtain ⟨b0,b1,b2⟩:=box_two w zcells (ocs (.slice none 0 0))
 have HW:Hid (LW rb s w _ (k:Int) 0 64 (ocs (.slice none 0 0))):=⟨h.below b2,b0,b1,Mv.of b2⟩
 have OP:=hide (ropens_deep rb s k _ (h.below b2))
 clear b0 b1 b2 h
 have hid1:(ocs (.slice none 0 0)).toArray=#[.int .i64 5,.bool false,.bool false,.string ⟨#[]⟩,.int .i64 0,.string ⟨#[]⟩,.slice none 0 0,.slice none 0 0]:=rfl
 have hid0:zcells.toArray=#[.int .i64 0,.bool false,.bool false,.string ⟨#[]⟩,.int .i64 0,.string ⟨#[]⟩,.slice none 0 0,.slice none 0 0]:=rfl
 rw [hid0,hid1] at HW OP
 clear hid0 hid1
 go_enter Tryz.func82,Tryz.ntmps82
 go_wp2_with fail
 refine (uh OP).mono ?_
 clear OP
 generalize (w.alloc (.cells #[.int .i64 0,.bool false,.bool false,.string ⟨#[]⟩,.int .i64 0,.string ⟨#[]⟩,.slice none 0 0,.slice none 0 0] 28)).alloc (.cells #[.int .i64 5,.bool false,.bool false,.string ⟨#[]⟩,.int .i64 0,.string ⟨#[]⟩,.slice none 0 0,.slice none 0 0] 28)=W at *
 rintro e u1 ⟨rfl,hR1,hU1⟩
 have HW1:=hide ((uh HW).upd hrl hU1 hR1)
 have IS:=hide (ris_any rb s k 7 64 125 u1 hR1 hk)
 have e7:(decide ((7:Int)=0) && isC s k 125)=false:=rfl
 rw [e7] at IS
 clear HW hR1 hU1 e7
 go_wp2_with fail
 refine (uh IS).mono ?_
 rintro e u2 ⟨rfl,n2,hu2⟩
 have HW2:=hide ((uh HW1).drewN hu2)
 clear hu2 HW1 IS
 obtain ⟨c0,c1,c2,c3⟩:=(uh HW2).1.cells
 clear c0 c1 c3
 go_wp2
 go_loopw [5] (fun v wr=>v=.bool true∧wr=u2) (fun _ _=>0)
 case atStart=>exact ⟨rfl,rfl⟩
 case round =>
  obtain ⟨rfl,rfl⟩:=hrel
  have DU:=hide (rdue_off rb s (k:Int) 7 64 125 _ (uh HW2).1 (by decide))
  go_wp2_with fail
  refine (uh DU).mono ?_
  rintro e u3 ⟨rfl,hR3,hU3⟩
  have HW3:=hide ((uh HW2).upd hrl hU3 hR3)
  clear HW2 hR3 hU3 DU c2
  obtain ⟨c0,c1,c2,c3⟩:=(uh HW3).1.cells
  obtain ⟨f1,f2,f3⟩:=(uh HW3).1.frees
  have HX0:=hide (uh HW3).2.1
  have HX1:=hide (uh HW3).2.2.1
  simp only [zcells] at HX0
  simp only [ocs] at HX1
  obtain ⟨z0,z1,z2,z3,z4,z5,z6,z7⟩:=(uh HX1).cells
  obtain ⟨q0,q1,q2,q3,q4,q5,q6,q7⟩:=(uh HX0).cells
  obtain ⟨g0,g1,g2,g3,g4,g5,g6,g7⟩:=(uh HX0).frees
  have hw0:w.heap.size≠rb:=by omega
  have hw1:w.heap.size+1≠rb:=by omega
  have hw2:rb≠w.heap.size:=by omega
  have hw3:rb≠w.heap.size+1:=by omega
  clear c0 c1 c2 f1 f2
  go_wp2
  have hSx:=Mv.set (rb:=rb) u3 3 (.int .i64 (64 - 1))
  have hXs:BX (u3.setCell ⟨rb,3,none⟩ (.int .i64 (64 - 1))) w.heap.size _:=hSx.obj hw0 (uh HX0)
  have hX:=st8_bx hXs rfl (.int .i64 5) (.bool false) (.bool false) (.string ⟨#[]⟩) (.int .i64 0) (.string ⟨#[]⟩) (.slice none 0 0) (.slice none 0 0)
  have hU:=st8_upd (u3.setCell ⟨rb,3,none⟩ (.int .i64 (64 - 1))) w.heap.size (.int .i64 5) (.bool false) (.bool false) (.string ⟨#[]⟩) (.int .i64 0) (.string ⟨#[]⟩) (.slice none 0 0) (.slice none 0 0)
  have hRz:=(upd_mv hU).obj hw2 (RF.at3 (uh HW3).1 (64 - 1))
  have hMz:=((uh HW3).2.2.2.trans hSx).own (Nat.le_refl _) (upd_mv hU)
  simp only [st8] at hX hRz hMz
  exact bodyPost_ret (ret_robj hX _ rfl) rfl ⟨.inr ⟨5,k,_,63,uh HRES,hk,by decide,rfl,⟨5,false,false,⟨#[]⟩,0,⟨#[]⟩,none,0,0,none,0,0,rfl⟩,⟨by omega,by omega⟩,hRz⟩,hMz⟩
end Go.Proofs.YtilhjecnkaokeaaGreatDoor.rd
