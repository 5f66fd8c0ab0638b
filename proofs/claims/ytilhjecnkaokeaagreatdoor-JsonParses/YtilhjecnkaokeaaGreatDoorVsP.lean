/- Texts in one: Vs Vt Ps -/
import Derived.Test.YtilhjecnkaokeaaGreatDoorOvP
import Derived.Test.YtilhjecnkaokeaaGreatDoorIwP
import Derived.Test.YtilhjecnkaokeaaGreatDoorScP
namespace Go.Proofs.YtilhjecnkaokeaaGreatDoor.rd
open Go.RowKit
theorem ret_rvalue {m:Nat}{w:World}{a0 a1 a2 a3 a4 a5 a6 a7:Value} (h:BX w m [a0,a1,a2,a3,a4,a5,a6,a7]) (tmps:Array Value) (h2:tmps[2]?.getD undef=.pointer (some ⟨m,0,none⟩)) :
 (results Tryz.f39 tmps).run Tryz.prog w=.ok (.agg #[a0,a1,a2,a3,a4,a5,a6,a7]) w:=by
 obtain ⟨q0,q1,q2,q3,q4,q5,q6,q7⟩:=BX.cells h
 simp [results,Tryz.results39,h2,go_sem,q0,q1,q2,q3,q4,q5,q6,q7]
theorem rv_out {rb:Nat}{s:ByteArray}{o:Int}{w W u uf:World}{r:(JT × Nat) ⊕ (Nat × Nat)}{cs:List Value} (h:RVC rb s o W r cs u) (hM:Mv rb W u) (hW:Mv rb w W) (hm:w.heap.size < W.heap.size) (hrl:rb < w.heap.size) (hU:Upd w.heap.size u uf):RVC rb s o w r cs uf∧Mv rb w uf:=by
 refine ⟨?_,(hW.trans hM).own (Nat.le_refl _) (upd_mv hU)⟩
 rcases h with ⟨v,k,vr,a,p,e1,e2,e3,e4,e5,e6,e7,e8,e9⟩|⟨g,k,o',e1,e2,e3,e4,e5⟩
 · exact .inl ⟨v,k,vr,a,p,e1,e2,e3,e4,(upd_mv hU).obj (by omega) e5,(e6.keep fun b hb=>hU.block b (by have:=e6.ge b hb;omega)).base (by omega),e7,e8,e9⟩
 · exact .inr ⟨g,k,o',e1,e2,e3,e4,(upd_mv hU).obj (by omega) e5⟩
def isW (s:ByteArray) (k:Nat) (wd:ByteArray):Prop:=k+wd.size≤s.size∧s.extract k (k+wd.size)=wd
theorem isW_first {s:ByteArray}{k:Nat}{wd:ByteArray}{c:UInt8}{t:List UInt8} (hc:wd.data.toList=c::t) (h:isW s k wd):by_ s k=(c.toNat:Int):=by
 obtain ⟨h1,h2⟩:=h
 have hz:wd.size=t.length+1:=by
  have:wd.data.toList.length=wd.size:=Array.length_toList
  rw [← this,hc];rfl
 have hk:k < s.size:=by omega
 rw [by_eq s k hk]
 have e:(s.extract k (k+wd.size)).data.toList=wd.data.toList:=by rw [h2]
 rw [pt.cut_take,hc,cutAt s k hk,hz,List.take_succ_cons] at e
 exact (List.cons.inj e).1
theorem wordR_is (wd:ByteArray) (kd:Int) (tr:Bool) (s:ByteArray) (k:Nat) (hk:k≤s.size):(isW s k wd→wordR wd kd tr s k=.inl (leaf kd tr zed ⟨#[]⟩,k+wd.size))∧(¬ isW s k wd→wordR wd kd tr s k=.inr (1,k)):=by
 unfold wordR
 exact ⟨fun h=>if_pos ((pre_word s wd k hk).2 h),fun h=>if_neg (fun q=>h ((pre_word s wd k hk).1 q))⟩
def wN:ByteArray:=⟨#[110,117,108,108]⟩
def wT:ByteArray:=⟨#[116,114,117,101]⟩
def wF:ByteArray:=⟨#[102,97,108,115,101]⟩
theorem val_word (lf of:Nat→(JT × Nat) ⊕ (Nat × Nat)) (s:ByteArray) (k:Nat) (hk:k < s.size) (hg:gap s k=k) (h1:by_ s k≠91) (h2:by_ s k≠123) (h3:by_ s k≠34) (h4:by_ s k≠45) (h5:¬ (48≤by_ s k∧by_ s k≤57)) :
 (isW s k wN→valR lf of s k=.inl (leaf 0 false zed ⟨#[]⟩,k+4))∧(¬ isW s k wN→isW s k wT→valR lf of s k=.inl (leaf 1 true zed ⟨#[]⟩,k+4))∧(¬ isW s k wN→¬ isW s k wT→isW s k wF→valR lf of s k=.inl (leaf 1 false zed ⟨#[]⟩,k+5))∧(¬ isW s k wN→¬ isW s k wT→¬ isW s k wF→valR lf of s k=.inr (1,k)):=by
 have low:∀ c:Nat,c < 128→(nxt s k=(c:Int)↔by_ s k=(c:Int)):=fun c hc=>nxt_low s k hk c hc
 have n1:nxt s k=110↔by_ s k=110:=low 110 (by omega)
 have n2:nxt s k=116↔by_ s k=116:=low 116 (by omega)
 have n3:nxt s k=102↔by_ s k=102:=low 102 (by omega)
 have n4:nxt s k=34↔by_ s k=34:=low 34 (by omega)
 have n5:nxt s k=91↔by_ s k=91:=low 91 (by omega)
 have n6:nxt s k=123↔by_ s k=123:=low 123 (by omega)
 have n7:numB (nxt s k)=false:=by
  unfold numB
  have b1:¬ nxt s k=45:=fun e=>h4 ((low 45 (by omega)).1 e)
  have b2:¬ (48≤nxt s k∧nxt s k≤57):=fun e=>by
   obtain ⟨c,hc⟩:∃ c:Nat,nxt s k=(c:Int):=⟨(nxt s k).toNat,by omega⟩
   have:=(low c (by omega)).1 hc
   exact h5 ⟨by omega,by omega⟩
  rw [beq_eq_false_iff_ne.mpr b1,Bool.false_or]
  rcases Decidable.not_and_iff_or_not.1 b2 with q|q
  · rw [decide_eq_false q];rfl
  · rw [decide_eq_false q,Bool.and_false]
 have fN:=fun h=>isW_first (s:=s) (k:=k) (wd:=wN) (c:=110) (t:=[117,108,108]) rfl h
 have fT:=fun h=>isW_first (s:=s) (k:=k) (wd:=wT) (c:=116) (t:=[114,117,101]) rfl h
 have fF:=fun h=>isW_first (s:=s) (k:=k) (wd:=wF) (c:=102) (t:=[97,108,115,101]) rfl h
 have wn:=wordR_is wN 0 false s k (by omega)
 have wt:=wordR_is wT 1 true s k (by omega)
 have wf:=wordR_is wF 1 false s k (by omega)
 unfold valR
 rw [hg]
 refine ⟨fun h=>?_,fun ha h=>?_,fun ha hb h=>?_,fun ha hb hc=>?_⟩
 · rw [if_pos (n1.2 (fN h))]
   exact wn.1 h
 · have hy:by_ s k=116:=fT h
   rw [if_neg (fun e=>by have:=n1.1 e;omega),if_pos (n2.2 hy)]
   exact wt.1 h
 · have hy:by_ s k=102:=fF h
   rw [if_neg (fun e=>by have:=n1.1 e;omega),if_neg (fun e=>by have:=n2.1 e;omega),if_pos (n3.2 hy)]
   exact wf.1 h
 · by_cases q1:nxt s k=110
   · rw [if_pos q1];exact wn.2 ha
   rw [if_neg q1]
   by_cases q2:nxt s k=116
   · rw [if_pos q2];exact wt.2 hb
   rw [if_neg q2]
   by_cases q3:nxt s k=102
   · rw [if_pos q3];exact wf.2 hc
   rw [if_neg q3,n7,if_neg (by decide),if_neg (fun e=>h3 (n4.1 e)),if_neg (fun e=>h1 (n5.1 e)),if_neg (fun e=>h2 (n6.1 e))]
theorem val_end (lf of:Nat→(JT × Nat) ⊕ (Nat × Nat)) (s:ByteArray) (hg:gap s s.size=s.size):valR lf of s s.size=.inr (1,s.size):=by
 have e:nxt s s.size=-1:=if_pos rfl
 unfold valR
 rw [hg,e]
 rfl
theorem val_byte (lf of:Nat→(JT × Nat) ⊕ (Nat × Nat)) (s:ByteArray) (k:Nat) (hk:k < s.size) (hg:gap s k=k) :
 (by_ s k=91→valR lf of s k=lf k)∧(by_ s k=123→valR lf of s k=of k)∧(by_ s k=34→valR lf of s k=textR s k)∧(by_ s k=45∨(48≤by_ s k∧by_ s k≤57)→valR lf of s k=numJ s k):=by
 have low:∀ c:Nat,c < 128→by_ s k=(c:Int)→nxt s k=(c:Int):=fun c hc h=>(nxt_low s k hk c hc).2 h
 unfold valR
 rw [hg]
 refine ⟨fun h=>?_,fun h=>?_,fun h=>?_,fun h=>?_⟩
 · rw [low 91 (by omega) h];rfl
 · rw [low 123 (by omega) h];rfl
 · rw [low 34 (by omega) h];rfl
 · obtain ⟨c,hc⟩:∃ c:Nat,by_ s k=(c:Int):=⟨(by_ s k).toNat,by omega⟩
   have hn:=low c (by omega) hc
   rw [hn,if_neg (by omega),if_neg (by omega),if_neg (by omega),if_pos]
   unfold numB
   rcases h with h|h
   · rw [show (c:Int)=45 by omega];rfl
   · rw [decide_eq_true (show (48:Int)≤(c:Int) by omega),decide_eq_true (show (c:Int)≤57 by omega)]
     simp
set_option maxRecDepth 100000 in
set_option maxHeartbeats 6400000 in
theorem rvalue_any (rb:Nat) (s:ByteArray) (o:Int) (hs:s.size≤1048576) (lf of:Nat→(JT × Nat) ⊕ (Nat × Nat))
 (LC:∀ (w:World) (k:Nat),RF w rb s k 0 o→k < s.size→Calls Tryz.prog 81 #[.pointer (some ⟨rb,0,none⟩)] w (RVP rb s o w (lf k)))
 (OC:∀ (w:World) (k:Nat),RF w rb s k 0 o→k < s.size→Calls Tryz.prog 82 #[.pointer (some ⟨rb,0,none⟩)] w (RVP rb s o w (of k)))
 (w:World) (k:Nat) (h:RF w rb s k 0 o) (hk:k≤s.size) (hg:gap s k=k) :
 Calls Tryz.prog 39 #[.pointer (some ⟨rb,0,none⟩)] w (RVP rb s o w (valR lf of s k)):=by
 have hrl:=blk_lt h
 obtain ⟨res,hres⟩:∃ res,res=valR lf of s k:=⟨_,rfl⟩
 rw [← hres]
 have HRES:=hide hres
 have hb0:Below w.heap.size w (w.alloc (.cells #[.int .i64 0,.bool false,.bool false,.string ⟨#[]⟩,.int .i64 0,.string ⟨#[]⟩,.slice none 0 0,.slice none 0 0] 28)):=(Below.refl _ _).alloc (Nat.le_refl _) _
 have HR0:=hide (h.below hb0)
 have HX0:Hid (BX (w.alloc (.cells #[.int .i64 0,.bool false,.bool false,.string ⟨#[]⟩,.int .i64 0,.string ⟨#[]⟩,.slice none 0 0,.slice none 0 0] 28)) w.heap.size zcells):=heap_alloc_new w _
 have HM0:=hide (Mv.of (rb:=rb) hb0)
 have HLC:=hide LC
 have HOC:=hide OC
 have HG:=hide hg
 clear h hb0 hres LC OC hg
 obtain ⟨c0,c1,c2,c3⟩:=(uh HR0).cells
 clear c2 c3
 have hwr:rb≠w.heap.size:=by omega
 by_cases hlt:k < s.size
 · have e1:((k:Int) == (s.size:Int))=false:=beq_eq_false_iff_ne.mpr (by omega)
   have e1N:(k == s.size)=false:=beq_eq_false_iff_ne.mpr (by omega)
   have hix:=index_any s k (k:Int) rfl hlt
   have HVB:=hide (val_byte lf of s k hlt (uh HG))
   have HVW:=hide (val_word lf of s k hlt (uh HG))
   have hyb:=by_bd s k
   have hk0:(0:Int)≤(k:Int):=by omega
   generalize by_ s k=y at *
   go_enter Tryz.func39,Tryz.ntmps39
   go_wp2
   go_quiet (fail)
   have hR1:=(uh HR0).drewN nq
   have HX1:Hid (BX ((w.alloc (.cells #[.int .i64 0,.bool false,.bool false,.string ⟨#[]⟩,.int .i64 0,.string ⟨#[]⟩,.slice none 0 0,.slice none 0 0] 28)).drewN nq) w.heap.size zcells):=uh HX0
   have HM1:=hide ((uh HM0).drewN nq)
   clear HR0 HX0 HM0 c0 c1
   generalize (w.alloc (.cells #[.int .i64 0,.bool false,.bool false,.string ⟨#[]⟩,.int .i64 0,.string ⟨#[]⟩,.slice none 0 0,.slice none 0 0] 28)).drewN nq=W1 at *
   obtain ⟨c0,c1,c2,c3⟩:=hR1.cells
   have HR1:=hide hR1
   clear c2 c3 hR1 e1 e1N
   go_wp2
   go_quiet (fail)
   have hR2:=(uh HR1).drewN nq
   have HX2:Hid (BX (W1.drewN nq) w.heap.size zcells):=uh HX1
   have HM2:=hide ((uh HM1).drewN nq)
   clear HR1 HX1 HM1 c0 c1 hix
   generalize W1.drewN nq=W2 at *
   have HR2:=hide hR2
   have hwz:w.heap.size < W2.heap.size:=blk_lt (uh HX2)
   clear hR2
   by_cases y91:y=91
   · subst y91
     have hv:=(uh HVB).1 rfl
     rw [hv] at HRES
     have CC:=hide (uh HLC W2 k (uh HR2) hlt)
     clear hv HVB HVW HLC HOC
     go_wp2_with fail
     refine (uh CC).mono ?_
     intro e u hv0
     obtain ⟨cs,he,h8,hvc,hMu⟩:=hv0.cells
     obtain ⟨kk,tt,ng,dg,ex,xx,p1,n1,r1,p2,n2,r2,rfl⟩:=h8
     subst he
     have HXu:=hide (show BX u w.heap.size zcells from hMu.obj (Ne.symm hwr) (uh HX2))
     have HVC:=hide hvc
     have HMu:=hide hMu
     clear hv0 hvc hMu CC HX2
     simp only [zcells] at HXu
     obtain ⟨q0,q1,q2,q3,q4,q5,q6,q7⟩:=(uh HXu).cells
     obtain ⟨g0,g1,g2,g3,g4,g5,g6,g7⟩:=(uh HXu).frees
     go_wp2
     have hX:=st8_bx (uh HXu) rfl (.int .i64 kk) (.bool tt) (.bool ng) (.string dg) (.int .i64 ex) (.string xx) (.slice p1 n1 r1) (.slice p2 n2 r2)
     have hU:=st8_upd u w.heap.size (.int .i64 kk) (.bool tt) (.bool ng) (.string dg) (.int .i64 ex) (.string xx) (.slice p1 n1 r1) (.slice p2 n2 r2)
     obtain ⟨hz1,hz2⟩:=rv_out (uh HVC) (uh HMu) (uh HM2) hwz hrl hU
     simp only [st8] at hX hz1 hz2
     rw [uh HRES]
     exact bodyPost_ret (ret_rvalue hX _ rfl) rfl (hz1.post ⟨_,_,_,_,_,_,_,_,_,_,_,_,rfl⟩ hz2)
   by_cases y123:y=123
   · subst y123
     have hv:=(uh HVB).2.1 rfl
     rw [hv] at HRES
     have CC:=hide (uh HOC W2 k (uh HR2) hlt)
     clear hv HVB HVW HLC HOC y91
     go_wp2_with fail
     refine (uh CC).mono ?_
     intro e u hv0
     obtain ⟨cs,he,h8,hvc,hMu⟩:=hv0.cells
     obtain ⟨kk,tt,ng,dg,ex,xx,p1,n1,r1,p2,n2,r2,rfl⟩:=h8
     subst he
     have HXu:=hide (show BX u w.heap.size zcells from hMu.obj (Ne.symm hwr) (uh HX2))
     have HVC:=hide hvc
     have HMu:=hide hMu
     clear hv0 hvc hMu CC HX2
     simp only [zcells] at HXu
     obtain ⟨q0,q1,q2,q3,q4,q5,q6,q7⟩:=(uh HXu).cells
     obtain ⟨g0,g1,g2,g3,g4,g5,g6,g7⟩:=(uh HXu).frees
     go_wp2
     have hX:=st8_bx (uh HXu) rfl (.int .i64 kk) (.bool tt) (.bool ng) (.string dg) (.int .i64 ex) (.string xx) (.slice p1 n1 r1) (.slice p2 n2 r2)
     have hU:=st8_upd u w.heap.size (.int .i64 kk) (.bool tt) (.bool ng) (.string dg) (.int .i64 ex) (.string xx) (.slice p1 n1 r1) (.slice p2 n2 r2)
     obtain ⟨hz1,hz2⟩:=rv_out (uh HVC) (uh HMu) (uh HM2) hwz hrl hU
     simp only [st8] at hX hz1 hz2
     rw [uh HRES]
     exact bodyPost_ret (ret_rvalue hX _ rfl) rfl (hz1.post ⟨_,_,_,_,_,_,_,_,_,_,_,_,rfl⟩ hz2)
   by_cases y34:y=34
   · subst y34
     have hv:=(uh HVB).2.2.1 rfl
     rw [hv] at HRES
     have TX:=hide (rjtext_any rb s k o W2 (uh HR2) hlt hs)
     clear hv HVB HVW HLC HOC y91 y123
     go_wp2_with fail
     refine (uh TX).mono ?_
     rintro e u ⟨hT,hMu⟩
     obtain ⟨x,hx,hcs⟩:∃ x,e=.returned (.string x)∧((∃ l j,letts s k=.inl (l,j)∧j≤s.size∧x=⟨l.toArray⟩∧RF u rb s (j:Nat) 0 o)∨(∃ j,letts s k=.inr j∧j≤s.size∧x=⟨#[]⟩∧RF u rb s (j:Nat) 5 o)):=by
      rcases hT with ⟨l,j,q1,q2,q3,q4⟩|⟨j,q1,q2,q3,q4⟩
      · exact ⟨_,q3,.inl ⟨l,j,q1,q2,rfl,q4⟩⟩
      · exact ⟨_,q3,.inr ⟨j,q1,q2,rfl,q4⟩⟩
     subst hx
     have HXu:=hide (show BX u w.heap.size zcells from hMu.obj (Ne.symm hwr) (uh HX2))
     have HCS:=hide hcs
     have HMu:=hide hMu
     clear hT hcs hMu TX HX2
     simp only [zcells] at HXu
     obtain ⟨q0,q1,q2,q3,q4,q5,q6,q7⟩:=(uh HXu).cells
     obtain ⟨g0,g1,g2,g3,g4,g5,g6,g7⟩:=(uh HXu).frees
     go_wp2
     have hX:=st8_bx (uh HXu) rfl (.int .i64 3) (.bool false) (.bool false) (.string ⟨#[]⟩) (.int .i64 0) (.string x) (.slice none 0 0) (.slice none 0 0)
     have hU:=st8_upd u w.heap.size (.int .i64 3) (.bool false) (.bool false) (.string ⟨#[]⟩) (.int .i64 0) (.string x) (.slice none 0 0) (.slice none 0 0)
     have hMz:=((uh HM2).trans (uh HMu)).own (Nat.le_refl _) (upd_mv hU)
     rcases uh HCS with ⟨l,j,q1,q2,rfl,q4⟩|⟨j,q1,q2,rfl,q4⟩
     · have hRz:=(upd_mv hU).obj hwr q4
       have hr:res=.inl (leaf 3 false zed ⟨l.toArray⟩,j):=by
        rw [uh HRES];unfold textR;rw [q1]
       have hl4:=letts_len4 q1 q2
       have hnr:nrm (JT.mk 3 false zed ⟨l.toArray⟩ [] [])=leaf 3 false zed ⟨l.toArray⟩:=by
        rw [nrm_mk,if_neg (by decide),if_neg (by decide),if_pos rfl,letts_clean q1]
        rfl
       simp only [st8] at hX hRz hMz
       exact bodyPost_ret (ret_rvalue hX _ rfl) rfl ⟨.inl ⟨_,j,JT.mk 3 false zed ⟨l.toArray⟩ [] [],j,_,[],hr,q2,q2,rfl,rfl,hRz,vrep_flat _ _ 3 false zed ⟨l.toArray⟩,List.nodup_nil,hnr,bd_flat 3 false zed ⟨l.toArray⟩ (by omega) (by decide) ⟨by decide,by decide⟩ (by rw [sz_mk];omega)⟩,hMz⟩
     · have hRz:=(upd_mv hU).obj hwr q4
       have hr:res=.inr (4,j):=by
        rw [uh HRES];unfold textR;rw [q1]
       simp only [st8] at hX hRz hMz
       exact bodyPost_ret (ret_rvalue hX _ rfl) rfl ⟨.inr ⟨4,j,_,o,hr,q2,by decide,rfl,⟨3,false,false,⟨#[]⟩,0,⟨#[]⟩,none,0,0,none,0,0,rfl⟩,⟨by omega,by omega⟩,hRz⟩,hMz⟩
   by_cases y45:y=45
   · subst y45
     have hv:=(uh HVB).2.2.2 (.inl rfl)
     rw [hv] at HRES
     have CC:=hide (rnumber_any rb s k o W2 (uh HR2) hk hs)
     clear hv HVB HVW HLC HOC y91 y123 y34
     go_wp2_with fail
     refine (uh CC).mono ?_
     intro e u hv0
     obtain ⟨cs,he,h8,hvc,hMu⟩:=hv0.cells
     obtain ⟨kk,tt,ng,dg,ex,xx,p1,n1,r1,p2,n2,r2,rfl⟩:=h8
     subst he
     have HXu:=hide (show BX u w.heap.size zcells from hMu.obj (Ne.symm hwr) (uh HX2))
     have HVC:=hide hvc
     have HMu:=hide hMu
     clear hv0 hvc hMu CC HX2
     simp only [zcells] at HXu
     obtain ⟨q0,q1,q2,q3,q4,q5,q6,q7⟩:=(uh HXu).cells
     obtain ⟨g0,g1,g2,g3,g4,g5,g6,g7⟩:=(uh HXu).frees
     go_wp2
     have hX:=st8_bx (uh HXu) rfl (.int .i64 kk) (.bool tt) (.bool ng) (.string dg) (.int .i64 ex) (.string xx) (.slice p1 n1 r1) (.slice p2 n2 r2)
     have hU:=st8_upd u w.heap.size (.int .i64 kk) (.bool tt) (.bool ng) (.string dg) (.int .i64 ex) (.string xx) (.slice p1 n1 r1) (.slice p2 n2 r2)
     obtain ⟨hz1,hz2⟩:=rv_out (uh HVC) (uh HMu) (uh HM2) hwz hrl hU
     simp only [st8] at hX hz1 hz2
     rw [uh HRES]
     exact bodyPost_ret (ret_rvalue hX _ rfl) rfl (hz1.post ⟨_,_,_,_,_,_,_,_,_,_,_,_,rfl⟩ hz2)
   have n91:(y == 91)=false:=beq_eq_false_iff_ne.mpr y91
   have n123:(y == 123)=false:=beq_eq_false_iff_ne.mpr y123
   have n34:(y == 34)=false:=beq_eq_false_iff_ne.mpr y34
   have n45:(y == 45)=false:=beq_eq_false_iff_ne.mpr y45
   by_cases yd:48≤y∧y≤57
   · have hv:=(uh HVB).2.2.2 (.inr yd)
     rw [hv] at HRES
     have d1:decide (48≤y)=true:=decide_eq_true yd.1
     have d2:decide (y≤57)=true:=decide_eq_true yd.2
     have CC:=hide (rnumber_any rb s k o W2 (uh HR2) hk hs)
     clear hv HVB HVW HLC HOC y91 y123 y34 y45 yd hyb
     go_wp2_with fail
     refine (uh CC).mono ?_
     intro e u hv0
     obtain ⟨cs,he,h8,hvc,hMu⟩:=hv0.cells
     obtain ⟨kk,tt,ng,dg,ex,xx,p1,n1,r1,p2,n2,r2,rfl⟩:=h8
     subst he
     have HXu:=hide (show BX u w.heap.size zcells from hMu.obj (Ne.symm hwr) (uh HX2))
     have HVC:=hide hvc
     have HMu:=hide hMu
     clear hv0 hvc hMu CC HX2
     simp only [zcells] at HXu
     obtain ⟨q0,q1,q2,q3,q4,q5,q6,q7⟩:=(uh HXu).cells
     obtain ⟨g0,g1,g2,g3,g4,g5,g6,g7⟩:=(uh HXu).frees
     go_wp2
     have hX:=st8_bx (uh HXu) rfl (.int .i64 kk) (.bool tt) (.bool ng) (.string dg) (.int .i64 ex) (.string xx) (.slice p1 n1 r1) (.slice p2 n2 r2)
     have hU:=st8_upd u w.heap.size (.int .i64 kk) (.bool tt) (.bool ng) (.string dg) (.int .i64 ex) (.string xx) (.slice p1 n1 r1) (.slice p2 n2 r2)
     obtain ⟨hz1,hz2⟩:=rv_out (uh HVC) (uh HMu) (uh HM2) hwz hrl hU
     simp only [st8] at hX hz1 hz2
     rw [uh HRES]
     exact bodyPost_ret (ret_rvalue hX _ rfl) rfl (hz1.post ⟨_,_,_,_,_,_,_,_,_,_,_,_,rfl⟩ hz2)
   have hw:=uh HVW y91 y123 y34 y45 yd
   clear HVB HVW HLC HOC y91 y123 y34 y45
   by_cases yl:y < 48
   · have d1:decide (48≤y)=false:=decide_eq_false (by omega)
     clear yl yd hyb
     by_cases wn:isW s k wN
     · have HRES2:=hide ((uh HRES).trans (hw.1 wn))
       have HWN:Hid (k+wN.size≤s.size∧s.extract k (k+wN.size)=wN):=wn
       have hle:k+4≤s.size:=wn.1
       clear HRES hw wn
       have CC:=hide (rword_yes wN rb s k o W2 (uh HR2) (uh HWN).1 hs (uh HWN).2)
       simp only [wN] at CC
       go_wp2_with fail
       refine (uh CC).mono ?_
       rintro e u3 ⟨rfl,hRq,hMq⟩
       have HXu3:=hide (show BX u3 w.heap.size zcells from hMq.obj (Ne.symm hwr) (uh HX2))
       have HMu3:=hide ((uh HM2).trans hMq)
       have HRu3:=hide hRq
       clear hRq hMq CC
       have HXu:=HXu3
       simp only [zcells] at HXu
       obtain ⟨q0,q1,q2,q3,q4,q5,q6,q7⟩:=(uh HXu).cells
       obtain ⟨g0,g1,g2,g3,g4,g5,g6,g7⟩:=(uh HXu).frees
       go_wp2
       have hX:=st8_bx (uh HXu) rfl (.int .i64 0) (.bool false) (.bool false) (.string ⟨#[]⟩) (.int .i64 0) (.string ⟨#[]⟩) (.slice none 0 0) (.slice none 0 0)
       have hU:=st8_upd u3 w.heap.size (.int .i64 0) (.bool false) (.bool false) (.string ⟨#[]⟩) (.int .i64 0) (.string ⟨#[]⟩) (.slice none 0 0) (.slice none 0 0)
       have hRz:=(upd_mv hU).obj hwr (uh HRu3)
       have hMz:=(uh HMu3).own (Nat.le_refl _) (upd_mv hU)
       have hnr:nrm (JT.mk 0 false zed ⟨#[]⟩ [] [])=leaf 0 false zed ⟨#[]⟩:=by
        rw [nrm_mk];rfl
       simp only [st8] at hX hRz hMz
       exact bodyPost_ret (ret_rvalue hX _ rfl) rfl ⟨.inl ⟨_,k+4,JT.mk 0 false zed ⟨#[]⟩ [] [],k+4,_,[],uh HRES2,hle,hle,rfl,rfl,hRz,vrep_flat _ _ 0 false zed ⟨#[]⟩,List.nodup_nil,hnr,bd_flat 0 false zed ⟨#[]⟩ (by omega) (by decide) ⟨by decide,by decide⟩ (by decide)⟩,hMz⟩
     have HWN:Hid (¬ (k+wN.size≤s.size∧s.extract k (k+wN.size)=wN)):=wn
     by_cases wt:isW s k wT
     · have HRES2:=hide ((uh HRES).trans (hw.2.1 wn wt))
       have HWT:Hid (k+wT.size≤s.size∧s.extract k (k+wT.size)=wT):=wt
       have hle:k+4≤s.size:=wt.1
       clear HRES hw wn wt
       have CC:=hide (rword_no wN rb s k o W2 (uh HR2) hk (by decide) hs (uh HWN))
       simp only [wN] at CC
       go_wp2_with fail
       refine (uh CC).mono ?_
       rintro e u3 ⟨rfl,hRq,hMq⟩
       have HXu3:=hide (show BX u3 w.heap.size zcells from hMq.obj (Ne.symm hwr) (uh HX2))
       have HMu3:=hide ((uh HM2).trans hMq)
       have HRu3:=hide hRq
       clear hRq hMq CC
       have CC:=hide (rword_yes wT rb s k o u3 (uh HRu3) (uh HWT).1 hs (uh HWT).2)
       simp only [wT] at CC
       go_wp2_with fail
       refine (uh CC).mono ?_
       rintro e u4 ⟨rfl,hRq,hMq⟩
       have HXu4:=hide (show BX u4 w.heap.size zcells from hMq.obj (Ne.symm hwr) (uh HXu3))
       have HMu4:=hide ((uh HMu3).trans hMq)
       have HRu4:=hide hRq
       clear hRq hMq CC
       have HXu:=HXu4
       simp only [zcells] at HXu
       obtain ⟨q0,q1,q2,q3,q4,q5,q6,q7⟩:=(uh HXu).cells
       obtain ⟨g0,g1,g2,g3,g4,g5,g6,g7⟩:=(uh HXu).frees
       go_wp2
       have hX:=st8_bx (uh HXu) rfl (.int .i64 1) (.bool true) (.bool false) (.string ⟨#[]⟩) (.int .i64 0) (.string ⟨#[]⟩) (.slice none 0 0) (.slice none 0 0)
       have hU:=st8_upd u4 w.heap.size (.int .i64 1) (.bool true) (.bool false) (.string ⟨#[]⟩) (.int .i64 0) (.string ⟨#[]⟩) (.slice none 0 0) (.slice none 0 0)
       have hRz:=(upd_mv hU).obj hwr (uh HRu4)
       have hMz:=(uh HMu4).own (Nat.le_refl _) (upd_mv hU)
       have hnr:nrm (JT.mk 1 true zed ⟨#[]⟩ [] [])=leaf 1 true zed ⟨#[]⟩:=by
        rw [nrm_mk];rfl
       simp only [st8] at hX hRz hMz
       exact bodyPost_ret (ret_rvalue hX _ rfl) rfl ⟨.inl ⟨_,k+4,JT.mk 1 true zed ⟨#[]⟩ [] [],k+4,_,[],uh HRES2,hle,hle,rfl,rfl,hRz,vrep_flat _ _ 1 true zed ⟨#[]⟩,List.nodup_nil,hnr,bd_flat 1 true zed ⟨#[]⟩ (by omega) (by decide) ⟨by decide,by decide⟩ (by decide)⟩,hMz⟩
     have HWT:Hid (¬ (k+wT.size≤s.size∧s.extract k (k+wT.size)=wT)):=wt
     by_cases wf:isW s k wF
     · have HRES2:=hide ((uh HRES).trans (hw.2.2.1 wn wt wf))
       have HWF:Hid (k+wF.size≤s.size∧s.extract k (k+wF.size)=wF):=wf
       have hle:k+5≤s.size:=wf.1
       clear HRES hw wn wt wf
       have CC:=hide (rword_no wN rb s k o W2 (uh HR2) hk (by decide) hs (uh HWN))
       simp only [wN] at CC
       go_wp2_with fail
       refine (uh CC).mono ?_
       rintro e u3 ⟨rfl,hRq,hMq⟩
       have HXu3:=hide (show BX u3 w.heap.size zcells from hMq.obj (Ne.symm hwr) (uh HX2))
       have HMu3:=hide ((uh HM2).trans hMq)
       have HRu3:=hide hRq
       clear hRq hMq CC
       have CC:=hide (rword_no wT rb s k o u3 (uh HRu3) hk (by decide) hs (uh HWT))
       simp only [wT] at CC
       go_wp2_with fail
       refine (uh CC).mono ?_
       rintro e u4 ⟨rfl,hRq,hMq⟩
       have HXu4:=hide (show BX u4 w.heap.size zcells from hMq.obj (Ne.symm hwr) (uh HXu3))
       have HMu4:=hide ((uh HMu3).trans hMq)
       have HRu4:=hide hRq
       clear hRq hMq CC
       have CC:=hide (rword_yes wF rb s k o u4 (uh HRu4) (uh HWF).1 hs (uh HWF).2)
       simp only [wF] at CC
       go_wp2_with fail
       refine (uh CC).mono ?_
       rintro e u5 ⟨rfl,hRq,hMq⟩
       have HXu5:=hide (show BX u5 w.heap.size zcells from hMq.obj (Ne.symm hwr) (uh HXu4))
       have HMu5:=hide ((uh HMu4).trans hMq)
       have HRu5:=hide hRq
       clear hRq hMq CC
       have HXu:=HXu5
       simp only [zcells] at HXu
       obtain ⟨q0,q1,q2,q3,q4,q5,q6,q7⟩:=(uh HXu).cells
       obtain ⟨g0,g1,g2,g3,g4,g5,g6,g7⟩:=(uh HXu).frees
       go_wp2
       have hX:=st8_bx (uh HXu) rfl (.int .i64 1) (.bool false) (.bool false) (.string ⟨#[]⟩) (.int .i64 0) (.string ⟨#[]⟩) (.slice none 0 0) (.slice none 0 0)
       have hU:=st8_upd u5 w.heap.size (.int .i64 1) (.bool false) (.bool false) (.string ⟨#[]⟩) (.int .i64 0) (.string ⟨#[]⟩) (.slice none 0 0) (.slice none 0 0)
       have hRz:=(upd_mv hU).obj hwr (uh HRu5)
       have hMz:=(uh HMu5).own (Nat.le_refl _) (upd_mv hU)
       have hnr:nrm (JT.mk 1 false zed ⟨#[]⟩ [] [])=leaf 1 false zed ⟨#[]⟩:=by
        rw [nrm_mk];rfl
       simp only [st8] at hX hRz hMz
       exact bodyPost_ret (ret_rvalue hX _ rfl) rfl ⟨.inl ⟨_,k+5,JT.mk 1 false zed ⟨#[]⟩ [] [],k+5,_,[],uh HRES2,hle,hle,rfl,rfl,hRz,vrep_flat _ _ 1 false zed ⟨#[]⟩,List.nodup_nil,hnr,bd_flat 1 false zed ⟨#[]⟩ (by omega) (by decide) ⟨by decide,by decide⟩ (by decide)⟩,hMz⟩
     have HWF:Hid (¬ (k+wF.size≤s.size∧s.extract k (k+wF.size)=wF)):=wf
     have HRES2:=hide ((uh HRES).trans (hw.2.2.2 wn wt wf))
     clear HRES hw wn wt wf
     have CC:=hide (rword_no wN rb s k o W2 (uh HR2) hk (by decide) hs (uh HWN))
     simp only [wN] at CC
     go_wp2_with fail
     refine (uh CC).mono ?_
     rintro e u3 ⟨rfl,hRq,hMq⟩
     have HXu3:=hide (show BX u3 w.heap.size zcells from hMq.obj (Ne.symm hwr) (uh HX2))
     have HMu3:=hide ((uh HM2).trans hMq)
     have HRu3:=hide hRq
     clear hRq hMq CC
     have CC:=hide (rword_no wT rb s k o u3 (uh HRu3) hk (by decide) hs (uh HWT))
     simp only [wT] at CC
     go_wp2_with fail
     refine (uh CC).mono ?_
     rintro e u4 ⟨rfl,hRq,hMq⟩
     have HXu4:=hide (show BX u4 w.heap.size zcells from hMq.obj (Ne.symm hwr) (uh HXu3))
     have HMu4:=hide ((uh HMu3).trans hMq)
     have HRu4:=hide hRq
     clear hRq hMq CC
     have CC:=hide (rword_no wF rb s k o u4 (uh HRu4) hk (by decide) hs (uh HWF))
     simp only [wF] at CC
     go_wp2_with fail
     refine (uh CC).mono ?_
     rintro e u5 ⟨rfl,hRq,hMq⟩
     have HXu5:=hide (show BX u5 w.heap.size zcells from hMq.obj (Ne.symm hwr) (uh HXu4))
     have HMu5:=hide ((uh HMu4).trans hMq)
     have HRu5:=hide hRq
     clear hRq hMq CC
     have F1:=hide (rfails_on rb s (k:Nat) o (k:Nat) 6 u5 (uh HRu5))
     obtain ⟨c0,c1,c2,c3⟩:=(uh HRu5).cells
     clear c0 c2 c3
     go_wp2_with fail
     refine (uh F1).mono ?_
     rintro e u ⟨rfl,hRu,hUu⟩
     have HXu:=hide (show BX u w.heap.size zcells from (upd_mv hUu).obj (Ne.symm hwr) (uh HXu5))
     have HMu:=hide ((uh HMu5).trans (upd_mv hUu))
     have HRu:=hide hRu
     clear hRu hUu F1 c1
     simp only [zcells] at HXu
     obtain ⟨q0,q1,q2,q3,q4,q5,q6,q7⟩:=(uh HXu).cells
     obtain ⟨g0,g1,g2,g3,g4,g5,g6,g7⟩:=(uh HXu).frees
     go_wp2
     have hX:=st8_bx (uh HXu) rfl (.int .i64 1) (.bool false) (.bool false) (.string ⟨#[]⟩) (.int .i64 0) (.string ⟨#[]⟩) (.slice none 0 0) (.slice none 0 0)
     have hU:=st8_upd u w.heap.size (.int .i64 1) (.bool false) (.bool false) (.string ⟨#[]⟩) (.int .i64 0) (.string ⟨#[]⟩) (.slice none 0 0) (.slice none 0 0)
     have hRz:=(upd_mv hU).obj hwr (uh HRu)
     have hMz:=(uh HMu).own (Nat.le_refl _) (upd_mv hU)
     simp only [st8] at hX hRz hMz
     exact bodyPost_ret (ret_rvalue hX _ rfl) rfl ⟨.inr ⟨1,k,_,o,uh HRES2,hk,by decide,rfl,⟨1,false,false,⟨#[]⟩,0,⟨#[]⟩,none,0,0,none,0,0,rfl⟩,⟨by omega,by omega⟩,hRz⟩,hMz⟩
   · have d1:decide (48≤y)=true:=decide_eq_true (by omega)
     have d2:decide (y≤57)=false:=decide_eq_false (by omega)
     clear yl yd hyb
     by_cases wn:isW s k wN
     · have HRES2:=hide ((uh HRES).trans (hw.1 wn))
       have HWN:Hid (k+wN.size≤s.size∧s.extract k (k+wN.size)=wN):=wn
       have hle:k+4≤s.size:=wn.1
       clear HRES hw wn
       have CC:=hide (rword_yes wN rb s k o W2 (uh HR2) (uh HWN).1 hs (uh HWN).2)
       simp only [wN] at CC
       go_wp2_with fail
       refine (uh CC).mono ?_
       rintro e u3 ⟨rfl,hRq,hMq⟩
       have HXu3:=hide (show BX u3 w.heap.size zcells from hMq.obj (Ne.symm hwr) (uh HX2))
       have HMu3:=hide ((uh HM2).trans hMq)
       have HRu3:=hide hRq
       clear hRq hMq CC
       have HXu:=HXu3
       simp only [zcells] at HXu
       obtain ⟨q0,q1,q2,q3,q4,q5,q6,q7⟩:=(uh HXu).cells
       obtain ⟨g0,g1,g2,g3,g4,g5,g6,g7⟩:=(uh HXu).frees
       go_wp2
       have hX:=st8_bx (uh HXu) rfl (.int .i64 0) (.bool false) (.bool false) (.string ⟨#[]⟩) (.int .i64 0) (.string ⟨#[]⟩) (.slice none 0 0) (.slice none 0 0)
       have hU:=st8_upd u3 w.heap.size (.int .i64 0) (.bool false) (.bool false) (.string ⟨#[]⟩) (.int .i64 0) (.string ⟨#[]⟩) (.slice none 0 0) (.slice none 0 0)
       have hRz:=(upd_mv hU).obj hwr (uh HRu3)
       have hMz:=(uh HMu3).own (Nat.le_refl _) (upd_mv hU)
       have hnr:nrm (JT.mk 0 false zed ⟨#[]⟩ [] [])=leaf 0 false zed ⟨#[]⟩:=by
        rw [nrm_mk];rfl
       simp only [st8] at hX hRz hMz
       exact bodyPost_ret (ret_rvalue hX _ rfl) rfl ⟨.inl ⟨_,k+4,JT.mk 0 false zed ⟨#[]⟩ [] [],k+4,_,[],uh HRES2,hle,hle,rfl,rfl,hRz,vrep_flat _ _ 0 false zed ⟨#[]⟩,List.nodup_nil,hnr,bd_flat 0 false zed ⟨#[]⟩ (by omega) (by decide) ⟨by decide,by decide⟩ (by decide)⟩,hMz⟩
     have HWN:Hid (¬ (k+wN.size≤s.size∧s.extract k (k+wN.size)=wN)):=wn
     by_cases wt:isW s k wT
     · have HRES2:=hide ((uh HRES).trans (hw.2.1 wn wt))
       have HWT:Hid (k+wT.size≤s.size∧s.extract k (k+wT.size)=wT):=wt
       have hle:k+4≤s.size:=wt.1
       clear HRES hw wn wt
       have CC:=hide (rword_no wN rb s k o W2 (uh HR2) hk (by decide) hs (uh HWN))
       simp only [wN] at CC
       go_wp2_with fail
       refine (uh CC).mono ?_
       rintro e u3 ⟨rfl,hRq,hMq⟩
       have HXu3:=hide (show BX u3 w.heap.size zcells from hMq.obj (Ne.symm hwr) (uh HX2))
       have HMu3:=hide ((uh HM2).trans hMq)
       have HRu3:=hide hRq
       clear hRq hMq CC
       have CC:=hide (rword_yes wT rb s k o u3 (uh HRu3) (uh HWT).1 hs (uh HWT).2)
       simp only [wT] at CC
       go_wp2_with fail
       refine (uh CC).mono ?_
       rintro e u4 ⟨rfl,hRq,hMq⟩
       have HXu4:=hide (show BX u4 w.heap.size zcells from hMq.obj (Ne.symm hwr) (uh HXu3))
       have HMu4:=hide ((uh HMu3).trans hMq)
       have HRu4:=hide hRq
       clear hRq hMq CC
       have HXu:=HXu4
       simp only [zcells] at HXu
       obtain ⟨q0,q1,q2,q3,q4,q5,q6,q7⟩:=(uh HXu).cells
       obtain ⟨g0,g1,g2,g3,g4,g5,g6,g7⟩:=(uh HXu).frees
       go_wp2
       have hX:=st8_bx (uh HXu) rfl (.int .i64 1) (.bool true) (.bool false) (.string ⟨#[]⟩) (.int .i64 0) (.string ⟨#[]⟩) (.slice none 0 0) (.slice none 0 0)
       have hU:=st8_upd u4 w.heap.size (.int .i64 1) (.bool true) (.bool false) (.string ⟨#[]⟩) (.int .i64 0) (.string ⟨#[]⟩) (.slice none 0 0) (.slice none 0 0)
       have hRz:=(upd_mv hU).obj hwr (uh HRu4)
       have hMz:=(uh HMu4).own (Nat.le_refl _) (upd_mv hU)
       have hnr:nrm (JT.mk 1 true zed ⟨#[]⟩ [] [])=leaf 1 true zed ⟨#[]⟩:=by
        rw [nrm_mk];rfl
       simp only [st8] at hX hRz hMz
       exact bodyPost_ret (ret_rvalue hX _ rfl) rfl ⟨.inl ⟨_,k+4,JT.mk 1 true zed ⟨#[]⟩ [] [],k+4,_,[],uh HRES2,hle,hle,rfl,rfl,hRz,vrep_flat _ _ 1 true zed ⟨#[]⟩,List.nodup_nil,hnr,bd_flat 1 true zed ⟨#[]⟩ (by omega) (by decide) ⟨by decide,by decide⟩ (by decide)⟩,hMz⟩
     have HWT:Hid (¬ (k+wT.size≤s.size∧s.extract k (k+wT.size)=wT)):=wt
     by_cases wf:isW s k wF
     · have HRES2:=hide ((uh HRES).trans (hw.2.2.1 wn wt wf))
       have HWF:Hid (k+wF.size≤s.size∧s.extract k (k+wF.size)=wF):=wf
       have hle:k+5≤s.size:=wf.1
       clear HRES hw wn wt wf
       have CC:=hide (rword_no wN rb s k o W2 (uh HR2) hk (by decide) hs (uh HWN))
       simp only [wN] at CC
       go_wp2_with fail
       refine (uh CC).mono ?_
       rintro e u3 ⟨rfl,hRq,hMq⟩
       have HXu3:=hide (show BX u3 w.heap.size zcells from hMq.obj (Ne.symm hwr) (uh HX2))
       have HMu3:=hide ((uh HM2).trans hMq)
       have HRu3:=hide hRq
       clear hRq hMq CC
       have CC:=hide (rword_no wT rb s k o u3 (uh HRu3) hk (by decide) hs (uh HWT))
       simp only [wT] at CC
       go_wp2_with fail
       refine (uh CC).mono ?_
       rintro e u4 ⟨rfl,hRq,hMq⟩
       have HXu4:=hide (show BX u4 w.heap.size zcells from hMq.obj (Ne.symm hwr) (uh HXu3))
       have HMu4:=hide ((uh HMu3).trans hMq)
       have HRu4:=hide hRq
       clear hRq hMq CC
       have CC:=hide (rword_yes wF rb s k o u4 (uh HRu4) (uh HWF).1 hs (uh HWF).2)
       simp only [wF] at CC
       go_wp2_with fail
       refine (uh CC).mono ?_
       rintro e u5 ⟨rfl,hRq,hMq⟩
       have HXu5:=hide (show BX u5 w.heap.size zcells from hMq.obj (Ne.symm hwr) (uh HXu4))
       have HMu5:=hide ((uh HMu4).trans hMq)
       have HRu5:=hide hRq
       clear hRq hMq CC
       have HXu:=HXu5
       simp only [zcells] at HXu
       obtain ⟨q0,q1,q2,q3,q4,q5,q6,q7⟩:=(uh HXu).cells
       obtain ⟨g0,g1,g2,g3,g4,g5,g6,g7⟩:=(uh HXu).frees
       go_wp2
       have hX:=st8_bx (uh HXu) rfl (.int .i64 1) (.bool false) (.bool false) (.string ⟨#[]⟩) (.int .i64 0) (.string ⟨#[]⟩) (.slice none 0 0) (.slice none 0 0)
       have hU:=st8_upd u5 w.heap.size (.int .i64 1) (.bool false) (.bool false) (.string ⟨#[]⟩) (.int .i64 0) (.string ⟨#[]⟩) (.slice none 0 0) (.slice none 0 0)
       have hRz:=(upd_mv hU).obj hwr (uh HRu5)
       have hMz:=(uh HMu5).own (Nat.le_refl _) (upd_mv hU)
       have hnr:nrm (JT.mk 1 false zed ⟨#[]⟩ [] [])=leaf 1 false zed ⟨#[]⟩:=by
        rw [nrm_mk];rfl
       simp only [st8] at hX hRz hMz
       exact bodyPost_ret (ret_rvalue hX _ rfl) rfl ⟨.inl ⟨_,k+5,JT.mk 1 false zed ⟨#[]⟩ [] [],k+5,_,[],uh HRES2,hle,hle,rfl,rfl,hRz,vrep_flat _ _ 1 false zed ⟨#[]⟩,List.nodup_nil,hnr,bd_flat 1 false zed ⟨#[]⟩ (by omega) (by decide) ⟨by decide,by decide⟩ (by decide)⟩,hMz⟩
     have HWF:Hid (¬ (k+wF.size≤s.size∧s.extract k (k+wF.size)=wF)):=wf
     have HRES2:=hide ((uh HRES).trans (hw.2.2.2 wn wt wf))
     clear HRES hw wn wt wf
     have CC:=hide (rword_no wN rb s k o W2 (uh HR2) hk (by decide) hs (uh HWN))
     simp only [wN] at CC
     go_wp2_with fail
     refine (uh CC).mono ?_
     rintro e u3 ⟨rfl,hRq,hMq⟩
     have HXu3:=hide (show BX u3 w.heap.size zcells from hMq.obj (Ne.symm hwr) (uh HX2))
     have HMu3:=hide ((uh HM2).trans hMq)
     have HRu3:=hide hRq
     clear hRq hMq CC
     have CC:=hide (rword_no wT rb s k o u3 (uh HRu3) hk (by decide) hs (uh HWT))
     simp only [wT] at CC
     go_wp2_with fail
     refine (uh CC).mono ?_
     rintro e u4 ⟨rfl,hRq,hMq⟩
     have HXu4:=hide (show BX u4 w.heap.size zcells from hMq.obj (Ne.symm hwr) (uh HXu3))
     have HMu4:=hide ((uh HMu3).trans hMq)
     have HRu4:=hide hRq
     clear hRq hMq CC
     have CC:=hide (rword_no wF rb s k o u4 (uh HRu4) hk (by decide) hs (uh HWF))
     simp only [wF] at CC
     go_wp2_with fail
     refine (uh CC).mono ?_
     rintro e u5 ⟨rfl,hRq,hMq⟩
     have HXu5:=hide (show BX u5 w.heap.size zcells from hMq.obj (Ne.symm hwr) (uh HXu4))
     have HMu5:=hide ((uh HMu4).trans hMq)
     have HRu5:=hide hRq
     clear hRq hMq CC
     have F1:=hide (rfails_on rb s (k:Nat) o (k:Nat) 6 u5 (uh HRu5))
     obtain ⟨c0,c1,c2,c3⟩:=(uh HRu5).cells
     clear c0 c2 c3
     go_wp2_with fail
     refine (uh F1).mono ?_
     rintro e u ⟨rfl,hRu,hUu⟩
     have HXu:=hide (show BX u w.heap.size zcells from (upd_mv hUu).obj (Ne.symm hwr) (uh HXu5))
     have HMu:=hide ((uh HMu5).trans (upd_mv hUu))
     have HRu:=hide hRu
     clear hRu hUu F1 c1
     simp only [zcells] at HXu
     obtain ⟨q0,q1,q2,q3,q4,q5,q6,q7⟩:=(uh HXu).cells
     obtain ⟨g0,g1,g2,g3,g4,g5,g6,g7⟩:=(uh HXu).frees
     go_wp2
     have hX:=st8_bx (uh HXu) rfl (.int .i64 1) (.bool false) (.bool false) (.string ⟨#[]⟩) (.int .i64 0) (.string ⟨#[]⟩) (.slice none 0 0) (.slice none 0 0)
     have hU:=st8_upd u w.heap.size (.int .i64 1) (.bool false) (.bool false) (.string ⟨#[]⟩) (.int .i64 0) (.string ⟨#[]⟩) (.slice none 0 0) (.slice none 0 0)
     have hRz:=(upd_mv hU).obj hwr (uh HRu)
     have hMz:=(uh HMu).own (Nat.le_refl _) (upd_mv hU)
     simp only [st8] at hX hRz hMz
     exact bodyPost_ret (ret_rvalue hX _ rfl) rfl ⟨.inr ⟨1,k,_,o,uh HRES2,hk,by decide,rfl,⟨1,false,false,⟨#[]⟩,0,⟨#[]⟩,none,0,0,none,0,0,rfl⟩,⟨by omega,by omega⟩,hRz⟩,hMz⟩
 · obtain rfl:k=s.size:=by omega
   have e1:((s.size:Int) == (s.size:Int))=true:=by simp
   have HRES2:=hide ((uh HRES).trans (val_end lf of s (uh HG)))
   clear HRES HLC HOC
   go_enter Tryz.func39,Tryz.ntmps39
   go_wp2
   go_quiet (fail)
   have hR1:=(uh HR0).drewN nq
   have HX2:Hid (BX ((w.alloc (.cells #[.int .i64 0,.bool false,.bool false,.string ⟨#[]⟩,.int .i64 0,.string ⟨#[]⟩,.slice none 0 0,.slice none 0 0] 28)).drewN nq) w.heap.size zcells):=uh HX0
   have HM2:=hide ((uh HM0).drewN nq)
   clear HR0 HX0 HM0 c0 c1
   generalize (w.alloc (.cells #[.int .i64 0,.bool false,.bool false,.string ⟨#[]⟩,.int .i64 0,.string ⟨#[]⟩,.slice none 0 0,.slice none 0 0] 28)).drewN nq=W2 at *
   obtain ⟨c0,c1,c2,c3⟩:=hR1.cells
   have F1:=hide (rfails_on rb s (s.size:Nat) o (s.size:Nat) 6 W2 hR1)
   clear c0 c2 c3 hR1
   go_wp2_with fail
   refine (uh F1).mono ?_
   rintro e u ⟨rfl,hRu,hUu⟩
   have HXu:=hide (show BX u w.heap.size zcells from (upd_mv hUu).obj (Ne.symm hwr) (uh HX2))
   have HMu:=hide ((uh HM2).trans (upd_mv hUu))
   have HRu:=hide hRu
   clear hRu hUu F1 HX2 HM2 c1
   simp only [zcells] at HXu
   obtain ⟨q0,q1,q2,q3,q4,q5,q6,q7⟩:=(uh HXu).cells
   obtain ⟨g0,g1,g2,g3,g4,g5,g6,g7⟩:=(uh HXu).frees
   go_wp2
   have hX:=st8_bx (uh HXu) rfl (.int .i64 0) (.bool false) (.bool false) (.string ⟨#[]⟩) (.int .i64 0) (.string ⟨#[]⟩) (.slice none 0 0) (.slice none 0 0)
   have hU:=st8_upd u w.heap.size (.int .i64 0) (.bool false) (.bool false) (.string ⟨#[]⟩) (.int .i64 0) (.string ⟨#[]⟩) (.slice none 0 0) (.slice none 0 0)
   have hRz:=(upd_mv hU).obj hwr (uh HRu)
   have hMz:=(uh HMu).own (Nat.le_refl _) (upd_mv hU)
   simp only [st8] at hX hRz hMz
   exact bodyPost_ret (ret_rvalue hX _ rfl) rfl ⟨.inr ⟨1,s.size,_,o,uh HRES2,hk,by decide,rfl,⟨0,false,false,⟨#[]⟩,0,⟨#[]⟩,none,0,0,none,0,0,rfl⟩,⟨by omega,by omega⟩,hRz⟩,hMz⟩
theorem valR_gap (lf of:Nat→(JT × Nat) ⊕ (Nat × Nat)) (s:ByteArray) (k:Nat) (hk:k≤s.size):valR lf of s k=valR lf of s (gap s k):=by
 unfold valR
 rw [gap_fix s k hk]
theorem vfN_gap (s:ByteArray) (n k:Nat) (hk:k≤s.size):vfN s n k=vfN s n (gap s k):=by
 cases n with
 | zero=>exact valR_gap _ _ s k hk
 | succ n=>exact valR_gap _ _ s k hk
theorem rvalue_at (rb:Nat) (s:ByteArray) (hs:s.size≤1048576):∀ (n:Nat),n≤64→∀ (w:World) (k:Nat),RF w rb s k 0 (64 - (n:Int))→k≤s.size→gap s k=k→Calls Tryz.prog 39 #[.pointer (some ⟨rb,0,none⟩)] w (RVP rb s (64 - (n:Int)) w (vfN s n k))
 | 0,_,w,k,h,hk,hg=>by
   have h0:(64 - ((0:Nat):Int))=64:=rfl
   rw [h0] at h ⊢
   exact rvalue_any rb s 64 hs _ _ (fun u k h1 h2=>rlist_deep rb s _ u k h1 (Nat.le_of_lt h2)) (fun u k h1 h2=>robj_deep rb s _ u k h1 (Nat.le_of_lt h2)) w k h hk hg
 | n+1,hn,w,k,h,hk,hg=>by
   have e:64 - ((n+1:Nat):Int)+1=64 - (n:Int):=by omega
   have VC:∀ (w:World) (k:Nat),RF w rb s k 0 (64 - ((n+1:Nat):Int)+1)→k≤s.size→gap s k=k→Calls Tryz.prog 39 #[.pointer (some ⟨rb,0,none⟩)] w (RVP rb s (64 - ((n+1:Nat):Int)+1) w (vfN s n k)):=by
    rw [e]
    exact rvalue_at rb s hs n (by omega)
   have hup:=vfN_up s n
   exact rvalue_any rb s _ hs _ _ (fun u k h1 h2=>rlist_ok rb s _ _ hs (by omega) (by omega) VC (fun k v k' a b=>⟨hup.1 k v k' b,hup.2 k v k' a b⟩) (vfN_gap s n) u k h1 h2)
    (fun u k h1 h2=>robj_ok rb s _ _ hs (by omega) (by omega) VC hup (vfN_gap s n) u k h1 h2) w k h hk hg
def RPP (w:World) (r:JT ⊕ (Nat × Nat)) (e:Ending) (w':World):Prop :=
 ((∃ v cs p,r=.inl v∧e=.returned (.tuple #[.agg cs.toArray,.int .i64 0,.int .i64 0])∧VRep w' w.heap.size v cs p∧p.Nodup) ∨
  (∃ g k,r=.inr (g,k)∧cdE g≠0∧e=.returned (.tuple #[.agg zcells.toArray,.int .i64 (k:Nat),.int .i64 (cdE g)])))∧Below w.heap.size w w'
theorem ret_rjparse {m:Nat}{w:World}{a0 a1 a2 a3 a4 a5 a6 a7 x y:Value} (h:BX w m [a0,a1,a2,a3,a4,a5,a6,a7]) (tmps:Array Value) (h2:tmps[2]?.getD undef=.pointer (some ⟨m,0,none⟩)) (h3:tmps[3]?.getD undef=x) (h4:tmps[4]?.getD undef=y) :
 (results Tryz.f11 tmps).run Tryz.prog w=.ok (.tuple #[.agg #[a0,a1,a2,a3,a4,a5,a6,a7],x,y]) w:=by
 obtain ⟨q0,q1,q2,q3,q4,q5,q6,q7⟩:=BX.cells h
 simp [results,Tryz.results11,h2,h3,h4,go_sem,q0,q1,q2,q3,q4,q5,q6,q7]
set_option maxRecDepth 100000 in
set_option maxHeartbeats 1600000 in
theorem rjparse_long (s:ByteArray) (w:World) (hs:1048576 < s.size):Calls Tryz.prog 11 #[.string s] w (RPP w (.inr (0,0))):=by
 have hs':(1048576:Int) < (s.size:Int):=by omega
 clear hs
 go_enter Tryz.func11,Tryz.ntmps11
 go_wp2
 have hX:BX (w.alloc (.cells #[.int .i64 0,.bool false,.bool false,.string ⟨#[]⟩,.int .i64 0,.string ⟨#[]⟩,.slice none 0 0,.slice none 0 0] 28)) w.heap.size zcells:=heap_alloc_new w _
 exact bodyPost_ret (ret_rjparse hX _ rfl rfl rfl) rfl ⟨.inr ⟨0,0,rfl,by decide,rfl⟩,(Below.refl _ _).alloc (Nat.le_refl _) _⟩
end Go.Proofs.YtilhjecnkaokeaaGreatDoor.rd
