/- Texts in one: Ov -/
import Derived.Test.YtilhjecnkaokeaaGreatDoorLrP
namespace Go.Proofs.YtilhjecnkaokeaaGreatDoor.rd
open Go.RowKit
theorem nf_val {m:Nat}{w u wf:World}{fv:Value}{T:List FT} (ho:u.ownsRow (m+1) 74 9 fv T.length (flat9 (T.map tc))) (hv:∀ q∈T,VRep u (m+1) q.2.1 q.2.2.1 q.2.2.2) (hn:(own fv++(T.map tp).flatten).Nodup) (hB:w.heap.size≤m+1) (hk:∀ b,m+1≤b→b < u.heap.size→wf.heap[b]?=u.heap[b]?) :
 ∃ p,VRep wf w.heap.size (JT.mk 5 false zed ⟨#[]⟩ [] (T.map tf)) (ocs fv) p∧p.Nodup:=by
 have e:fcs (T.map tf) (T.map (fun q=>q.2.2.1))=flat9 (T.map tc):=fcs_flat T
 have:=VRep.mk (w:=wf) (B:=w.heap.size) (k:=5) (t:=false) (d:=zed) (x:=⟨#[]⟩) (l:=[]) (f:=T.map tf) (lv:=.slice none 0 0) (fv:=fv) (css:=[]) (gss:=T.map (fun q=>q.2.2.1)) (ps:=[]) (qs:=T.map tp)
  (World.ownsRow_nil _ _ _ _) (by rw [e,List.length_map];exact owns_base (owns_keep ho fun b h=>hk b (owns_ge ho b h).1 (owns_ge ho b h).2) hB) rfl rfl (by simp) (by simp) (fun i v c p h=>by simp at h)
  (fun i n v c p a1 a2 a3=>by
   rw [List.getElem?_map] at a1 a2 a3
   cases hq:T[i]? with
   | none=>rw [hq] at a1;simp at a1
   | some q =>
     rw [hq] at a1 a2 a3
     simp only [Option.map_some,Option.some.injEq] at a1 a2 a3
     have hm:=List.mem_of_getElem? hq
     have h1:=hv q hm
     rw [← a2,← a3,show v=q.2.1 from (congrArg Prod.snd a1).symm]
     exact (h1.keep fun b h=>hk b (h1.ge b h).1 (h1.ge b h).2).base hB)
 exact ⟨_,this,by simpa [own,Value.ownBlock] using hn⟩
theorem bd_obj {fl:List (ByteArray × JT)} (hb:∀ p∈fl,Bd p.2∧p.1.size≤4194304∧pt.clean p.1=p.1) (hl:fl.length≤1048576):Bd (JT.mk 5 false zed ⟨#[]⟩ [] fl) :=
 .mk ⟨by omega,by omega⟩ (by decide) ⟨by decide,by decide⟩ (by decide) (by simp) (by omega) (fun v hv=>by simp at hv) (fun p hp=>by have:=(hb p hp).2.1;omega) (fun p hp=>(hb p hp).1)
set_option maxRecDepth 100000 in
set_option maxHeartbeats 6400000 in
theorem robj_ok (rb:Nat) (s:ByteArray) (o:Int) (vf:Nat→(JT × Nat) ⊕ (Nat × Nat)) (hs:s.size≤1048576) (ho0:0≤o) (ho:o < 64)
 (VC:∀ (w:World) (k:Nat),RF w rb s k 0 (o+1)→k≤s.size→gap s k=k→Calls Tryz.prog 39 #[.pointer (some ⟨rb,0,none⟩)] w (RVP rb s (o+1) w (vf k)))
 (hup:Ups s vf) (hvf:∀ k,k≤s.size→vf k=vf (gap s k))
 (w:World) (k:Nat) (h:RF w rb s k 0 o) (hk:k < s.size) :
 Calls Tryz.prog 82 #[.pointer (some ⟨rb,0,none⟩)] w (RVP rb s o w (objR vf s o k)):=by
 have hrl:=blk_lt h
 obtain ⟨res,hres⟩:∃ res,res=objR vf s o k:=⟨_,rfl⟩
 rw [← hres]
 obtain ⟨R,hR⟩:∃ R,R=if nxt s (gap s (k+1))=125 then .inl ([],gap s (k+1)) else rowF (ostep vf s) 125 s (s.size+1) [] (gap s (k+1)):=⟨_,rfl⟩
 have HRES:=hide (hres.trans (objR_open vf s o k (by omega) R hR))
 have HROW:Hid (∀ (F:List (ByteArray × JT)) (g:Nat),R=.inl (F,g)→(nms F).Nodup):=by
  intro F g he
  have h0:rowR (ostep vf s) 125 s o [] k=.inl (F,g+1):=by
   rw [row_open _ _ _ _ _ _ (by omega),← hR,he]
   rfl
  exact (obj_row hup hk h0).1
 have HRR:=hide hR
 have hg0:=gap_le2 s (k+1) (by omega)
 have hgf:=gap_fix s (k+1) (by omega)
 have hbC:=isC_nxt s (gap s (k+1)) hg0.2 125 (by decide)
 obtain ⟨b0,b1,b2⟩:=box_two w zcells (ocs (.slice none 0 0))
 have HW:Hid (LW rb s w _ (k:Int) 0 o (ocs (.slice none 0 0))):=⟨h.below b2,b0,b1,Mv.of b2⟩
 have OP:=hide (ropens_ok rb s k o _ (h.below b2) hk hs ho0 ho)
 have HVC:=hide VC
 have HUP:=hide hup
 have HVF:=hide hvf
 clear b0 b1 b2 h hR hres VC hup hvf
 have hid1:(ocs (.slice none 0 0)).toArray=#[.int .i64 5,.bool false,.bool false,.string ⟨#[]⟩,.int .i64 0,.string ⟨#[]⟩,.slice none 0 0,.slice none 0 0]:=rfl
 have hid0:zcells.toArray=#[.int .i64 0,.bool false,.bool false,.string ⟨#[]⟩,.int .i64 0,.string ⟨#[]⟩,.slice none 0 0,.slice none 0 0]:=rfl
 rw [hid0,hid1] at HW OP
 clear hid0 hid1
 generalize gap s (k+1)=g0 at *
 have HG:=hide hgf
 have HBC:=hide hbC
 clear hgf hbC
 go_enter Tryz.func82,Tryz.ntmps82
 go_wp2_with fail
 refine (uh OP).mono ?_
 clear OP
 generalize (w.alloc (.cells #[.int .i64 0,.bool false,.bool false,.string ⟨#[]⟩,.int .i64 0,.string ⟨#[]⟩,.slice none 0 0,.slice none 0 0] 28)).alloc (.cells #[.int .i64 5,.bool false,.bool false,.string ⟨#[]⟩,.int .i64 0,.string ⟨#[]⟩,.slice none 0 0,.slice none 0 0] 28)=W at *
 rintro e u1 ⟨rfl,hR1,hU1⟩
 have HW1:=hide ((uh HW).upd hrl hU1 hR1)
 have IS:=hide (ris_any rb s g0 0 (o+1) 125 u1 hR1 hg0.2)
 have e7:(decide ((0:Int)=0) && isC s g0 125)=isC s g0 125:=by simp
 rw [e7] at IS
 clear HW hR1 hU1 e7
 generalize isC s g0 125=e0 at *
 go_wp2_with fail
 refine (uh IS).mono ?_
 rintro e u2 ⟨rfl,n2,hu2⟩
 have HW2:=hide ((uh HW1).drewN hu2)
 clear hu2 HW1 IS
 go_wp2
 go_loopw [5] (fun v wr=>∃ b,v=.bool b∧Hid (BX wr w.heap.size zcells)∧Hid (ORel rb (w.heap.size+1) s (o+1) vf R w b wr)) (fun v wr=>rowMr s rb v wr)
 case atStart =>
  have hw:=uh HW2
  refine ⟨!e0,rfl,hw.2.1,hw.2.2.2,?_⟩
  have hbx:NF (w.heap.size+1) (w.heap.size+1+1) u2 []:=⟨.slice none 0 0,[],hw.2.2.1,rfl,World.ownsRow_nil _ _ _ _,fun q h=>by simp at h,by simp [own,Value.ownBlock]⟩
  have hb:=uh HBC
  have hRR:=uh HRR
  cases e0 with
  | false =>
    have hn:¬ nxt s g0=125:=of_decide_eq_false hb.symm
    rw [if_neg hn] at hRR
    exact .inl ⟨rfl,[],g0,s.size+1,hg0.2,uh HG,by omega,by simp,hw.1,hbx,fun v hv=>by simp at hv,hRR⟩
  | true =>
    have hn:nxt s g0=125:=of_decide_eq_true hb.symm
    exact .inr (.inl ⟨rfl,[],g0,hg0.2,uh HG,by simp,hw.1,hbx,fun v hv=>by simp at hv,by rw [if_pos hn,hRR,if_pos hn];rfl⟩)
 case round =>
  obtain ⟨b,rfl,HZ,hrel⟩:=hrel
  clear HRR HG HBC HW2 hg0
  obtain ⟨hMr,hA|hB|hC⟩:=uh hrel
  · obtain ⟨rfl,fl,a,f,ha,hga,hf,hll,hRa,hNF,hBd,hRR⟩:=hA
    clear hrel
    obtain ⟨f,rfl⟩:∃ q,f=q+1:=⟨f - 1,by omega⟩
    have HAT:=hide (rf_at hRa)
    have HOW:Hid (OW rb s w wr (a:Int) 0 (o+1) fl):=⟨hRa,uh HZ,hNF,hMr⟩
    have HBd:=hide hBd
    have HRR:=hide hRR
    have I0:=hide (ris_any rb s a 0 (o+1) 34 wr hRa ha)
    have e7:(decide ((0:Int)=0) && isC s a 34)=isC s a 34:=by simp
    rw [e7,isC_nxt s a ha 34 (by decide)] at I0
    obtain ⟨c0,c1,c2,c3⟩:=hRa.cells
    clear hRa hNF hMr hBd hRR HZ e7 c0 c3
    by_cases hq:nxt s a=34
    · have hqd:decide (nxt s a=((34:UInt8).toNat:Int))=true:=decide_eq_true hq
      rw [hqd] at I0
      have hal:a < s.size:=nxt_some s a ha (by rw [hq];decide)
      have HQ:=hide hq
      clear hqd hq
      go_wp2_with fail
      refine (uh I0).mono ?_
      rintro e u1 ⟨rfl,n1,hu1⟩
      have HW1:Hid (OW rb s w u1 (a:Int) 0 (o+1) fl):=(uh HOW).step hrl (by rw [hu1];exact (Mv.refl rb wr).drewN n1) (by rw [hu1];exact (uh HOW).1.drewN n1)
      have TX:=hide (rjtext_any rb s a (o+1) u1 (uh HW1).1 hal hs)
      clear hu1 I0 c1 c2 HOW
      go_wp2_with fail
      refine (uh TX).mono ?_
      rintro e u2 ⟨hT,hM2⟩
      obtain ⟨nm,k0,c0,rfl,hR2,hk0,hcs⟩:∃ (nm:ByteArray) (k0:Nat) (c0:Int),e=.returned (.string nm)∧RF u2 rb s (k0:Nat) c0 (o+1)∧k0≤s.size∧((c0=0∧∃ l,letts s a=.inl (l,k0)∧nm=⟨l.toArray⟩)∨(c0=5∧letts s a=.inr k0)):=by
       rcases hT with ⟨l,j,q1,q2,q3,q4⟩|⟨j,q1,q2,q3,q4⟩
       · exact ⟨_,j,0,q3,q4,q2,.inl ⟨rfl,l,q1,rfl⟩⟩
       · exact ⟨_,j,5,q3,q4,q2,.inr ⟨rfl,q1⟩⟩
      have HW2:=hide ((uh HW1).step hrl hM2 hR2)
      have HCS:=hide hcs
      clear hT hM2 hR2 hcs HW1 TX
      go_wp2
      go_loopw [9] (fun v wr2=>∃ i:Nat,v=.int .i64 (i:Int)∧i≤fl.length∧Hid (OW rb s w wr2 (chkK (fl.take i) nm k0 c0 a) (chkC (fl.take i) nm c0) (o+1) fl)) (fun v _=>fl.length - (intOf v).toNat)
      case atStart =>
       refine ⟨0,rfl,by omega,?_⟩
       have e1:chkK (fl.take 0) nm k0 c0 a=k0:=by unfold chkK hasN;simp
       have e2:chkC (fl.take 0) nm c0=c0:=by unfold chkC hasN;simp
       show OW _ _ _ _ _ _ _ _
       rw [e1,e2]
       exact uh HW2
      case round =>
       obtain ⟨i,rfl,hi,HWi⟩:=hrel
       clear HW2
       by_cases hlt:i < fl.length
       · have hlt':(i:Int) < (fl.length:Int):=by omega
         have hiI:(i:Int) < 1048577:=by omega
         obtain ⟨fv,T,m1,m2,m3,m4,m5⟩:=(uh HWi).2.2.1.ex
         have hTl:T.length=fl.length:=by rw [m2,List.length_map]
         have hS9:mm.SV wr fv (T.map tc).length 9 (flat9 (T.map tc)):=by rw [List.length_map];exact mm.own_sv m3
         obtain ⟨ad,cc,nm2,a0,a1,a2,a3,a4,a5,a6,a7,rfl,hti,hat⟩:=row9 hS9 (fg_tc m4) i (by rw [List.length_map];omega)
         have hfi:∃ v,fl[i]?=some (nm2,v):=by
          rw [m2,List.getElem?_map]
          rw [List.getElem?_map] at hti
          cases hq2:T[i]? with
          | none=>rw [hq2] at hti;simp at hti
          | some q =>
            rw [hq2] at hti
            simp only [Option.map_some,Option.some.injEq] at hti
            exact ⟨q.2.1,by rw [Option.map_some];show some (q.1,q.2.1)=_;rw [show q.1=nm2 from congrArg Prod.fst hti]⟩
         obtain ⟨vv,hfi⟩:=hfi
         have hck:=chk_step hfi nm k0 c0 a
         obtain ⟨x0,_,_,_,_,_,_,_,_⟩:=cells9 hat
         obtain ⟨z0,z1,z2,z3,z4,z5,z6,z7⟩:=BX.cells m1
         have hln:((T.map tc).length:Int)=(fl.length:Int):=by rw [List.length_map];omega
         obtain ⟨L,hL⟩:∃ L,L=(T.map tc).length:=⟨_,rfl⟩
         rw [← hL] at z7 hln
         have hiL:(i:Int) < (L:Int):=by omega
         have hi0:(0:Int)≤(i:Int):=by omega
         clear hti hat m1 m2 m3 m4 m5 hS9 z0 z1 z2 z3 z4 z5 z6 hTl hln hL hfi
         generalize ha9:ad.add (i*9)=ad9 at *
         have HCK:=hide hck
         clear hck
         by_cases en:nm2=nm
         · subst en
           have en2:(nm2.toList == nm2.toList)=true:=by simp
           have F1:=hide (rfails_any rb s _ _ (o+1) (a:Int) 8 wr (uh HWi).1)
           have hck2:=(uh HCK).1 rfl
           rw [← hck2.1,← hck2.2] at F1
           go_wp2_with fail
           refine (uh F1).mono ?_
           rintro e u3 ⟨rfl,hR3,hU3⟩
           have HW3:=hide ((uh HWi).step hrl (upd_mv hU3) hR3)
           clear hR3 hU3 F1 hck2 HCK HWi x0 z7
           go_wp2
           exact ⟨⟨i+1,by congr 1,by omega,HW3⟩,by simp [intOf];omega⟩
         · have en2:(nm2.toList == nm.toList)=false:=by
            have:¬ nm2.toList=nm.toList:=fun q=>en (ba_inj q)
            simpa using this
           have hck2:=(uh HCK).2 en
           have HW3:=HWi
           rw [← hck2.1,← hck2.2] at HW3
           clear hck2 HCK en
           go_wp2
           exact ⟨⟨i+1,by congr 1,by omega,HW3⟩,by simp [intOf];omega⟩
       · obtain rfl:i=fl.length:=by omega
         rw [List.take_of_length_le (Nat.le_refl _)] at HWi
         obtain ⟨fv,T,m1,m2,m3,m4,m5⟩:=(uh HWi).2.2.1.ex
         obtain ⟨qa,qc,esv,_,_⟩:=mm.SV.form (mm.own_sv m3)
         subst esv
         have hTl:T.length=fl.length:=by rw [m2,List.length_map]
         rw [hTl] at m1
         obtain ⟨z0,z1,z2,z3,z4,z5,z6,z7⟩:=BX.cells m1
         clear m1 m2 m3 m4 m5 z0 z1 z2 z3 z4 z5 z6 hTl hlt hi
         have hCase:Hid ((∃ gg kz:Nat,chkK fl nm k0 c0 a=(kz:Int)∧chkC fl nm c0=cdE gg∧cdE gg≠0∧kz≤s.size∧R=.inr (gg,kz))∨(chkC fl nm c0=0∧chkK fl nm k0 c0 a=(k0:Int)∧∃ l,letts s a=.inl (l,k0)∧nm=⟨l.toArray⟩∧hasN fl nm=false)):=by
          show _∨_
          rcases uh HCS with ⟨h0,l,hl,hnm⟩|⟨h0,hl⟩
          · cases hh:hasN fl nm with
            | false=>exact .inr ⟨by unfold chkC;rw [hh];simp [h0],by unfold chkK;rw [hh];simp,l,hl,hnm,rfl⟩
            | true=>exact .inl ⟨6,a,by unfold chkK;rw [hh];simp [h0],by unfold chkC;rw [hh];simp [h0];rfl,by decide,ha,(uh HRR).trans (rowF_err (ostep_twice hga (uh HQ) hl (by rw [← hnm];exact hh)))⟩
          · exact .inl ⟨4,k0,by unfold chkK;rw [if_neg (by omega)],by unfold chkC;rw [if_neg (by omega),h0];rfl,by decide,hk0,(uh HRR).trans (rowF_err (ostep_text hga (uh HQ) hl))⟩
         clear HCS
         rcases uh hCase with ⟨gg,kz,hK,hC,hcd,hkz,hRz⟩|⟨hC,hK,l,hl,hnm,hh⟩
         · rw [hK,hC] at HWi
           have DU:=hide (rdue_off rb s (kz:Int) (cdE gg) (o+1) 58 _ (uh HWi).1 hcd)
           have HCD:=hide hcd
           have HRz:=hide hRz
           clear hK hC hcd hRz hCase HRR HQ HVC HUP HVF
           go_wp2_with fail
           refine (uh DU).mono ?_
           rintro e u3 ⟨rfl,hR3,hU3⟩
           have HW3:=hide ((uh HWi).step hrl (upd_mv hU3) hR3)
           clear hR3 hU3 DU HWi z7
           obtain ⟨fv,T,m1,m2,m3,m4,m5⟩:=(uh HW3).2.2.1.ex
           obtain ⟨qa,qc,esv,_,_⟩:=mm.SV.form (mm.own_sv m3)
           subst esv
           have hTl:T.length=fl.length:=by rw [m2,List.length_map]
           have hbA:Below u3.heap.size u3 (u3.alloc (.cells #[.string nm,.int .i64 0,.bool false,.bool false,.string ⟨#[]⟩,.int .i64 0,.string ⟨#[]⟩,.slice none 0 0,.slice none 0 0] 74)):=(Below.refl _ _).alloc (Nat.le_refl _) _
           have hmu3:w.heap.size+1 < u3.heap.size:=blk_lt m1
           have HWx:=hide ((uh HW3).step hrl (Mv.of hbA) ((uh HW3).1.below hbA))
           have HAl:=hide (Mv.of (rb:=rb) hbA)
           have HFx:Hid ((u3.alloc (.cells #[.string nm,.int .i64 0,.bool false,.bool false,.string ⟨#[]⟩,.int .i64 0,.string ⟨#[]⟩,.slice none 0 0,.slice none 0 0] 74)).heap[u3.heap.size]?=some (.cells #[.string nm,.int .i64 0,.bool false,.bool false,.string ⟨#[]⟩,.int .i64 0,.string ⟨#[]⟩,.slice none 0 0,.slice none 0 0] 74 (0,0))):=heap_alloc_new _ _
           have HO:=hide (owns_rf m3 (Mv.of hbA) (by omega:rb < w.heap.size+1+1))
           have hz7:=kc hbA (BX.cells m1).2.2.2.2.2.2.2
           have hf7:(u3.alloc (.cells #[.string nm,.int .i64 0,.bool false,.bool false,.string ⟨#[]⟩,.int .i64 0,.string ⟨#[]⟩,.slice none 0 0,.slice none 0 0] 74)).frozen? ⟨w.heap.size+1,7,none⟩=false:=by rw [World.frozen?_of_block (w:=u3) (a:=⟨w.heap.size+1,7,none⟩) (hbA.block _ hmu3)];exact m1.frees.2.2.2.2.2.2.2
           have HUZ:Hid ((u3.alloc (.cells #[.string nm,.int .i64 0,.bool false,.bool false,.string ⟨#[]⟩,.int .i64 0,.string ⟨#[]⟩,.slice none 0 0,.slice none 0 0] 74)).heap.size=u3.heap.size+1):=World.size_alloc _ _
           have HM1:=hide m1
           have HM2:=hide m2
           have HM3:=hide m3
           have HM4:=hide m4
           have HM5:=hide m5
           have HLS:=hide (show T.length+1≤1000000000000 by omega)
           have HTL:=hide hTl
           clear m1 m2 m3 m4 m5 hbA hTl
           go_upto_region 19 with fail
           generalize u3.alloc (.cells #[.string nm,.int .i64 0,.bool false,.bool false,.string ⟨#[]⟩,.int .i64 0,.string ⟨#[]⟩,.slice none 0 0,.slice none 0 0] 74)=ux at *
           obtain ⟨fb,hfb⟩:∃ fb,fb=u3.heap.size:=⟨_,rfl⟩
           rw [← hfb] at HFx hmu3 HUZ ⊢
           have HFB:=hide hfb
           clear hfb
           have hfr:fb≠rb:=by omega
           have hfm:fb≠w.heap.size+1:=by omega
           have hcv0:=uh HCD
           have HFC:=blk_cell (uh HFx)
           obtain ⟨y0,y1,y2,y3,y4,y5,y6,y7,y8⟩:_∧_∧_∧_∧_∧_∧_∧_∧_:=⟨HFC 0,HFC 1,HFC 2,HFC 3,HFC 4,HFC 5,HFC 6,HFC 7,HFC 8⟩
           simp only [List.getElem?_toArray,List.getElem?_cons_zero,List.getElem?_cons_succ] at y0 y1 y2 y3 y4 y5 y6 y7 y8
           obtain ⟨c0,c1,c2,c3⟩:=(uh HWx).1.cells
           clear c0 c1 c3 HFC
           have H19:Hid (∀ v∈([.string nm,.int .i64 0,.bool false,.bool false,.string ⟨#[]⟩,.int .i64 0,.string ⟨#[]⟩,.slice none 0 0,.slice none 0 0]:List Value),v.oneCell'=true):=by
            intro v hv
            simp only [List.mem_cons,List.not_mem_nil,or_false] at hv
            rcases hv with rfl|rfl|rfl|rfl|rfl|rfl|rfl|rfl|rfl <;> rfl
           obtain ⟨cv,hcv⟩:∃ cv,cv=cdE gg:=⟨_,rfl⟩
           rw [← hcv] at c2 hcv0 HWx
           have hc0:(cv == 0)=false:=beq_eq_false_iff_ne.mpr hcv0
           have HCV0:=hide hcv0
           have HCVE:=hide hcv
           clear hcv hcv0 HCD
           have hBu:Hid (w.heap.size+1+1≤ux.heap.size):=by
            show _≤_
            have:=uh HUZ
            omega
           have hsv:(Value.slice qa T.length qc).ownBlock≠some (w.heap.size+1):=fun e=>by have:=(mm.row_lt (uh HO) _ e).1;omega
           have hsv0:(Value.slice qa T.length qc).ownBlock≠some w.heap.size:=fun e=>by have:=(mm.row_lt (uh HO) _ e).1;omega
           have hsvr:(Value.slice qa T.length qc).ownBlock≠some rb:=fun e=>by have:=(mm.row_lt (uh HO) _ e).1;omega
           have hmux:w.heap.size+1 < ux.heap.size:=by have:=uh HUZ;omega
           go_wp2_with (at_builtin;refine wpList_addf ux _ (w.heap.size+1+1) T.length (.slice qa T.length qc) (flat9 (T.map tc)) [.string nm,.int .i64 0,.bool false,.bool false,.string ⟨#[]⟩,.int .i64 0,.string ⟨#[]⟩,.slice none 0 0,.slice none 0 0] (.tmp 74) (.tmp 76) rfl rfl rfl rfl HO rfl H19 HLS hBu rfl ?_)
           intro g cap w4 HG
           have z7'':=(uh HG).cell hsv hz7
           have f7'':=(uh HG).frozen hmux hsv hf7
           clear hz7 hf7
           have hG:=uh HG
           have hU5:=Upd.setCell (w.heap.size+1) 7 w4 (.slice (some ⟨g,0,none⟩) (T.length+1) cap)
           have hst:∀ b,b < ux.heap.size→(Value.slice qa T.length qc).ownBlock≠some b→b≠w.heap.size+1→(w4.setCell ⟨w.heap.size+1,7,none⟩ (.slice (some ⟨g,0,none⟩) (T.length+1) cap)).heap[b]?=ux.heap[b]?:=fun b h1 h2 h3=>(hU5.block b h3).trans (hG.far h1 h2)
           have HR5:Hid (RF (w4.setCell ⟨w.heap.size+1,7,none⟩ (.slice (some ⟨g,0,none⟩) (T.length+1) cap)) rb s (kz:Int) cv (o+1)):=(hst rb (by omega) hsvr (by omega)).trans (uh HWx).1
           have HZ5:Hid (BX (w4.setCell ⟨w.heap.size+1,7,none⟩ (.slice (some ⟨g,0,none⟩) (T.length+1) cap)) w.heap.size zcells):=(hst _ (by omega) hsv0 (by omega)).trans (uh HWx).2.1
           have HM5x:Hid (Mv rb w (w4.setCell ⟨w.heap.size+1,7,none⟩ (.slice (some ⟨g,0,none⟩) (T.length+1) cap))) :=
            (((uh HWx).2.2.2.trans (Mv.of ((Below.refl _ _).alloc (Nat.le_refl _) _))).grown hG.grow (fun k hk=>by have:=(mm.row_lt (uh HO) k hk).1;omega)).own (Nat.le_succ _) (upd_mv hU5)
           have HB5:Hid (BX (w4.setCell ⟨w.heap.size+1,7,none⟩ (.slice (some ⟨g,0,none⟩) (T.length+1) cap)) (w.heap.size+1) (ocs (.slice (some ⟨g,0,none⟩) (T.length+1) cap))):=by
            have h6:w4.heap[w.heap.size+1]?=_:=(hG.far hmux hsv).trans ((uh HAl).obj (by omega) (uh HM1))
            have:=blk_set h6 7 (.slice (some ⟨g,0,none⟩) (T.length+1) cap)
            show BX _ _ _
            simpa [BX,ocs] using this
           have G1:=hide (rgap_off rb s (kz:Int) cv (o+1) _ (uh HR5) (uh HCV0))
           clear hG hU5 hst
           go_wp2_with fail
           refine (uh G1).mono ?_
           rintro e u6 ⟨rfl,hR6,hU6⟩
           have HB6:Hid (BX u6 (w.heap.size+1) (ocs (.slice (some ⟨g,0,none⟩) (T.length+1) cap))):=(upd_mv hU6).obj (by omega) (uh HB5)
           have HZ6:Hid (BX u6 w.heap.size zcells):=(upd_mv hU6).obj (by omega) (uh HZ5)
           have HM6:=hide ((uh HM5x).trans (upd_mv hU6))
           have HRF6:=hide hR6
           have I1:=hide (ris_any rb s kz cv (o+1) 44 u6 hR6 hkz)
           have e7:(decide (cv=0) && isC s kz 44)=false:=by rw [decide_eq_false (uh HCV0)];rfl
           rw [e7] at I1
           clear hR6 hU6 HB5 HZ5 HM5x G1 e7
           go_wp2_with fail
           refine (uh I1).mono ?_
           rintro e u7 ⟨rfl,n7,hu7⟩
           have HRF7:Hid (RF u7 rb s (kz:Int) cv (o+1)):=by rw [hu7];exact (uh HRF6).drewN n7
           have HB7:Hid (BX u7 (w.heap.size+1) (ocs (.slice (some ⟨g,0,none⟩) (T.length+1) cap))):=by rw [hu7];exact uh HB6
           have HZ7:Hid (BX u7 w.heap.size zcells):=by rw [hu7];exact uh HZ6
           have HM7:Hid (Mv rb w u7):=by rw [hu7];exact (uh HM6).drewN n7
           clear hu7 HRF6 HB6 HZ6 HM6 I1
           go_wp2
           have hce:=uh HCVE
           refine ⟨⟨false,rfl,HZ7,uh HM7,.inr (.inr ⟨rfl,gg,kz,o+1,_,_,_,hkz,by rw [← hce];exact uh HCV0,⟨by omega,by omega⟩,by rw [← hce];exact uh HRF7,uh HB7,uh HRz⟩)⟩,?_⟩
           show 0 < s.size+1 - atOf _ rb
           rw [uh HAT]
           omega
         · rw [hK,hC] at HWi
           have gl:=gap_le2 s k0 hk0
           have HL:=hide hl
           have HNM:=hide hnm
           have HH:=hide hh
           clear hK hC hl hnm hh hCase
           have hbC:=isC_nxt s (gap s k0) gl.2 58 (by decide)
           by_cases hx:nxt s (gap s k0)=58
           · have DU:=hide (rdue_yes rb s k0 (o+1) 58 _ (uh HWi).1 hk0 hs (by rw [hbC];exact decide_eq_true hx))
             have HX:=hide hx
             have hgl:gap s k0 < s.size:=nxt_some s _ gl.2 (by rw [hx];decide)
             clear hbC hx
             go_wp2_with fail
             refine (uh DU).mono ?_
             rintro e u3 ⟨rfl,hR3,hU3⟩
             have HW3:=hide ((uh HWi).step hrl (upd_mv hU3) hR3)
             clear hR3 hU3 DU HWi z7
             obtain ⟨k2,hk2⟩:∃ k2,gap s (gap s k0+1)=k2:=⟨_,rfl⟩
             have hk2l:k2≤s.size:=by rw [← hk2];exact (gap_le2 s _ (by omega)).2
             have hk2u:gap s k0+1≤k2:=by rw [← hk2];exact (gap_le2 s _ (by omega)).1
             have hk2g:gap s k2=k2:=by rw [← hk2];exact gap_fix s _ (by omega)
             have HVK:Hid (vf (gap s k0+1)=vf k2):=by
              show _=_
              rw [uh HVF _ (by omega),hk2]
             rw [hk2] at HW3
             have HK2G:=hide hk2g
             clear hk2 hk2g
             obtain ⟨fv,T,m1,m2,m3,m4,m5⟩:=(uh HW3).2.2.1.ex
             obtain ⟨qa,qc,esv,_,_⟩:=mm.SV.form (mm.own_sv m3)
             subst esv
             have hTl:T.length=fl.length:=by rw [m2,List.length_map]
             have hbA:Below u3.heap.size u3 (u3.alloc (.cells #[.string nm,.int .i64 0,.bool false,.bool false,.string ⟨#[]⟩,.int .i64 0,.string ⟨#[]⟩,.slice none 0 0,.slice none 0 0] 74)):=(Below.refl _ _).alloc (Nat.le_refl _) _
             have hmu3:w.heap.size+1 < u3.heap.size:=blk_lt m1
             have HWx:=hide ((uh HW3).step hrl (Mv.of hbA) ((uh HW3).1.below hbA))
             have HAl:=hide (Mv.of (rb:=rb) hbA)
             have HFx:Hid ((u3.alloc (.cells #[.string nm,.int .i64 0,.bool false,.bool false,.string ⟨#[]⟩,.int .i64 0,.string ⟨#[]⟩,.slice none 0 0,.slice none 0 0] 74)).heap[u3.heap.size]?=some (.cells #[.string nm,.int .i64 0,.bool false,.bool false,.string ⟨#[]⟩,.int .i64 0,.string ⟨#[]⟩,.slice none 0 0,.slice none 0 0] 74 (0,0))):=heap_alloc_new _ _
             have HO:=hide (owns_rf m3 (Mv.of hbA) (by omega:rb < w.heap.size+1+1))
             have hz7:=kc hbA (BX.cells m1).2.2.2.2.2.2.2
             have hf7:(u3.alloc (.cells #[.string nm,.int .i64 0,.bool false,.bool false,.string ⟨#[]⟩,.int .i64 0,.string ⟨#[]⟩,.slice none 0 0,.slice none 0 0] 74)).frozen? ⟨w.heap.size+1,7,none⟩=false:=by rw [World.frozen?_of_block (w:=u3) (a:=⟨w.heap.size+1,7,none⟩) (hbA.block _ hmu3)];exact m1.frees.2.2.2.2.2.2.2
             have HUZ:Hid ((u3.alloc (.cells #[.string nm,.int .i64 0,.bool false,.bool false,.string ⟨#[]⟩,.int .i64 0,.string ⟨#[]⟩,.slice none 0 0,.slice none 0 0] 74)).heap.size=u3.heap.size+1):=World.size_alloc _ _
             have HM1:=hide m1
             have HM2:=hide m2
             have HM3:=hide m3
             have HM4:=hide m4
             have HM5:=hide m5
             have HLS:=hide (show T.length+1≤1000000000000 by omega)
             have HTL:=hide hTl
             clear m1 m2 m3 m4 m5 hbA hTl
             go_upto_region 19 with fail
             generalize u3.alloc (.cells #[.string nm,.int .i64 0,.bool false,.bool false,.string ⟨#[]⟩,.int .i64 0,.string ⟨#[]⟩,.slice none 0 0,.slice none 0 0] 74)=ux at *
             obtain ⟨fb,hfb⟩:∃ fb,fb=u3.heap.size:=⟨_,rfl⟩
             rw [← hfb] at HFx hmu3 HUZ ⊢
             have HFB:=hide hfb
             clear hfb
             have hfr:fb≠rb:=by omega
             have hfm:fb≠w.heap.size+1:=by omega
             obtain ⟨c0,c1,c2,c3⟩:=(uh HWx).1.cells
             have CN:=hide (uh HVC ux k2 (uh HWx).1 hk2l (uh HK2G))
             clear c0 c1 c3
             go_wp2_with fail
             refine (uh CN).mono ?_
             intro e u4 hv0
             obtain ⟨cs,he,h8,hvc,hM4⟩:=hv0.cells
             have h81:=h8.one
             obtain ⟨kk,tt,ng,dg,ex,xx,q1,n1,r1,q2,n2,r2,rfl⟩:=h8
             subst he
             have HVCC:=hide hvc
             have HF4:=hide (hM4.obj hfr (uh HFx))
             have HFC:=blk_cell (uh HF4)
             obtain ⟨y0,y1,y2,y3,y4,y5,y6,y7,y8⟩:_∧_∧_∧_∧_∧_∧_∧_∧_:=⟨HFC 0,HFC 1,HFC 2,HFC 3,HFC 4,HFC 5,HFC 6,HFC 7,HFC 8⟩
             simp only [List.getElem?_toArray,List.getElem?_cons_zero,List.getElem?_cons_succ] at y0 y1 y2 y3 y4 y5 y6 y7 y8
             have HFR:=blk_free (uh HF4)
             obtain ⟨j1,j2,j3,j4,j5,j6,j7,j8⟩:_∧_∧_∧_∧_∧_∧_∧_:=⟨HFR 1,HFR 2,HFR 3,HFR 4,HFR 5,HFR 6,HFR 7,HFR 8⟩
             have hUf:=st8f_upd u4 fb (.int .i64 kk) (.bool tt) (.bool ng) (.string dg) (.int .i64 ex) (.string xx) (.slice q1 n1 r1) (.slice q2 n2 r2)
             have HFy:=hide (st8f_bf (uh HF4) (.int .i64 kk) (.bool tt) (.bool ng) (.string dg) (.int .i64 ex) (.string xx) (.slice q1 n1 r1) (.slice q2 n2 r2))
             have HM34:=hide ((uh HAl).trans hM4)
             have HMY:=hide ((uh HM34).own (by have:=uh HFB;omega) (upd_mv hUf))
             have HUF:=hide hUf
             have HMV4:=hide hM4
             clear hvc hM4 hv0 HFC HFR CN c2 hUf
             go_upto_region 21 with fail
             have e5:st8f u4 fb (.int .i64 kk) (.bool tt) (.bool ng) (.string dg) (.int .i64 ex) (.string xx) (.slice q1 n1 r1) (.slice q2 n2 r2)=(((((((u4.setCell ⟨fb,1,none⟩ (.int .i64 kk)).setCell ⟨fb,2,none⟩ (.bool tt)).setCell ⟨fb,3,none⟩ (.bool ng)).setCell ⟨fb,4,none⟩ (.string dg)).setCell ⟨fb,5,none⟩ (.int .i64 ex)).setCell ⟨fb,6,none⟩ (.string xx)).setCell ⟨fb,7,none⟩ (.slice q1 n1 r1)).setCell ⟨fb,8,none⟩ (.slice q2 n2 r2):=rfl
             rw [← e5]
             clear e5 y0 y1 y2 y3 y4 y5 y6 y7 y8 j1 j2 j3 j4 j5 j6 j7 j8
             generalize st8f u4 fb (.int .i64 kk) (.bool tt) (.bool ng) (.string dg) (.int .i64 ex) (.string xx) (.slice q1 n1 r1) (.slice q2 n2 r2)=uy at *
             have HOY:=hide (owns_rf (uh HM3) (uh HMY) (by omega:rb < w.heap.size+1+1))
             have hm1B:BX uy (w.heap.size+1) _:=(uh HMY).obj (by omega) (uh HM1)
             have z7y:=(BX.cells hm1B).2.2.2.2.2.2.2
             have f7y:=hm1B.frees.2.2.2.2.2.2.2
             have HZY:Hid (BX uy w.heap.size zcells):=(uh HMY).obj (by omega) (uh HW3).2.1
             have HMWY:=hide ((uh HW3).2.2.2.trans (uh HMY))
             have HRY:Hid (∀ (x c1 o1:Int),RF u4 rb s x c1 o1→RF uy rb s x c1 o1):=fun x c1 o1 hq=>(upd_mv (uh HUF)).obj (by omega) hq
             have HUY:Hid (fb+1≤uy.heap.size):=by
              show _≤_
              have h1:=(uh HMV4).size
              have h2:=(uh HUF).size
              have h3:=uh HUZ
              omega
             have HFC:=blk_cell (uh HFy)
             obtain ⟨y0,y1,y2,y3,y4,y5,y6,y7,y8⟩:_∧_∧_∧_∧_∧_∧_∧_∧_:=⟨HFC 0,HFC 1,HFC 2,HFC 3,HFC 4,HFC 5,HFC 6,HFC 7,HFC 8⟩
             simp only [List.getElem?_toArray,List.getElem?_cons_zero,List.getElem?_cons_succ] at y0 y1 y2 y3 y4 y5 y6 y7 y8
             have H19:Hid (∀ v∈([.string nm,.int .i64 kk,.bool tt,.bool ng,.string dg,.int .i64 ex,.string xx,.slice q1 n1 r1,.slice q2 n2 r2]:List Value),v.oneCell'=true):=by
              intro v hv
              simp only [List.mem_cons,List.not_mem_nil,or_false] at hv
              rcases hv with rfl|rfl|rfl|rfl|rfl|rfl|rfl|rfl|rfl <;> rfl
             clear HFC hm1B hz7 hf7 h81
             have hBu:Hid (w.heap.size+1+1≤uy.heap.size):=by
              show _≤_
              have:=uh HUY
              omega
             have hsv:(Value.slice qa T.length qc).ownBlock≠some (w.heap.size+1):=fun e=>by have:=(mm.row_lt (uh HOY) _ e).1;omega
             have hsv0:(Value.slice qa T.length qc).ownBlock≠some w.heap.size:=fun e=>by have:=(mm.row_lt (uh HOY) _ e).1;omega
             have hsvr:(Value.slice qa T.length qc).ownBlock≠some rb:=fun e=>by have:=(mm.row_lt (uh HOY) _ e).1;omega
             have hmux:w.heap.size+1 < uy.heap.size:=by have:=uh HUY;omega
             go_wp2_with (at_builtin;refine wpList_addf uy _ (w.heap.size+1+1) T.length (.slice qa T.length qc) (flat9 (T.map tc)) [.string nm,.int .i64 kk,.bool tt,.bool ng,.string dg,.int .i64 ex,.string xx,.slice q1 n1 r1,.slice q2 n2 r2] (.tmp 74) (.tmp 76) rfl rfl rfl rfl HOY rfl H19 HLS hBu rfl ?_)
             intro g cap w4 HG
             have z7'':=(uh HG).cell hsv z7y
             have f7'':=(uh HG).frozen hmux hsv f7y
             clear z7y f7y
             rcases uh HVCC with ⟨v,k3,vr,a1,p,e1,hk3,ha1,hgg,hRu,hV,hpn,hnr,hbd⟩|⟨gg,kz,o',e1,hkz,hcd,hoo,hRu⟩
             · skip
               have hG:=uh HG
               have hU5:=Upd.setCell (w.heap.size+1) 7 w4 (.slice (some ⟨g,0,none⟩) (T.length+1) cap)
               have hst:∀ b,b < uy.heap.size→(Value.slice qa T.length qc).ownBlock≠some b→b≠w.heap.size+1→(w4.setCell ⟨w.heap.size+1,7,none⟩ (.slice (some ⟨g,0,none⟩) (T.length+1) cap)).heap[b]?=uy.heap[b]?:=fun b h1 h2 h3=>(hU5.block b h3).trans (hG.far h1 h2)
               have HR5:Hid (RF (w4.setCell ⟨w.heap.size+1,7,none⟩ (.slice (some ⟨g,0,none⟩) (T.length+1) cap)) rb s ((a1:Nat):Int) 0 (o+1)):=(hst rb (by omega) hsvr (by omega)).trans (uh HRY _ _ _ hRu)
               have HZ5:Hid (BX (w4.setCell ⟨w.heap.size+1,7,none⟩ (.slice (some ⟨g,0,none⟩) (T.length+1) cap)) w.heap.size zcells):=(hst _ (by omega) hsv0 (by omega)).trans (uh HZY)
               have HM5x:Hid (Mv rb w (w4.setCell ⟨w.heap.size+1,7,none⟩ (.slice (some ⟨g,0,none⟩) (T.length+1) cap))) :=
                (((uh HMWY).trans (Mv.of ((Below.refl _ _).alloc (Nat.le_refl _) _))).grown hG.grow (fun k hk=>by have:=(mm.row_lt (uh HOY) k hk).1;omega)).own (Nat.le_succ _) (upd_mv hU5)
               have HNF:Hid (NF (w.heap.size+1) (w.heap.size+1+1) (w4.setCell ⟨w.heap.size+1,7,none⟩ (.slice (some ⟨g,0,none⟩) (T.length+1) cap)) (fl++[(nm,vr)])):=by
                have hfe:=uh HM2
                have h3:=uh HUF
                have hV2:VRep uy u3.heap.size vr _ p:=(hV.keep fun b hb=>h3.block b (by have:=hV.ge b hb;have:=uh HUZ;omega)).base (by have:=uh HUZ;have:=uh HFB;omega)
                have:=nf_end (g:=g) (cap:=cap) (w4:=w4) (u:=uy) (nm:=nm) (by omega:w.heap.size+1 < w.heap.size+1+1) (uh HM1) (uh HM3) (uh HM4) (uh HM5) (uh HMY).size (fun b h1 h2=>(uh HMY).block b h2 (by omega)) hV2 hpn (by have:=uh HFB;omega) hG
                rw [← hfe] at this
                exact this
               obtain ⟨up1,up2⟩:k2 < k3∧k3≤s.size:=⟨(uh HUP).1 k2 v k3 e1,hk3⟩
               have hlu:=letts_up (uh HL)
               have HR6:=hide ((uh HRR).trans (rowF_ok (ostep_ok hga (uh HQ) (uh HL) (by rw [← uh HNM];exact uh HH) (uh HX) ((uh HVK).trans e1))))
               have G1:=hide (rgap_on rb s a1 (o+1) _ (uh HR5) ha1 (by omega))
               rw [hgg] at G1
               have glz:=gap_le2 s k3 hk3
               have HGF:=hide (gap_fix s k3 hk3)
               have HBD2:Hid (∀ q∈fl++[(nm,vr)],Bd q.2∧q.1.size≤4194304∧pt.clean q.1=q.1):=by
                intro q hq2
                rcases List.mem_append.1 hq2 with hq2|hq2
                · exact uh HBd q hq2
                · rw [List.mem_singleton] at hq2
                  subst hq2
                  have hn2:=uh HNM
                  have hl4:=letts_len4 (uh HL) hk0
                  refine ⟨hbd,?_,?_⟩
                  · show nm.size≤_
                    rw [hn2,sz_mk];omega
                  · show pt.clean nm=nm
                    rw [hn2];exact letts_clean (uh HL)
               have HMAP:Hid (nfl (fl++[(nm,vr)])=nfl fl++[(⟨l.toArray⟩,v)]):=by
                show _=_
                unfold nfl
                rw [List.map_append,← hnr,← uh HNM];rfl
               clear hG hU5 hst HG HRR hRu hV hpn e1 hgg ha1 H19 hnr hbd HVCC HRY HZY HMWY HR5 HUY HOY y0 y1 y2 y3 y4 y5 y6 y7 y8 HFy HMY HUF HMV4 HM4 HM34 HF4 HX HVK HH HNM HL HQ HVC HW3 HWx HFx HO HUZ HM1 HM2 HM3 HM5 HLS HTL HFB hsv hsv0 hsvr hmux hBu HAl hfr hfm hmu3 HK2G
               obtain ⟨gz,hgzE⟩:∃ gz,gz=gap s k3:=⟨_,rfl⟩
               rw [← hgzE] at G1 HGF glz HR6
               have hlx:fl.length+1≤gz:=by omega
               have hgz:=glz.2
               have hga2:a < gz:=by omega
               clear glz up1 up2 hk3 hgzE hlu
               go_wp2_with fail
               refine (uh G1).mono ?_
               rintro e u6 ⟨rfl,hR6,hU6⟩
               have HNF6:Hid (NF (w.heap.size+1) (w.heap.size+1+1) u6 (fl++[(nm,vr)])):=nf_mv (uh HNF) (upd_mv hU6) (by omega)
               have HZ6:Hid (BX u6 w.heap.size zcells):=(upd_mv hU6).obj (by omega) (uh HZ5)
               have HM6:=hide ((uh HM5x).trans (upd_mv hU6))
               have HRF6:=hide hR6
               have I1:=hide (ris_any rb s gz 0 (o+1) 44 u6 hR6 hgz)
               have e7:(decide ((0:Int)=0) && isC s gz 44)=isC s gz 44:=by simp
               rw [e7,isC_nxt s gz hgz 44 (by decide)] at I1
               clear hR6 hU6 HNF HZ5 HM5x G1 e7
               by_cases hx:nxt s gz=44
               · have hR7:=(uh HR6).trans (if_pos hx)
                 have hbC:isC s (gap s gz) 44=true:=by rw [uh HGF,isC_nxt s gz hgz 44 (by decide)];exact decide_eq_true hx
                 have hgl2:gz < s.size:=nxt_some s gz hgz (by rw [hx];decide)
                 have D1:=hide (fun u hu=>rdue_yes rb s gz (o+1) 44 u hu hgz hs hbC)
                 rw [uh HGF] at D1
                 have gl2:=gap_le2 s (gz+1) (by omega)
                 have HGF2:=hide (gap_fix s (gz+1) (by omega))
                 have HR8:=hide (hR7.trans (rowF_gapO (by omega) (by omega)))
                 have hxd:(decide (nxt s gz=((44:UInt8).toNat:Int)))=true:=decide_eq_true hx
                 rw [hxd] at I1
                 clear hR7 HR6 hbC hx hxd HGF
                 generalize gap s (gz+1)=gy at *
                 go_wp2_with fail
                 refine (uh I1).mono ?_
                 rintro e u7 ⟨rfl,n7,hu7⟩
                 have HRF7:Hid (RF u7 rb s (gz:Nat) 0 (o+1)):=by rw [hu7];exact (uh HRF6).drewN n7
                 have HNF7:Hid (NF (w.heap.size+1) (w.heap.size+1+1) u7 (fl++[(nm,vr)])):=by rw [hu7];exact nf_mv (uh HNF6) ((Mv.refl rb u6).drewN n7) (by omega)
                 have HZ7:Hid (BX u7 w.heap.size zcells):=by rw [hu7];exact uh HZ6
                 have HM7:Hid (Mv rb w u7):=by rw [hu7];exact (uh HM6).drewN n7
                 clear hu7 HRF6 HNF6 HZ6 HM6 I1
                 go_wp2_with fail
                 refine (uh D1 u7 (uh HRF7)).mono ?_
                 rintro e u8 ⟨rfl,hR8,hU8⟩
                 have HNF8:Hid (NF (w.heap.size+1) (w.heap.size+1+1) u8 (fl++[(nm,vr)])):=nf_mv (uh HNF7) (upd_mv hU8) (by omega)
                 have HZ8:Hid (BX u8 w.heap.size zcells):=(upd_mv hU8).obj (by omega) (uh HZ7)
                 have HM8:=hide ((uh HM7).trans (upd_mv hU8))
                 have HRF8:=hide hR8
                 clear hR8 hU8 HNF7 HZ7 HM7 HRF7 D1
                 go_wp2
                 refine ⟨⟨true,rfl,HZ8,uh HM8,.inl ⟨rfl,fl++[(nm,vr)],gy,f,gl2.2,uh HGF2,by omega,by rw [List.length_append,List.length_singleton];omega,uh HRF8,uh HNF8,uh HBD2,by rw [uh HMAP];exact uh HR8⟩⟩,?_⟩
                 show s.size+1 - atOf u8 rb < s.size+1 - atOf _ rb
                 rw [uh HAT,rf_at (uh HRF8)]
                 omega
               · have HR8:=hide ((uh HR6).trans (if_neg hx))
                 have hxd:(decide (nxt s gz=((44:UInt8).toNat:Int)))=false:=decide_eq_false hx
                 rw [hxd] at I1
                 clear HR6 hx hxd
                 go_wp2_with fail
                 refine (uh I1).mono ?_
                 rintro e u7 ⟨rfl,n7,hu7⟩
                 have HRF7:Hid (RF u7 rb s (gz:Nat) 0 (o+1)):=by rw [hu7];exact (uh HRF6).drewN n7
                 have HNF7:Hid (NF (w.heap.size+1) (w.heap.size+1+1) u7 (fl++[(nm,vr)])):=by rw [hu7];exact nf_mv (uh HNF6) ((Mv.refl rb u6).drewN n7) (by omega)
                 have HZ7:Hid (BX u7 w.heap.size zcells):=by rw [hu7];exact uh HZ6
                 have HM7:Hid (Mv rb w u7):=by rw [hu7];exact (uh HM6).drewN n7
                 clear hu7 HRF6 HNF6 HZ6 HM6 I1
                 go_wp2
                 refine ⟨⟨false,rfl,HZ7,uh HM7,.inr (.inl ⟨rfl,fl++[(nm,vr)],gz,hgz,uh HGF,by rw [List.length_append,List.length_singleton];omega,uh HRF7,uh HNF7,uh HBD2,by rw [uh HMAP];exact uh HR8⟩)⟩,?_⟩
                 show 0 < s.size+1 - atOf _ rb
                 rw [uh HAT]
                 omega
             · have HRz:=hide ((uh HRR).trans (rowF_err (ostep_err hga (uh HQ) (uh HL) (by rw [← uh HNM];exact uh HH) (uh HX) ((uh HVK).trans e1))))
               have HCD:=hide hcd
               have HOO:=hide hoo
               have hG:=uh HG
               have hU5:=Upd.setCell (w.heap.size+1) 7 w4 (.slice (some ⟨g,0,none⟩) (T.length+1) cap)
               have hst:∀ b,b < uy.heap.size→(Value.slice qa T.length qc).ownBlock≠some b→b≠w.heap.size+1→(w4.setCell ⟨w.heap.size+1,7,none⟩ (.slice (some ⟨g,0,none⟩) (T.length+1) cap)).heap[b]?=uy.heap[b]?:=fun b h1 h2 h3=>(hU5.block b h3).trans (hG.far h1 h2)
               have HR5:Hid (RF (w4.setCell ⟨w.heap.size+1,7,none⟩ (.slice (some ⟨g,0,none⟩) (T.length+1) cap)) rb s (kz:Int) (cdE gg) o'):=(hst rb (by omega) hsvr (by omega)).trans (uh HRY _ _ _ hRu)
               have HZ5:Hid (BX (w4.setCell ⟨w.heap.size+1,7,none⟩ (.slice (some ⟨g,0,none⟩) (T.length+1) cap)) w.heap.size zcells):=(hst _ (by omega) hsv0 (by omega)).trans (uh HZY)
               have HM5x:Hid (Mv rb w (w4.setCell ⟨w.heap.size+1,7,none⟩ (.slice (some ⟨g,0,none⟩) (T.length+1) cap))) :=
                (((uh HMWY).trans (Mv.of ((Below.refl _ _).alloc (Nat.le_refl _) _))).grown hG.grow (fun k hk=>by have:=(mm.row_lt (uh HOY) k hk).1;omega)).own (Nat.le_succ _) (upd_mv hU5)
               have HB5:Hid (BX (w4.setCell ⟨w.heap.size+1,7,none⟩ (.slice (some ⟨g,0,none⟩) (T.length+1) cap)) (w.heap.size+1) (ocs (.slice (some ⟨g,0,none⟩) (T.length+1) cap))):=by
                have h6:w4.heap[w.heap.size+1]?=_:=(hG.far hmux hsv).trans ((uh HMY).obj (by omega) (uh HM1))
                have:=blk_set h6 7 (.slice (some ⟨g,0,none⟩) (T.length+1) cap)
                show BX _ _ _
                simpa [BX,ocs] using this
               have G1:=hide (rgap_off rb s (kz:Int) (cdE gg) o' _ (uh HR5) (uh HCD))
               clear hG hU5 hst
               go_wp2_with fail
               refine (uh G1).mono ?_
               rintro e u6 ⟨rfl,hR6,hU6⟩
               have HB6:Hid (BX u6 (w.heap.size+1) (ocs (.slice (some ⟨g,0,none⟩) (T.length+1) cap))):=(upd_mv hU6).obj (by omega) (uh HB5)
               have HZ6:Hid (BX u6 w.heap.size zcells):=(upd_mv hU6).obj (by omega) (uh HZ5)
               have HM6:=hide ((uh HM5x).trans (upd_mv hU6))
               have HRF6:=hide hR6
               have I1:=hide (ris_any rb s kz (cdE gg) o' 44 u6 hR6 hkz)
               have e7:(decide ((cdE gg)=0) && isC s kz 44)=false:=by rw [decide_eq_false (uh HCD)];rfl
               rw [e7] at I1
               clear hR6 hU6 HB5 HZ5 HM5x G1 e7
               go_wp2_with fail
               refine (uh I1).mono ?_
               rintro e u7 ⟨rfl,n7,hu7⟩
               have HRF7:Hid (RF u7 rb s (kz:Int) (cdE gg) o'):=by rw [hu7];exact (uh HRF6).drewN n7
               have HB7:Hid (BX u7 (w.heap.size+1) (ocs (.slice (some ⟨g,0,none⟩) (T.length+1) cap))):=by rw [hu7];exact uh HB6
               have HZ7:Hid (BX u7 w.heap.size zcells):=by rw [hu7];exact uh HZ6
               have HM7:Hid (Mv rb w u7):=by rw [hu7];exact (uh HM6).drewN n7
               clear hu7 HRF6 HB6 HZ6 HM6 I1
               go_wp2
               have hoo2:=uh HOO
               refine ⟨⟨false,rfl,HZ7,uh HM7,.inr (.inr ⟨rfl,gg,kz,o',_,_,_,hkz,uh HCD,⟨by omega,by omega⟩,uh HRF7,uh HB7,uh HRz⟩)⟩,?_⟩
               show 0 < s.size+1 - atOf _ rb
               rw [uh HAT]
               omega
           · have DU:=hide (rdue_no rb s k0 (o+1) 58 _ (uh HWi).1 hk0 hs (by rw [hbC];exact decide_eq_false hx))
             have HRz:=hide ((uh HRR).trans (rowF_err (ostep_colon hga (uh HQ) (uh HL) (by rw [← uh HNM];exact uh HH) hx)))
             have HCD:Hid (cdE 1≠0):=by show _≠_;decide
             obtain ⟨kz,hkzE⟩:∃ kz,kz=gap s k0:=⟨_,rfl⟩
             have hkz:kz≤s.size:=by omega
             rw [← hkzE] at DU HRz
             have e6:(6:Int)=cdE 1:=rfl
             rw [e6] at DU
             obtain ⟨gg,hggE⟩:∃ gg,gg=1:=⟨_,rfl⟩
             rw [← hggE] at DU HRz HCD
             clear hbC hx HRR HQ HVC HUP HVF HL HNM HH gl hkzE e6 hggE
             go_wp2_with fail
             refine (uh DU).mono ?_
             rintro e u3 ⟨rfl,hR3,hU3⟩
             have HW3:=hide ((uh HWi).step hrl (upd_mv hU3) hR3)
             clear hR3 hU3 DU HWi z7
             obtain ⟨fv,T,m1,m2,m3,m4,m5⟩:=(uh HW3).2.2.1.ex
             obtain ⟨qa,qc,esv,_,_⟩:=mm.SV.form (mm.own_sv m3)
             subst esv
             have hTl:T.length=fl.length:=by rw [m2,List.length_map]
             have hbA:Below u3.heap.size u3 (u3.alloc (.cells #[.string nm,.int .i64 0,.bool false,.bool false,.string ⟨#[]⟩,.int .i64 0,.string ⟨#[]⟩,.slice none 0 0,.slice none 0 0] 74)):=(Below.refl _ _).alloc (Nat.le_refl _) _
             have hmu3:w.heap.size+1 < u3.heap.size:=blk_lt m1
             have HWx:=hide ((uh HW3).step hrl (Mv.of hbA) ((uh HW3).1.below hbA))
             have HAl:=hide (Mv.of (rb:=rb) hbA)
             have HFx:Hid ((u3.alloc (.cells #[.string nm,.int .i64 0,.bool false,.bool false,.string ⟨#[]⟩,.int .i64 0,.string ⟨#[]⟩,.slice none 0 0,.slice none 0 0] 74)).heap[u3.heap.size]?=some (.cells #[.string nm,.int .i64 0,.bool false,.bool false,.string ⟨#[]⟩,.int .i64 0,.string ⟨#[]⟩,.slice none 0 0,.slice none 0 0] 74 (0,0))):=heap_alloc_new _ _
             have HO:=hide (owns_rf m3 (Mv.of hbA) (by omega:rb < w.heap.size+1+1))
             have hz7:=kc hbA (BX.cells m1).2.2.2.2.2.2.2
             have hf7:(u3.alloc (.cells #[.string nm,.int .i64 0,.bool false,.bool false,.string ⟨#[]⟩,.int .i64 0,.string ⟨#[]⟩,.slice none 0 0,.slice none 0 0] 74)).frozen? ⟨w.heap.size+1,7,none⟩=false:=by rw [World.frozen?_of_block (w:=u3) (a:=⟨w.heap.size+1,7,none⟩) (hbA.block _ hmu3)];exact m1.frees.2.2.2.2.2.2.2
             have HUZ:Hid ((u3.alloc (.cells #[.string nm,.int .i64 0,.bool false,.bool false,.string ⟨#[]⟩,.int .i64 0,.string ⟨#[]⟩,.slice none 0 0,.slice none 0 0] 74)).heap.size=u3.heap.size+1):=World.size_alloc _ _
             have HM1:=hide m1
             have HM2:=hide m2
             have HM3:=hide m3
             have HM4:=hide m4
             have HM5:=hide m5
             have HLS:=hide (show T.length+1≤1000000000000 by omega)
             have HTL:=hide hTl
             clear m1 m2 m3 m4 m5 hbA hTl
             go_upto_region 19 with fail
             generalize u3.alloc (.cells #[.string nm,.int .i64 0,.bool false,.bool false,.string ⟨#[]⟩,.int .i64 0,.string ⟨#[]⟩,.slice none 0 0,.slice none 0 0] 74)=ux at *
             obtain ⟨fb,hfb⟩:∃ fb,fb=u3.heap.size:=⟨_,rfl⟩
             rw [← hfb] at HFx hmu3 HUZ ⊢
             have HFB:=hide hfb
             clear hfb
             have hfr:fb≠rb:=by omega
             have hfm:fb≠w.heap.size+1:=by omega
             have hcv0:=uh HCD
             have HFC:=blk_cell (uh HFx)
             obtain ⟨y0,y1,y2,y3,y4,y5,y6,y7,y8⟩:_∧_∧_∧_∧_∧_∧_∧_∧_:=⟨HFC 0,HFC 1,HFC 2,HFC 3,HFC 4,HFC 5,HFC 6,HFC 7,HFC 8⟩
             simp only [List.getElem?_toArray,List.getElem?_cons_zero,List.getElem?_cons_succ] at y0 y1 y2 y3 y4 y5 y6 y7 y8
             obtain ⟨c0,c1,c2,c3⟩:=(uh HWx).1.cells
             clear c0 c1 c3 HFC
             have H19:Hid (∀ v∈([.string nm,.int .i64 0,.bool false,.bool false,.string ⟨#[]⟩,.int .i64 0,.string ⟨#[]⟩,.slice none 0 0,.slice none 0 0]:List Value),v.oneCell'=true):=by
              intro v hv
              simp only [List.mem_cons,List.not_mem_nil,or_false] at hv
              rcases hv with rfl|rfl|rfl|rfl|rfl|rfl|rfl|rfl|rfl <;> rfl
             obtain ⟨cv,hcv⟩:∃ cv,cv=cdE gg:=⟨_,rfl⟩
             rw [← hcv] at c2 hcv0 HWx
             have hc0:(cv == 0)=false:=beq_eq_false_iff_ne.mpr hcv0
             have HCV0:=hide hcv0
             have HCVE:=hide hcv
             clear hcv hcv0 HCD
             have hBu:Hid (w.heap.size+1+1≤ux.heap.size):=by
              show _≤_
              have:=uh HUZ
              omega
             have hsv:(Value.slice qa T.length qc).ownBlock≠some (w.heap.size+1):=fun e=>by have:=(mm.row_lt (uh HO) _ e).1;omega
             have hsv0:(Value.slice qa T.length qc).ownBlock≠some w.heap.size:=fun e=>by have:=(mm.row_lt (uh HO) _ e).1;omega
             have hsvr:(Value.slice qa T.length qc).ownBlock≠some rb:=fun e=>by have:=(mm.row_lt (uh HO) _ e).1;omega
             have hmux:w.heap.size+1 < ux.heap.size:=by have:=uh HUZ;omega
             go_wp2_with (at_builtin;refine wpList_addf ux _ (w.heap.size+1+1) T.length (.slice qa T.length qc) (flat9 (T.map tc)) [.string nm,.int .i64 0,.bool false,.bool false,.string ⟨#[]⟩,.int .i64 0,.string ⟨#[]⟩,.slice none 0 0,.slice none 0 0] (.tmp 74) (.tmp 76) rfl rfl rfl rfl HO rfl H19 HLS hBu rfl ?_)
             intro g cap w4 HG
             have z7'':=(uh HG).cell hsv hz7
             have f7'':=(uh HG).frozen hmux hsv hf7
             clear hz7 hf7
             have hG:=uh HG
             have hU5:=Upd.setCell (w.heap.size+1) 7 w4 (.slice (some ⟨g,0,none⟩) (T.length+1) cap)
             have hst:∀ b,b < ux.heap.size→(Value.slice qa T.length qc).ownBlock≠some b→b≠w.heap.size+1→(w4.setCell ⟨w.heap.size+1,7,none⟩ (.slice (some ⟨g,0,none⟩) (T.length+1) cap)).heap[b]?=ux.heap[b]?:=fun b h1 h2 h3=>(hU5.block b h3).trans (hG.far h1 h2)
             have HR5:Hid (RF (w4.setCell ⟨w.heap.size+1,7,none⟩ (.slice (some ⟨g,0,none⟩) (T.length+1) cap)) rb s (kz:Int) cv (o+1)):=(hst rb (by omega) hsvr (by omega)).trans (uh HWx).1
             have HZ5:Hid (BX (w4.setCell ⟨w.heap.size+1,7,none⟩ (.slice (some ⟨g,0,none⟩) (T.length+1) cap)) w.heap.size zcells):=(hst _ (by omega) hsv0 (by omega)).trans (uh HWx).2.1
             have HM5x:Hid (Mv rb w (w4.setCell ⟨w.heap.size+1,7,none⟩ (.slice (some ⟨g,0,none⟩) (T.length+1) cap))) :=
              (((uh HWx).2.2.2.trans (Mv.of ((Below.refl _ _).alloc (Nat.le_refl _) _))).grown hG.grow (fun k hk=>by have:=(mm.row_lt (uh HO) k hk).1;omega)).own (Nat.le_succ _) (upd_mv hU5)
             have HB5:Hid (BX (w4.setCell ⟨w.heap.size+1,7,none⟩ (.slice (some ⟨g,0,none⟩) (T.length+1) cap)) (w.heap.size+1) (ocs (.slice (some ⟨g,0,none⟩) (T.length+1) cap))):=by
              have h6:w4.heap[w.heap.size+1]?=_:=(hG.far hmux hsv).trans ((uh HAl).obj (by omega) (uh HM1))
              have:=blk_set h6 7 (.slice (some ⟨g,0,none⟩) (T.length+1) cap)
              show BX _ _ _
              simpa [BX,ocs] using this
             have G1:=hide (rgap_off rb s (kz:Int) cv (o+1) _ (uh HR5) (uh HCV0))
             clear hG hU5 hst
             go_wp2_with fail
             refine (uh G1).mono ?_
             rintro e u6 ⟨rfl,hR6,hU6⟩
             have HB6:Hid (BX u6 (w.heap.size+1) (ocs (.slice (some ⟨g,0,none⟩) (T.length+1) cap))):=(upd_mv hU6).obj (by omega) (uh HB5)
             have HZ6:Hid (BX u6 w.heap.size zcells):=(upd_mv hU6).obj (by omega) (uh HZ5)
             have HM6:=hide ((uh HM5x).trans (upd_mv hU6))
             have HRF6:=hide hR6
             have I1:=hide (ris_any rb s kz cv (o+1) 44 u6 hR6 hkz)
             have e7:(decide (cv=0) && isC s kz 44)=false:=by rw [decide_eq_false (uh HCV0)];rfl
             rw [e7] at I1
             clear hR6 hU6 HB5 HZ5 HM5x G1 e7
             go_wp2_with fail
             refine (uh I1).mono ?_
             rintro e u7 ⟨rfl,n7,hu7⟩
             have HRF7:Hid (RF u7 rb s (kz:Int) cv (o+1)):=by rw [hu7];exact (uh HRF6).drewN n7
             have HB7:Hid (BX u7 (w.heap.size+1) (ocs (.slice (some ⟨g,0,none⟩) (T.length+1) cap))):=by rw [hu7];exact uh HB6
             have HZ7:Hid (BX u7 w.heap.size zcells):=by rw [hu7];exact uh HZ6
             have HM7:Hid (Mv rb w u7):=by rw [hu7];exact (uh HM6).drewN n7
             clear hu7 HRF6 HB6 HZ6 HM6 I1
             go_wp2
             have hce:=uh HCVE
             refine ⟨⟨false,rfl,HZ7,uh HM7,.inr (.inr ⟨rfl,gg,kz,o+1,_,_,_,hkz,by rw [← hce];exact uh HCV0,⟨by omega,by omega⟩,by rw [← hce];exact uh HRF7,uh HB7,uh HRz⟩)⟩,?_⟩
             show 0 < s.size+1 - atOf _ rb
             rw [uh HAT]
             omega
    · skip
      have hqd:decide (nxt s a=((34:UInt8).toNat:Int))=false:=decide_eq_false hq
      rw [hqd] at I0
      have HRES2:=hide ((uh HRES).trans (congrArg objE ((uh HRR).trans (rowF_err (ostep_due hga hq)))))
      clear hqd hq HRR HRES
      go_wp2_with fail
      refine (uh I0).mono ?_
      rintro e u1 ⟨rfl,n1,hu1⟩
      have HW1:Hid (OW rb s w u1 (a:Int) 0 (o+1) fl):=(uh HOW).step hrl (by rw [hu1];exact (Mv.refl rb wr).drewN n1) (by rw [hu1];exact (uh HOW).1.drewN n1)
      have F1:=hide (rfails_on rb s (a:Int) (o+1) (a:Int) 6 u1 (uh HW1).1)
      clear hu1 I0 c1 c2 HOW
      obtain ⟨c0,c1,c2,c3⟩:=(uh HW1).1.cells
      clear c0 c2 c3
      go_wp2_with fail
      refine (uh F1).mono ?_
      rintro e u2 ⟨rfl,hR2,hU2⟩
      have HW2:=hide ((uh HW1).step hrl (upd_mv hU2) hR2)
      clear hR2 hU2 HW1 F1 c1
      obtain ⟨fv,T,m1,m2,m3,m4,m5⟩:=(uh HW2).2.2.1.ex
      obtain ⟨qa,qc,esv,_,_⟩:=mm.SV.form (mm.own_sv m3)
      subst esv
      have HX0:=hide (uh HW2).2.1
      simp only [zcells] at HX0
      obtain ⟨z0,z1,z2,z3,z4,z5,z6,z7⟩:=BX.cells m1
      obtain ⟨q0,q1,q2,q3,q4,q5,q6,q7⟩:=(uh HX0).cells
      obtain ⟨g0,g1,g2,g3,g4,g5,g6,g7⟩:=(uh HX0).frees
      have hw2:rb≠w.heap.size:=by omega
      clear m1 m2 m3 m4 m5
      go_wp2
      have hX:=st8_bx (uh HX0) rfl (.int .i64 5) (.bool false) (.bool false) (.string ⟨#[]⟩) (.int .i64 0) (.string ⟨#[]⟩) (.slice none 0 0) (.slice qa T.length qc)
      have hU:=st8_upd u2 w.heap.size (.int .i64 5) (.bool false) (.bool false) (.string ⟨#[]⟩) (.int .i64 0) (.string ⟨#[]⟩) (.slice none 0 0) (.slice qa T.length qc)
      have hRz:=(upd_mv hU).obj hw2 (uh HW2).1
      have hMz:=(uh HW2).2.2.2.own (Nat.le_refl _) (upd_mv hU)
      simp only [st8] at hX hRz hMz
      exact bodyPost_ret (ret_robj hX _ rfl) rfl ⟨.inr ⟨1,a,_,o+1,uh HRES2,ha,by decide,rfl,⟨5,false,false,⟨#[]⟩,0,⟨#[]⟩,none,0,0,qa,T.length,qc,rfl⟩,⟨by omega,by omega⟩,hRz⟩,hMz⟩
  · obtain ⟨rfl,fl,g,hg,hgg,hll,hRg,hNF,hBd,hRR⟩:=hB
    clear hrel
    obtain ⟨fv,T,n1,n2,n3,n4,n5⟩:=hNF.ex
    obtain ⟨qa,qc,esv,_,_⟩:=mm.SV.form (mm.own_sv n3)
    subst esv
    have HN2:=hide n3
    have HN5:=hide n4
    have HN6:=hide n5
    have HT:=hide n2
    have HBd:=hide hBd
    have hRN:=hRR
    have HW3:Hid (LW rb s w wr (g:Int) 0 (o+1) (ocs (.slice qa T.length qc))):=⟨hRg,uh HZ,n1,hMr⟩
    have hbC:=isC_nxt s g hg 125 (by decide)
    have hbC2:isC s (gap s g) 125=decide (nxt s g=125):=by rw [hgg];exact hbC
    clear HZ hNF n1 n2 n3 n4 n5 hBd hbC HVC HVF
    by_cases hx:nxt s g=125
    · rw [if_pos hx] at hRR
      have HND:Hid ((nms (nfl fl)).Nodup):=by
       have h0:=uh HROW (nfl fl) g hRR
       exact h0
      have HRES2:=hide ((uh HRES).trans (congrArg objE hRR))
      have hgl:g < s.size:=nxt_some s g hg (by rw [hx];decide)
      have DU:=hide (rdue_yes rb s g (o+1) 125 wr hRg hg hs (by rw [hbC2,decide_eq_true hx]))
      rw [hgg] at DU
      have hge:=gap_le2 s (g+1) (by omega)
      obtain ⟨gz,hgz⟩:∃ z,gap s (g+1)=z:=⟨_,rfl⟩
      have HGF:Hid (gap s gz=gap s (g+1)):=by
       show _=_
       rw [← hgz];exact gap_fix s (g+1) (by omega)
      rw [hgz] at DU hge
      clear HRES hRR hRg hMr hbC2 hx hgz hRN HROW HUP
      obtain ⟨c0,c1,c2,c3⟩:=(uh HW3).1.cells
      clear c0 c1 c3
      go_wp2_with fail
      refine (uh DU).mono ?_
      rintro e u3 ⟨rfl,hR3,hU3⟩
      have HK3:=hide hU3
      have HW4:=hide ((uh HW3).upd hrl hU3 hR3)
      clear HW3 hR3 hU3 DU c2
      have HW3:=HW4
      clear HW4
      obtain ⟨c0,c1,c2,c3⟩:=(uh HW3).1.cells
      obtain ⟨f1,f2,f3⟩:=(uh HW3).1.frees
      have HX0:=hide (uh HW3).2.1
      have HX1:=hide (uh HW3).2.2.1
      simp only [zcells] at HX0
      simp only [ocs] at HX1
      obtain ⟨z0,z1,z2,z3,z4,z5,z6,z7⟩:=(uh HX1).cells
      obtain ⟨q0,q1,q2,q3,q4,q5,q6,q7⟩:=(uh HX0).cells
      obtain ⟨g0,g1,g2,g3,g4,g5,g6,g7⟩:=(uh HX0).frees
      have hw0:w.heap.size≠rb:=by omega
      have hw1:w.heap.size+1≠rb:=by omega
      have hw2:rb≠w.heap.size:=by omega
      have hw3:rb≠w.heap.size+1:=by omega
      clear c0 c1 c2 f1 f2
      go_wp2
      have hSx:=Mv.set (rb:=rb) u3 3 (.int .i64 o)
      have hXs:BX (u3.setCell ⟨rb,3,none⟩ (.int .i64 o)) w.heap.size _:=hSx.obj hw0 (uh HX0)
      have hX:=st8_bx hXs rfl (.int .i64 5) (.bool false) (.bool false) (.string ⟨#[]⟩) (.int .i64 0) (.string ⟨#[]⟩) (.slice none 0 0) (.slice qa T.length qc)
      have hU:=st8_upd (u3.setCell ⟨rb,3,none⟩ (.int .i64 o)) w.heap.size (.int .i64 5) (.bool false) (.bool false) (.string ⟨#[]⟩) (.int .i64 0) (.string ⟨#[]⟩) (.slice none 0 0) (.slice qa T.length qc)
      have hRz:=(upd_mv hU).obj hw2 (RF.at3 (uh HW3).1 o)
      have hMz:=((uh HW3).2.2.2.trans hSx).own (Nat.le_refl _) (upd_mv hU)
      simp only [st8] at hX hRz hMz
      have hU3:=uh HK3
      have hkp:∀ b,w.heap.size+1+1≤b→b < wr.heap.size→_=wr.heap[b]?:=fun b h1 h2=>(hU.block b (by omega)).trans ((hSx.block b (by rw [hU3.size];exact h2) (by omega)).trans (hU3.block b (by omega)))
      obtain ⟨p,hp,hpn⟩:=nf_val (w:=w) (uh HN2) (uh HN5) (uh HN6) (by omega) hkp
      have hfe:=uh HT
      subst hfe
      simp only [st8,ocs] at hp
      exact bodyPost_ret (ret_robj hX _ rfl) rfl ⟨.inl ⟨_,g+1,JT.mk 5 false zed ⟨#[]⟩ [] (T.map tf),gz,_,p,uh HRES2,by omega,hge.2,(uh HGF),rfl,hRz,hp,hpn,nrm_o (T.map tf) (fun q hq=>(uh HBd q hq).2.2) (uh HND),bd_obj (uh HBd) (by omega)⟩,hMz⟩
    · rw [if_neg hx] at hRR
      have HRES2:=hide ((uh HRES).trans (congrArg objE hRR))
      have DU:=hide (rdue_no rb s g (o+1) 125 wr hRg hg hs (by rw [hbC2,decide_eq_false hx]))
      rw [hgg] at DU
      clear HRES hRR hRg hMr hbC2 hx hRN HROW HUP
      obtain ⟨c0,c1,c2,c3⟩:=(uh HW3).1.cells
      clear c0 c1 c3
      go_wp2_with fail
      refine (uh DU).mono ?_
      rintro e u3 ⟨rfl,hR3,hU3⟩
      have HW4:=hide ((uh HW3).upd hrl hU3 hR3)
      clear HW3 hR3 hU3 DU c2
      have HW3:=HW4
      clear HW4
      obtain ⟨c0,c1,c2,c3⟩:=(uh HW3).1.cells
      obtain ⟨f1,f2,f3⟩:=(uh HW3).1.frees
      have HX0:=hide (uh HW3).2.1
      have HX1:=hide (uh HW3).2.2.1
      simp only [zcells] at HX0
      simp only [ocs] at HX1
      obtain ⟨z0,z1,z2,z3,z4,z5,z6,z7⟩:=(uh HX1).cells
      obtain ⟨q0,q1,q2,q3,q4,q5,q6,q7⟩:=(uh HX0).cells
      obtain ⟨g0,g1,g2,g3,g4,g5,g6,g7⟩:=(uh HX0).frees
      have hw0:w.heap.size≠rb:=by omega
      have hw1:w.heap.size+1≠rb:=by omega
      have hw2:rb≠w.heap.size:=by omega
      have hw3:rb≠w.heap.size+1:=by omega
      clear c0 c1 c2 f1 f2
      go_wp2
      have hSx:=Mv.set (rb:=rb) u3 3 (.int .i64 o)
      have hXs:BX (u3.setCell ⟨rb,3,none⟩ (.int .i64 o)) w.heap.size _:=hSx.obj hw0 (uh HX0)
      have hX:=st8_bx hXs rfl (.int .i64 5) (.bool false) (.bool false) (.string ⟨#[]⟩) (.int .i64 0) (.string ⟨#[]⟩) (.slice none 0 0) (.slice qa T.length qc)
      have hU:=st8_upd (u3.setCell ⟨rb,3,none⟩ (.int .i64 o)) w.heap.size (.int .i64 5) (.bool false) (.bool false) (.string ⟨#[]⟩) (.int .i64 0) (.string ⟨#[]⟩) (.slice none 0 0) (.slice qa T.length qc)
      have hRz:=(upd_mv hU).obj hw2 (RF.at3 (uh HW3).1 o)
      have hMz:=((uh HW3).2.2.2.trans hSx).own (Nat.le_refl _) (upd_mv hU)
      simp only [st8] at hX hRz hMz
      have hcv:cdE 1=6:=rfl
      exact bodyPost_ret (ret_robj hX _ rfl) rfl ⟨.inr ⟨1,g,_,o,uh HRES2,hg,by decide,rfl,⟨5,false,false,⟨#[]⟩,0,⟨#[]⟩,none,0,0,qa,T.length,qc,rfl⟩,⟨by omega,by omega⟩,hRz⟩,hMz⟩
  · obtain ⟨rfl,g,kk,o',q,n,c,hkk,hcd,hoo,hRk,hbx,hRR⟩:=hC
    clear hrel
    have HRES2:=hide ((uh HRES).trans (congrArg objE hRR))
    have HW3:Hid (LW rb s w wr (kk:Int) (cdE g) o' (ocs (.slice q n c))):=⟨hRk,uh HZ,hbx,hMr⟩
    have hc0:(cdE g == 0)=false:=beq_eq_false_iff_ne.mpr hcd
    have DU:=hide (rdue_off rb s (kk:Int) (cdE g) o' 125 wr hRk hcd)
    have hob:-1≤o'∧o'≤66:=by omega
    have HOO:=hide hoo
    have HCD:=hide hcd
    clear HRES hRR hRk hbx hMr hcd HZ hoo HVC HUP HVF HROW
    generalize hcv:cdE g=cv at *
    obtain ⟨c0,c1,c2,c3⟩:=(uh HW3).1.cells
    clear c0 c1 c3
    go_wp2_with fail
    refine (uh DU).mono ?_
    rintro e u3 ⟨rfl,hR3,hU3⟩
    have HW4:=hide ((uh HW3).upd hrl hU3 hR3)
    clear HW3 hR3 hU3 DU c2
    have HW3:=HW4
    clear HW4
    have HCV:=hide hcv
    clear hcv
    obtain ⟨o1,o2⟩:=hob
    obtain ⟨c0,c1,c2,c3⟩:=(uh HW3).1.cells
    obtain ⟨f1,f2,f3⟩:=(uh HW3).1.frees
    have HX0:=hide (uh HW3).2.1
    have HX1:=hide (uh HW3).2.2.1
    simp only [zcells] at HX0
    simp only [ocs] at HX1
    obtain ⟨z0,z1,z2,z3,z4,z5,z6,z7⟩:=(uh HX1).cells
    obtain ⟨q0,q1,q2,q3,q4,q5,q6,q7⟩:=(uh HX0).cells
    obtain ⟨g0,g1,g2,g3,g4,g5,g6,g7⟩:=(uh HX0).frees
    have hw0:w.heap.size≠rb:=by omega
    have hw1:w.heap.size+1≠rb:=by omega
    have hw2:rb≠w.heap.size:=by omega
    have hw3:rb≠w.heap.size+1:=by omega
    clear c0 c1 c2 f1 f2
    go_wp2
    have hSx:=Mv.set (rb:=rb) u3 3 (.int .i64 (o' - 1))
    have hXs:BX (u3.setCell ⟨rb,3,none⟩ (.int .i64 (o' - 1))) w.heap.size _:=hSx.obj hw0 (uh HX0)
    have hX:=st8_bx hXs rfl (.int .i64 5) (.bool false) (.bool false) (.string ⟨#[]⟩) (.int .i64 0) (.string ⟨#[]⟩) (.slice none 0 0) (.slice q n c)
    have hU:=st8_upd (u3.setCell ⟨rb,3,none⟩ (.int .i64 (o' - 1))) w.heap.size (.int .i64 5) (.bool false) (.bool false) (.string ⟨#[]⟩) (.int .i64 0) (.string ⟨#[]⟩) (.slice none 0 0) (.slice q n c)
    have hRz:=(upd_mv hU).obj hw2 (RF.at3 (uh HW3).1 (o' - 1))
    have hMz:=((uh HW3).2.2.2.trans hSx).own (Nat.le_refl _) (upd_mv hU)
    simp only [st8] at hX hRz hMz
    have hcv:=uh HCV
    have hoo:=uh HOO
    rw [← hcv] at hRz
    exact bodyPost_ret (ret_robj hX _ rfl) rfl ⟨.inr ⟨g,kk,_,o' - 1,uh HRES2,hkk,by rw [hcv];exact uh HCD,rfl,⟨5,false,false,⟨#[]⟩,0,⟨#[]⟩,none,0,0,q,n,c,rfl⟩,⟨by omega,by omega⟩,hRz⟩,hMz⟩
end Go.Proofs.YtilhjecnkaokeaaGreatDoor.rd
