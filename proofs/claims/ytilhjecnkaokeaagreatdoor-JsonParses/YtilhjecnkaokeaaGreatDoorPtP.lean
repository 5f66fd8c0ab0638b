/- Texts in one: Pt -/
import Derived.Test.YtilhjecnkaokeaaGreatDoorVsP
import Derived.BigRegion
namespace Go.Proofs.YtilhjecnkaokeaaGreatDoor.rd
open Go.RowKit
theorem BX.drew {w:World}{m:Nat}{cs:List Value} (h:BX w m cs):BX w.drew m cs:=h
theorem rdr_new (w:World) (s:ByteArray):∀ W,W=(w.alloc (.cells #[.int .i64 0,.bool false,.bool false,.string ⟨#[]⟩,.int .i64 0,.string ⟨#[]⟩,.slice none 0 0,.slice none 0 0] 28)).alloc (.cells #[.string s,.int .i64 0,.int .i64 0,.int .i64 0] 65) →
 RF W (w.heap.size+1) s ((0:Nat):Int) 0 0∧BX W w.heap.size zcells∧Below w.heap.size w W∧W.heap.size=w.heap.size+2:=by
 rintro W rfl
 have hz:(w.alloc (.cells #[.int .i64 0,.bool false,.bool false,.string ⟨#[]⟩,.int .i64 0,.string ⟨#[]⟩,.slice none 0 0,.slice none 0 0] 28)).heap.size=w.heap.size+1:=World.size_alloc _ _
 refine ⟨?_,?_,((Below.refl _ _).alloc (Nat.le_refl _) _).alloc (by simp) _,by rw [World.size_alloc,hz]⟩
 · have:=heap_alloc_new (w.alloc (.cells #[.int .i64 0,.bool false,.bool false,.string ⟨#[]⟩,.int .i64 0,.string ⟨#[]⟩,.slice none 0 0,.slice none 0 0] 28)) (.cells #[.string s,.int .i64 0,.int .i64 0,.int .i64 0] 65)
   rw [hz] at this
   exact this
 · unfold BX
   rw [Below.heap_alloc _ _ _ (by omega)]
   exact heap_alloc_new w _
def prsE (s:ByteArray) (R:(JT × Nat) ⊕ (Nat × Nat)):JT ⊕ (Nat × Nat):=match R with
 | .inr e=>.inr e
 | .inl (v,k)=>if nxt s (gap s k)=-1 then .inl v else .inr (1,gap s k)
theorem parseJ_fit (s:ByteArray) (hs:s.size≤1048576):parseJ s=prsE s (vfN s 64 (gap s 0)):=by
 unfold parseJ prsE
 rw [if_neg (by omega),vfN_gap s 64 0 (by omega)]
 cases vfN s 64 (gap s 0) <;> rfl
set_option maxRecDepth 100000 in
set_option maxHeartbeats 1500000 in
theorem rjparse_fit (s:ByteArray) (w:World) (hs:s.size≤1048576):Calls Tryz.prog 11 #[.string s] w (RPP w (parseJ s)):=by
 have hs':¬ (1048576:Int) < (s.size:Int):=by omega
 obtain ⟨res,hres⟩:∃ res,res=parseJ s:=⟨_,rfl⟩
 rw [← hres]
 have hg0:=gap_le2 s 0 (by omega)
 have hgf:=gap_fix s 0 (by omega)
 have HRES:=hide (hres.trans (parseJ_fit s hs))
 clear hres
 have HN:=hide (rdr_new w s)
 have G0:=hide (fun u hu=>rgap_on (w.heap.size+1) s 0 0 u hu (by omega) (by omega))
 have V0:=hide (fun u hu=>rvalue_at (w.heap.size+1) s hs 64 (by omega) u (gap s 0) hu hg0.2 hgf)
 have e0:(64 - ((64:Nat):Int))=0:=rfl
 rw [e0] at V0
 generalize hR:vfN s 64 (gap s 0)=R at *
 generalize gap s 0=a0 at *
 clear hR hgf e0
 go_enter Tryz.func11,Tryz.ntmps11
 go_wp2_with fail
 obtain ⟨b0,b1,b2,b3⟩:=uh HN _ rfl
 refine (uh G0 _ b0).mono ?_
 clear HN
 generalize (w.alloc (.cells #[.int .i64 0,.bool false,.bool false,.string ⟨#[]⟩,.int .i64 0,.string ⟨#[]⟩,.slice none 0 0,.slice none 0 0] 28)).alloc (.cells #[.string s,.int .i64 0,.int .i64 0,.int .i64 0] 65)=W at *
 rintro e u1 ⟨rfl,hR1,hU1⟩
 have HX1:=hide (show BX u1 w.heap.size zcells from (upd_mv hU1).obj (by omega) b1)
 have HB1:=hide (show Below w.heap.size w u1 from b2.trans ((upd_mv hU1).below (Nat.le_succ _) (by omega)))
 have hsz1:u1.heap.size=w.heap.size+2:=hU1.size.trans b3
 have HR1:=hide hR1
 have HZ1:=hide hsz1
 clear hR1 hU1 b0 b1 b2 b3 hsz1 G0
 go_wp2_with fail
 refine (uh V0 u1 (uh HR1)).mono ?_
 intro e u2 hv0
 obtain ⟨cs,he,h8,hvc,hM2⟩:=hv0.cells
 obtain ⟨kk,tt,ng,dg,ex,xx,p1,n1,r1,p2,n2,r2,rfl⟩:=h8
 subst he
 have hsz2:w.heap.size+2≤u2.heap.size:=by have:=hM2.size;have:=uh HZ1;omega
 have hbA:Below u2.heap.size u2 (u2.alloc (.cells #[.int .i64 kk,.bool tt,.bool ng,.string dg,.int .i64 ex,.string xx,.slice p1 n1 r1,.slice p2 n2 r2] 28)):=(Below.refl _ _).alloc (Nat.le_refl _) _
 have HX2:=hide (show BX u2 w.heap.size zcells from hM2.obj (by omega) (uh HX1))
 have HB2:=hide (show Below w.heap.size w u2 from (uh HB1).trans (hM2.below (Nat.le_succ _) (by have:=uh HZ1;omega)))
 have HV6:Hid (BX (u2.alloc (.cells #[.int .i64 kk,.bool tt,.bool ng,.string dg,.int .i64 ex,.string xx,.slice p1 n1 r1,.slice p2 n2 r2] 28)) u2.heap.size [.int .i64 kk,.bool tt,.bool ng,.string dg,.int .i64 ex,.string xx,.slice p1 n1 r1,.slice p2 n2 r2]):=heap_alloc_new _ _
 have HX3:=hide ((uh HX2).keep hbA (by omega))
 have HB3:=hide ((uh HB2).trans (hbA.mono (uh HB2).size))
 have HVC:=hide hvc
 have HBA:=hide hbA
 have hmb:u2.heap.size≠w.heap.size+1:=by omega
 have hmc:u2.heap.size≠w.heap.size:=by omega
 clear hv0 hvc hM2 hbA HX1 HB1 HX2 HR1 V0
 rcases uh HVC with ⟨v,k1,vr,a1,p,e1,hk1,ha1,hgg,hRu,hV,hpn,hnr,hbd⟩|⟨gg,kz,o',e1,hkz,hcd,hoo,hRu⟩
 · subst e1
   have hR3:=hRu.below (uh HBA)
   have HVP:=hide hV
   have HNR:=hide hnr
   have HBD:=hide hbd
   have G1:=hide (rgap_on (w.heap.size+1) s a1 0 _ hR3 ha1 (by omega))
   rw [hgg] at G1
   have gl:=gap_le2 s k1 hk1
   have HRS:Hid (res=if nxt s (gap s k1)=-1 then .inl v else .inr (1,gap s k1)):=uh HRES
   clear HVC hV hnr hbd hRu hgg HRES hpn
   obtain ⟨c0,c1,c2,c3⟩:=hR3.cells
   clear c0 c1 c3 hR3
   generalize gap s k1=g1 at *
   go_wp2_with fail
   refine (uh G1).mono ?_
   generalize u2.alloc (.cells #[.int .i64 kk,.bool tt,.bool ng,.string dg,.int .i64 ex,.string xx,.slice p1 n1 r1,.slice p2 n2 r2] 28)=ux at *
   rintro e u4 ⟨rfl,hR4,hU4⟩
   have HX4:=hide (show BX u4 w.heap.size zcells from (upd_mv hU4).obj (by omega) (uh HX3))
   have HV4:=hide (show BX u4 u2.heap.size _ from (upd_mv hU4).obj hmb (uh HV6))
   have HB4:=hide ((uh HB3).trans ((upd_mv hU4).below (Nat.le_succ _) (uh HB3).size))
   have HU4:=hide hU4
   have hsx:u2.heap.size < u4.heap.size:=blk_lt (uh HV4)
   obtain ⟨c0,c1,c2,c3⟩:=hR4.cells
   have HR4:=hide hR4
   clear hR4 hU4 HX3 HV6 HB3 G1 c0 c3
   by_cases hx:g1 < s.size
   · have hxd:decide ((g1:Int) < (s.size:Int))=true:=decide_eq_true (by omega)
     have hxN:decide (g1 < s.size)=true:=decide_eq_true hx
     have hnx:¬ nxt s g1=-1:=by
      rw [nxt_dec s g1 hx]
      omega
     have HRS2:=hide ((uh HRS).trans (if_neg hnx))
     have F1:=hide (rfails_on (w.heap.size+1) s (g1:Nat) 0 (g1:Nat) 6 u4 (uh HR4))
     clear HRS hnx
     go_wp2_with fail
     refine (uh F1).mono ?_
     rintro e u5 ⟨rfl,hR5,hU5⟩
     have HX5:=hide (show BX u5 w.heap.size zcells from (upd_mv hU5).obj (by omega) (uh HX4))
     have HB5:=hide ((uh HB4).trans ((upd_mv hU5).below (Nat.le_succ _) (uh HB4).size))
     obtain ⟨c0,c1,c2,c3⟩:=hR5.cells
     clear c0 c3 hR5 hU5 F1 HX4 HB4 HV4 HR4
     simp only [zcells] at HX5
     obtain ⟨q0,q1,q2,q3,q4,q5,q6,q7⟩:=(uh HX5).cells
     obtain ⟨g0',g1',g2',g3',g4',g5',g6',g7'⟩:=(uh HX5).frees
     have hn1:w.heap.size≠w.heap.size+1:=by omega
     have hn2:w.heap.size+1≠w.heap.size:=by omega
     go_wp2
     go_region
     have hX:=(st8_bx (uh HX5) rfl (.int .i64 0) (.bool false) (.bool false) (.string ⟨#[]⟩) (.int .i64 0) (.string ⟨#[]⟩) (.slice none 0 0) (.slice none 0 0)).drew
     have hB:=((uh HB5).trans ((st8_upd u5 w.heap.size (.int .i64 0) (.bool false) (.bool false) (.string ⟨#[]⟩) (.int .i64 0) (.string ⟨#[]⟩) (.slice none 0 0) (.slice none 0 0)).below (Nat.le_refl _))).drew
     simp only [st8] at hX hB
     go_wp2
     exact bodyPost_ret (ret_rjparse hX _ rfl rfl rfl) rfl ⟨.inr ⟨1,g1,uh HRS2,by decide,rfl⟩,hB⟩
   · have hxd:decide ((g1:Int) < (s.size:Int))=false:=decide_eq_false (by omega)
     have hxN:decide (g1 < s.size)=false:=decide_eq_false hx
     have hnx:nxt s g1=-1:=if_pos (by omega)
     have HRS2:=hide ((uh HRS).trans (if_pos hnx))
     have hV4:=(uh HVP).keep (w':=u4) (fun b hb=>by
      have h1:=(uh HVP).ge b hb
      have h2:=uh HZ1
      exact ((uh HU4).block b (by omega)).trans ((uh HBA).block b h1.2))
     have N1:=hide (rnrm_any _ vr [.int .i64 kk,.bool tt,.bool ng,.string dg,.int .i64 ex,.string xx,.slice p1 n1 r1,.slice p2 n2 r2] u4 (Nat.lt_succ_self _) (uh HBD) hV4.vr)
     rw [uh HNR] at N1
     obtain ⟨y0,y1,y2,y3,y4,y5,y6,y7⟩:=(uh HV4).cells
     clear HRS hnx hV4 HVP HNR HBD
     go_wp2_with fail
     refine (uh N1).mono ?_
     rintro e u6 ⟨cs2,pp,rfl,hr6,hpn6,hb6⟩
     obtain ⟨kk',tt',ng',dg',ex',xx',p1',n1',r1',p2',n2',r2',rfl⟩:=hr6.form
     have HX6:=hide ((uh HX4).keep hb6 (blk_lt (uh HX4)))
     have HB6:=hide ((uh HB4).trans (hb6.mono (uh HB4).size))
     have HR6:=hide hr6
     have HP6:=hide hpn6
     have hw4:=blk_lt (uh HX4)
     clear hb6 hr6 hpn6 N1 HX4 HB4 HV4 y0 y1 y2 y3 y4 y5 y6 y7 c1 c2 HR4
     simp only [zcells] at HX6
     obtain ⟨q0,q1,q2,q3,q4,q5,q6,q7⟩:=(uh HX6).cells
     obtain ⟨g0',g1',g2',g3',g4',g5',g6',g7'⟩:=(uh HX6).frees
     go_wp2
     have hX:=st8_bx (uh HX6) rfl (.int .i64 kk') (.bool tt') (.bool ng') (.string dg') (.int .i64 ex') (.string xx') (.slice p1' n1' r1') (.slice p2' n2' r2')
     have hU:=st8_upd u6 w.heap.size (.int .i64 kk') (.bool tt') (.bool ng') (.string dg') (.int .i64 ex') (.string xx') (.slice p1' n1' r1') (.slice p2' n2' r2')
     have hB:=(uh HB6).trans (hU.below (Nat.le_refl _))
     have hVf:=((uh HR6).keep fun b hb=>hU.block b (by have:=(uh HR6).ge b hb;omega)).base (B':=w.heap.size) (by omega)
     simp only [st8] at hX hB hVf
     exact bodyPost_ret (ret_rjparse hX _ rfl rfl rfl) rfl ⟨.inl ⟨v,_,pp,uh HRS2,rfl,hVf,uh HP6⟩,hB⟩
 · subst e1
   have hR3:=hRu.below (uh HBA)
   obtain ⟨c0,c1,c2,c3⟩:=hR3.cells
   have HRS:Hid (res=.inr (gg,kz)):=uh HRES
   have HCD:=hide hcd
   obtain ⟨cv,hcv⟩:∃ cv,cv=cdE gg:=⟨_,rfl⟩
   rw [← hcv] at c2
   have hc0:(cv == 0)=false:=beq_eq_false_iff_ne.mpr (by rw [hcv];exact hcd)
   have hc1:(cv != 0)=true:=by simp [bne,hc0]
   have HCV:=hide hcv
   clear HVC hRu hR3 HRES c0 c3 hcd hcv hoo
   have HX5:=HX3
   simp only [zcells] at HX5
   obtain ⟨q0,q1,q2,q3,q4,q5,q6,q7⟩:=(uh HX5).cells
   obtain ⟨g0',g1',g2',g3',g4',g5',g6',g7'⟩:=(uh HX5).frees
   have hn1:w.heap.size≠w.heap.size+1:=by omega
   have hn2:w.heap.size+1≠w.heap.size:=by omega
   go_upto_region 6 with fail
   generalize u2.alloc (.cells #[.int .i64 kk,.bool tt,.bool ng,.string dg,.int .i64 ex,.string xx,.slice p1 n1 r1,.slice p2 n2 r2] 28)=ux at *
   go_wp2
   go_region
   have hX:=(st8_bx (uh HX5) rfl (.int .i64 0) (.bool false) (.bool false) (.string ⟨#[]⟩) (.int .i64 0) (.string ⟨#[]⟩) (.slice none 0 0) (.slice none 0 0)).drew
   have hB:=((uh HB3).trans ((st8_upd ux w.heap.size (.int .i64 0) (.bool false) (.bool false) (.string ⟨#[]⟩) (.int .i64 0) (.string ⟨#[]⟩) (.slice none 0 0) (.slice none 0 0)).below (Nat.le_refl _))).drew
   simp only [st8] at hX hB
   go_wp2
   have hce:=uh HCV
   exact bodyPost_ret (ret_rjparse hX _ rfl rfl rfl) rfl ⟨.inr ⟨gg,kz,uh HRS,uh HCD,by rw [hce];rfl⟩,hB⟩
theorem rjparse_any (s:ByteArray) (w:World):Calls Tryz.prog 11 #[.string s] w (RPP w (parseJ s)):=by
 by_cases h:1048576 < s.size
 · have e:parseJ s=.inr (0,0):=by
    unfold parseJ
    rw [if_pos h]
   rw [e]
   exact rjparse_long s w h
 · exact rjparse_fit s w (by omega)
end Go.Proofs.YtilhjecnkaokeaaGreatDoor.rd
