/- Texts in one: Vm Vn -/
import Derived.Test.YthnhobplgmojeaaGreatDoorNaP
namespace Go.Proofs.YthnhobplgmojeaaGreatDoor.rd
open Go.RowKit
theorem ret_value {m:Nat} (w:World) (k:Int) (t:Bool) (d:Dn) (x:ByteArray) (lv fv ev:Value) (h:VL w m (vc k t d x lv fv)) (tmps:Array Value) (h2:tmps[2]?.getD undef=.pointer (some ⟨m,0,none⟩)) (h3:tmps[3]?.getD undef=ev) :
 (results Tryz.f118 tmps).run Tryz.prog w=.ok (.tuple #[.agg (vc k t d x lv fv),ev]) w:=by
 obtain ⟨q0,q1,q2,q3,q4,q5,q6,q7⟩:=VL.cells h;simp [results,Tryz.results118,h2,h3,go_sem,q0,q1,q2,q3,q4,q5,q6,q7,vc]
def numB (n:Int):Bool:=n == 45 || (decide (48≤n) && decide (n≤57))
def valR (lf of:Nat→(JT × Nat) ⊕ (Nat × Nat)) (s:ByteArray) (k:Nat):(JT × Nat) ⊕ (Nat × Nat) :=
 if nxt s (gap s k)=110 then wordR ⟨#[110,117,108,108]⟩ 0 false s (gap s k) else
 if nxt s (gap s k)=116 then wordR ⟨#[116,114,117,101]⟩ 1 true s (gap s k) else
 if nxt s (gap s k)=102 then wordR ⟨#[102,97,108,115,101]⟩ 1 false s (gap s k) else
 if numB (nxt s (gap s k))=true then numJ s (gap s k) else
 if nxt s (gap s k)=34 then textR s (gap s k) else
 if nxt s (gap s k)=91 then lf (gap s k) else
 if nxt s (gap s k)=123 then of (gap s k) else .inr (5,gap s k)
def ValCall (E:Nat→Value) (rb:Nat) (s:ByteArray) (o:Int) (f:FuncId) (args:Array Value) (r:(JT × Nat) ⊕ (Nat × Nat)) (w:World):Prop:=Calls Tryz.prog f args w (ValPost E rb s o w r)
set_option maxRecDepth 100000 in
set_option maxHeartbeats 3200000 in
theorem value_null (E:Nat→Value) (rb:Nat) (s:ByteArray) (o:Int) (hs:s.size≤1048576) (hr:17≤rb) (r:(JT × Nat) ⊕ (Nat × Nat)) (w:World) (k:Nat) (h:RL w rb s k o) (hk:k≤s.size) (hE:Env E w) (hnx:nxt s (gap s k)=110)
 (HC:∀ u,RL u rb s (gap s k) o→Env E u→Calls Tryz.prog 140 #[.pointer (some ⟨rb,0,none⟩),.string ⟨#[110,117,108,108]⟩,.agg (vc 0 false zed ⟨#[]⟩ nilS nilS)] u (ValPost E rb s o u r)) :
 Calls Tryz.prog 118 #[.pointer (some ⟨rb,0,none⟩)] w (ValPost E rb s o w r):=by
 have hrl:=blk_lt h;have hA0:VL (w.alloc (.cells vNull 28)) w.heap.size vNull:=vl_new w vNull;have hB0:Below w.heap.size w (w.alloc (.cells vNull 28)):=(Below.refl _ _).alloc (Nat.le_refl _) _;have hR0:=h.below hB0 hrl;have SK:=hide (skip_any gapB rb s k o _ hR0 hk (by omega));have NX:=hide (fun (k:Nat) (w:World) h1 h2 h3=>next_any rb s k o w h1 h2 E h3);have HCC:=hide HC;have HEn:=hide hE;obtain ⟨gl1,gl2⟩:=skipTo_le gapB.data.toList s k hk;have hgp:∀ k,skipTo gapB.data.toList s k=gap s k:=fun _=>rfl
 rw [hgp] at gl1 gl2;obtain ⟨res,HR0⟩:∃ res,Hid (res=r):=⟨r,rfl⟩;rw [← uh HR0];clear hE h HC hR0;simp only [vc,nilS,vNull,zed] at SK HCC
 go_enter Tryz.func118,Tryz.ntmps118
 go_wp2_with fail
 refine (uh SK).mono ?_;rintro e u1 ⟨rfl,hR1,hM1⟩;rw [hgp] at hR1;generalize gap s k=k1 at *;have hA1:=hide (hM1.obj (by omega) hA0);have HR1:=hide hR1;have HM1:=hide ((Mv.of hB0).trans hM1);clear hA0 hB0 hR1 hM1 SK hgp
 go_wp2_with fail
 refine (uh NX k1 _ (uh HR1) gl2 ((uh HEn).mv (uh HM1) hr)).mono ?_;rintro e u2 ⟨rfl,hb2⟩;have hA2:=hide ((hb2.block _ (blk_lt (uh hA1))).trans (uh hA1));have HR2:=hide ((uh HR1).below hb2 (blk_lt (uh HR1)));have HM2:=hide ((uh HM1).trans (Mv.of hb2));clear hb2 hA1 HR1 HM1 NX;have hEn2:=hide ((uh HEn).mv (uh HM2) hr);have hw2:w.heap.size < u2.heap.size:=blk_lt (uh hA2);obtain ⟨c0,c1,c2⟩:=(uh HR2).cells;have HV:=hide (uh HCC u2 (uh HR2) (uh hEn2));clear HCC;rw [hnx];clear hnx
 · go_wp2_with fail
   refine (uh HV).mono ?_;rintro e u3 ⟨hh,hM3⟩;have hA3:=hide (hM3.obj (by omega) (uh hA2));have HM3:=hide ((uh HM2).trans hM3);clear hM3 HV c0 c1 c2 hA2 HR2 HM2 hEn2;obtain ⟨q0,q1,q2,q3,q4,q5,q6,q7⟩:=VL.cells (show VL u3 w.heap.size (vc 0 false zed ⟨#[]⟩ nilS nilS) from uh hA3);obtain ⟨g0,g1,g2,g3,g4,g5,g6,g7⟩:=VL.frees (uh hA3);simp only [zed,nilS] at q0 q1 q2 q3 q4 q5 q6 q7;have hne:w.heap.size≠rb:=by omega
   rcases hh with ⟨v,k',cs,p,rfl,hk',rfl,hR,hV,hpn⟩|⟨g,k',fb,rfl,hk',rfl,hfb,hfl,kx,ox,hRx⟩
   · obtain ⟨a,t,ng,dg,ex,x,q1',n1',m1',q2',n2',m2',hc⟩:=hV.shape
     rw [hc];have hcs:(vc a t ⟨ng,dg,ex⟩ x (.slice q1' n1' m1') (.slice q2' n2' m2')).toList=cs:=(congrArg Array.toList hc).symm;have HV:=hide hV;have HR':=hide hR;have HPN:=hide hpn;clear hV hR hpn hc;simp only [c8];go_wp2;have hU:=put8_upd u3 w.heap.size a t ⟨ng,dg,ex⟩ x (.slice q1' n1' m1') (.slice q2' n2' m2')
     have hVf:VRep (put8 u3 w.heap.size a t ⟨ng,dg,ex⟩ x (.slice q1' n1' m1') (.slice q2' n2' m2')) w.heap.size v (vc a t ⟨ng,dg,ex⟩ x (.slice q1' n1' m1') (.slice q2' n2' m2')).toList p:=by
      rw [hcs];exact ((uh HV).keep fun b hb=>hU.block b ((uh HV).ge b hb).2 (by have:=((uh HV).ge b hb).1;omega)).base (by omega)
     exact bodyPost_ret (ret_value (m:=w.heap.size) _ a t ⟨ng,dg,ex⟩ x (.slice q1' n1' m1') (.slice q2' n2' m2') .nilIface (put8_lies (k':=0) (t':=false) (d':=zed) (x':=⟨#[]⟩) (lv':=nilS) (fv':=nilS) (uh hA3) a t ⟨ng,dg,ex⟩ x (.slice q1' n1' m1') (.slice q2' n2' m2')) _ rfl rfl) rfl
      ⟨.inl ⟨v,k',_,p,uh HR0,hk',rfl,hU.obj (Ne.symm hne) (uh HR'),hVf,uh HPN⟩,(uh HM3).own (Nat.le_refl _) hU⟩
   · have HR':=hide hRx
     have HFL:=hide hfl;clear hRx hfl;simp only [vNull,vc,zed,nilS];go_wp2;have hU:=put8_upd u3 w.heap.size 0 false zed ⟨#[]⟩ nilS nilS
     exact bodyPost_ret (ret_value (m:=w.heap.size) _ 0 false zed ⟨#[]⟩ nilS nilS _ (put8_lies (k':=0) (t':=false) (d':=zed) (x':=⟨#[]⟩) (lv':=nilS) (fv':=nilS) (uh hA3) 0 false zed ⟨#[]⟩ nilS nilS) _ rfl rfl) rfl
      ⟨.inr ⟨g,k',fb,uh HR0,hk',rfl,by omega,hU.obj (by omega) (uh HFL),kx,ox,hU.obj (Ne.symm hne) (uh HR')⟩,(uh HM3).own (Nat.le_refl _) hU⟩
set_option maxRecDepth 100000 in
set_option maxHeartbeats 3200000 in
theorem value_true (E:Nat→Value) (rb:Nat) (s:ByteArray) (o:Int) (hs:s.size≤1048576) (hr:17≤rb) (r:(JT × Nat) ⊕ (Nat × Nat)) (w:World) (k:Nat) (h:RL w rb s k o) (hk:k≤s.size) (hE:Env E w) (hnx:nxt s (gap s k)=116)
 (HC:∀ u,RL u rb s (gap s k) o→Env E u→Calls Tryz.prog 140 #[.pointer (some ⟨rb,0,none⟩),.string ⟨#[116,114,117,101]⟩,.agg (vc 1 true zed ⟨#[]⟩ nilS nilS)] u (ValPost E rb s o u r)) :
 Calls Tryz.prog 118 #[.pointer (some ⟨rb,0,none⟩)] w (ValPost E rb s o w r):=by
 have hrl:=blk_lt h;have hA0:VL (w.alloc (.cells vNull 28)) w.heap.size vNull:=vl_new w vNull;have hB0:Below w.heap.size w (w.alloc (.cells vNull 28)):=(Below.refl _ _).alloc (Nat.le_refl _) _;have hR0:=h.below hB0 hrl;have SK:=hide (skip_any gapB rb s k o _ hR0 hk (by omega));have NX:=hide (fun (k:Nat) (w:World) h1 h2 h3=>next_any rb s k o w h1 h2 E h3);have HCC:=hide HC;have HEn:=hide hE;obtain ⟨gl1,gl2⟩:=skipTo_le gapB.data.toList s k hk;have hgp:∀ k,skipTo gapB.data.toList s k=gap s k:=fun _=>rfl
 rw [hgp] at gl1 gl2;obtain ⟨res,HR0⟩:∃ res,Hid (res=r):=⟨r,rfl⟩;rw [← uh HR0];clear hE h HC hR0;simp only [vc,nilS,vNull,zed] at SK HCC
 go_enter Tryz.func118,Tryz.ntmps118
 go_wp2_with fail
 refine (uh SK).mono ?_;rintro e u1 ⟨rfl,hR1,hM1⟩;rw [hgp] at hR1;generalize gap s k=k1 at *;have hA1:=hide (hM1.obj (by omega) hA0);have HR1:=hide hR1;have HM1:=hide ((Mv.of hB0).trans hM1);clear hA0 hB0 hR1 hM1 SK hgp
 go_wp2_with fail
 refine (uh NX k1 _ (uh HR1) gl2 ((uh HEn).mv (uh HM1) hr)).mono ?_;rintro e u2 ⟨rfl,hb2⟩;have hA2:=hide ((hb2.block _ (blk_lt (uh hA1))).trans (uh hA1));have HR2:=hide ((uh HR1).below hb2 (blk_lt (uh HR1)));have HM2:=hide ((uh HM1).trans (Mv.of hb2));clear hb2 hA1 HR1 HM1 NX;have hEn2:=hide ((uh HEn).mv (uh HM2) hr);have hw2:w.heap.size < u2.heap.size:=blk_lt (uh hA2);obtain ⟨c0,c1,c2⟩:=(uh HR2).cells;have HV:=hide (uh HCC u2 (uh HR2) (uh hEn2));clear HCC;rw [hnx];clear hnx
 · go_wp2_with fail
   refine (uh HV).mono ?_;rintro e u3 ⟨hh,hM3⟩;have hA3:=hide (hM3.obj (by omega) (uh hA2));have HM3:=hide ((uh HM2).trans hM3);clear hM3 HV c0 c1 c2 hA2 HR2 HM2 hEn2;obtain ⟨q0,q1,q2,q3,q4,q5,q6,q7⟩:=VL.cells (show VL u3 w.heap.size (vc 0 false zed ⟨#[]⟩ nilS nilS) from uh hA3);obtain ⟨g0,g1,g2,g3,g4,g5,g6,g7⟩:=VL.frees (uh hA3);simp only [zed,nilS] at q0 q1 q2 q3 q4 q5 q6 q7;have hne:w.heap.size≠rb:=by omega
   rcases hh with ⟨v,k',cs,p,rfl,hk',rfl,hR,hV,hpn⟩|⟨g,k',fb,rfl,hk',rfl,hfb,hfl,kx,ox,hRx⟩
   · obtain ⟨a,t,ng,dg,ex,x,q1',n1',m1',q2',n2',m2',hc⟩:=hV.shape
     rw [hc];have hcs:(vc a t ⟨ng,dg,ex⟩ x (.slice q1' n1' m1') (.slice q2' n2' m2')).toList=cs:=(congrArg Array.toList hc).symm;have HV:=hide hV;have HR':=hide hR;have HPN:=hide hpn;clear hV hR hpn hc;simp only [c8];go_wp2;have hU:=put8_upd u3 w.heap.size a t ⟨ng,dg,ex⟩ x (.slice q1' n1' m1') (.slice q2' n2' m2')
     have hVf:VRep (put8 u3 w.heap.size a t ⟨ng,dg,ex⟩ x (.slice q1' n1' m1') (.slice q2' n2' m2')) w.heap.size v (vc a t ⟨ng,dg,ex⟩ x (.slice q1' n1' m1') (.slice q2' n2' m2')).toList p:=by
      rw [hcs];exact ((uh HV).keep fun b hb=>hU.block b ((uh HV).ge b hb).2 (by have:=((uh HV).ge b hb).1;omega)).base (by omega)
     exact bodyPost_ret (ret_value (m:=w.heap.size) _ a t ⟨ng,dg,ex⟩ x (.slice q1' n1' m1') (.slice q2' n2' m2') .nilIface (put8_lies (k':=0) (t':=false) (d':=zed) (x':=⟨#[]⟩) (lv':=nilS) (fv':=nilS) (uh hA3) a t ⟨ng,dg,ex⟩ x (.slice q1' n1' m1') (.slice q2' n2' m2')) _ rfl rfl) rfl
      ⟨.inl ⟨v,k',_,p,uh HR0,hk',rfl,hU.obj (Ne.symm hne) (uh HR'),hVf,uh HPN⟩,(uh HM3).own (Nat.le_refl _) hU⟩
   · have HR':=hide hRx
     have HFL:=hide hfl;clear hRx hfl;simp only [vNull,vc,zed,nilS];go_wp2;have hU:=put8_upd u3 w.heap.size 0 false zed ⟨#[]⟩ nilS nilS
     exact bodyPost_ret (ret_value (m:=w.heap.size) _ 0 false zed ⟨#[]⟩ nilS nilS _ (put8_lies (k':=0) (t':=false) (d':=zed) (x':=⟨#[]⟩) (lv':=nilS) (fv':=nilS) (uh hA3) 0 false zed ⟨#[]⟩ nilS nilS) _ rfl rfl) rfl
      ⟨.inr ⟨g,k',fb,uh HR0,hk',rfl,by omega,hU.obj (by omega) (uh HFL),kx,ox,hU.obj (Ne.symm hne) (uh HR')⟩,(uh HM3).own (Nat.le_refl _) hU⟩
set_option maxRecDepth 100000 in
set_option maxHeartbeats 3200000 in
theorem value_false (E:Nat→Value) (rb:Nat) (s:ByteArray) (o:Int) (hs:s.size≤1048576) (hr:17≤rb) (r:(JT × Nat) ⊕ (Nat × Nat)) (w:World) (k:Nat) (h:RL w rb s k o) (hk:k≤s.size) (hE:Env E w) (hnx:nxt s (gap s k)=102)
 (HC:∀ u,RL u rb s (gap s k) o→Env E u→Calls Tryz.prog 140 #[.pointer (some ⟨rb,0,none⟩),.string ⟨#[102,97,108,115,101]⟩,.agg (vc 1 false zed ⟨#[]⟩ nilS nilS)] u (ValPost E rb s o u r)) :
 Calls Tryz.prog 118 #[.pointer (some ⟨rb,0,none⟩)] w (ValPost E rb s o w r):=by
 have hrl:=blk_lt h;have hA0:VL (w.alloc (.cells vNull 28)) w.heap.size vNull:=vl_new w vNull;have hB0:Below w.heap.size w (w.alloc (.cells vNull 28)):=(Below.refl _ _).alloc (Nat.le_refl _) _;have hR0:=h.below hB0 hrl;have SK:=hide (skip_any gapB rb s k o _ hR0 hk (by omega));have NX:=hide (fun (k:Nat) (w:World) h1 h2 h3=>next_any rb s k o w h1 h2 E h3);have HCC:=hide HC;have HEn:=hide hE;obtain ⟨gl1,gl2⟩:=skipTo_le gapB.data.toList s k hk;have hgp:∀ k,skipTo gapB.data.toList s k=gap s k:=fun _=>rfl
 rw [hgp] at gl1 gl2;obtain ⟨res,HR0⟩:∃ res,Hid (res=r):=⟨r,rfl⟩;rw [← uh HR0];clear hE h HC hR0;simp only [vc,nilS,vNull,zed] at SK HCC
 go_enter Tryz.func118,Tryz.ntmps118
 go_wp2_with fail
 refine (uh SK).mono ?_;rintro e u1 ⟨rfl,hR1,hM1⟩;rw [hgp] at hR1;generalize gap s k=k1 at *;have hA1:=hide (hM1.obj (by omega) hA0);have HR1:=hide hR1;have HM1:=hide ((Mv.of hB0).trans hM1);clear hA0 hB0 hR1 hM1 SK hgp
 go_wp2_with fail
 refine (uh NX k1 _ (uh HR1) gl2 ((uh HEn).mv (uh HM1) hr)).mono ?_;rintro e u2 ⟨rfl,hb2⟩;have hA2:=hide ((hb2.block _ (blk_lt (uh hA1))).trans (uh hA1));have HR2:=hide ((uh HR1).below hb2 (blk_lt (uh HR1)));have HM2:=hide ((uh HM1).trans (Mv.of hb2));clear hb2 hA1 HR1 HM1 NX;have hEn2:=hide ((uh HEn).mv (uh HM2) hr);have hw2:w.heap.size < u2.heap.size:=blk_lt (uh hA2);obtain ⟨c0,c1,c2⟩:=(uh HR2).cells;have HV:=hide (uh HCC u2 (uh HR2) (uh hEn2));clear HCC;rw [hnx];clear hnx
 · go_wp2_with fail
   refine (uh HV).mono ?_;rintro e u3 ⟨hh,hM3⟩;have hA3:=hide (hM3.obj (by omega) (uh hA2));have HM3:=hide ((uh HM2).trans hM3);clear hM3 HV c0 c1 c2 hA2 HR2 HM2 hEn2;obtain ⟨q0,q1,q2,q3,q4,q5,q6,q7⟩:=VL.cells (show VL u3 w.heap.size (vc 0 false zed ⟨#[]⟩ nilS nilS) from uh hA3);obtain ⟨g0,g1,g2,g3,g4,g5,g6,g7⟩:=VL.frees (uh hA3);simp only [zed,nilS] at q0 q1 q2 q3 q4 q5 q6 q7;have hne:w.heap.size≠rb:=by omega
   rcases hh with ⟨v,k',cs,p,rfl,hk',rfl,hR,hV,hpn⟩|⟨g,k',fb,rfl,hk',rfl,hfb,hfl,kx,ox,hRx⟩
   · obtain ⟨a,t,ng,dg,ex,x,q1',n1',m1',q2',n2',m2',hc⟩:=hV.shape
     rw [hc];have hcs:(vc a t ⟨ng,dg,ex⟩ x (.slice q1' n1' m1') (.slice q2' n2' m2')).toList=cs:=(congrArg Array.toList hc).symm;have HV:=hide hV;have HR':=hide hR;have HPN:=hide hpn;clear hV hR hpn hc;simp only [c8];go_wp2;have hU:=put8_upd u3 w.heap.size a t ⟨ng,dg,ex⟩ x (.slice q1' n1' m1') (.slice q2' n2' m2')
     have hVf:VRep (put8 u3 w.heap.size a t ⟨ng,dg,ex⟩ x (.slice q1' n1' m1') (.slice q2' n2' m2')) w.heap.size v (vc a t ⟨ng,dg,ex⟩ x (.slice q1' n1' m1') (.slice q2' n2' m2')).toList p:=by
      rw [hcs];exact ((uh HV).keep fun b hb=>hU.block b ((uh HV).ge b hb).2 (by have:=((uh HV).ge b hb).1;omega)).base (by omega)
     exact bodyPost_ret (ret_value (m:=w.heap.size) _ a t ⟨ng,dg,ex⟩ x (.slice q1' n1' m1') (.slice q2' n2' m2') .nilIface (put8_lies (k':=0) (t':=false) (d':=zed) (x':=⟨#[]⟩) (lv':=nilS) (fv':=nilS) (uh hA3) a t ⟨ng,dg,ex⟩ x (.slice q1' n1' m1') (.slice q2' n2' m2')) _ rfl rfl) rfl
      ⟨.inl ⟨v,k',_,p,uh HR0,hk',rfl,hU.obj (Ne.symm hne) (uh HR'),hVf,uh HPN⟩,(uh HM3).own (Nat.le_refl _) hU⟩
   · have HR':=hide hRx
     have HFL:=hide hfl;clear hRx hfl;simp only [vNull,vc,zed,nilS];go_wp2;have hU:=put8_upd u3 w.heap.size 0 false zed ⟨#[]⟩ nilS nilS
     exact bodyPost_ret (ret_value (m:=w.heap.size) _ 0 false zed ⟨#[]⟩ nilS nilS _ (put8_lies (k':=0) (t':=false) (d':=zed) (x':=⟨#[]⟩) (lv':=nilS) (fv':=nilS) (uh hA3) 0 false zed ⟨#[]⟩ nilS nilS) _ rfl rfl) rfl
      ⟨.inr ⟨g,k',fb,uh HR0,hk',rfl,by omega,hU.obj (by omega) (uh HFL),kx,ox,hU.obj (Ne.symm hne) (uh HR')⟩,(uh HM3).own (Nat.le_refl _) hU⟩
set_option maxRecDepth 100000 in
set_option maxHeartbeats 3200000 in
theorem value_text (E:Nat→Value) (rb:Nat) (s:ByteArray) (o:Int) (hs:s.size≤1048576) (hr:17≤rb) (r:(JT × Nat) ⊕ (Nat × Nat)) (w:World) (k:Nat) (h:RL w rb s k o) (hk:k≤s.size) (hE:Env E w) (hnx:nxt s (gap s k)=34)
 (HC:∀ u,RL u rb s (gap s k) o→Env E u→Calls Tryz.prog 142 #[.pointer (some ⟨rb,0,none⟩)] u (ValPost E rb s o u r)) :
 Calls Tryz.prog 118 #[.pointer (some ⟨rb,0,none⟩)] w (ValPost E rb s o w r):=by
 have hrl:=blk_lt h;have hA0:VL (w.alloc (.cells vNull 28)) w.heap.size vNull:=vl_new w vNull;have hB0:Below w.heap.size w (w.alloc (.cells vNull 28)):=(Below.refl _ _).alloc (Nat.le_refl _) _;have hR0:=h.below hB0 hrl;have SK:=hide (skip_any gapB rb s k o _ hR0 hk (by omega));have NX:=hide (fun (k:Nat) (w:World) h1 h2 h3=>next_any rb s k o w h1 h2 E h3);have HCC:=hide HC;have HEn:=hide hE;obtain ⟨gl1,gl2⟩:=skipTo_le gapB.data.toList s k hk;have hgp:∀ k,skipTo gapB.data.toList s k=gap s k:=fun _=>rfl
 rw [hgp] at gl1 gl2;obtain ⟨res,HR0⟩:∃ res,Hid (res=r):=⟨r,rfl⟩;rw [← uh HR0];clear hE h HC hR0;simp only [vc,nilS,vNull,zed] at SK HCC
 go_enter Tryz.func118,Tryz.ntmps118
 go_wp2_with fail
 refine (uh SK).mono ?_;rintro e u1 ⟨rfl,hR1,hM1⟩;rw [hgp] at hR1;generalize gap s k=k1 at *;have hA1:=hide (hM1.obj (by omega) hA0);have HR1:=hide hR1;have HM1:=hide ((Mv.of hB0).trans hM1);clear hA0 hB0 hR1 hM1 SK hgp
 go_wp2_with fail
 refine (uh NX k1 _ (uh HR1) gl2 ((uh HEn).mv (uh HM1) hr)).mono ?_;rintro e u2 ⟨rfl,hb2⟩;have hA2:=hide ((hb2.block _ (blk_lt (uh hA1))).trans (uh hA1));have HR2:=hide ((uh HR1).below hb2 (blk_lt (uh HR1)));have HM2:=hide ((uh HM1).trans (Mv.of hb2));clear hb2 hA1 HR1 HM1 NX;have hEn2:=hide ((uh HEn).mv (uh HM2) hr);have hw2:w.heap.size < u2.heap.size:=blk_lt (uh hA2);obtain ⟨c0,c1,c2⟩:=(uh HR2).cells;have HV:=hide (uh HCC u2 (uh HR2) (uh hEn2));clear HCC;rw [hnx];clear hnx
 · go_wp2_with fail
   refine (uh HV).mono ?_;rintro e u3 ⟨hh,hM3⟩;have hA3:=hide (hM3.obj (by omega) (uh hA2));have HM3:=hide ((uh HM2).trans hM3);clear hM3 HV c0 c1 c2 hA2 HR2 HM2 hEn2;obtain ⟨q0,q1,q2,q3,q4,q5,q6,q7⟩:=VL.cells (show VL u3 w.heap.size (vc 0 false zed ⟨#[]⟩ nilS nilS) from uh hA3);obtain ⟨g0,g1,g2,g3,g4,g5,g6,g7⟩:=VL.frees (uh hA3);simp only [zed,nilS] at q0 q1 q2 q3 q4 q5 q6 q7;have hne:w.heap.size≠rb:=by omega
   rcases hh with ⟨v,k',cs,p,rfl,hk',rfl,hR,hV,hpn⟩|⟨g,k',fb,rfl,hk',rfl,hfb,hfl,kx,ox,hRx⟩
   · obtain ⟨a,t,ng,dg,ex,x,q1',n1',m1',q2',n2',m2',hc⟩:=hV.shape
     rw [hc];have hcs:(vc a t ⟨ng,dg,ex⟩ x (.slice q1' n1' m1') (.slice q2' n2' m2')).toList=cs:=(congrArg Array.toList hc).symm;have HV:=hide hV;have HR':=hide hR;have HPN:=hide hpn;clear hV hR hpn hc;simp only [c8];go_wp2;have hU:=put8_upd u3 w.heap.size a t ⟨ng,dg,ex⟩ x (.slice q1' n1' m1') (.slice q2' n2' m2')
     have hVf:VRep (put8 u3 w.heap.size a t ⟨ng,dg,ex⟩ x (.slice q1' n1' m1') (.slice q2' n2' m2')) w.heap.size v (vc a t ⟨ng,dg,ex⟩ x (.slice q1' n1' m1') (.slice q2' n2' m2')).toList p:=by
      rw [hcs];exact ((uh HV).keep fun b hb=>hU.block b ((uh HV).ge b hb).2 (by have:=((uh HV).ge b hb).1;omega)).base (by omega)
     exact bodyPost_ret (ret_value (m:=w.heap.size) _ a t ⟨ng,dg,ex⟩ x (.slice q1' n1' m1') (.slice q2' n2' m2') .nilIface (put8_lies (k':=0) (t':=false) (d':=zed) (x':=⟨#[]⟩) (lv':=nilS) (fv':=nilS) (uh hA3) a t ⟨ng,dg,ex⟩ x (.slice q1' n1' m1') (.slice q2' n2' m2')) _ rfl rfl) rfl
      ⟨.inl ⟨v,k',_,p,uh HR0,hk',rfl,hU.obj (Ne.symm hne) (uh HR'),hVf,uh HPN⟩,(uh HM3).own (Nat.le_refl _) hU⟩
   · have HR':=hide hRx
     have HFL:=hide hfl;clear hRx hfl;simp only [vNull,vc,zed,nilS];go_wp2;have hU:=put8_upd u3 w.heap.size 0 false zed ⟨#[]⟩ nilS nilS
     exact bodyPost_ret (ret_value (m:=w.heap.size) _ 0 false zed ⟨#[]⟩ nilS nilS _ (put8_lies (k':=0) (t':=false) (d':=zed) (x':=⟨#[]⟩) (lv':=nilS) (fv':=nilS) (uh hA3) 0 false zed ⟨#[]⟩ nilS nilS) _ rfl rfl) rfl
      ⟨.inr ⟨g,k',fb,uh HR0,hk',rfl,by omega,hU.obj (by omega) (uh HFL),kx,ox,hU.obj (Ne.symm hne) (uh HR')⟩,(uh HM3).own (Nat.le_refl _) hU⟩
set_option maxRecDepth 100000 in
set_option maxHeartbeats 3200000 in
theorem value_list (E:Nat→Value) (rb:Nat) (s:ByteArray) (o:Int) (hs:s.size≤1048576) (hr:17≤rb) (r:(JT × Nat) ⊕ (Nat × Nat)) (w:World) (k:Nat) (h:RL w rb s k o) (hk:k≤s.size) (hE:Env E w) (hnx:nxt s (gap s k)=91)
 (HC:∀ u,RL u rb s (gap s k) o→Env E u→Calls Tryz.prog 143 #[.pointer (some ⟨rb,0,none⟩)] u (ValPost E rb s o u r)) :
 Calls Tryz.prog 118 #[.pointer (some ⟨rb,0,none⟩)] w (ValPost E rb s o w r):=by
 have hrl:=blk_lt h;have hA0:VL (w.alloc (.cells vNull 28)) w.heap.size vNull:=vl_new w vNull;have hB0:Below w.heap.size w (w.alloc (.cells vNull 28)):=(Below.refl _ _).alloc (Nat.le_refl _) _;have hR0:=h.below hB0 hrl;have SK:=hide (skip_any gapB rb s k o _ hR0 hk (by omega));have NX:=hide (fun (k:Nat) (w:World) h1 h2 h3=>next_any rb s k o w h1 h2 E h3);have HCC:=hide HC;have HEn:=hide hE;obtain ⟨gl1,gl2⟩:=skipTo_le gapB.data.toList s k hk;have hgp:∀ k,skipTo gapB.data.toList s k=gap s k:=fun _=>rfl
 rw [hgp] at gl1 gl2;obtain ⟨res,HR0⟩:∃ res,Hid (res=r):=⟨r,rfl⟩;rw [← uh HR0];clear hE h HC hR0;simp only [vc,nilS,vNull,zed] at SK HCC
 go_enter Tryz.func118,Tryz.ntmps118
 go_wp2_with fail
 refine (uh SK).mono ?_;rintro e u1 ⟨rfl,hR1,hM1⟩;rw [hgp] at hR1;generalize gap s k=k1 at *;have hA1:=hide (hM1.obj (by omega) hA0);have HR1:=hide hR1;have HM1:=hide ((Mv.of hB0).trans hM1);clear hA0 hB0 hR1 hM1 SK hgp
 go_wp2_with fail
 refine (uh NX k1 _ (uh HR1) gl2 ((uh HEn).mv (uh HM1) hr)).mono ?_;rintro e u2 ⟨rfl,hb2⟩;have hA2:=hide ((hb2.block _ (blk_lt (uh hA1))).trans (uh hA1));have HR2:=hide ((uh HR1).below hb2 (blk_lt (uh HR1)));have HM2:=hide ((uh HM1).trans (Mv.of hb2));clear hb2 hA1 HR1 HM1 NX;have hEn2:=hide ((uh HEn).mv (uh HM2) hr);have hw2:w.heap.size < u2.heap.size:=blk_lt (uh hA2);obtain ⟨c0,c1,c2⟩:=(uh HR2).cells;have HV:=hide (uh HCC u2 (uh HR2) (uh hEn2));clear HCC;rw [hnx];clear hnx
 · go_wp2_with fail
   refine (uh HV).mono ?_;rintro e u3 ⟨hh,hM3⟩;have hA3:=hide (hM3.obj (by omega) (uh hA2));have HM3:=hide ((uh HM2).trans hM3);clear hM3 HV c0 c1 c2 hA2 HR2 HM2 hEn2;obtain ⟨q0,q1,q2,q3,q4,q5,q6,q7⟩:=VL.cells (show VL u3 w.heap.size (vc 0 false zed ⟨#[]⟩ nilS nilS) from uh hA3);obtain ⟨g0,g1,g2,g3,g4,g5,g6,g7⟩:=VL.frees (uh hA3);simp only [zed,nilS] at q0 q1 q2 q3 q4 q5 q6 q7;have hne:w.heap.size≠rb:=by omega
   rcases hh with ⟨v,k',cs,p,rfl,hk',rfl,hR,hV,hpn⟩|⟨g,k',fb,rfl,hk',rfl,hfb,hfl,kx,ox,hRx⟩
   · obtain ⟨a,t,ng,dg,ex,x,q1',n1',m1',q2',n2',m2',hc⟩:=hV.shape
     rw [hc];have hcs:(vc a t ⟨ng,dg,ex⟩ x (.slice q1' n1' m1') (.slice q2' n2' m2')).toList=cs:=(congrArg Array.toList hc).symm;have HV:=hide hV;have HR':=hide hR;have HPN:=hide hpn;clear hV hR hpn hc;simp only [c8];go_wp2;have hU:=put8_upd u3 w.heap.size a t ⟨ng,dg,ex⟩ x (.slice q1' n1' m1') (.slice q2' n2' m2')
     have hVf:VRep (put8 u3 w.heap.size a t ⟨ng,dg,ex⟩ x (.slice q1' n1' m1') (.slice q2' n2' m2')) w.heap.size v (vc a t ⟨ng,dg,ex⟩ x (.slice q1' n1' m1') (.slice q2' n2' m2')).toList p:=by
      rw [hcs];exact ((uh HV).keep fun b hb=>hU.block b ((uh HV).ge b hb).2 (by have:=((uh HV).ge b hb).1;omega)).base (by omega)
     exact bodyPost_ret (ret_value (m:=w.heap.size) _ a t ⟨ng,dg,ex⟩ x (.slice q1' n1' m1') (.slice q2' n2' m2') .nilIface (put8_lies (k':=0) (t':=false) (d':=zed) (x':=⟨#[]⟩) (lv':=nilS) (fv':=nilS) (uh hA3) a t ⟨ng,dg,ex⟩ x (.slice q1' n1' m1') (.slice q2' n2' m2')) _ rfl rfl) rfl
      ⟨.inl ⟨v,k',_,p,uh HR0,hk',rfl,hU.obj (Ne.symm hne) (uh HR'),hVf,uh HPN⟩,(uh HM3).own (Nat.le_refl _) hU⟩
   · have HR':=hide hRx
     have HFL:=hide hfl;clear hRx hfl;simp only [vNull,vc,zed,nilS];go_wp2;have hU:=put8_upd u3 w.heap.size 0 false zed ⟨#[]⟩ nilS nilS
     exact bodyPost_ret (ret_value (m:=w.heap.size) _ 0 false zed ⟨#[]⟩ nilS nilS _ (put8_lies (k':=0) (t':=false) (d':=zed) (x':=⟨#[]⟩) (lv':=nilS) (fv':=nilS) (uh hA3) 0 false zed ⟨#[]⟩ nilS nilS) _ rfl rfl) rfl
      ⟨.inr ⟨g,k',fb,uh HR0,hk',rfl,by omega,hU.obj (by omega) (uh HFL),kx,ox,hU.obj (Ne.symm hne) (uh HR')⟩,(uh HM3).own (Nat.le_refl _) hU⟩
set_option maxRecDepth 100000 in
set_option maxHeartbeats 3200000 in
theorem value_object (E:Nat→Value) (rb:Nat) (s:ByteArray) (o:Int) (hs:s.size≤1048576) (hr:17≤rb) (r:(JT × Nat) ⊕ (Nat × Nat)) (w:World) (k:Nat) (h:RL w rb s k o) (hk:k≤s.size) (hE:Env E w) (hnx:nxt s (gap s k)=123)
 (HC:∀ u,RL u rb s (gap s k) o→Env E u→Calls Tryz.prog 144 #[.pointer (some ⟨rb,0,none⟩)] u (ValPost E rb s o u r)) :
 Calls Tryz.prog 118 #[.pointer (some ⟨rb,0,none⟩)] w (ValPost E rb s o w r):=by
 have hrl:=blk_lt h;have hA0:VL (w.alloc (.cells vNull 28)) w.heap.size vNull:=vl_new w vNull;have hB0:Below w.heap.size w (w.alloc (.cells vNull 28)):=(Below.refl _ _).alloc (Nat.le_refl _) _;have hR0:=h.below hB0 hrl;have SK:=hide (skip_any gapB rb s k o _ hR0 hk (by omega));have NX:=hide (fun (k:Nat) (w:World) h1 h2 h3=>next_any rb s k o w h1 h2 E h3);have HCC:=hide HC;have HEn:=hide hE;obtain ⟨gl1,gl2⟩:=skipTo_le gapB.data.toList s k hk;have hgp:∀ k,skipTo gapB.data.toList s k=gap s k:=fun _=>rfl
 rw [hgp] at gl1 gl2;obtain ⟨res,HR0⟩:∃ res,Hid (res=r):=⟨r,rfl⟩;rw [← uh HR0];clear hE h HC hR0;simp only [vc,nilS,vNull,zed] at SK HCC
 go_enter Tryz.func118,Tryz.ntmps118
 go_wp2_with fail
 refine (uh SK).mono ?_;rintro e u1 ⟨rfl,hR1,hM1⟩;rw [hgp] at hR1;generalize gap s k=k1 at *;have hA1:=hide (hM1.obj (by omega) hA0);have HR1:=hide hR1;have HM1:=hide ((Mv.of hB0).trans hM1);clear hA0 hB0 hR1 hM1 SK hgp
 go_wp2_with fail
 refine (uh NX k1 _ (uh HR1) gl2 ((uh HEn).mv (uh HM1) hr)).mono ?_;rintro e u2 ⟨rfl,hb2⟩;have hA2:=hide ((hb2.block _ (blk_lt (uh hA1))).trans (uh hA1));have HR2:=hide ((uh HR1).below hb2 (blk_lt (uh HR1)));have HM2:=hide ((uh HM1).trans (Mv.of hb2));clear hb2 hA1 HR1 HM1 NX;have hEn2:=hide ((uh HEn).mv (uh HM2) hr);have hw2:w.heap.size < u2.heap.size:=blk_lt (uh hA2);obtain ⟨c0,c1,c2⟩:=(uh HR2).cells;have HV:=hide (uh HCC u2 (uh HR2) (uh hEn2));clear HCC;rw [hnx];clear hnx
 · go_wp2_with fail
   refine (uh HV).mono ?_;rintro e u3 ⟨hh,hM3⟩;have hA3:=hide (hM3.obj (by omega) (uh hA2));have HM3:=hide ((uh HM2).trans hM3);clear hM3 HV c0 c1 c2 hA2 HR2 HM2 hEn2;obtain ⟨q0,q1,q2,q3,q4,q5,q6,q7⟩:=VL.cells (show VL u3 w.heap.size (vc 0 false zed ⟨#[]⟩ nilS nilS) from uh hA3);obtain ⟨g0,g1,g2,g3,g4,g5,g6,g7⟩:=VL.frees (uh hA3);simp only [zed,nilS] at q0 q1 q2 q3 q4 q5 q6 q7;have hne:w.heap.size≠rb:=by omega
   rcases hh with ⟨v,k',cs,p,rfl,hk',rfl,hR,hV,hpn⟩|⟨g,k',fb,rfl,hk',rfl,hfb,hfl,kx,ox,hRx⟩
   · obtain ⟨a,t,ng,dg,ex,x,q1',n1',m1',q2',n2',m2',hc⟩:=hV.shape
     rw [hc];have hcs:(vc a t ⟨ng,dg,ex⟩ x (.slice q1' n1' m1') (.slice q2' n2' m2')).toList=cs:=(congrArg Array.toList hc).symm;have HV:=hide hV;have HR':=hide hR;have HPN:=hide hpn;clear hV hR hpn hc;simp only [c8];go_wp2;have hU:=put8_upd u3 w.heap.size a t ⟨ng,dg,ex⟩ x (.slice q1' n1' m1') (.slice q2' n2' m2')
     have hVf:VRep (put8 u3 w.heap.size a t ⟨ng,dg,ex⟩ x (.slice q1' n1' m1') (.slice q2' n2' m2')) w.heap.size v (vc a t ⟨ng,dg,ex⟩ x (.slice q1' n1' m1') (.slice q2' n2' m2')).toList p:=by
      rw [hcs];exact ((uh HV).keep fun b hb=>hU.block b ((uh HV).ge b hb).2 (by have:=((uh HV).ge b hb).1;omega)).base (by omega)
     exact bodyPost_ret (ret_value (m:=w.heap.size) _ a t ⟨ng,dg,ex⟩ x (.slice q1' n1' m1') (.slice q2' n2' m2') .nilIface (put8_lies (k':=0) (t':=false) (d':=zed) (x':=⟨#[]⟩) (lv':=nilS) (fv':=nilS) (uh hA3) a t ⟨ng,dg,ex⟩ x (.slice q1' n1' m1') (.slice q2' n2' m2')) _ rfl rfl) rfl
      ⟨.inl ⟨v,k',_,p,uh HR0,hk',rfl,hU.obj (Ne.symm hne) (uh HR'),hVf,uh HPN⟩,(uh HM3).own (Nat.le_refl _) hU⟩
   · have HR':=hide hRx
     have HFL:=hide hfl;clear hRx hfl;simp only [vNull,vc,zed,nilS];go_wp2;have hU:=put8_upd u3 w.heap.size 0 false zed ⟨#[]⟩ nilS nilS
     exact bodyPost_ret (ret_value (m:=w.heap.size) _ 0 false zed ⟨#[]⟩ nilS nilS _ (put8_lies (k':=0) (t':=false) (d':=zed) (x':=⟨#[]⟩) (lv':=nilS) (fv':=nilS) (uh hA3) 0 false zed ⟨#[]⟩ nilS nilS) _ rfl rfl) rfl
      ⟨.inr ⟨g,k',fb,uh HR0,hk',rfl,by omega,hU.obj (by omega) (uh HFL),kx,ox,hU.obj (Ne.symm hne) (uh HR')⟩,(uh HM3).own (Nat.le_refl _) hU⟩
set_option maxRecDepth 100000 in
set_option maxHeartbeats 3200000 in
theorem value_num45 (E:Nat→Value) (rb:Nat) (s:ByteArray) (o:Int) (hs:s.size≤1048576) (hr:17≤rb) (r:(JT × Nat) ⊕ (Nat × Nat)) (w:World) (k:Nat) (h:RL w rb s k o) (hk:k≤s.size) (hE:Env E w) (hnx:nxt s (gap s k)=45)
 (HC:∀ u,RL u rb s (gap s k) o→Env E u→Calls Tryz.prog 141 #[.pointer (some ⟨rb,0,none⟩)] u (ValPost E rb s o u r)) :
 Calls Tryz.prog 118 #[.pointer (some ⟨rb,0,none⟩)] w (ValPost E rb s o w r):=by
 have hrl:=blk_lt h;have hA0:VL (w.alloc (.cells vNull 28)) w.heap.size vNull:=vl_new w vNull;have hB0:Below w.heap.size w (w.alloc (.cells vNull 28)):=(Below.refl _ _).alloc (Nat.le_refl _) _;have hR0:=h.below hB0 hrl;have SK:=hide (skip_any gapB rb s k o _ hR0 hk (by omega));have NX:=hide (fun (k:Nat) (w:World) h1 h2 h3=>next_any rb s k o w h1 h2 E h3);have HCC:=hide HC;have HEn:=hide hE;obtain ⟨gl1,gl2⟩:=skipTo_le gapB.data.toList s k hk;have hgp:∀ k,skipTo gapB.data.toList s k=gap s k:=fun _=>rfl
 rw [hgp] at gl1 gl2;obtain ⟨res,HR0⟩:∃ res,Hid (res=r):=⟨r,rfl⟩;rw [← uh HR0];clear hE h HC hR0;simp only [vc,nilS,vNull,zed] at SK HCC
 go_enter Tryz.func118,Tryz.ntmps118
 go_wp2_with fail
 refine (uh SK).mono ?_;rintro e u1 ⟨rfl,hR1,hM1⟩;rw [hgp] at hR1;generalize gap s k=k1 at *;have hA1:=hide (hM1.obj (by omega) hA0);have HR1:=hide hR1;have HM1:=hide ((Mv.of hB0).trans hM1);clear hA0 hB0 hR1 hM1 SK hgp
 go_wp2_with fail
 refine (uh NX k1 _ (uh HR1) gl2 ((uh HEn).mv (uh HM1) hr)).mono ?_;rintro e u2 ⟨rfl,hb2⟩;have hA2:=hide ((hb2.block _ (blk_lt (uh hA1))).trans (uh hA1));have HR2:=hide ((uh HR1).below hb2 (blk_lt (uh HR1)));have HM2:=hide ((uh HM1).trans (Mv.of hb2));clear hb2 hA1 HR1 HM1 NX;have hEn2:=hide ((uh HEn).mv (uh HM2) hr);have hw2:w.heap.size < u2.heap.size:=blk_lt (uh hA2);obtain ⟨c0,c1,c2⟩:=(uh HR2).cells;have HV:=hide (uh HCC u2 (uh HR2) (uh hEn2));clear HCC;rw [hnx];clear hnx
 · go_wp2_with fail
   refine (uh HV).mono ?_;rintro e u3 ⟨hh,hM3⟩;have hA3:=hide (hM3.obj (by omega) (uh hA2));have HM3:=hide ((uh HM2).trans hM3);clear hM3 HV c0 c1 c2 hA2 HR2 HM2 hEn2;obtain ⟨q0,q1,q2,q3,q4,q5,q6,q7⟩:=VL.cells (show VL u3 w.heap.size (vc 0 false zed ⟨#[]⟩ nilS nilS) from uh hA3);obtain ⟨g0,g1,g2,g3,g4,g5,g6,g7⟩:=VL.frees (uh hA3);simp only [zed,nilS] at q0 q1 q2 q3 q4 q5 q6 q7;have hne:w.heap.size≠rb:=by omega
   rcases hh with ⟨v,k',cs,p,rfl,hk',rfl,hR,hV,hpn⟩|⟨g,k',fb,rfl,hk',rfl,hfb,hfl,kx,ox,hRx⟩
   · obtain ⟨a,t,ng,dg,ex,x,q1',n1',m1',q2',n2',m2',hc⟩:=hV.shape
     rw [hc];have hcs:(vc a t ⟨ng,dg,ex⟩ x (.slice q1' n1' m1') (.slice q2' n2' m2')).toList=cs:=(congrArg Array.toList hc).symm;have HV:=hide hV;have HR':=hide hR;have HPN:=hide hpn;clear hV hR hpn hc;simp only [c8];go_wp2;have hU:=put8_upd u3 w.heap.size a t ⟨ng,dg,ex⟩ x (.slice q1' n1' m1') (.slice q2' n2' m2')
     have hVf:VRep (put8 u3 w.heap.size a t ⟨ng,dg,ex⟩ x (.slice q1' n1' m1') (.slice q2' n2' m2')) w.heap.size v (vc a t ⟨ng,dg,ex⟩ x (.slice q1' n1' m1') (.slice q2' n2' m2')).toList p:=by
      rw [hcs];exact ((uh HV).keep fun b hb=>hU.block b ((uh HV).ge b hb).2 (by have:=((uh HV).ge b hb).1;omega)).base (by omega)
     exact bodyPost_ret (ret_value (m:=w.heap.size) _ a t ⟨ng,dg,ex⟩ x (.slice q1' n1' m1') (.slice q2' n2' m2') .nilIface (put8_lies (k':=0) (t':=false) (d':=zed) (x':=⟨#[]⟩) (lv':=nilS) (fv':=nilS) (uh hA3) a t ⟨ng,dg,ex⟩ x (.slice q1' n1' m1') (.slice q2' n2' m2')) _ rfl rfl) rfl
      ⟨.inl ⟨v,k',_,p,uh HR0,hk',rfl,hU.obj (Ne.symm hne) (uh HR'),hVf,uh HPN⟩,(uh HM3).own (Nat.le_refl _) hU⟩
   · have HR':=hide hRx
     have HFL:=hide hfl;clear hRx hfl;simp only [vNull,vc,zed,nilS];go_wp2;have hU:=put8_upd u3 w.heap.size 0 false zed ⟨#[]⟩ nilS nilS
     exact bodyPost_ret (ret_value (m:=w.heap.size) _ 0 false zed ⟨#[]⟩ nilS nilS _ (put8_lies (k':=0) (t':=false) (d':=zed) (x':=⟨#[]⟩) (lv':=nilS) (fv':=nilS) (uh hA3) 0 false zed ⟨#[]⟩ nilS nilS) _ rfl rfl) rfl
      ⟨.inr ⟨g,k',fb,uh HR0,hk',rfl,by omega,hU.obj (by omega) (uh HFL),kx,ox,hU.obj (Ne.symm hne) (uh HR')⟩,(uh HM3).own (Nat.le_refl _) hU⟩
set_option maxRecDepth 100000 in
set_option maxHeartbeats 3200000 in
theorem value_num48 (E:Nat→Value) (rb:Nat) (s:ByteArray) (o:Int) (hs:s.size≤1048576) (hr:17≤rb) (r:(JT × Nat) ⊕ (Nat × Nat)) (w:World) (k:Nat) (h:RL w rb s k o) (hk:k≤s.size) (hE:Env E w) (hnx:nxt s (gap s k)=48)
 (HC:∀ u,RL u rb s (gap s k) o→Env E u→Calls Tryz.prog 141 #[.pointer (some ⟨rb,0,none⟩)] u (ValPost E rb s o u r)) :
 Calls Tryz.prog 118 #[.pointer (some ⟨rb,0,none⟩)] w (ValPost E rb s o w r):=by
 have hrl:=blk_lt h;have hA0:VL (w.alloc (.cells vNull 28)) w.heap.size vNull:=vl_new w vNull;have hB0:Below w.heap.size w (w.alloc (.cells vNull 28)):=(Below.refl _ _).alloc (Nat.le_refl _) _;have hR0:=h.below hB0 hrl;have SK:=hide (skip_any gapB rb s k o _ hR0 hk (by omega));have NX:=hide (fun (k:Nat) (w:World) h1 h2 h3=>next_any rb s k o w h1 h2 E h3);have HCC:=hide HC;have HEn:=hide hE;obtain ⟨gl1,gl2⟩:=skipTo_le gapB.data.toList s k hk;have hgp:∀ k,skipTo gapB.data.toList s k=gap s k:=fun _=>rfl
 rw [hgp] at gl1 gl2;obtain ⟨res,HR0⟩:∃ res,Hid (res=r):=⟨r,rfl⟩;rw [← uh HR0];clear hE h HC hR0;simp only [vc,nilS,vNull,zed] at SK HCC
 go_enter Tryz.func118,Tryz.ntmps118
 go_wp2_with fail
 refine (uh SK).mono ?_;rintro e u1 ⟨rfl,hR1,hM1⟩;rw [hgp] at hR1;generalize gap s k=k1 at *;have hA1:=hide (hM1.obj (by omega) hA0);have HR1:=hide hR1;have HM1:=hide ((Mv.of hB0).trans hM1);clear hA0 hB0 hR1 hM1 SK hgp
 go_wp2_with fail
 refine (uh NX k1 _ (uh HR1) gl2 ((uh HEn).mv (uh HM1) hr)).mono ?_;rintro e u2 ⟨rfl,hb2⟩;have hA2:=hide ((hb2.block _ (blk_lt (uh hA1))).trans (uh hA1));have HR2:=hide ((uh HR1).below hb2 (blk_lt (uh HR1)));have HM2:=hide ((uh HM1).trans (Mv.of hb2));clear hb2 hA1 HR1 HM1 NX;have hEn2:=hide ((uh HEn).mv (uh HM2) hr);have hw2:w.heap.size < u2.heap.size:=blk_lt (uh hA2);obtain ⟨c0,c1,c2⟩:=(uh HR2).cells;have HV:=hide (uh HCC u2 (uh HR2) (uh hEn2));clear HCC;rw [hnx];clear hnx
 · go_wp2_with fail
   refine (uh HV).mono ?_;rintro e u3 ⟨hh,hM3⟩;have hA3:=hide (hM3.obj (by omega) (uh hA2));have HM3:=hide ((uh HM2).trans hM3);clear hM3 HV c0 c1 c2 hA2 HR2 HM2 hEn2;obtain ⟨q0,q1,q2,q3,q4,q5,q6,q7⟩:=VL.cells (show VL u3 w.heap.size (vc 0 false zed ⟨#[]⟩ nilS nilS) from uh hA3);obtain ⟨g0,g1,g2,g3,g4,g5,g6,g7⟩:=VL.frees (uh hA3);simp only [zed,nilS] at q0 q1 q2 q3 q4 q5 q6 q7;have hne:w.heap.size≠rb:=by omega
   rcases hh with ⟨v,k',cs,p,rfl,hk',rfl,hR,hV,hpn⟩|⟨g,k',fb,rfl,hk',rfl,hfb,hfl,kx,ox,hRx⟩
   · obtain ⟨a,t,ng,dg,ex,x,q1',n1',m1',q2',n2',m2',hc⟩:=hV.shape
     rw [hc];have hcs:(vc a t ⟨ng,dg,ex⟩ x (.slice q1' n1' m1') (.slice q2' n2' m2')).toList=cs:=(congrArg Array.toList hc).symm;have HV:=hide hV;have HR':=hide hR;have HPN:=hide hpn;clear hV hR hpn hc;simp only [c8];go_wp2;have hU:=put8_upd u3 w.heap.size a t ⟨ng,dg,ex⟩ x (.slice q1' n1' m1') (.slice q2' n2' m2')
     have hVf:VRep (put8 u3 w.heap.size a t ⟨ng,dg,ex⟩ x (.slice q1' n1' m1') (.slice q2' n2' m2')) w.heap.size v (vc a t ⟨ng,dg,ex⟩ x (.slice q1' n1' m1') (.slice q2' n2' m2')).toList p:=by
      rw [hcs];exact ((uh HV).keep fun b hb=>hU.block b ((uh HV).ge b hb).2 (by have:=((uh HV).ge b hb).1;omega)).base (by omega)
     exact bodyPost_ret (ret_value (m:=w.heap.size) _ a t ⟨ng,dg,ex⟩ x (.slice q1' n1' m1') (.slice q2' n2' m2') .nilIface (put8_lies (k':=0) (t':=false) (d':=zed) (x':=⟨#[]⟩) (lv':=nilS) (fv':=nilS) (uh hA3) a t ⟨ng,dg,ex⟩ x (.slice q1' n1' m1') (.slice q2' n2' m2')) _ rfl rfl) rfl
      ⟨.inl ⟨v,k',_,p,uh HR0,hk',rfl,hU.obj (Ne.symm hne) (uh HR'),hVf,uh HPN⟩,(uh HM3).own (Nat.le_refl _) hU⟩
   · have HR':=hide hRx
     have HFL:=hide hfl;clear hRx hfl;simp only [vNull,vc,zed,nilS];go_wp2;have hU:=put8_upd u3 w.heap.size 0 false zed ⟨#[]⟩ nilS nilS
     exact bodyPost_ret (ret_value (m:=w.heap.size) _ 0 false zed ⟨#[]⟩ nilS nilS _ (put8_lies (k':=0) (t':=false) (d':=zed) (x':=⟨#[]⟩) (lv':=nilS) (fv':=nilS) (uh hA3) 0 false zed ⟨#[]⟩ nilS nilS) _ rfl rfl) rfl
      ⟨.inr ⟨g,k',fb,uh HR0,hk',rfl,by omega,hU.obj (by omega) (uh HFL),kx,ox,hU.obj (Ne.symm hne) (uh HR')⟩,(uh HM3).own (Nat.le_refl _) hU⟩
set_option maxRecDepth 100000 in
set_option maxHeartbeats 3200000 in
theorem value_num49 (E:Nat→Value) (rb:Nat) (s:ByteArray) (o:Int) (hs:s.size≤1048576) (hr:17≤rb) (r:(JT × Nat) ⊕ (Nat × Nat)) (w:World) (k:Nat) (h:RL w rb s k o) (hk:k≤s.size) (hE:Env E w) (hnx:nxt s (gap s k)=49)
 (HC:∀ u,RL u rb s (gap s k) o→Env E u→Calls Tryz.prog 141 #[.pointer (some ⟨rb,0,none⟩)] u (ValPost E rb s o u r)) :
 Calls Tryz.prog 118 #[.pointer (some ⟨rb,0,none⟩)] w (ValPost E rb s o w r):=by
 have hrl:=blk_lt h;have hA0:VL (w.alloc (.cells vNull 28)) w.heap.size vNull:=vl_new w vNull;have hB0:Below w.heap.size w (w.alloc (.cells vNull 28)):=(Below.refl _ _).alloc (Nat.le_refl _) _;have hR0:=h.below hB0 hrl;have SK:=hide (skip_any gapB rb s k o _ hR0 hk (by omega));have NX:=hide (fun (k:Nat) (w:World) h1 h2 h3=>next_any rb s k o w h1 h2 E h3);have HCC:=hide HC;have HEn:=hide hE;obtain ⟨gl1,gl2⟩:=skipTo_le gapB.data.toList s k hk;have hgp:∀ k,skipTo gapB.data.toList s k=gap s k:=fun _=>rfl
 rw [hgp] at gl1 gl2;obtain ⟨res,HR0⟩:∃ res,Hid (res=r):=⟨r,rfl⟩;rw [← uh HR0];clear hE h HC hR0;simp only [vc,nilS,vNull,zed] at SK HCC
 go_enter Tryz.func118,Tryz.ntmps118
 go_wp2_with fail
 refine (uh SK).mono ?_;rintro e u1 ⟨rfl,hR1,hM1⟩;rw [hgp] at hR1;generalize gap s k=k1 at *;have hA1:=hide (hM1.obj (by omega) hA0);have HR1:=hide hR1;have HM1:=hide ((Mv.of hB0).trans hM1);clear hA0 hB0 hR1 hM1 SK hgp
 go_wp2_with fail
 refine (uh NX k1 _ (uh HR1) gl2 ((uh HEn).mv (uh HM1) hr)).mono ?_;rintro e u2 ⟨rfl,hb2⟩;have hA2:=hide ((hb2.block _ (blk_lt (uh hA1))).trans (uh hA1));have HR2:=hide ((uh HR1).below hb2 (blk_lt (uh HR1)));have HM2:=hide ((uh HM1).trans (Mv.of hb2));clear hb2 hA1 HR1 HM1 NX;have hEn2:=hide ((uh HEn).mv (uh HM2) hr);have hw2:w.heap.size < u2.heap.size:=blk_lt (uh hA2);obtain ⟨c0,c1,c2⟩:=(uh HR2).cells;have HV:=hide (uh HCC u2 (uh HR2) (uh hEn2));clear HCC;rw [hnx];clear hnx
 · go_wp2_with fail
   refine (uh HV).mono ?_;rintro e u3 ⟨hh,hM3⟩;have hA3:=hide (hM3.obj (by omega) (uh hA2));have HM3:=hide ((uh HM2).trans hM3);clear hM3 HV c0 c1 c2 hA2 HR2 HM2 hEn2;obtain ⟨q0,q1,q2,q3,q4,q5,q6,q7⟩:=VL.cells (show VL u3 w.heap.size (vc 0 false zed ⟨#[]⟩ nilS nilS) from uh hA3);obtain ⟨g0,g1,g2,g3,g4,g5,g6,g7⟩:=VL.frees (uh hA3);simp only [zed,nilS] at q0 q1 q2 q3 q4 q5 q6 q7;have hne:w.heap.size≠rb:=by omega
   rcases hh with ⟨v,k',cs,p,rfl,hk',rfl,hR,hV,hpn⟩|⟨g,k',fb,rfl,hk',rfl,hfb,hfl,kx,ox,hRx⟩
   · obtain ⟨a,t,ng,dg,ex,x,q1',n1',m1',q2',n2',m2',hc⟩:=hV.shape
     rw [hc];have hcs:(vc a t ⟨ng,dg,ex⟩ x (.slice q1' n1' m1') (.slice q2' n2' m2')).toList=cs:=(congrArg Array.toList hc).symm;have HV:=hide hV;have HR':=hide hR;have HPN:=hide hpn;clear hV hR hpn hc;simp only [c8];go_wp2;have hU:=put8_upd u3 w.heap.size a t ⟨ng,dg,ex⟩ x (.slice q1' n1' m1') (.slice q2' n2' m2')
     have hVf:VRep (put8 u3 w.heap.size a t ⟨ng,dg,ex⟩ x (.slice q1' n1' m1') (.slice q2' n2' m2')) w.heap.size v (vc a t ⟨ng,dg,ex⟩ x (.slice q1' n1' m1') (.slice q2' n2' m2')).toList p:=by
      rw [hcs];exact ((uh HV).keep fun b hb=>hU.block b ((uh HV).ge b hb).2 (by have:=((uh HV).ge b hb).1;omega)).base (by omega)
     exact bodyPost_ret (ret_value (m:=w.heap.size) _ a t ⟨ng,dg,ex⟩ x (.slice q1' n1' m1') (.slice q2' n2' m2') .nilIface (put8_lies (k':=0) (t':=false) (d':=zed) (x':=⟨#[]⟩) (lv':=nilS) (fv':=nilS) (uh hA3) a t ⟨ng,dg,ex⟩ x (.slice q1' n1' m1') (.slice q2' n2' m2')) _ rfl rfl) rfl
      ⟨.inl ⟨v,k',_,p,uh HR0,hk',rfl,hU.obj (Ne.symm hne) (uh HR'),hVf,uh HPN⟩,(uh HM3).own (Nat.le_refl _) hU⟩
   · have HR':=hide hRx
     have HFL:=hide hfl;clear hRx hfl;simp only [vNull,vc,zed,nilS];go_wp2;have hU:=put8_upd u3 w.heap.size 0 false zed ⟨#[]⟩ nilS nilS
     exact bodyPost_ret (ret_value (m:=w.heap.size) _ 0 false zed ⟨#[]⟩ nilS nilS _ (put8_lies (k':=0) (t':=false) (d':=zed) (x':=⟨#[]⟩) (lv':=nilS) (fv':=nilS) (uh hA3) 0 false zed ⟨#[]⟩ nilS nilS) _ rfl rfl) rfl
      ⟨.inr ⟨g,k',fb,uh HR0,hk',rfl,by omega,hU.obj (by omega) (uh HFL),kx,ox,hU.obj (Ne.symm hne) (uh HR')⟩,(uh HM3).own (Nat.le_refl _) hU⟩
set_option maxRecDepth 100000 in
set_option maxHeartbeats 3200000 in
theorem value_num50 (E:Nat→Value) (rb:Nat) (s:ByteArray) (o:Int) (hs:s.size≤1048576) (hr:17≤rb) (r:(JT × Nat) ⊕ (Nat × Nat)) (w:World) (k:Nat) (h:RL w rb s k o) (hk:k≤s.size) (hE:Env E w) (hnx:nxt s (gap s k)=50)
 (HC:∀ u,RL u rb s (gap s k) o→Env E u→Calls Tryz.prog 141 #[.pointer (some ⟨rb,0,none⟩)] u (ValPost E rb s o u r)) :
 Calls Tryz.prog 118 #[.pointer (some ⟨rb,0,none⟩)] w (ValPost E rb s o w r):=by
 have hrl:=blk_lt h;have hA0:VL (w.alloc (.cells vNull 28)) w.heap.size vNull:=vl_new w vNull;have hB0:Below w.heap.size w (w.alloc (.cells vNull 28)):=(Below.refl _ _).alloc (Nat.le_refl _) _;have hR0:=h.below hB0 hrl;have SK:=hide (skip_any gapB rb s k o _ hR0 hk (by omega));have NX:=hide (fun (k:Nat) (w:World) h1 h2 h3=>next_any rb s k o w h1 h2 E h3);have HCC:=hide HC;have HEn:=hide hE;obtain ⟨gl1,gl2⟩:=skipTo_le gapB.data.toList s k hk;have hgp:∀ k,skipTo gapB.data.toList s k=gap s k:=fun _=>rfl
 rw [hgp] at gl1 gl2;obtain ⟨res,HR0⟩:∃ res,Hid (res=r):=⟨r,rfl⟩;rw [← uh HR0];clear hE h HC hR0;simp only [vc,nilS,vNull,zed] at SK HCC
 go_enter Tryz.func118,Tryz.ntmps118
 go_wp2_with fail
 refine (uh SK).mono ?_;rintro e u1 ⟨rfl,hR1,hM1⟩;rw [hgp] at hR1;generalize gap s k=k1 at *;have hA1:=hide (hM1.obj (by omega) hA0);have HR1:=hide hR1;have HM1:=hide ((Mv.of hB0).trans hM1);clear hA0 hB0 hR1 hM1 SK hgp
 go_wp2_with fail
 refine (uh NX k1 _ (uh HR1) gl2 ((uh HEn).mv (uh HM1) hr)).mono ?_;rintro e u2 ⟨rfl,hb2⟩;have hA2:=hide ((hb2.block _ (blk_lt (uh hA1))).trans (uh hA1));have HR2:=hide ((uh HR1).below hb2 (blk_lt (uh HR1)));have HM2:=hide ((uh HM1).trans (Mv.of hb2));clear hb2 hA1 HR1 HM1 NX;have hEn2:=hide ((uh HEn).mv (uh HM2) hr);have hw2:w.heap.size < u2.heap.size:=blk_lt (uh hA2);obtain ⟨c0,c1,c2⟩:=(uh HR2).cells;have HV:=hide (uh HCC u2 (uh HR2) (uh hEn2));clear HCC;rw [hnx];clear hnx
 · go_wp2_with fail
   refine (uh HV).mono ?_;rintro e u3 ⟨hh,hM3⟩;have hA3:=hide (hM3.obj (by omega) (uh hA2));have HM3:=hide ((uh HM2).trans hM3);clear hM3 HV c0 c1 c2 hA2 HR2 HM2 hEn2;obtain ⟨q0,q1,q2,q3,q4,q5,q6,q7⟩:=VL.cells (show VL u3 w.heap.size (vc 0 false zed ⟨#[]⟩ nilS nilS) from uh hA3);obtain ⟨g0,g1,g2,g3,g4,g5,g6,g7⟩:=VL.frees (uh hA3);simp only [zed,nilS] at q0 q1 q2 q3 q4 q5 q6 q7;have hne:w.heap.size≠rb:=by omega
   rcases hh with ⟨v,k',cs,p,rfl,hk',rfl,hR,hV,hpn⟩|⟨g,k',fb,rfl,hk',rfl,hfb,hfl,kx,ox,hRx⟩
   · obtain ⟨a,t,ng,dg,ex,x,q1',n1',m1',q2',n2',m2',hc⟩:=hV.shape
     rw [hc];have hcs:(vc a t ⟨ng,dg,ex⟩ x (.slice q1' n1' m1') (.slice q2' n2' m2')).toList=cs:=(congrArg Array.toList hc).symm;have HV:=hide hV;have HR':=hide hR;have HPN:=hide hpn;clear hV hR hpn hc;simp only [c8];go_wp2;have hU:=put8_upd u3 w.heap.size a t ⟨ng,dg,ex⟩ x (.slice q1' n1' m1') (.slice q2' n2' m2')
     have hVf:VRep (put8 u3 w.heap.size a t ⟨ng,dg,ex⟩ x (.slice q1' n1' m1') (.slice q2' n2' m2')) w.heap.size v (vc a t ⟨ng,dg,ex⟩ x (.slice q1' n1' m1') (.slice q2' n2' m2')).toList p:=by
      rw [hcs];exact ((uh HV).keep fun b hb=>hU.block b ((uh HV).ge b hb).2 (by have:=((uh HV).ge b hb).1;omega)).base (by omega)
     exact bodyPost_ret (ret_value (m:=w.heap.size) _ a t ⟨ng,dg,ex⟩ x (.slice q1' n1' m1') (.slice q2' n2' m2') .nilIface (put8_lies (k':=0) (t':=false) (d':=zed) (x':=⟨#[]⟩) (lv':=nilS) (fv':=nilS) (uh hA3) a t ⟨ng,dg,ex⟩ x (.slice q1' n1' m1') (.slice q2' n2' m2')) _ rfl rfl) rfl
      ⟨.inl ⟨v,k',_,p,uh HR0,hk',rfl,hU.obj (Ne.symm hne) (uh HR'),hVf,uh HPN⟩,(uh HM3).own (Nat.le_refl _) hU⟩
   · have HR':=hide hRx
     have HFL:=hide hfl;clear hRx hfl;simp only [vNull,vc,zed,nilS];go_wp2;have hU:=put8_upd u3 w.heap.size 0 false zed ⟨#[]⟩ nilS nilS
     exact bodyPost_ret (ret_value (m:=w.heap.size) _ 0 false zed ⟨#[]⟩ nilS nilS _ (put8_lies (k':=0) (t':=false) (d':=zed) (x':=⟨#[]⟩) (lv':=nilS) (fv':=nilS) (uh hA3) 0 false zed ⟨#[]⟩ nilS nilS) _ rfl rfl) rfl
      ⟨.inr ⟨g,k',fb,uh HR0,hk',rfl,by omega,hU.obj (by omega) (uh HFL),kx,ox,hU.obj (Ne.symm hne) (uh HR')⟩,(uh HM3).own (Nat.le_refl _) hU⟩
set_option maxRecDepth 100000 in
set_option maxHeartbeats 3200000 in
theorem value_num51 (E:Nat→Value) (rb:Nat) (s:ByteArray) (o:Int) (hs:s.size≤1048576) (hr:17≤rb) (r:(JT × Nat) ⊕ (Nat × Nat)) (w:World) (k:Nat) (h:RL w rb s k o) (hk:k≤s.size) (hE:Env E w) (hnx:nxt s (gap s k)=51)
 (HC:∀ u,RL u rb s (gap s k) o→Env E u→Calls Tryz.prog 141 #[.pointer (some ⟨rb,0,none⟩)] u (ValPost E rb s o u r)) :
 Calls Tryz.prog 118 #[.pointer (some ⟨rb,0,none⟩)] w (ValPost E rb s o w r):=by
 have hrl:=blk_lt h;have hA0:VL (w.alloc (.cells vNull 28)) w.heap.size vNull:=vl_new w vNull;have hB0:Below w.heap.size w (w.alloc (.cells vNull 28)):=(Below.refl _ _).alloc (Nat.le_refl _) _;have hR0:=h.below hB0 hrl;have SK:=hide (skip_any gapB rb s k o _ hR0 hk (by omega));have NX:=hide (fun (k:Nat) (w:World) h1 h2 h3=>next_any rb s k o w h1 h2 E h3);have HCC:=hide HC;have HEn:=hide hE;obtain ⟨gl1,gl2⟩:=skipTo_le gapB.data.toList s k hk;have hgp:∀ k,skipTo gapB.data.toList s k=gap s k:=fun _=>rfl
 rw [hgp] at gl1 gl2;obtain ⟨res,HR0⟩:∃ res,Hid (res=r):=⟨r,rfl⟩;rw [← uh HR0];clear hE h HC hR0;simp only [vc,nilS,vNull,zed] at SK HCC
 go_enter Tryz.func118,Tryz.ntmps118
 go_wp2_with fail
 refine (uh SK).mono ?_;rintro e u1 ⟨rfl,hR1,hM1⟩;rw [hgp] at hR1;generalize gap s k=k1 at *;have hA1:=hide (hM1.obj (by omega) hA0);have HR1:=hide hR1;have HM1:=hide ((Mv.of hB0).trans hM1);clear hA0 hB0 hR1 hM1 SK hgp
 go_wp2_with fail
 refine (uh NX k1 _ (uh HR1) gl2 ((uh HEn).mv (uh HM1) hr)).mono ?_;rintro e u2 ⟨rfl,hb2⟩;have hA2:=hide ((hb2.block _ (blk_lt (uh hA1))).trans (uh hA1));have HR2:=hide ((uh HR1).below hb2 (blk_lt (uh HR1)));have HM2:=hide ((uh HM1).trans (Mv.of hb2));clear hb2 hA1 HR1 HM1 NX;have hEn2:=hide ((uh HEn).mv (uh HM2) hr);have hw2:w.heap.size < u2.heap.size:=blk_lt (uh hA2);obtain ⟨c0,c1,c2⟩:=(uh HR2).cells;have HV:=hide (uh HCC u2 (uh HR2) (uh hEn2));clear HCC;rw [hnx];clear hnx
 · go_wp2_with fail
   refine (uh HV).mono ?_;rintro e u3 ⟨hh,hM3⟩;have hA3:=hide (hM3.obj (by omega) (uh hA2));have HM3:=hide ((uh HM2).trans hM3);clear hM3 HV c0 c1 c2 hA2 HR2 HM2 hEn2;obtain ⟨q0,q1,q2,q3,q4,q5,q6,q7⟩:=VL.cells (show VL u3 w.heap.size (vc 0 false zed ⟨#[]⟩ nilS nilS) from uh hA3);obtain ⟨g0,g1,g2,g3,g4,g5,g6,g7⟩:=VL.frees (uh hA3);simp only [zed,nilS] at q0 q1 q2 q3 q4 q5 q6 q7;have hne:w.heap.size≠rb:=by omega
   rcases hh with ⟨v,k',cs,p,rfl,hk',rfl,hR,hV,hpn⟩|⟨g,k',fb,rfl,hk',rfl,hfb,hfl,kx,ox,hRx⟩
   · obtain ⟨a,t,ng,dg,ex,x,q1',n1',m1',q2',n2',m2',hc⟩:=hV.shape
     rw [hc];have hcs:(vc a t ⟨ng,dg,ex⟩ x (.slice q1' n1' m1') (.slice q2' n2' m2')).toList=cs:=(congrArg Array.toList hc).symm;have HV:=hide hV;have HR':=hide hR;have HPN:=hide hpn;clear hV hR hpn hc;simp only [c8];go_wp2;have hU:=put8_upd u3 w.heap.size a t ⟨ng,dg,ex⟩ x (.slice q1' n1' m1') (.slice q2' n2' m2')
     have hVf:VRep (put8 u3 w.heap.size a t ⟨ng,dg,ex⟩ x (.slice q1' n1' m1') (.slice q2' n2' m2')) w.heap.size v (vc a t ⟨ng,dg,ex⟩ x (.slice q1' n1' m1') (.slice q2' n2' m2')).toList p:=by
      rw [hcs];exact ((uh HV).keep fun b hb=>hU.block b ((uh HV).ge b hb).2 (by have:=((uh HV).ge b hb).1;omega)).base (by omega)
     exact bodyPost_ret (ret_value (m:=w.heap.size) _ a t ⟨ng,dg,ex⟩ x (.slice q1' n1' m1') (.slice q2' n2' m2') .nilIface (put8_lies (k':=0) (t':=false) (d':=zed) (x':=⟨#[]⟩) (lv':=nilS) (fv':=nilS) (uh hA3) a t ⟨ng,dg,ex⟩ x (.slice q1' n1' m1') (.slice q2' n2' m2')) _ rfl rfl) rfl
      ⟨.inl ⟨v,k',_,p,uh HR0,hk',rfl,hU.obj (Ne.symm hne) (uh HR'),hVf,uh HPN⟩,(uh HM3).own (Nat.le_refl _) hU⟩
   · have HR':=hide hRx
     have HFL:=hide hfl;clear hRx hfl;simp only [vNull,vc,zed,nilS];go_wp2;have hU:=put8_upd u3 w.heap.size 0 false zed ⟨#[]⟩ nilS nilS
     exact bodyPost_ret (ret_value (m:=w.heap.size) _ 0 false zed ⟨#[]⟩ nilS nilS _ (put8_lies (k':=0) (t':=false) (d':=zed) (x':=⟨#[]⟩) (lv':=nilS) (fv':=nilS) (uh hA3) 0 false zed ⟨#[]⟩ nilS nilS) _ rfl rfl) rfl
      ⟨.inr ⟨g,k',fb,uh HR0,hk',rfl,by omega,hU.obj (by omega) (uh HFL),kx,ox,hU.obj (Ne.symm hne) (uh HR')⟩,(uh HM3).own (Nat.le_refl _) hU⟩
set_option maxRecDepth 100000 in
set_option maxHeartbeats 3200000 in
theorem value_num52 (E:Nat→Value) (rb:Nat) (s:ByteArray) (o:Int) (hs:s.size≤1048576) (hr:17≤rb) (r:(JT × Nat) ⊕ (Nat × Nat)) (w:World) (k:Nat) (h:RL w rb s k o) (hk:k≤s.size) (hE:Env E w) (hnx:nxt s (gap s k)=52)
 (HC:∀ u,RL u rb s (gap s k) o→Env E u→Calls Tryz.prog 141 #[.pointer (some ⟨rb,0,none⟩)] u (ValPost E rb s o u r)) :
 Calls Tryz.prog 118 #[.pointer (some ⟨rb,0,none⟩)] w (ValPost E rb s o w r):=by
 have hrl:=blk_lt h;have hA0:VL (w.alloc (.cells vNull 28)) w.heap.size vNull:=vl_new w vNull;have hB0:Below w.heap.size w (w.alloc (.cells vNull 28)):=(Below.refl _ _).alloc (Nat.le_refl _) _;have hR0:=h.below hB0 hrl;have SK:=hide (skip_any gapB rb s k o _ hR0 hk (by omega));have NX:=hide (fun (k:Nat) (w:World) h1 h2 h3=>next_any rb s k o w h1 h2 E h3);have HCC:=hide HC;have HEn:=hide hE;obtain ⟨gl1,gl2⟩:=skipTo_le gapB.data.toList s k hk;have hgp:∀ k,skipTo gapB.data.toList s k=gap s k:=fun _=>rfl
 rw [hgp] at gl1 gl2;obtain ⟨res,HR0⟩:∃ res,Hid (res=r):=⟨r,rfl⟩;rw [← uh HR0];clear hE h HC hR0;simp only [vc,nilS,vNull,zed] at SK HCC
 go_enter Tryz.func118,Tryz.ntmps118
 go_wp2_with fail
 refine (uh SK).mono ?_;rintro e u1 ⟨rfl,hR1,hM1⟩;rw [hgp] at hR1;generalize gap s k=k1 at *;have hA1:=hide (hM1.obj (by omega) hA0);have HR1:=hide hR1;have HM1:=hide ((Mv.of hB0).trans hM1);clear hA0 hB0 hR1 hM1 SK hgp
 go_wp2_with fail
 refine (uh NX k1 _ (uh HR1) gl2 ((uh HEn).mv (uh HM1) hr)).mono ?_;rintro e u2 ⟨rfl,hb2⟩;have hA2:=hide ((hb2.block _ (blk_lt (uh hA1))).trans (uh hA1));have HR2:=hide ((uh HR1).below hb2 (blk_lt (uh HR1)));have HM2:=hide ((uh HM1).trans (Mv.of hb2));clear hb2 hA1 HR1 HM1 NX;have hEn2:=hide ((uh HEn).mv (uh HM2) hr);have hw2:w.heap.size < u2.heap.size:=blk_lt (uh hA2);obtain ⟨c0,c1,c2⟩:=(uh HR2).cells;have HV:=hide (uh HCC u2 (uh HR2) (uh hEn2));clear HCC;rw [hnx];clear hnx
 · go_wp2_with fail
   refine (uh HV).mono ?_;rintro e u3 ⟨hh,hM3⟩;have hA3:=hide (hM3.obj (by omega) (uh hA2));have HM3:=hide ((uh HM2).trans hM3);clear hM3 HV c0 c1 c2 hA2 HR2 HM2 hEn2;obtain ⟨q0,q1,q2,q3,q4,q5,q6,q7⟩:=VL.cells (show VL u3 w.heap.size (vc 0 false zed ⟨#[]⟩ nilS nilS) from uh hA3);obtain ⟨g0,g1,g2,g3,g4,g5,g6,g7⟩:=VL.frees (uh hA3);simp only [zed,nilS] at q0 q1 q2 q3 q4 q5 q6 q7;have hne:w.heap.size≠rb:=by omega
   rcases hh with ⟨v,k',cs,p,rfl,hk',rfl,hR,hV,hpn⟩|⟨g,k',fb,rfl,hk',rfl,hfb,hfl,kx,ox,hRx⟩
   · obtain ⟨a,t,ng,dg,ex,x,q1',n1',m1',q2',n2',m2',hc⟩:=hV.shape
     rw [hc];have hcs:(vc a t ⟨ng,dg,ex⟩ x (.slice q1' n1' m1') (.slice q2' n2' m2')).toList=cs:=(congrArg Array.toList hc).symm;have HV:=hide hV;have HR':=hide hR;have HPN:=hide hpn;clear hV hR hpn hc;simp only [c8];go_wp2;have hU:=put8_upd u3 w.heap.size a t ⟨ng,dg,ex⟩ x (.slice q1' n1' m1') (.slice q2' n2' m2')
     have hVf:VRep (put8 u3 w.heap.size a t ⟨ng,dg,ex⟩ x (.slice q1' n1' m1') (.slice q2' n2' m2')) w.heap.size v (vc a t ⟨ng,dg,ex⟩ x (.slice q1' n1' m1') (.slice q2' n2' m2')).toList p:=by
      rw [hcs];exact ((uh HV).keep fun b hb=>hU.block b ((uh HV).ge b hb).2 (by have:=((uh HV).ge b hb).1;omega)).base (by omega)
     exact bodyPost_ret (ret_value (m:=w.heap.size) _ a t ⟨ng,dg,ex⟩ x (.slice q1' n1' m1') (.slice q2' n2' m2') .nilIface (put8_lies (k':=0) (t':=false) (d':=zed) (x':=⟨#[]⟩) (lv':=nilS) (fv':=nilS) (uh hA3) a t ⟨ng,dg,ex⟩ x (.slice q1' n1' m1') (.slice q2' n2' m2')) _ rfl rfl) rfl
      ⟨.inl ⟨v,k',_,p,uh HR0,hk',rfl,hU.obj (Ne.symm hne) (uh HR'),hVf,uh HPN⟩,(uh HM3).own (Nat.le_refl _) hU⟩
   · have HR':=hide hRx
     have HFL:=hide hfl;clear hRx hfl;simp only [vNull,vc,zed,nilS];go_wp2;have hU:=put8_upd u3 w.heap.size 0 false zed ⟨#[]⟩ nilS nilS
     exact bodyPost_ret (ret_value (m:=w.heap.size) _ 0 false zed ⟨#[]⟩ nilS nilS _ (put8_lies (k':=0) (t':=false) (d':=zed) (x':=⟨#[]⟩) (lv':=nilS) (fv':=nilS) (uh hA3) 0 false zed ⟨#[]⟩ nilS nilS) _ rfl rfl) rfl
      ⟨.inr ⟨g,k',fb,uh HR0,hk',rfl,by omega,hU.obj (by omega) (uh HFL),kx,ox,hU.obj (Ne.symm hne) (uh HR')⟩,(uh HM3).own (Nat.le_refl _) hU⟩
set_option maxRecDepth 100000 in
set_option maxHeartbeats 3200000 in
theorem value_num53 (E:Nat→Value) (rb:Nat) (s:ByteArray) (o:Int) (hs:s.size≤1048576) (hr:17≤rb) (r:(JT × Nat) ⊕ (Nat × Nat)) (w:World) (k:Nat) (h:RL w rb s k o) (hk:k≤s.size) (hE:Env E w) (hnx:nxt s (gap s k)=53)
 (HC:∀ u,RL u rb s (gap s k) o→Env E u→Calls Tryz.prog 141 #[.pointer (some ⟨rb,0,none⟩)] u (ValPost E rb s o u r)) :
 Calls Tryz.prog 118 #[.pointer (some ⟨rb,0,none⟩)] w (ValPost E rb s o w r):=by
 have hrl:=blk_lt h;have hA0:VL (w.alloc (.cells vNull 28)) w.heap.size vNull:=vl_new w vNull;have hB0:Below w.heap.size w (w.alloc (.cells vNull 28)):=(Below.refl _ _).alloc (Nat.le_refl _) _;have hR0:=h.below hB0 hrl;have SK:=hide (skip_any gapB rb s k o _ hR0 hk (by omega));have NX:=hide (fun (k:Nat) (w:World) h1 h2 h3=>next_any rb s k o w h1 h2 E h3);have HCC:=hide HC;have HEn:=hide hE;obtain ⟨gl1,gl2⟩:=skipTo_le gapB.data.toList s k hk;have hgp:∀ k,skipTo gapB.data.toList s k=gap s k:=fun _=>rfl
 rw [hgp] at gl1 gl2;obtain ⟨res,HR0⟩:∃ res,Hid (res=r):=⟨r,rfl⟩;rw [← uh HR0];clear hE h HC hR0;simp only [vc,nilS,vNull,zed] at SK HCC
 go_enter Tryz.func118,Tryz.ntmps118
 go_wp2_with fail
 refine (uh SK).mono ?_;rintro e u1 ⟨rfl,hR1,hM1⟩;rw [hgp] at hR1;generalize gap s k=k1 at *;have hA1:=hide (hM1.obj (by omega) hA0);have HR1:=hide hR1;have HM1:=hide ((Mv.of hB0).trans hM1);clear hA0 hB0 hR1 hM1 SK hgp
 go_wp2_with fail
 refine (uh NX k1 _ (uh HR1) gl2 ((uh HEn).mv (uh HM1) hr)).mono ?_;rintro e u2 ⟨rfl,hb2⟩;have hA2:=hide ((hb2.block _ (blk_lt (uh hA1))).trans (uh hA1));have HR2:=hide ((uh HR1).below hb2 (blk_lt (uh HR1)));have HM2:=hide ((uh HM1).trans (Mv.of hb2));clear hb2 hA1 HR1 HM1 NX;have hEn2:=hide ((uh HEn).mv (uh HM2) hr);have hw2:w.heap.size < u2.heap.size:=blk_lt (uh hA2);obtain ⟨c0,c1,c2⟩:=(uh HR2).cells;have HV:=hide (uh HCC u2 (uh HR2) (uh hEn2));clear HCC;rw [hnx];clear hnx
 · go_wp2_with fail
   refine (uh HV).mono ?_;rintro e u3 ⟨hh,hM3⟩;have hA3:=hide (hM3.obj (by omega) (uh hA2));have HM3:=hide ((uh HM2).trans hM3);clear hM3 HV c0 c1 c2 hA2 HR2 HM2 hEn2;obtain ⟨q0,q1,q2,q3,q4,q5,q6,q7⟩:=VL.cells (show VL u3 w.heap.size (vc 0 false zed ⟨#[]⟩ nilS nilS) from uh hA3);obtain ⟨g0,g1,g2,g3,g4,g5,g6,g7⟩:=VL.frees (uh hA3);simp only [zed,nilS] at q0 q1 q2 q3 q4 q5 q6 q7;have hne:w.heap.size≠rb:=by omega
   rcases hh with ⟨v,k',cs,p,rfl,hk',rfl,hR,hV,hpn⟩|⟨g,k',fb,rfl,hk',rfl,hfb,hfl,kx,ox,hRx⟩
   · obtain ⟨a,t,ng,dg,ex,x,q1',n1',m1',q2',n2',m2',hc⟩:=hV.shape
     rw [hc];have hcs:(vc a t ⟨ng,dg,ex⟩ x (.slice q1' n1' m1') (.slice q2' n2' m2')).toList=cs:=(congrArg Array.toList hc).symm;have HV:=hide hV;have HR':=hide hR;have HPN:=hide hpn;clear hV hR hpn hc;simp only [c8];go_wp2;have hU:=put8_upd u3 w.heap.size a t ⟨ng,dg,ex⟩ x (.slice q1' n1' m1') (.slice q2' n2' m2')
     have hVf:VRep (put8 u3 w.heap.size a t ⟨ng,dg,ex⟩ x (.slice q1' n1' m1') (.slice q2' n2' m2')) w.heap.size v (vc a t ⟨ng,dg,ex⟩ x (.slice q1' n1' m1') (.slice q2' n2' m2')).toList p:=by
      rw [hcs];exact ((uh HV).keep fun b hb=>hU.block b ((uh HV).ge b hb).2 (by have:=((uh HV).ge b hb).1;omega)).base (by omega)
     exact bodyPost_ret (ret_value (m:=w.heap.size) _ a t ⟨ng,dg,ex⟩ x (.slice q1' n1' m1') (.slice q2' n2' m2') .nilIface (put8_lies (k':=0) (t':=false) (d':=zed) (x':=⟨#[]⟩) (lv':=nilS) (fv':=nilS) (uh hA3) a t ⟨ng,dg,ex⟩ x (.slice q1' n1' m1') (.slice q2' n2' m2')) _ rfl rfl) rfl
      ⟨.inl ⟨v,k',_,p,uh HR0,hk',rfl,hU.obj (Ne.symm hne) (uh HR'),hVf,uh HPN⟩,(uh HM3).own (Nat.le_refl _) hU⟩
   · have HR':=hide hRx
     have HFL:=hide hfl;clear hRx hfl;simp only [vNull,vc,zed,nilS];go_wp2;have hU:=put8_upd u3 w.heap.size 0 false zed ⟨#[]⟩ nilS nilS
     exact bodyPost_ret (ret_value (m:=w.heap.size) _ 0 false zed ⟨#[]⟩ nilS nilS _ (put8_lies (k':=0) (t':=false) (d':=zed) (x':=⟨#[]⟩) (lv':=nilS) (fv':=nilS) (uh hA3) 0 false zed ⟨#[]⟩ nilS nilS) _ rfl rfl) rfl
      ⟨.inr ⟨g,k',fb,uh HR0,hk',rfl,by omega,hU.obj (by omega) (uh HFL),kx,ox,hU.obj (Ne.symm hne) (uh HR')⟩,(uh HM3).own (Nat.le_refl _) hU⟩
set_option maxRecDepth 100000 in
set_option maxHeartbeats 3200000 in
theorem value_num54 (E:Nat→Value) (rb:Nat) (s:ByteArray) (o:Int) (hs:s.size≤1048576) (hr:17≤rb) (r:(JT × Nat) ⊕ (Nat × Nat)) (w:World) (k:Nat) (h:RL w rb s k o) (hk:k≤s.size) (hE:Env E w) (hnx:nxt s (gap s k)=54)
 (HC:∀ u,RL u rb s (gap s k) o→Env E u→Calls Tryz.prog 141 #[.pointer (some ⟨rb,0,none⟩)] u (ValPost E rb s o u r)) :
 Calls Tryz.prog 118 #[.pointer (some ⟨rb,0,none⟩)] w (ValPost E rb s o w r):=by
 have hrl:=blk_lt h;have hA0:VL (w.alloc (.cells vNull 28)) w.heap.size vNull:=vl_new w vNull;have hB0:Below w.heap.size w (w.alloc (.cells vNull 28)):=(Below.refl _ _).alloc (Nat.le_refl _) _;have hR0:=h.below hB0 hrl;have SK:=hide (skip_any gapB rb s k o _ hR0 hk (by omega));have NX:=hide (fun (k:Nat) (w:World) h1 h2 h3=>next_any rb s k o w h1 h2 E h3);have HCC:=hide HC;have HEn:=hide hE;obtain ⟨gl1,gl2⟩:=skipTo_le gapB.data.toList s k hk;have hgp:∀ k,skipTo gapB.data.toList s k=gap s k:=fun _=>rfl
 rw [hgp] at gl1 gl2;obtain ⟨res,HR0⟩:∃ res,Hid (res=r):=⟨r,rfl⟩;rw [← uh HR0];clear hE h HC hR0;simp only [vc,nilS,vNull,zed] at SK HCC
 go_enter Tryz.func118,Tryz.ntmps118
 go_wp2_with fail
 refine (uh SK).mono ?_;rintro e u1 ⟨rfl,hR1,hM1⟩;rw [hgp] at hR1;generalize gap s k=k1 at *;have hA1:=hide (hM1.obj (by omega) hA0);have HR1:=hide hR1;have HM1:=hide ((Mv.of hB0).trans hM1);clear hA0 hB0 hR1 hM1 SK hgp
 go_wp2_with fail
 refine (uh NX k1 _ (uh HR1) gl2 ((uh HEn).mv (uh HM1) hr)).mono ?_;rintro e u2 ⟨rfl,hb2⟩;have hA2:=hide ((hb2.block _ (blk_lt (uh hA1))).trans (uh hA1));have HR2:=hide ((uh HR1).below hb2 (blk_lt (uh HR1)));have HM2:=hide ((uh HM1).trans (Mv.of hb2));clear hb2 hA1 HR1 HM1 NX;have hEn2:=hide ((uh HEn).mv (uh HM2) hr);have hw2:w.heap.size < u2.heap.size:=blk_lt (uh hA2);obtain ⟨c0,c1,c2⟩:=(uh HR2).cells;have HV:=hide (uh HCC u2 (uh HR2) (uh hEn2));clear HCC;rw [hnx];clear hnx
 · go_wp2_with fail
   refine (uh HV).mono ?_;rintro e u3 ⟨hh,hM3⟩;have hA3:=hide (hM3.obj (by omega) (uh hA2));have HM3:=hide ((uh HM2).trans hM3);clear hM3 HV c0 c1 c2 hA2 HR2 HM2 hEn2;obtain ⟨q0,q1,q2,q3,q4,q5,q6,q7⟩:=VL.cells (show VL u3 w.heap.size (vc 0 false zed ⟨#[]⟩ nilS nilS) from uh hA3);obtain ⟨g0,g1,g2,g3,g4,g5,g6,g7⟩:=VL.frees (uh hA3);simp only [zed,nilS] at q0 q1 q2 q3 q4 q5 q6 q7;have hne:w.heap.size≠rb:=by omega
   rcases hh with ⟨v,k',cs,p,rfl,hk',rfl,hR,hV,hpn⟩|⟨g,k',fb,rfl,hk',rfl,hfb,hfl,kx,ox,hRx⟩
   · obtain ⟨a,t,ng,dg,ex,x,q1',n1',m1',q2',n2',m2',hc⟩:=hV.shape
     rw [hc];have hcs:(vc a t ⟨ng,dg,ex⟩ x (.slice q1' n1' m1') (.slice q2' n2' m2')).toList=cs:=(congrArg Array.toList hc).symm;have HV:=hide hV;have HR':=hide hR;have HPN:=hide hpn;clear hV hR hpn hc;simp only [c8];go_wp2;have hU:=put8_upd u3 w.heap.size a t ⟨ng,dg,ex⟩ x (.slice q1' n1' m1') (.slice q2' n2' m2')
     have hVf:VRep (put8 u3 w.heap.size a t ⟨ng,dg,ex⟩ x (.slice q1' n1' m1') (.slice q2' n2' m2')) w.heap.size v (vc a t ⟨ng,dg,ex⟩ x (.slice q1' n1' m1') (.slice q2' n2' m2')).toList p:=by
      rw [hcs];exact ((uh HV).keep fun b hb=>hU.block b ((uh HV).ge b hb).2 (by have:=((uh HV).ge b hb).1;omega)).base (by omega)
     exact bodyPost_ret (ret_value (m:=w.heap.size) _ a t ⟨ng,dg,ex⟩ x (.slice q1' n1' m1') (.slice q2' n2' m2') .nilIface (put8_lies (k':=0) (t':=false) (d':=zed) (x':=⟨#[]⟩) (lv':=nilS) (fv':=nilS) (uh hA3) a t ⟨ng,dg,ex⟩ x (.slice q1' n1' m1') (.slice q2' n2' m2')) _ rfl rfl) rfl
      ⟨.inl ⟨v,k',_,p,uh HR0,hk',rfl,hU.obj (Ne.symm hne) (uh HR'),hVf,uh HPN⟩,(uh HM3).own (Nat.le_refl _) hU⟩
   · have HR':=hide hRx
     have HFL:=hide hfl;clear hRx hfl;simp only [vNull,vc,zed,nilS];go_wp2;have hU:=put8_upd u3 w.heap.size 0 false zed ⟨#[]⟩ nilS nilS
     exact bodyPost_ret (ret_value (m:=w.heap.size) _ 0 false zed ⟨#[]⟩ nilS nilS _ (put8_lies (k':=0) (t':=false) (d':=zed) (x':=⟨#[]⟩) (lv':=nilS) (fv':=nilS) (uh hA3) 0 false zed ⟨#[]⟩ nilS nilS) _ rfl rfl) rfl
      ⟨.inr ⟨g,k',fb,uh HR0,hk',rfl,by omega,hU.obj (by omega) (uh HFL),kx,ox,hU.obj (Ne.symm hne) (uh HR')⟩,(uh HM3).own (Nat.le_refl _) hU⟩
set_option maxRecDepth 100000 in
set_option maxHeartbeats 3200000 in
theorem value_num55 (E:Nat→Value) (rb:Nat) (s:ByteArray) (o:Int) (hs:s.size≤1048576) (hr:17≤rb) (r:(JT × Nat) ⊕ (Nat × Nat)) (w:World) (k:Nat) (h:RL w rb s k o) (hk:k≤s.size) (hE:Env E w) (hnx:nxt s (gap s k)=55)
 (HC:∀ u,RL u rb s (gap s k) o→Env E u→Calls Tryz.prog 141 #[.pointer (some ⟨rb,0,none⟩)] u (ValPost E rb s o u r)) :
 Calls Tryz.prog 118 #[.pointer (some ⟨rb,0,none⟩)] w (ValPost E rb s o w r):=by
 have hrl:=blk_lt h;have hA0:VL (w.alloc (.cells vNull 28)) w.heap.size vNull:=vl_new w vNull;have hB0:Below w.heap.size w (w.alloc (.cells vNull 28)):=(Below.refl _ _).alloc (Nat.le_refl _) _;have hR0:=h.below hB0 hrl;have SK:=hide (skip_any gapB rb s k o _ hR0 hk (by omega));have NX:=hide (fun (k:Nat) (w:World) h1 h2 h3=>next_any rb s k o w h1 h2 E h3);have HCC:=hide HC;have HEn:=hide hE;obtain ⟨gl1,gl2⟩:=skipTo_le gapB.data.toList s k hk;have hgp:∀ k,skipTo gapB.data.toList s k=gap s k:=fun _=>rfl
 rw [hgp] at gl1 gl2;obtain ⟨res,HR0⟩:∃ res,Hid (res=r):=⟨r,rfl⟩;rw [← uh HR0];clear hE h HC hR0;simp only [vc,nilS,vNull,zed] at SK HCC
 go_enter Tryz.func118,Tryz.ntmps118
 go_wp2_with fail
 refine (uh SK).mono ?_;rintro e u1 ⟨rfl,hR1,hM1⟩;rw [hgp] at hR1;generalize gap s k=k1 at *;have hA1:=hide (hM1.obj (by omega) hA0);have HR1:=hide hR1;have HM1:=hide ((Mv.of hB0).trans hM1);clear hA0 hB0 hR1 hM1 SK hgp
 go_wp2_with fail
 refine (uh NX k1 _ (uh HR1) gl2 ((uh HEn).mv (uh HM1) hr)).mono ?_;rintro e u2 ⟨rfl,hb2⟩;have hA2:=hide ((hb2.block _ (blk_lt (uh hA1))).trans (uh hA1));have HR2:=hide ((uh HR1).below hb2 (blk_lt (uh HR1)));have HM2:=hide ((uh HM1).trans (Mv.of hb2));clear hb2 hA1 HR1 HM1 NX;have hEn2:=hide ((uh HEn).mv (uh HM2) hr);have hw2:w.heap.size < u2.heap.size:=blk_lt (uh hA2);obtain ⟨c0,c1,c2⟩:=(uh HR2).cells;have HV:=hide (uh HCC u2 (uh HR2) (uh hEn2));clear HCC;rw [hnx];clear hnx
 · go_wp2_with fail
   refine (uh HV).mono ?_;rintro e u3 ⟨hh,hM3⟩;have hA3:=hide (hM3.obj (by omega) (uh hA2));have HM3:=hide ((uh HM2).trans hM3);clear hM3 HV c0 c1 c2 hA2 HR2 HM2 hEn2;obtain ⟨q0,q1,q2,q3,q4,q5,q6,q7⟩:=VL.cells (show VL u3 w.heap.size (vc 0 false zed ⟨#[]⟩ nilS nilS) from uh hA3);obtain ⟨g0,g1,g2,g3,g4,g5,g6,g7⟩:=VL.frees (uh hA3);simp only [zed,nilS] at q0 q1 q2 q3 q4 q5 q6 q7;have hne:w.heap.size≠rb:=by omega
   rcases hh with ⟨v,k',cs,p,rfl,hk',rfl,hR,hV,hpn⟩|⟨g,k',fb,rfl,hk',rfl,hfb,hfl,kx,ox,hRx⟩
   · obtain ⟨a,t,ng,dg,ex,x,q1',n1',m1',q2',n2',m2',hc⟩:=hV.shape
     rw [hc];have hcs:(vc a t ⟨ng,dg,ex⟩ x (.slice q1' n1' m1') (.slice q2' n2' m2')).toList=cs:=(congrArg Array.toList hc).symm;have HV:=hide hV;have HR':=hide hR;have HPN:=hide hpn;clear hV hR hpn hc;simp only [c8];go_wp2;have hU:=put8_upd u3 w.heap.size a t ⟨ng,dg,ex⟩ x (.slice q1' n1' m1') (.slice q2' n2' m2')
     have hVf:VRep (put8 u3 w.heap.size a t ⟨ng,dg,ex⟩ x (.slice q1' n1' m1') (.slice q2' n2' m2')) w.heap.size v (vc a t ⟨ng,dg,ex⟩ x (.slice q1' n1' m1') (.slice q2' n2' m2')).toList p:=by
      rw [hcs];exact ((uh HV).keep fun b hb=>hU.block b ((uh HV).ge b hb).2 (by have:=((uh HV).ge b hb).1;omega)).base (by omega)
     exact bodyPost_ret (ret_value (m:=w.heap.size) _ a t ⟨ng,dg,ex⟩ x (.slice q1' n1' m1') (.slice q2' n2' m2') .nilIface (put8_lies (k':=0) (t':=false) (d':=zed) (x':=⟨#[]⟩) (lv':=nilS) (fv':=nilS) (uh hA3) a t ⟨ng,dg,ex⟩ x (.slice q1' n1' m1') (.slice q2' n2' m2')) _ rfl rfl) rfl
      ⟨.inl ⟨v,k',_,p,uh HR0,hk',rfl,hU.obj (Ne.symm hne) (uh HR'),hVf,uh HPN⟩,(uh HM3).own (Nat.le_refl _) hU⟩
   · have HR':=hide hRx
     have HFL:=hide hfl;clear hRx hfl;simp only [vNull,vc,zed,nilS];go_wp2;have hU:=put8_upd u3 w.heap.size 0 false zed ⟨#[]⟩ nilS nilS
     exact bodyPost_ret (ret_value (m:=w.heap.size) _ 0 false zed ⟨#[]⟩ nilS nilS _ (put8_lies (k':=0) (t':=false) (d':=zed) (x':=⟨#[]⟩) (lv':=nilS) (fv':=nilS) (uh hA3) 0 false zed ⟨#[]⟩ nilS nilS) _ rfl rfl) rfl
      ⟨.inr ⟨g,k',fb,uh HR0,hk',rfl,by omega,hU.obj (by omega) (uh HFL),kx,ox,hU.obj (Ne.symm hne) (uh HR')⟩,(uh HM3).own (Nat.le_refl _) hU⟩
set_option maxRecDepth 100000 in
set_option maxHeartbeats 3200000 in
theorem value_num56 (E:Nat→Value) (rb:Nat) (s:ByteArray) (o:Int) (hs:s.size≤1048576) (hr:17≤rb) (r:(JT × Nat) ⊕ (Nat × Nat)) (w:World) (k:Nat) (h:RL w rb s k o) (hk:k≤s.size) (hE:Env E w) (hnx:nxt s (gap s k)=56)
 (HC:∀ u,RL u rb s (gap s k) o→Env E u→Calls Tryz.prog 141 #[.pointer (some ⟨rb,0,none⟩)] u (ValPost E rb s o u r)) :
 Calls Tryz.prog 118 #[.pointer (some ⟨rb,0,none⟩)] w (ValPost E rb s o w r):=by
 have hrl:=blk_lt h;have hA0:VL (w.alloc (.cells vNull 28)) w.heap.size vNull:=vl_new w vNull;have hB0:Below w.heap.size w (w.alloc (.cells vNull 28)):=(Below.refl _ _).alloc (Nat.le_refl _) _;have hR0:=h.below hB0 hrl;have SK:=hide (skip_any gapB rb s k o _ hR0 hk (by omega));have NX:=hide (fun (k:Nat) (w:World) h1 h2 h3=>next_any rb s k o w h1 h2 E h3);have HCC:=hide HC;have HEn:=hide hE;obtain ⟨gl1,gl2⟩:=skipTo_le gapB.data.toList s k hk;have hgp:∀ k,skipTo gapB.data.toList s k=gap s k:=fun _=>rfl
 rw [hgp] at gl1 gl2;obtain ⟨res,HR0⟩:∃ res,Hid (res=r):=⟨r,rfl⟩;rw [← uh HR0];clear hE h HC hR0;simp only [vc,nilS,vNull,zed] at SK HCC
 go_enter Tryz.func118,Tryz.ntmps118
 go_wp2_with fail
 refine (uh SK).mono ?_;rintro e u1 ⟨rfl,hR1,hM1⟩;rw [hgp] at hR1;generalize gap s k=k1 at *;have hA1:=hide (hM1.obj (by omega) hA0);have HR1:=hide hR1;have HM1:=hide ((Mv.of hB0).trans hM1);clear hA0 hB0 hR1 hM1 SK hgp
 go_wp2_with fail
 refine (uh NX k1 _ (uh HR1) gl2 ((uh HEn).mv (uh HM1) hr)).mono ?_;rintro e u2 ⟨rfl,hb2⟩;have hA2:=hide ((hb2.block _ (blk_lt (uh hA1))).trans (uh hA1));have HR2:=hide ((uh HR1).below hb2 (blk_lt (uh HR1)));have HM2:=hide ((uh HM1).trans (Mv.of hb2));clear hb2 hA1 HR1 HM1 NX;have hEn2:=hide ((uh HEn).mv (uh HM2) hr);have hw2:w.heap.size < u2.heap.size:=blk_lt (uh hA2);obtain ⟨c0,c1,c2⟩:=(uh HR2).cells;have HV:=hide (uh HCC u2 (uh HR2) (uh hEn2));clear HCC;rw [hnx];clear hnx
 · go_wp2_with fail
   refine (uh HV).mono ?_;rintro e u3 ⟨hh,hM3⟩;have hA3:=hide (hM3.obj (by omega) (uh hA2));have HM3:=hide ((uh HM2).trans hM3);clear hM3 HV c0 c1 c2 hA2 HR2 HM2 hEn2;obtain ⟨q0,q1,q2,q3,q4,q5,q6,q7⟩:=VL.cells (show VL u3 w.heap.size (vc 0 false zed ⟨#[]⟩ nilS nilS) from uh hA3);obtain ⟨g0,g1,g2,g3,g4,g5,g6,g7⟩:=VL.frees (uh hA3);simp only [zed,nilS] at q0 q1 q2 q3 q4 q5 q6 q7;have hne:w.heap.size≠rb:=by omega
   rcases hh with ⟨v,k',cs,p,rfl,hk',rfl,hR,hV,hpn⟩|⟨g,k',fb,rfl,hk',rfl,hfb,hfl,kx,ox,hRx⟩
   · obtain ⟨a,t,ng,dg,ex,x,q1',n1',m1',q2',n2',m2',hc⟩:=hV.shape
     rw [hc];have hcs:(vc a t ⟨ng,dg,ex⟩ x (.slice q1' n1' m1') (.slice q2' n2' m2')).toList=cs:=(congrArg Array.toList hc).symm;have HV:=hide hV;have HR':=hide hR;have HPN:=hide hpn;clear hV hR hpn hc;simp only [c8];go_wp2;have hU:=put8_upd u3 w.heap.size a t ⟨ng,dg,ex⟩ x (.slice q1' n1' m1') (.slice q2' n2' m2')
     have hVf:VRep (put8 u3 w.heap.size a t ⟨ng,dg,ex⟩ x (.slice q1' n1' m1') (.slice q2' n2' m2')) w.heap.size v (vc a t ⟨ng,dg,ex⟩ x (.slice q1' n1' m1') (.slice q2' n2' m2')).toList p:=by
      rw [hcs];exact ((uh HV).keep fun b hb=>hU.block b ((uh HV).ge b hb).2 (by have:=((uh HV).ge b hb).1;omega)).base (by omega)
     exact bodyPost_ret (ret_value (m:=w.heap.size) _ a t ⟨ng,dg,ex⟩ x (.slice q1' n1' m1') (.slice q2' n2' m2') .nilIface (put8_lies (k':=0) (t':=false) (d':=zed) (x':=⟨#[]⟩) (lv':=nilS) (fv':=nilS) (uh hA3) a t ⟨ng,dg,ex⟩ x (.slice q1' n1' m1') (.slice q2' n2' m2')) _ rfl rfl) rfl
      ⟨.inl ⟨v,k',_,p,uh HR0,hk',rfl,hU.obj (Ne.symm hne) (uh HR'),hVf,uh HPN⟩,(uh HM3).own (Nat.le_refl _) hU⟩
   · have HR':=hide hRx
     have HFL:=hide hfl;clear hRx hfl;simp only [vNull,vc,zed,nilS];go_wp2;have hU:=put8_upd u3 w.heap.size 0 false zed ⟨#[]⟩ nilS nilS
     exact bodyPost_ret (ret_value (m:=w.heap.size) _ 0 false zed ⟨#[]⟩ nilS nilS _ (put8_lies (k':=0) (t':=false) (d':=zed) (x':=⟨#[]⟩) (lv':=nilS) (fv':=nilS) (uh hA3) 0 false zed ⟨#[]⟩ nilS nilS) _ rfl rfl) rfl
      ⟨.inr ⟨g,k',fb,uh HR0,hk',rfl,by omega,hU.obj (by omega) (uh HFL),kx,ox,hU.obj (Ne.symm hne) (uh HR')⟩,(uh HM3).own (Nat.le_refl _) hU⟩
set_option maxRecDepth 100000 in
set_option maxHeartbeats 3200000 in
theorem value_num57 (E:Nat→Value) (rb:Nat) (s:ByteArray) (o:Int) (hs:s.size≤1048576) (hr:17≤rb) (r:(JT × Nat) ⊕ (Nat × Nat)) (w:World) (k:Nat) (h:RL w rb s k o) (hk:k≤s.size) (hE:Env E w) (hnx:nxt s (gap s k)=57)
 (HC:∀ u,RL u rb s (gap s k) o→Env E u→Calls Tryz.prog 141 #[.pointer (some ⟨rb,0,none⟩)] u (ValPost E rb s o u r)) :
 Calls Tryz.prog 118 #[.pointer (some ⟨rb,0,none⟩)] w (ValPost E rb s o w r):=by
 have hrl:=blk_lt h;have hA0:VL (w.alloc (.cells vNull 28)) w.heap.size vNull:=vl_new w vNull;have hB0:Below w.heap.size w (w.alloc (.cells vNull 28)):=(Below.refl _ _).alloc (Nat.le_refl _) _;have hR0:=h.below hB0 hrl;have SK:=hide (skip_any gapB rb s k o _ hR0 hk (by omega));have NX:=hide (fun (k:Nat) (w:World) h1 h2 h3=>next_any rb s k o w h1 h2 E h3);have HCC:=hide HC;have HEn:=hide hE;obtain ⟨gl1,gl2⟩:=skipTo_le gapB.data.toList s k hk;have hgp:∀ k,skipTo gapB.data.toList s k=gap s k:=fun _=>rfl
 rw [hgp] at gl1 gl2;obtain ⟨res,HR0⟩:∃ res,Hid (res=r):=⟨r,rfl⟩;rw [← uh HR0];clear hE h HC hR0;simp only [vc,nilS,vNull,zed] at SK HCC
 go_enter Tryz.func118,Tryz.ntmps118
 go_wp2_with fail
 refine (uh SK).mono ?_;rintro e u1 ⟨rfl,hR1,hM1⟩;rw [hgp] at hR1;generalize gap s k=k1 at *;have hA1:=hide (hM1.obj (by omega) hA0);have HR1:=hide hR1;have HM1:=hide ((Mv.of hB0).trans hM1);clear hA0 hB0 hR1 hM1 SK hgp
 go_wp2_with fail
 refine (uh NX k1 _ (uh HR1) gl2 ((uh HEn).mv (uh HM1) hr)).mono ?_;rintro e u2 ⟨rfl,hb2⟩;have hA2:=hide ((hb2.block _ (blk_lt (uh hA1))).trans (uh hA1));have HR2:=hide ((uh HR1).below hb2 (blk_lt (uh HR1)));have HM2:=hide ((uh HM1).trans (Mv.of hb2));clear hb2 hA1 HR1 HM1 NX;have hEn2:=hide ((uh HEn).mv (uh HM2) hr);have hw2:w.heap.size < u2.heap.size:=blk_lt (uh hA2);obtain ⟨c0,c1,c2⟩:=(uh HR2).cells;have HV:=hide (uh HCC u2 (uh HR2) (uh hEn2));clear HCC;rw [hnx];clear hnx
 · go_wp2_with fail
   refine (uh HV).mono ?_;rintro e u3 ⟨hh,hM3⟩;have hA3:=hide (hM3.obj (by omega) (uh hA2));have HM3:=hide ((uh HM2).trans hM3);clear hM3 HV c0 c1 c2 hA2 HR2 HM2 hEn2;obtain ⟨q0,q1,q2,q3,q4,q5,q6,q7⟩:=VL.cells (show VL u3 w.heap.size (vc 0 false zed ⟨#[]⟩ nilS nilS) from uh hA3);obtain ⟨g0,g1,g2,g3,g4,g5,g6,g7⟩:=VL.frees (uh hA3);simp only [zed,nilS] at q0 q1 q2 q3 q4 q5 q6 q7;have hne:w.heap.size≠rb:=by omega
   rcases hh with ⟨v,k',cs,p,rfl,hk',rfl,hR,hV,hpn⟩|⟨g,k',fb,rfl,hk',rfl,hfb,hfl,kx,ox,hRx⟩
   · obtain ⟨a,t,ng,dg,ex,x,q1',n1',m1',q2',n2',m2',hc⟩:=hV.shape
     rw [hc];have hcs:(vc a t ⟨ng,dg,ex⟩ x (.slice q1' n1' m1') (.slice q2' n2' m2')).toList=cs:=(congrArg Array.toList hc).symm;have HV:=hide hV;have HR':=hide hR;have HPN:=hide hpn;clear hV hR hpn hc;simp only [c8];go_wp2;have hU:=put8_upd u3 w.heap.size a t ⟨ng,dg,ex⟩ x (.slice q1' n1' m1') (.slice q2' n2' m2')
     have hVf:VRep (put8 u3 w.heap.size a t ⟨ng,dg,ex⟩ x (.slice q1' n1' m1') (.slice q2' n2' m2')) w.heap.size v (vc a t ⟨ng,dg,ex⟩ x (.slice q1' n1' m1') (.slice q2' n2' m2')).toList p:=by
      rw [hcs];exact ((uh HV).keep fun b hb=>hU.block b ((uh HV).ge b hb).2 (by have:=((uh HV).ge b hb).1;omega)).base (by omega)
     exact bodyPost_ret (ret_value (m:=w.heap.size) _ a t ⟨ng,dg,ex⟩ x (.slice q1' n1' m1') (.slice q2' n2' m2') .nilIface (put8_lies (k':=0) (t':=false) (d':=zed) (x':=⟨#[]⟩) (lv':=nilS) (fv':=nilS) (uh hA3) a t ⟨ng,dg,ex⟩ x (.slice q1' n1' m1') (.slice q2' n2' m2')) _ rfl rfl) rfl
      ⟨.inl ⟨v,k',_,p,uh HR0,hk',rfl,hU.obj (Ne.symm hne) (uh HR'),hVf,uh HPN⟩,(uh HM3).own (Nat.le_refl _) hU⟩
   · have HR':=hide hRx
     have HFL:=hide hfl;clear hRx hfl;simp only [vNull,vc,zed,nilS];go_wp2;have hU:=put8_upd u3 w.heap.size 0 false zed ⟨#[]⟩ nilS nilS
     exact bodyPost_ret (ret_value (m:=w.heap.size) _ 0 false zed ⟨#[]⟩ nilS nilS _ (put8_lies (k':=0) (t':=false) (d':=zed) (x':=⟨#[]⟩) (lv':=nilS) (fv':=nilS) (uh hA3) 0 false zed ⟨#[]⟩ nilS nilS) _ rfl rfl) rfl
      ⟨.inr ⟨g,k',fb,uh HR0,hk',rfl,by omega,hU.obj (by omega) (uh HFL),kx,ox,hU.obj (Ne.symm hne) (uh HR')⟩,(uh HM3).own (Nat.le_refl _) hU⟩
set_option maxRecDepth 100000 in
set_option maxHeartbeats 3200000 in
theorem value_due (E:Nat→Value) (rb:Nat) (s:ByteArray) (o:Int) (hs:s.size≤1048576) (hr:17≤rb) (r:(JT × Nat) ⊕ (Nat × Nat)) (w:World) (k:Nat) (h:RL w rb s k o) (hk:k≤s.size) (hE:Env E w)
 (h110:nxt s (gap s k)≠110) (h116:nxt s (gap s k)≠116) (h102:nxt s (gap s k)≠102) (h45:nxt s (gap s k)≠45) (h48:nxt s (gap s k)≠48) (h49:nxt s (gap s k)≠49) (h50:nxt s (gap s k)≠50) (h51:nxt s (gap s k)≠51) (h52:nxt s (gap s k)≠52) (h53:nxt s (gap s k)≠53) (h54:nxt s (gap s k)≠54) (h55:nxt s (gap s k)≠55) (h56:nxt s (gap s k)≠56) (h57:nxt s (gap s k)≠57) (h34:nxt s (gap s k)≠34) (h91:nxt s (gap s k)≠91) (h123:nxt s (gap s k)≠123)
 (hr0:r=.inr (5,gap s k)) :
 Calls Tryz.prog 118 #[.pointer (some ⟨rb,0,none⟩)] w (ValPost E rb s o w r):=by
 have hrl:=blk_lt h;have hA0:VL (w.alloc (.cells vNull 28)) w.heap.size vNull:=vl_new w vNull;have hB0:Below w.heap.size w (w.alloc (.cells vNull 28)):=(Below.refl _ _).alloc (Nat.le_refl _) _;have hR0:=h.below hB0 hrl;have SK:=hide (skip_any gapB rb s k o _ hR0 hk (by omega));have NX:=hide (fun (k:Nat) (w:World) h1 h2 h3=>next_any rb s k o w h1 h2 E h3);have FA:=hide (fun (k:Nat) (w:World) h1=>fault_any rb s k o 264 (E 5) w h1);have HEn:=hide hE;obtain ⟨gl1,gl2⟩:=skipTo_le gapB.data.toList s k hk;have hgp:∀ k,skipTo gapB.data.toList s k=gap s k:=fun _=>rfl
 rw [hgp] at gl1 gl2;have HR0:=hide hr0;clear hE h hr0 hR0;simp only [vc,nilS,vNull,zed] at SK
 go_enter Tryz.func118,Tryz.ntmps118
 go_wp2_with fail
 refine (uh SK).mono ?_;rintro e u1 ⟨rfl,hR1,hM1⟩;rw [hgp] at hR1;generalize gap s k=k1 at *;have hA1:=hide (hM1.obj (by omega) hA0);have HR1:=hide hR1;have HM1:=hide ((Mv.of hB0).trans hM1);clear hA0 hB0 hR1 hM1 SK hgp
 go_wp2_with fail
 refine (uh NX k1 _ (uh HR1) gl2 ((uh HEn).mv (uh HM1) hr)).mono ?_;rintro e u2 ⟨rfl,hb2⟩;have hA2:=hide ((hb2.block _ (blk_lt (uh hA1))).trans (uh hA1));have HR2:=hide ((uh HR1).below hb2 (blk_lt (uh HR1)));have HM2:=hide ((uh HM1).trans (Mv.of hb2));clear hb2 hA1 HR1 HM1 NX;have hEn2:=hide ((uh HEn).mv (uh HM2) hr);have hw2:w.heap.size < u2.heap.size:=blk_lt (uh hA2);obtain ⟨c0,c1,c2⟩:=(uh HR2).cells;generalize nxt s k1=nx at *;have g110:(nx == 110)=false:=by simpa using h110
 have g116:(nx == 116)=false:=by simpa using h116
 have g102:(nx == 102)=false:=by simpa using h102
 have g45:(nx == 45)=false:=by simpa using h45
 have g48:(nx == 48)=false:=by simpa using h48
 have g49:(nx == 49)=false:=by simpa using h49
 have g50:(nx == 50)=false:=by simpa using h50
 have g51:(nx == 51)=false:=by simpa using h51
 have g52:(nx == 52)=false:=by simpa using h52
 have g53:(nx == 53)=false:=by simpa using h53
 have g54:(nx == 54)=false:=by simpa using h54
 have g55:(nx == 55)=false:=by simpa using h55
 have g56:(nx == 56)=false:=by simpa using h56
 have g57:(nx == 57)=false:=by simpa using h57
 have g34:(nx == 34)=false:=by simpa using h34
 have g91:(nx == 91)=false:=by simpa using h91
 have g123:(nx == 123)=false:=by simpa using h123
 have hT:=(uh hEn2).err 5 (by simp);clear h110 h116 h102 h45 h48 h49 h50 h51 h52 h53 h54 h55 h56 h57 h34 h91 h123
 go_wp2_with fail
 refine (uh FA k1 _ (uh HR2)).mono ?_;rintro e u3 ⟨rfl,hu⟩;obtain ⟨hb3,hf3,hr3⟩:=fault_said hu (uh HR2);have hA3:=hide ((hb3.block _ hw2).trans (uh hA2));have HM3:=hide ((uh HM2).trans (Mv.of hb3));have HR3:=hide hr3;have HFL:=hide hf3;clear hu hb3 hf3 hr3 hA2 HM2 HR2 hT c0 c1 c2 FA;obtain ⟨q0,q1,q2,q3,q4,q5,q6,q7⟩:=VL.cells (show VL u3 w.heap.size (vc 0 false zed ⟨#[]⟩ nilS nilS) from uh hA3);obtain ⟨g0,g1,g2,g3,g4,g5,g6,g7⟩:=VL.frees (uh hA3);simp only [zed,nilS] at q0 q1 q2 q3 q4 q5 q6 q7;have hne:w.heap.size≠rb:=by omega
 have hnf:w.heap.size≠u2.heap.size:=by omega
 go_wp2;have hU:=put8_upd u3 w.heap.size 0 false zed ⟨#[]⟩ nilS nilS
 exact bodyPost_ret (ret_value (m:=w.heap.size) _ 0 false zed ⟨#[]⟩ nilS nilS _ (put8_lies (k':=0) (t':=false) (d':=zed) (x':=⟨#[]⟩) (lv':=nilS) (fv':=nilS) (uh hA3) 0 false zed ⟨#[]⟩ nilS nilS) _ rfl rfl) rfl
  ⟨.inr ⟨_,k1,u2.heap.size,uh HR0,gl2,rfl,by omega,hU.obj (Ne.symm hnf) (uh HFL),k1,o,hU.obj (Ne.symm hne) (uh HR3)⟩,(uh HM3).own (Nat.le_refl _) hU⟩
theorem value_any (E:Nat→Value) (rb:Nat) (s:ByteArray) (o:Int) (hs:s.size≤1048576) (hr:17≤rb) (lf of:Nat→(JT × Nat) ⊕ (Nat × Nat))
 (LC:∀ (u:World) (k:Nat),RL u rb s k o→Env E u→k < s.size→Calls Tryz.prog 143 #[.pointer (some ⟨rb,0,none⟩)] u (ValPost E rb s o u (lf k)))
 (OC:∀ (u:World) (k:Nat),RL u rb s k o→Env E u→k < s.size→Calls Tryz.prog 144 #[.pointer (some ⟨rb,0,none⟩)] u (ValPost E rb s o u (of k)))
 (w:World) (k:Nat) (h:RL w rb s k o) (hk:k≤s.size) (hE:Env E w) :
 Calls Tryz.prog 118 #[.pointer (some ⟨rb,0,none⟩)] w (ValPost E rb s o w (valR lf of s k)):=by
 have hg:gap s k≤s.size:=(skipTo_le gapB.data.toList s k hk).2;have hns:=nxt_some s (gap s k) hg;unfold valR
 by_cases c1:nxt s (gap s k)=110
 · rw [if_pos c1]
   exact value_null E rb s o hs hr _ w k h hk hE c1 fun u h1 h2=>word_val _ _ _ rb s _ o u h1 hg hs (by decide) E h2 hr
 rw [if_neg c1]
 by_cases c2:nxt s (gap s k)=116
 · rw [if_pos c2]
   exact value_true E rb s o hs hr _ w k h hk hE c2 fun u h1 h2=>word_val _ _ _ rb s _ o u h1 hg hs (by decide) E h2 hr
 rw [if_neg c2]
 by_cases c3:nxt s (gap s k)=102
 · rw [if_pos c3]
   exact value_false E rb s o hs hr _ w k h hk hE c3 fun u h1 h2=>word_val _ _ _ rb s _ o u h1 hg hs (by decide) E h2 hr
 rw [if_neg c3]
 by_cases c4:numB (nxt s (gap s k))=true
 · rw [if_pos c4]
   have hc:nxt s (gap s k)=45∨nxt s (gap s k)=48∨nxt s (gap s k)=49∨nxt s (gap s k)=50∨nxt s (gap s k)=51∨nxt s (gap s k)=52∨nxt s (gap s k)=53∨nxt s (gap s k)=54∨nxt s (gap s k)=55∨nxt s (gap s k)=56∨nxt s (gap s k)=57:=by
    simp only [numB,Bool.or_eq_true,beq_iff_eq,Bool.and_eq_true,decide_eq_true_eq] at c4;omega
   have HN:∀ u,RL u rb s (gap s k) o→Env E u→Calls Tryz.prog 141 #[.pointer (some ⟨rb,0,none⟩)] u (ValPost E rb s o u (numJ s (gap s k))):=fun u h1 h2=>number_val rb s _ o u h1 hg hs E h2 hr
   rcases hc with c|c|c|c|c|c|c|c|c|c|c
   · exact value_num45 E rb s o hs hr _ w k h hk hE c HN
   · exact value_num48 E rb s o hs hr _ w k h hk hE c HN
   · exact value_num49 E rb s o hs hr _ w k h hk hE c HN
   · exact value_num50 E rb s o hs hr _ w k h hk hE c HN
   · exact value_num51 E rb s o hs hr _ w k h hk hE c HN
   · exact value_num52 E rb s o hs hr _ w k h hk hE c HN
   · exact value_num53 E rb s o hs hr _ w k h hk hE c HN
   · exact value_num54 E rb s o hs hr _ w k h hk hE c HN
   · exact value_num55 E rb s o hs hr _ w k h hk hE c HN
   · exact value_num56 E rb s o hs hr _ w k h hk hE c HN
   · exact value_num57 E rb s o hs hr _ w k h hk hE c HN
 rw [if_neg c4]
 by_cases c5:nxt s (gap s k)=34
 · rw [if_pos c5]
   exact value_text E rb s o hs hr _ w k h hk hE c5 fun u h1 h2=>text_val rb s _ o u h1 (hns (by omega)) hs E h2 hr
 rw [if_neg c5]
 by_cases c6:nxt s (gap s k)=91
 · rw [if_pos c6]
   exact value_list E rb s o hs hr _ w k h hk hE c6 fun u h1 h2=>LC u _ h1 h2 (hns (by omega))
 rw [if_neg c6]
 by_cases c7:nxt s (gap s k)=123
 · rw [if_pos c7]
   exact value_object E rb s o hs hr _ w k h hk hE c7 fun u h1 h2=>OC u _ h1 h2 (hns (by omega))
 rw [if_neg c7]
 have hnb:nxt s (gap s k)≠45∧nxt s (gap s k)≠48∧nxt s (gap s k)≠49∧nxt s (gap s k)≠50∧nxt s (gap s k)≠51∧nxt s (gap s k)≠52∧nxt s (gap s k)≠53∧nxt s (gap s k)≠54∧nxt s (gap s k)≠55∧nxt s (gap s k)≠56∧nxt s (gap s k)≠57:=by
  simp only [numB,Bool.or_eq_true,beq_iff_eq,Bool.and_eq_true,decide_eq_true_eq] at c4;omega
 obtain ⟨d45,d48,d49,d50,d51,d52,d53,d54,d55,d56,d57⟩:=hnb;exact value_due E rb s o hs hr _ w k h hk hE c1 c2 c3 d45 d48 d49 d50 d51 d52 d53 d54 d55 d56 d57 c5 c6 c7 rfl
end Go.Proofs.YthnhobplgmojeaaGreatDoor.rd
