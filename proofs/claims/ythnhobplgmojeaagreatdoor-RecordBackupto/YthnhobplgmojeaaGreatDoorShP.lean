/- Texts in one: Sh Si -/
import Derived.Test.YthnhobplgmojeaaGreatDoorSfP
import Derived.Test.YthnhobplgmojeaaGreatDoorIdP
namespace Go.Proofs.YthnhobplgmojeaaGreatDoor.rd
open Go.RowKit
theorem ret_norm1 {m:Nat}{w:World}{a0 a1 a2 a3 a4 a5 a6 a7:Value} (h:BX w m [a0,a1,a2,a3,a4,a5,a6,a7]) (tmps:Array Value) (h2:tmps[3]?.getD undef=.pointer (some ⟨m,0,none⟩)) :
 (results Tryz.f113 tmps).run Tryz.prog w=.ok (.agg #[a0,a1,a2,a3,a4,a5,a6,a7]) w:=by
 obtain ⟨q0,q1,q2,q3,q4,q5,q6,q7⟩:=BX.cells h;simp [results,Tryz.results113,h2,go_sem,q0,q1,q2,q3,q4,q5,q6,q7]
set_option maxRecDepth 100000 in
set_option maxHeartbeats 1200000 in
theorem norm1_flat (k:Int) (t:Bool) (dn:Bool) (dg:ByteArray) (dx:Int) (x:ByteArray) (l:List JT) (f:List (ByteArray × JT)) (lv fv cp:Value) (w:World) (hk:k≠4∧k≠5) (hd:dg.size≤1099511627776) (h0:-9223372036854775808≤dx) (h1:dx≤9223372036854775807) (hx:x.size≤35184372088832) :
 Calls Tryz.prog 113 #[.agg #[.int .i64 k,.bool t,.bool dn,.string dg,.int .i64 dx,.string x,lv,fv],cp] w (NP w (nrm (JT.mk k t ⟨dn,dg,dx⟩ x l f))):=by
 rw [nrm_mk]
 by_cases e1:k=1
 · subst e1
   rw [if_pos rfl]
   go_enter Tryz.func113,Tryz.ntmps113
   go_wp2;obtain ⟨_,hb,hl⟩:=box_two w [.int .i64 1,.bool t,.bool dn,.string dg,.int .i64 dx,.string x,lv,fv] [.int .i64 1,.bool t,.bool false,.string ⟨#[]⟩,.int .i64 0,.string ⟨#[]⟩,.slice none 0 0,.slice none 0 0];exact bodyPost_ret (ret_norm1 hb _ rfl) rfl ⟨_,[],rfl,vrep_flat _ _ 1 t zed ⟨#[]⟩,List.nodup_nil,hl⟩
 · rw [if_neg e1]
   by_cases e2:k=2
   · subst e2
     rw [if_pos rfl];have C1:=hide (fun u=>norm_any ⟨dn,dg,dx⟩ u (show dg.size≤140737488351232 by omega) h0 h1);simp only [dv] at C1;generalize norm ⟨dn,dg,dx⟩=r at *;obtain ⟨rn,rg,rx⟩:=r;simp only at C1
     go_enter Tryz.func113,Tryz.ntmps113
     go_wp2_with fail
     refine (uh C1 _).mono ?_;rintro e u1 ⟨rfl,hb1⟩;obtain ⟨_,hb,hl⟩:=box_two w [.int .i64 2,.bool t,.bool dn,.string dg,.int .i64 dx,.string x,lv,fv] [.int .i64 0,.bool false,.bool false,.string ⟨#[]⟩,.int .i64 0,.string ⟨#[]⟩,.slice none 0 0,.slice none 0 0];have hz:=blk_lt hb;have HX:=hide (hb.keep hb1 hz);have HL:=hide (hl.trans (hb1.mono (by have:=hl.size;omega)));clear hb hl hz hb1 C1;obtain ⟨z0,z1,z2,z3,z4,z5,z6,z7⟩:=(uh HX).cells;obtain ⟨y0,y1,y2,y3,y4,y5,y6,y7⟩:=(uh HX).frees;go_wp2;have hX:=st8_bx (uh HX) rfl (.int .i64 2) (.bool false) (.bool rn) (.string rg) (.int .i64 rx) (.string ⟨#[]⟩) (.slice none 0 0) (.slice none 0 0);have hU:=(uh HL).trans ((st8_upd u1 (w.heap.size+1) (.int .i64 2) (.bool false) (.bool rn) (.string rg) (.int .i64 rx) (.string ⟨#[]⟩) (.slice none 0 0) (.slice none 0 0)).below (Nat.le_succ _));simp only [st8] at hX hU;exact bodyPost_ret (ret_norm1 hX _ rfl) rfl ⟨_,[],rfl,vrep_flat _ _ 2 false ⟨rn,rg,rx⟩ ⟨#[]⟩,List.nodup_nil,hU⟩
   · rw [if_neg e2]
     by_cases e3:k=3
     · subst e3
       rw [if_pos rfl];have C1:=hide (fun u=>said_any x u hx);simp only [pt.said_clean] at C1;generalize pt.clean x=r at *
       go_enter Tryz.func113,Tryz.ntmps113
       go_wp2_with fail
       refine (uh C1 _).mono ?_;rintro e u1 ⟨rfl,hb1⟩;obtain ⟨_,hb,hl⟩:=box_two w [.int .i64 3,.bool t,.bool dn,.string dg,.int .i64 dx,.string x,lv,fv] [.int .i64 0,.bool false,.bool false,.string ⟨#[]⟩,.int .i64 0,.string ⟨#[]⟩,.slice none 0 0,.slice none 0 0];have hz:=blk_lt hb;have HX:=hide (hb.keep hb1 hz);have HL:=hide (hl.trans (hb1.mono (by have:=hl.size;omega)));clear hb hl hz hb1 C1;obtain ⟨z0,z1,z2,z3,z4,z5,z6,z7⟩:=(uh HX).cells;obtain ⟨y0,y1,y2,y3,y4,y5,y6,y7⟩:=(uh HX).frees;go_wp2;have hX:=st8_bx (uh HX) rfl (.int .i64 3) (.bool false) (.bool false) (.string ⟨#[]⟩) (.int .i64 0) (.string r) (.slice none 0 0) (.slice none 0 0);have hU:=(uh HL).trans ((st8_upd u1 (w.heap.size+1) (.int .i64 3) (.bool false) (.bool false) (.string ⟨#[]⟩) (.int .i64 0) (.string r) (.slice none 0 0) (.slice none 0 0)).below (Nat.le_succ _));simp only [st8] at hX hU;exact bodyPost_ret (ret_norm1 hX _ rfl) rfl ⟨_,[],rfl,vrep_flat _ _ 3 false zed r,List.nodup_nil,hU⟩
     · rw [if_neg e3,if_neg hk.1,if_neg hk.2]
       obtain ⟨e4,e5⟩:=hk
       go_enter Tryz.func113,Tryz.ntmps113
       go_wp2;obtain ⟨_,hb,hl⟩:=box_two w [.int .i64 k,.bool t,.bool dn,.string dg,.int .i64 dx,.string x,lv,fv] [.int .i64 0,.bool false,.bool false,.string ⟨#[]⟩,.int .i64 0,.string ⟨#[]⟩,.slice none 0 0,.slice none 0 0];exact bodyPost_ret (ret_norm1 hb _ rfl) rfl ⟨_,[],rfl,vrep_flat _ _ 0 false zed ⟨#[]⟩,List.nodup_nil,hl⟩
structure LL (B:Nat) (wr:World) (sv:Value) (ls:List JT):Prop where
 ex:∃ (css:List (List Value)) (ps:List (List Nat)),wr.ownsRow B 28 8 sv ls.length css.flatten∧css.length=ls.length∧ps.length=ls.length ∧
  (∀ (i:Nat) (v:JT) (c:List Value) (p:List Nat),ls[i]?=some v→css[i]?=some c→ps[i]?=some p→VRep wr B v c p)∧(own sv++ps.flatten).Nodup
theorem ll_add {B:Nat}{wr u w4:World}{ls:List JT}{sv v':Value}{css:List (List Value)}{ps:List (List Nat)}{v:JT}{cs:List Value}{p:List Nat}
 (ho:wr.ownsRow B 28 8 sv ls.length css.flatten) (e1:css.length=ls.length) (e2:ps.length=ls.length)
 (hv:∀ (i:Nat) (v:JT) (c:List Value) (p:List Nat),ls[i]?=some v→css[i]?=some c→ps[i]?=some p→VRep wr B v c p) (hn:(own sv++ps.flatten).Nodup)
 (hb:Below wr.heap.size wr u) (hr:VRep u wr.heap.size v cs p) (hp:p.Nodup) (hs:B≤wr.heap.size) (hrow:w4.ownsRow B 28 8 v' (ls.length+1) (css.flatten++cs))
 (hgr:(u.alloc (.cells cs.toArray 28)).grownBy w4 sv.ownBlock) (hli:v'.ownBlock=sv.ownBlock∨v'.ownBlock=some (u.alloc (.cells cs.toArray 28)).heap.size):LL B w4 v' (ls++[v]):=by
 have hsu:=hb.size;rw [World.size_alloc] at hli;have hsv:∀ b,sv.ownBlock=some b→B≤b∧b < wr.heap.size:=fun b hb=>mm.row_lt ho b hb
 have stay:∀ b,b < u.heap.size→sv.ownBlock≠some b→w4.heap[b]?=u.heap[b]?:=fun b h1 h2=>by
  rw [hgr.block b (by rw [World.size_alloc];omega) (fun e=>h2 e.symm)];exact Below.heap_alloc u _ b h1
 have hold:∀ b∈ps.flatten,B≤b∧b < wr.heap.size:=by
  intro b hbm;obtain ⟨q,hq,hbq⟩:=List.mem_flatten.1 hbm;obtain ⟨i,hi⟩:=List.getElem?_of_mem hq;obtain ⟨hlt,_⟩:=List.getElem?_eq_some_iff.1 hi;exact (hv i _ _ q (List.getElem?_eq_getElem (by omega)) (List.getElem?_eq_getElem (by omega)) hi).ge b hbq
 have hnew:∀ b∈p,wr.heap.size≤b∧b < u.heap.size:=hr.ge;have hnd:=List.nodup_append.1 hn;refine ⟨css++[cs],ps++[p],?_,by simp [e1],by simp [e2],?_,?_⟩
 · rw [List.flatten_append,List.length_append]
   simpa using hrow
 · intro i v2 c q h1 h2 h3
   by_cases hi:i < ls.length
   · rw [List.getElem?_append_left hi] at h1
     rw [List.getElem?_append_left (by omega)] at h2 h3;have:=hv i v2 c q h1 h2 h3;refine this.keep fun b hbq=>?_
     have hm:=mem_flat h3 hbq;have h4:=hold b hm;exact (stay b (by omega) (fun e=>hnd.2.2 b (own_mem.2 e) b hm rfl)).trans (hb.block b h4.2)
   · have hil:i=ls.length:=by
      obtain ⟨hlt,_⟩:=List.getElem?_eq_some_iff.1 h1;rw [List.length_append,List.length_singleton] at hlt;omega
     subst hil;rw [List.getElem?_append_right (Nat.le_refl _),Nat.sub_self] at h1;rw [List.getElem?_append_right (by omega)] at h2 h3;rw [show ls.length - css.length=0 by omega] at h2;rw [show ls.length - ps.length=0 by omega] at h3;simp only [List.getElem?_cons_zero,Option.some.injEq] at h1 h2 h3;subst h1 h2 h3;refine (hr.base hs).keep fun b hbq=>?_
     have h4:=hnew b hbq;exact stay b h4.2 (fun e=>by have:=(hsv b e).2;omega)
 · rw [List.flatten_append]
   simp only [List.flatten_cons,List.flatten_nil,List.append_nil]
   have hgo:∀ g,v'.ownBlock=some g→g ∉ ps.flatten∧g ∉ p:=by
    intro g hg
    rcases hli with e|e
    · have e':=e.symm.trans hg
      exact ⟨fun hm=>hnd.2.2 g (own_mem.2 e') g hm rfl,fun hm=>by have:=(hsv g e').2;have:=(hnew g hm).1;omega⟩
    · have:g=u.heap.size+1:=by rw [e] at hg;exact (Option.some.inj hg).symm
      exact ⟨fun hm=>by have:=(hold g hm).2;omega,fun hm=>by have:=(hnew g hm).2;omega⟩
   rw [List.nodup_append];refine ⟨?_,?_,?_⟩
   · unfold own
     cases v'.ownBlock <;> simp
   · rw [List.nodup_append]
     exact ⟨hnd.2.1,hp,fun a ha b hb' e=>by have:=(hold a ha).2;have:=(hnew b hb').1;omega⟩
   · intro a ha b hb' e
     subst e;have hg:=hgo a (own_mem.1 ha)
     rcases List.mem_append.1 hb' with q|q
     · exact hg.1 q
     · exact hg.2 q
theorem VR.form {w:World}{v:JT}{cs:List Value} (h:VR w v cs):∃ (kk:Int) (tt ng:Bool) (dg:ByteArray) (ex:Int) (xx:ByteArray) (q1:Option Addr) (n1 m1:Nat) (q2:Option Addr) (n2 m2:Nat),cs=[.int .i64 kk,.bool tt,.bool ng,.string dg,.int .i64 ex,.string xx,.slice q1 n1 m1,.slice q2 n2 m2]:=by
 cases h with
 | mk hl hf _ _ _ _ =>
   obtain ⟨oa,c,rfl,_⟩:=mm.SV.form hl;obtain ⟨oa',c',rfl,_⟩:=mm.SV.form hf;exact ⟨_,_,_,_,_,_,_,_,_,_,_,_,rfl⟩
def nv (nb:Nat):Value:=.func (.func 113) #[] #[.pointer (some ⟨nb,0,none⟩)]
theorem enter_norm1 (args:Array Value) (w:World):(callFunc 113 args).run Tryz.prog w=.ok (.enter 113 args) w :=
 MuLone.run_callFunc_enter Tryz.func113 (by kernel_rfl) (c:=Tryz.f113.body.get (by kernel_rfl)) (by kernel_rfl) args w
set_option maxRecDepth 100000 in
set_option maxHeartbeats 6400000 in
theorem norm1_list (nb:Nat) (t:Bool) (dn:Bool) (dg:ByteArray) (dx:Int) (x:ByteArray) (l:List JT) (f:List (ByteArray × JT)) (oa:Option Addr) (c:Nat) (fv:Value) (w:World) (h:VR w (JT.mk 4 t ⟨dn,dg,dx⟩ x l f) [.int .i64 4,.bool t,.bool dn,.string dg,.int .i64 dx,.string x,.slice oa l.length c,fv]) (hl:l.length≤100000000000)
 (hc:w.cell? ⟨nb,0,none⟩=some (nv nb))
 (IH:∀ v∈l,∀ (cs:List Value) (w:World),VR w v cs→w.cell? ⟨nb,0,none⟩=some (nv nb)→Calls Tryz.prog 113 #[.agg cs.toArray,.pointer (some ⟨nb,0,none⟩)] w (NP w (nrm v))) :
 Calls Tryz.prog 113 #[.agg #[.int .i64 4,.bool t,.bool dn,.string dg,.int .i64 dx,.string x,.slice oa l.length c,fv],.pointer (some ⟨nb,0,none⟩)] w (NP w (JT.mk 4 false zed ⟨#[]⟩ (l.map nrm) [])):=by
 have HV:=hide h;have HI:=hide IH;have HC:=hide hc;clear h IH hc;have B3:=hide (box_two w [.int .i64 4,.bool t,.bool dn,.string dg,.int .i64 dx,.string x,.slice oa l.length c,fv] [.int .i64 0,.bool false,.bool false,.string ⟨#[]⟩,.int .i64 0,.string ⟨#[]⟩,.slice none 0 0,.slice none 0 0])
 go_enter Tryz.func113,Tryz.ntmps113
 go_wp2;obtain ⟨q0,q1,q3⟩:=uh B3;have q4:((w.alloc (.cells [.int .i64 4,.bool t,.bool dn,.string dg,.int .i64 dx,.string x,.slice oa l.length c,fv].toArray 28)).alloc (.cells [.int .i64 0,.bool false,.bool false,.string ⟨#[]⟩,.int .i64 0,.string ⟨#[]⟩,.slice none 0 0,.slice none 0 0].toArray 28)).heap.size=w.heap.size+2:=by rw [World.size_alloc,World.size_alloc]
 generalize (w.alloc (.cells [.int .i64 4,.bool t,.bool dn,.string dg,.int .i64 dx,.string x,.slice oa l.length c,fv].toArray 28)).alloc (.cells [.int .i64 0,.bool false,.bool false,.string ⟨#[]⟩,.int .i64 0,.string ⟨#[]⟩,.slice none 0 0,.slice none 0 0].toArray 28)=W at *;have HX1:=hide q1;have HBW:=hide q3;have HZ:=hide q4;clear q0 q1 q3 q4 B3
 go_loopw [4,33] (fun sv iv wr=>∃ i:Nat,i≤l.length∧iv=.int .i64 (i:Int)∧Hid (LL (w.heap.size+2) wr sv ((l.take i).map nrm))∧Hid (Below (w.heap.size+2) W wr)) (fun _ iv _=>l.length - (intOf iv).toNat)
 case atStart=>exact ⟨0,by omega,rfl,⟨[],[],World.ownsRow_nil _ _ _ _,rfl,rfl,fun i v c p h=>by simp at h,by simp [own,Value.ownBlock]⟩,Below.refl _ _⟩
 case round =>
  obtain ⟨i,hi,rfl,HN,HB⟩:=hrel;have hb:=uh HB;have HL:=hide ((uh HBW).trans (hb.mono (by omega)));have hz:w.heap.size+2≤wr.heap.size:=by rw [← uh HZ];exact hb.size
  by_cases hc:i < l.length
  · obtain ⟨css,ps,n2,n3,n4,n5,n6⟩:=(uh HN).ex
    obtain ⟨a,v,a0,a1,a2,a3,a4,a5,a6,a7,rfl,hv,vA,hat⟩:=(uh HV).el i hc;obtain ⟨kk,tt,ng,dg2,ex2,xx,c1,m1,k1,c2,m2,k2,ef⟩:=vA.form;simp only [List.cons.injEq,and_true] at ef;obtain ⟨rfl,rfl,rfl,rfl,rfl,rfl,rfl,rfl⟩:=ef;obtain ⟨x0,x1,x2,x3,x4,x5,x6,x7⟩:=cells8 (fun j u hu=>kc (uh HL) (hat j u hu));generalize ha:a.add (i*8)=ad at *;have hln:((l.take i).map nrm).length=i:=by rw [List.length_map,List.length_take];omega
    have hi1:(i:Int) < (l.length:Int):=by omega
    go_upto_region 13 with fail;have hba:Below wr.heap.size wr (wr.alloc (.cells #[.int .i64 kk,.bool tt,.bool ng,.string dg2,.int .i64 ex2,.string xx,.slice c1 m1 k1,.slice c2 m2 k2] 28)):=(Below.refl _ wr).alloc (Nat.le_refl _) _;have hbx:BX (wr.alloc (.cells #[.int .i64 kk,.bool tt,.bool ng,.string dg2,.int .i64 ex2,.string xx,.slice c1 m1 k1,.slice c2 m2 k2] 28)) wr.heap.size [.int .i64 kk,.bool tt,.bool ng,.string dg2,.int .i64 ex2,.string xx,.slice c1 m1 k1,.slice c2 m2 k2]:=heap_alloc_new wr _;generalize wr.alloc (.cells #[.int .i64 kk,.bool tt,.bool ng,.string dg2,.int .i64 ex2,.string xx,.slice c1 m1 k1,.slice c2 m2 k2] 28)=wa at *;obtain ⟨y0,y1,y2,y3,y4,y5,y6,y7⟩:=hbx.cells;have hcn:=kc hba (kc (uh HL) (uh HC));have CN:=hide (uh HI v (List.mem_of_getElem? hv) [.int .i64 kk,.bool tt,.bool ng,.string dg2,.int .i64 ex2,.string xx,.slice c1 m1 k1,.slice c2 m2 k2] wa ((vA.keep (uh HL)).keep hba) hcn);have HBA:=hide hba;have HVI:=hide hv;have ADD:=hide (fun (u w4:World) (cs:List Value) (p:List Nat) (v':Value) q1 (q2:VRep u wr.heap.size (nrm v) cs p) q3 q4 q5 q6=>ll_add (w4:=w4) (v':=v') n2 n3 n4 n5 n6 q1 q2 q3 hz q4 q5 q6);have HO:=hide n2;rw [hln] at HO;have eg:=enter_norm1;have hwa:=hba.size;clear n2 n3 n4 n5 n6 hat hv vA hba hbx x0 x1 x2 x3 x4 x5 x6 x7 hb;unfold nv at hcn
    go_wp2_with (first
     | (go_at_call 113;refine (uh CN).mono ?_;rintro e u2 ⟨cs,pp,rfl,hr,hpn,hbl2⟩
        obtain ⟨b0,b1,b2,b3,b4,b5,b6,b7,rfl⟩:=hr.eight;have hb3:Below wr.heap.size wr u2:=(uh HBA).trans (hbl2.mono hwa);have HR2:=hide (hr.base hwa);have H18:=hide hr.vr.one;have O1:=hide (mm.row_below (mm.row_below (uh HO) hb3 (Nat.le_refl _)) ((Below.refl _ u2).alloc (Nat.le_refl _) (.cells #[b0,b1,b2,b3,b4,b5,b6,b7] 28)) (Nat.le_refl _));have S1:Hid (mm.SV (u2.alloc (.cells #[b0,b1,b2,b3,b4,b5,b6,b7] 28)) (.slice (some ⟨u2.heap.size,0,none⟩) 1 1) 1 8 [b0,b1,b2,b3,b4,b5,b6,b7]):=mm.sv_cells (heap_alloc_new u2 _) 1 8 rfl (by unfold maxLen;omega)
        have hB1:Hid (w.heap.size+2≤(u2.alloc (.cells #[b0,b1,b2,b3,b4,b5,b6,b7] 28)).heap.size):=by
         show _≤_;have:=hb3.size;rw [World.size_alloc]
         omega)
     | (at_builtin;refine mm.wpList_append_sv (P:=Tryz.prog) rfl _ _ 25 rfl (w.heap.size+2) 28 _ 8 112 undV infoVl rfl (by decide) _ _ i 1 _ _ rfl rfl (uh O1) (uh S1) (uh H18) (by unfold maxLen;omega) (by omega) (uh hB1) ?_
        intro v2 w2 o2 g2 l2))
    have hbe:Below (w.heap.size+2) wr w2:=mm.row_bl (uh O1) g2 ((hb3.mono hz).alloc (by have:=hb3.size;omega) _) (Nat.le_refl _) (uh hB1);refine ⟨⟨i+1,by omega,by go_num,?_,(uh HB).trans hbe⟩,by simp [intOf];omega⟩;have hfin:=uh ADD u2 w2 [b0,b1,b2,b3,b4,b5,b6,b7] pp v2 hb3 (uh HR2) hpn (by rw [hln];exact o2) g2 l2;rw [take_succ' (uh HVI),List.map_append];exact hfin
  · obtain rfl:i=l.length:=by omega
    rw [List.take_of_length_le (Nat.le_refl _)] at HN;obtain ⟨css,ps,n2,n3,n4,n5,n6⟩:=(uh HN).ex;obtain ⟨qa,qc,esv,_,_⟩:=mm.SV.form (mm.own_sv n2);subst esv;have yB:=(uh HX1).keep hb (by omega);obtain ⟨t0,t1,t2,t3,t4,t5,t6,t7⟩:=yB.cells;obtain ⟨f0,f1,f2,f3,f4,f5,f6,f7⟩:=yB.frees;have hX:=hide (st8_bx yB rfl (.int .i64 4) (.bool false) (.bool false) (.string ⟨#[]⟩) (.int .i64 0) (.string ⟨#[]⟩) (.slice qa (l.map nrm).length qc) (.slice none 0 0));have hU:=hide (st8_upd wr (w.heap.size+1) (.int .i64 4) (.bool false) (.bool false) (.string ⟨#[]⟩) (.int .i64 0) (.string ⟨#[]⟩) (.slice qa (l.map nrm).length qc) (.slice none 0 0))
    have HR:Hid (VRep wr w.heap.size (JT.mk 4 false zed ⟨#[]⟩ (l.map nrm) []) [.int .i64 4,.bool false,.bool zed.neg,.string zed.dg,.int .i64 zed.ex,.string ⟨#[]⟩,.slice qa (l.map nrm).length qc,.slice none 0 0] (own (.slice qa (l.map nrm).length qc)++own (.slice none 0 0)++ps.flatten++([]:List (List Nat)).flatten)) :=
     VRep.mk (css:=css) (gss:=[]) (owns_base n2 (by omega)) (World.ownsRow_nil _ _ _ _) n3 n4 rfl rfl (fun i v c p h1 h2 h3=>(n5 i v c p h1 h2 h3).base (by omega)) (fun i n v c p h=>by simp at h)
    have HN6:Hid ((own (.slice qa (l.map nrm).length qc)++own (.slice none 0 0)++ps.flatten++([]:List (List Nat)).flatten).Nodup):=by
     show (_:List Nat).Nodup;simpa [own,Value.ownBlock] using n6
    have hge:Hid (∀ b∈(own (.slice qa (l.map nrm).length qc)++own (.slice none 0 0)++ps.flatten++([]:List (List Nat)).flatten),b≠w.heap.size+1):=by
     intro b hbm;simp only [List.flatten_nil,List.append_nil,List.mem_append] at hbm
     rcases hbm with (hbm|hbm)|hbm
     · have:=(owns_ge n2 b hbm).1;omega
     · simp [own,Value.ownBlock] at hbm
     · obtain ⟨q,hq,hbq⟩:=List.mem_flatten.1 hbm
       obtain ⟨i,hi⟩:=List.getElem?_of_mem hq;obtain ⟨hlt,_⟩:=List.getElem?_eq_some_iff.1 hi;have:=((n5 i _ _ q (List.getElem?_eq_getElem (by omega)) (List.getElem?_eq_getElem (by omega)) hi).ge b hbq).1;omega
    have hno:¬ (l.length:Int) < (l.length:Int):=by omega
    clear n2 n3 n4 n5 n6 yB hb;go_wp2;have hX':=uh hX;have hU':=uh hU;have hR':VRep (st8 wr (w.heap.size+1) (.int .i64 4) (.bool false) (.bool false) (.string ⟨#[]⟩) (.int .i64 0) (.string ⟨#[]⟩) (.slice qa (l.map nrm).length qc) (.slice none 0 0)) w.heap.size (JT.mk 4 false zed ⟨#[]⟩ (l.map nrm) []) _ _:=(uh HR).keep fun b hbm=>hU'.block b (uh hge b hbm)
    have hL':=(uh HL).trans (hU'.below (Nat.le_succ _));have hN6:=uh HN6;simp only [st8,List.length_map] at hX' hR' hL' hN6;exact bodyPost_ret (ret_norm1 hX' _ rfl) rfl ⟨_,_,rfl,hR',hN6,hL'⟩
end Go.Proofs.YthnhobplgmojeaaGreatDoor.rd
