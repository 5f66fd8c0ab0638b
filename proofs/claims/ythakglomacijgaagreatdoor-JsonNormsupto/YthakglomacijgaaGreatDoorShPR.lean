/- Texts in one: Sh Si Lnd Trn Kpt -/
import Derived.Test.YthakglomacijgaaGreatDoorSfPR
import Derived.Test.YthakglomacijgaaGreatDoorIdPR
import Derived.Test.YthakglomacijgaaGreatDoorMkbPR
import Derived.Test.YthakglomacijgaaGreatDoorIfPR
namespace Go.Proofs.YthakglomacijgaaGreatDoor.rd
open Go.RowKit
theorem ret_norm1 {m:Nat}{w:World}{a0 a1 a2 a3 a4 a5 a6 a7:Value} (h:BX w m [a0,a1,a2,a3,a4,a5,a6,a7]) (tmps:Array Value) (h2:tmps[3]?.getD undef=.pointer (some ⟨m,0,none⟩)) :
 (results Tryz.f46 tmps).run Tryz.prog w=.ok (.agg #[a0,a1,a2,a3,a4,a5,a6,a7]) w:=by
 obtain ⟨q0,q1,q2,q3,q4,q5,q6,q7⟩:=BX.cells h;simp [results,Tryz.results46,h2,go_sem,q0,q1,q2,q3,q4,q5,q6,q7]
set_option maxRecDepth 100000 in
set_option maxHeartbeats 1200000 in
theorem norm1_flat (k:Int) (t:Bool) (dn:Bool) (dg:ByteArray) (dx:Int) (x:ByteArray) (l:List JT) (f:List (ByteArray × JT)) (lv fv cp:Value) (w:World) (hk:k≠4∧k≠5) (hd:dg.size≤1099511627776) (h0:-9223372036854775808≤dx) (h1:dx≤9223372036854775807) (hx:x.size≤35184372088832) :
 Calls Tryz.prog 46 #[.agg #[.int .i64 k,.bool t,.bool dn,.string dg,.int .i64 dx,.string x,lv,fv],cp] w (NP w (nrm (JT.mk k t ⟨dn,dg,dx⟩ x l f))):=by
 rw [nrm_mk]
 by_cases e1:k=1
 · subst e1
   rw [if_pos rfl]
   go_enter Tryz.func46,Tryz.ntmps46
   go_wp2;obtain ⟨_,hb,hl⟩:=box_two w [.int .i64 1,.bool t,.bool dn,.string dg,.int .i64 dx,.string x,lv,fv] [.int .i64 1,.bool t,.bool false,.string ⟨#[]⟩,.int .i64 0,.string ⟨#[]⟩,.slice none 0 0,.slice none 0 0];exact bodyPost_ret (ret_norm1 hb _ rfl) rfl ⟨_,[],rfl,vrep_flat _ _ 1 t zed ⟨#[]⟩,List.nodup_nil,hl⟩
 · rw [if_neg e1]
   by_cases e2:k=2
   · subst e2
     rw [if_pos rfl];have C1:=hide (fun u=>norm_any ⟨dn,dg,dx⟩ u (show dg.size≤140737488351232 by omega) h0 h1);simp only [dv] at C1;generalize norm ⟨dn,dg,dx⟩=r at *;obtain ⟨rn,rg,rx⟩:=r;simp only at C1
     go_enter Tryz.func46,Tryz.ntmps46
     go_wp2_with fail
     refine (uh C1 _).mono ?_;rintro e u1 ⟨rfl,hb1⟩;obtain ⟨_,hb,hl⟩:=box_two w [.int .i64 2,.bool t,.bool dn,.string dg,.int .i64 dx,.string x,lv,fv] [.int .i64 0,.bool false,.bool false,.string ⟨#[]⟩,.int .i64 0,.string ⟨#[]⟩,.slice none 0 0,.slice none 0 0];have hz:=blk_lt hb;have HX:=hide (hb.keep hb1 hz);have HL:=hide (hl.trans (hb1.mono (by have:=hl.size;omega)));clear hb hl hz hb1 C1;obtain ⟨z0,z1,z2,z3,z4,z5,z6,z7⟩:=(uh HX).cells;obtain ⟨y0,y1,y2,y3,y4,y5,y6,y7⟩:=(uh HX).frees;go_wp2;have hX:=st8_bx (uh HX) rfl (.int .i64 2) (.bool false) (.bool rn) (.string rg) (.int .i64 rx) (.string ⟨#[]⟩) (.slice none 0 0) (.slice none 0 0);have hU:=(uh HL).trans ((st8_upd u1 (w.heap.size+1) (.int .i64 2) (.bool false) (.bool rn) (.string rg) (.int .i64 rx) (.string ⟨#[]⟩) (.slice none 0 0) (.slice none 0 0)).below (Nat.le_succ _));simp only [st8] at hX hU;exact bodyPost_ret (ret_norm1 hX _ rfl) rfl ⟨_,[],rfl,vrep_flat _ _ 2 false ⟨rn,rg,rx⟩ ⟨#[]⟩,List.nodup_nil,hU⟩
   · rw [if_neg e2]
     by_cases e3:k=3
     · subst e3
       rw [if_pos rfl];have C1:=hide (fun u=>said_any x u hx);simp only [pt.said_clean] at C1;generalize pt.clean x=r at *
       go_enter Tryz.func46,Tryz.ntmps46
       go_wp2_with fail
       refine (uh C1 _).mono ?_;rintro e u1 ⟨rfl,hb1⟩;obtain ⟨_,hb,hl⟩:=box_two w [.int .i64 3,.bool t,.bool dn,.string dg,.int .i64 dx,.string x,lv,fv] [.int .i64 0,.bool false,.bool false,.string ⟨#[]⟩,.int .i64 0,.string ⟨#[]⟩,.slice none 0 0,.slice none 0 0];have hz:=blk_lt hb;have HX:=hide (hb.keep hb1 hz);have HL:=hide (hl.trans (hb1.mono (by have:=hl.size;omega)));clear hb hl hz hb1 C1;obtain ⟨z0,z1,z2,z3,z4,z5,z6,z7⟩:=(uh HX).cells;obtain ⟨y0,y1,y2,y3,y4,y5,y6,y7⟩:=(uh HX).frees;go_wp2;have hX:=st8_bx (uh HX) rfl (.int .i64 3) (.bool false) (.bool false) (.string ⟨#[]⟩) (.int .i64 0) (.string r) (.slice none 0 0) (.slice none 0 0);have hU:=(uh HL).trans ((st8_upd u1 (w.heap.size+1) (.int .i64 3) (.bool false) (.bool false) (.string ⟨#[]⟩) (.int .i64 0) (.string r) (.slice none 0 0) (.slice none 0 0)).below (Nat.le_succ _));simp only [st8] at hX hU;exact bodyPost_ret (ret_norm1 hX _ rfl) rfl ⟨_,[],rfl,vrep_flat _ _ 3 false zed r,List.nodup_nil,hU⟩
     · rw [if_neg e3,if_neg hk.1,if_neg hk.2]
       obtain ⟨e4,e5⟩:=hk
       go_enter Tryz.func46,Tryz.ntmps46
       go_wp2;obtain ⟨_,hb,hl⟩:=box_two w [.int .i64 k,.bool t,.bool dn,.string dg,.int .i64 dx,.string x,lv,fv] [.int .i64 0,.bool false,.bool false,.string ⟨#[]⟩,.int .i64 0,.string ⟨#[]⟩,.slice none 0 0,.slice none 0 0];exact bodyPost_ret (ret_norm1 hb _ rfl) rfl ⟨_,[],rfl,vrep_flat _ _ 0 false zed ⟨#[]⟩,List.nodup_nil,hl⟩
structure LL (B:Nat) (wr:World) (sv:Value) (ls:List JT):Prop where
 ex:∃ (css:List (List Value)) (ps:List (List Nat)),wr.ownsRow B 27 8 sv ls.length css.flatten∧css.length=ls.length∧ps.length=ls.length ∧
  (∀ (i:Nat) (v:JT) (c:List Value) (p:List Nat),ls[i]?=some v→css[i]?=some c→ps[i]?=some p→VRep wr B v c p)∧(own sv++ps.flatten).Nodup
theorem ll_add {B:Nat}{wr u w4:World}{ls:List JT}{sv v':Value}{css:List (List Value)}{ps:List (List Nat)}{v:JT}{cs:List Value}{p:List Nat}
 (ho:wr.ownsRow B 27 8 sv ls.length css.flatten) (e1:css.length=ls.length) (e2:ps.length=ls.length)
 (hv:∀ (i:Nat) (v:JT) (c:List Value) (p:List Nat),ls[i]?=some v→css[i]?=some c→ps[i]?=some p→VRep wr B v c p) (hn:(own sv++ps.flatten).Nodup)
 (hb:Below wr.heap.size wr u) (hr:VRep u wr.heap.size v cs p) (hp:p.Nodup) (hs:B≤wr.heap.size) (hrow:w4.ownsRow B 27 8 v' (ls.length+1) (css.flatten++cs))
 (hgr:(u.alloc (.cells cs.toArray 27)).grownBy w4 sv.ownBlock) (hli:v'.ownBlock=sv.ownBlock∨v'.ownBlock=some (u.alloc (.cells cs.toArray 27)).heap.size):LL B w4 v' (ls++[v]):=by
 have hsu:=hb.size;rw [World.size_alloc] at hli;have hsv:∀ b,sv.ownBlock=some b→B≤b∧b < wr.heap.size:=fun b hb=>mm.row_lt ho b hb
 have stay:∀ b,b < u.heap.size→sv.ownBlock≠some b→w4.heap[b]?=u.heap[b]?:=fun b h1 h2=>by
  rw [hgr.block b (by rw [World.size_alloc];omega) (fun e=>h2 e.symm)];exact Below.heap_alloc u _ b h1
 have hold:∀ b∈ps.flatten,B≤b∧b < wr.heap.size:=by
  intro b hbm;obtain ⟨q,hq,hbq⟩:=List.mem_flatten.1 hbm;obtain ⟨i,hi⟩:=List.getElem?_of_mem hq;obtain ⟨hlt,_⟩:=List.getElem?_eq_some_iff.1 hi;exact (hv i _ _ q (List.getElem?_eq_getElem (by omega)) (List.getElem?_eq_getElem (by omega)) hi).ge b hbq
 have hnew:∀ b∈p,wr.heap.size≤b∧b < u.heap.size:=hr.ge;have hnd:=List.nodup_append.1 hn;refine ⟨css++[cs],ps++[p],?_,by simp [e1],by simp [e2],?_,?_⟩
 · rw [List.flatten_append,List.length_append]
   simpa using hrow
 · intro i v2 c q h1 h2 h3
   by_cases hi:i < ls.length
   · rw [List.getElem?_append_left hi] at h1
     rw [List.getElem?_append_left (by omega)] at h2 h3;have:=hv i v2 c q h1 h2 h3;refine this.keep fun b hbq=>?_
     have hm:=mem_flat h3 hbq;have h4:=hold b hm;exact (stay b (by omega) (fun e=>hnd.2.2 b (own_mem.2 e) b hm rfl)).trans (hb.block b h4.2)
   · have hil:i=ls.length:=by
      obtain ⟨hlt,_⟩:=List.getElem?_eq_some_iff.1 h1;rw [List.length_append,List.length_singleton] at hlt;omega
     subst hil;rw [List.getElem?_append_right (Nat.le_refl _),Nat.sub_self] at h1;rw [List.getElem?_append_right (by omega)] at h2 h3;rw [show ls.length - css.length=0 by omega] at h2;rw [show ls.length - ps.length=0 by omega] at h3;simp only [List.getElem?_cons_zero,Option.some.injEq] at h1 h2 h3;subst h1 h2 h3;refine (hr.base hs).keep fun b hbq=>?_
     have h4:=hnew b hbq;exact stay b h4.2 (fun e=>by have:=(hsv b e).2;omega)
 · rw [List.flatten_append]
   simp only [List.flatten_cons,List.flatten_nil,List.append_nil]
   have hgo:∀ g,v'.ownBlock=some g→g ∉ ps.flatten∧g ∉ p:=by
    intro g hg
    rcases hli with e|e
    · have e':=e.symm.trans hg
      exact ⟨fun hm=>hnd.2.2 g (own_mem.2 e') g hm rfl,fun hm=>by have:=(hsv g e').2;have:=(hnew g hm).1;omega⟩
    · have:g=u.heap.size+1:=by rw [e] at hg;exact (Option.some.inj hg).symm
      exact ⟨fun hm=>by have:=(hold g hm).2;omega,fun hm=>by have:=(hnew g hm).2;omega⟩
   rw [List.nodup_append];refine ⟨?_,?_,?_⟩
   · unfold own
     cases v'.ownBlock <;> simp
   · rw [List.nodup_append]
     exact ⟨hnd.2.1,hp,fun a ha b hb' e=>by have:=(hold a ha).2;have:=(hnew b hb').1;omega⟩
   · intro a ha b hb' e
     subst e;have hg:=hgo a (own_mem.1 ha)
     rcases List.mem_append.1 hb' with q|q
     · exact hg.1 q
     · exact hg.2 q
theorem VR.form {w:World}{v:JT}{cs:List Value} (h:VR w v cs):∃ (kk:Int) (tt ng:Bool) (dg:ByteArray) (ex:Int) (xx:ByteArray) (q1:Option Addr) (n1 m1:Nat) (q2:Option Addr) (n2 m2:Nat),cs=[.int .i64 kk,.bool tt,.bool ng,.string dg,.int .i64 ex,.string xx,.slice q1 n1 m1,.slice q2 n2 m2]:=by
 cases h with
 | mk hl hf _ _ _ _ =>
   obtain ⟨oa,c,rfl,_⟩:=mm.SV.form hl;obtain ⟨oa',c',rfl,_⟩:=mm.SV.form hf;exact ⟨_,_,_,_,_,_,_,_,_,_,_,_,rfl⟩
def nv (nb:Nat):Value:=.func (.func 46) #[] #[.pointer (some ⟨nb,0,none⟩)]
theorem enter_norm1 (args:Array Value) (w:World):(callFunc 46 args).run Tryz.prog w=.ok (.enter 46 args) w :=
 MuLone.run_callFunc_enter Tryz.func46 (by kernel_rfl) (c:=Tryz.f46.body.get (by kernel_rfl)) (by kernel_rfl) args w
set_option maxRecDepth 100000 in
set_option maxHeartbeats 6400000 in
theorem norm1_list (nb:Nat) (t:Bool) (dn:Bool) (dg:ByteArray) (dx:Int) (x:ByteArray) (l:List JT) (f:List (ByteArray × JT)) (oa:Option Addr) (c:Nat) (fv:Value) (w:World) (h:VR w (JT.mk 4 t ⟨dn,dg,dx⟩ x l f) [.int .i64 4,.bool t,.bool dn,.string dg,.int .i64 dx,.string x,.slice oa l.length c,fv]) (hl:l.length≤100000000000)
 (hc:w.cell? ⟨nb,0,none⟩=some (nv nb))
 (IH:∀ v∈l,∀ (cs:List Value) (w:World),VR w v cs→w.cell? ⟨nb,0,none⟩=some (nv nb)→Calls Tryz.prog 46 #[.agg cs.toArray,.pointer (some ⟨nb,0,none⟩)] w (NP w (nrm v))) :
 Calls Tryz.prog 46 #[.agg #[.int .i64 4,.bool t,.bool dn,.string dg,.int .i64 dx,.string x,.slice oa l.length c,fv],.pointer (some ⟨nb,0,none⟩)] w (NP w (JT.mk 4 false zed ⟨#[]⟩ (l.map nrm) [])):=by
 have HV:=hide h;have HI:=hide IH;have HC:=hide hc;clear h IH hc;have B3:=hide (box_two w [.int .i64 4,.bool t,.bool dn,.string dg,.int .i64 dx,.string x,.slice oa l.length c,fv] [.int .i64 0,.bool false,.bool false,.string ⟨#[]⟩,.int .i64 0,.string ⟨#[]⟩,.slice none 0 0,.slice none 0 0])
 go_enter Tryz.func46,Tryz.ntmps46
 go_wp2;obtain ⟨q0,q1,q3⟩:=uh B3;have q4:((w.alloc (.cells [.int .i64 4,.bool t,.bool dn,.string dg,.int .i64 dx,.string x,.slice oa l.length c,fv].toArray 27)).alloc (.cells [.int .i64 0,.bool false,.bool false,.string ⟨#[]⟩,.int .i64 0,.string ⟨#[]⟩,.slice none 0 0,.slice none 0 0].toArray 27)).heap.size=w.heap.size+2:=by rw [World.size_alloc,World.size_alloc]
 generalize (w.alloc (.cells [.int .i64 4,.bool t,.bool dn,.string dg,.int .i64 dx,.string x,.slice oa l.length c,fv].toArray 27)).alloc (.cells [.int .i64 0,.bool false,.bool false,.string ⟨#[]⟩,.int .i64 0,.string ⟨#[]⟩,.slice none 0 0,.slice none 0 0].toArray 27)=W at *;have HX1:=hide q1;have HBW:=hide q3;have HZ:=hide q4;clear q0 q1 q3 q4 B3
 go_loopw [4,33] (fun sv iv wr=>∃ i:Nat,i≤l.length∧iv=.int .i64 (i:Int)∧Hid (LL (w.heap.size+2) wr sv ((l.take i).map nrm))∧Hid (Below (w.heap.size+2) W wr)) (fun _ iv _=>l.length - (intOf iv).toNat)
 case atStart=>exact ⟨0,by omega,rfl,⟨[],[],World.ownsRow_nil _ _ _ _,rfl,rfl,fun i v c p h=>by simp at h,by simp [own,Value.ownBlock]⟩,Below.refl _ _⟩
 case round =>
  obtain ⟨i,hi,rfl,HN,HB⟩:=hrel;have hb:=uh HB;have HL:=hide ((uh HBW).trans (hb.mono (by omega)));have hz:w.heap.size+2≤wr.heap.size:=by rw [← uh HZ];exact hb.size
  by_cases hc:i < l.length
  · obtain ⟨css,ps,n2,n3,n4,n5,n6⟩:=(uh HN).ex
    obtain ⟨a,v,a0,a1,a2,a3,a4,a5,a6,a7,rfl,hv,vA,hat⟩:=(uh HV).el i hc;obtain ⟨kk,tt,ng,dg2,ex2,xx,c1,m1,k1,c2,m2,k2,ef⟩:=vA.form;simp only [List.cons.injEq,and_true] at ef;obtain ⟨rfl,rfl,rfl,rfl,rfl,rfl,rfl,rfl⟩:=ef;obtain ⟨x0,x1,x2,x3,x4,x5,x6,x7⟩:=cells8 (fun j u hu=>kc (uh HL) (hat j u hu));generalize ha:a.add (i*8)=ad at *;have hln:((l.take i).map nrm).length=i:=by rw [List.length_map,List.length_take];omega
    have hi1:(i:Int) < (l.length:Int):=by omega
    go_upto_region 13 with fail;have hba:Below wr.heap.size wr (wr.alloc (.cells #[.int .i64 kk,.bool tt,.bool ng,.string dg2,.int .i64 ex2,.string xx,.slice c1 m1 k1,.slice c2 m2 k2] 27)):=(Below.refl _ wr).alloc (Nat.le_refl _) _;have hbx:BX (wr.alloc (.cells #[.int .i64 kk,.bool tt,.bool ng,.string dg2,.int .i64 ex2,.string xx,.slice c1 m1 k1,.slice c2 m2 k2] 27)) wr.heap.size [.int .i64 kk,.bool tt,.bool ng,.string dg2,.int .i64 ex2,.string xx,.slice c1 m1 k1,.slice c2 m2 k2]:=heap_alloc_new wr _;generalize wr.alloc (.cells #[.int .i64 kk,.bool tt,.bool ng,.string dg2,.int .i64 ex2,.string xx,.slice c1 m1 k1,.slice c2 m2 k2] 27)=wa at *;obtain ⟨y0,y1,y2,y3,y4,y5,y6,y7⟩:=hbx.cells;have hcn:=kc hba (kc (uh HL) (uh HC));have CN:=hide (uh HI v (List.mem_of_getElem? hv) [.int .i64 kk,.bool tt,.bool ng,.string dg2,.int .i64 ex2,.string xx,.slice c1 m1 k1,.slice c2 m2 k2] wa ((vA.keep (uh HL)).keep hba) hcn);have HBA:=hide hba;have HVI:=hide hv;have ADD:=hide (fun (u w4:World) (cs:List Value) (p:List Nat) (v':Value) q1 (q2:VRep u wr.heap.size (nrm v) cs p) q3 q4 q5 q6=>ll_add (w4:=w4) (v':=v') n2 n3 n4 n5 n6 q1 q2 q3 hz q4 q5 q6);have HO:=hide n2;rw [hln] at HO;have eg:=enter_norm1;have hwa:=hba.size;clear n2 n3 n4 n5 n6 hat hv vA hba hbx x0 x1 x2 x3 x4 x5 x6 x7 hb;unfold nv at hcn
    go_wp2_with (first
     | (go_at_call 46;refine (uh CN).mono ?_;rintro e u2 ⟨cs,pp,rfl,hr,hpn,hbl2⟩
        obtain ⟨b0,b1,b2,b3,b4,b5,b6,b7,rfl⟩:=hr.eight;have hb3:Below wr.heap.size wr u2:=(uh HBA).trans (hbl2.mono hwa);have HR2:=hide (hr.base hwa);have H18:=hide hr.vr.one;have O1:=hide (mm.row_below (mm.row_below (uh HO) hb3 (Nat.le_refl _)) ((Below.refl _ u2).alloc (Nat.le_refl _) (.cells #[b0,b1,b2,b3,b4,b5,b6,b7] 27)) (Nat.le_refl _));have S1:Hid (mm.SV (u2.alloc (.cells #[b0,b1,b2,b3,b4,b5,b6,b7] 27)) (.slice (some ⟨u2.heap.size,0,none⟩) 1 1) 1 8 [b0,b1,b2,b3,b4,b5,b6,b7]):=mm.sv_cells (heap_alloc_new u2 _) 1 8 rfl (by unfold maxLen;omega)
        have hB1:Hid (w.heap.size+2≤(u2.alloc (.cells #[b0,b1,b2,b3,b4,b5,b6,b7] 27)).heap.size):=by
         show _≤_;have:=hb3.size;rw [World.size_alloc]
         omega)
     | (at_builtin;refine mm.wpList_append_sv (P:=Tryz.prog) rfl _ _ 24 rfl (w.heap.size+2) 27 _ 8 112 undV infoVl rfl (by decide) _ _ i 1 _ _ rfl rfl (uh O1) (uh S1) (uh H18) (by unfold maxLen;omega) (by omega) (uh hB1) ?_
        intro v2 w2 o2 g2 l2))
    have hbe:Below (w.heap.size+2) wr w2:=mm.row_bl (uh O1) g2 ((hb3.mono hz).alloc (by have:=hb3.size;omega) _) (Nat.le_refl _) (uh hB1);refine ⟨⟨i+1,by omega,by go_num,?_,(uh HB).trans hbe⟩,by simp [intOf];omega⟩;have hfin:=uh ADD u2 w2 [b0,b1,b2,b3,b4,b5,b6,b7] pp v2 hb3 (uh HR2) hpn (by rw [hln];exact o2) g2 l2;rw [take_succ' (uh HVI),List.map_append];exact hfin
  · obtain rfl:i=l.length:=by omega
    rw [List.take_of_length_le (Nat.le_refl _)] at HN;obtain ⟨css,ps,n2,n3,n4,n5,n6⟩:=(uh HN).ex;obtain ⟨qa,qc,esv,_,_⟩:=mm.SV.form (mm.own_sv n2);subst esv;have yB:=(uh HX1).keep hb (by omega);obtain ⟨t0,t1,t2,t3,t4,t5,t6,t7⟩:=yB.cells;obtain ⟨f0,f1,f2,f3,f4,f5,f6,f7⟩:=yB.frees;have hX:=hide (st8_bx yB rfl (.int .i64 4) (.bool false) (.bool false) (.string ⟨#[]⟩) (.int .i64 0) (.string ⟨#[]⟩) (.slice qa (l.map nrm).length qc) (.slice none 0 0));have hU:=hide (st8_upd wr (w.heap.size+1) (.int .i64 4) (.bool false) (.bool false) (.string ⟨#[]⟩) (.int .i64 0) (.string ⟨#[]⟩) (.slice qa (l.map nrm).length qc) (.slice none 0 0))
    have HR:Hid (VRep wr w.heap.size (JT.mk 4 false zed ⟨#[]⟩ (l.map nrm) []) [.int .i64 4,.bool false,.bool zed.neg,.string zed.dg,.int .i64 zed.ex,.string ⟨#[]⟩,.slice qa (l.map nrm).length qc,.slice none 0 0] (own (.slice qa (l.map nrm).length qc)++own (.slice none 0 0)++ps.flatten++([]:List (List Nat)).flatten)) :=
     VRep.mk (css:=css) (gss:=[]) (owns_base n2 (by omega)) (World.ownsRow_nil _ _ _ _) n3 n4 rfl rfl (fun i v c p h1 h2 h3=>(n5 i v c p h1 h2 h3).base (by omega)) (fun i n v c p h=>by simp at h)
    have HN6:Hid ((own (.slice qa (l.map nrm).length qc)++own (.slice none 0 0)++ps.flatten++([]:List (List Nat)).flatten).Nodup):=by
     show (_:List Nat).Nodup;simpa [own,Value.ownBlock] using n6
    have hge:Hid (∀ b∈(own (.slice qa (l.map nrm).length qc)++own (.slice none 0 0)++ps.flatten++([]:List (List Nat)).flatten),b≠w.heap.size+1):=by
     intro b hbm;simp only [List.flatten_nil,List.append_nil,List.mem_append] at hbm
     rcases hbm with (hbm|hbm)|hbm
     · have:=(owns_ge n2 b hbm).1;omega
     · simp [own,Value.ownBlock] at hbm
     · obtain ⟨q,hq,hbq⟩:=List.mem_flatten.1 hbm
       obtain ⟨i,hi⟩:=List.getElem?_of_mem hq;obtain ⟨hlt,_⟩:=List.getElem?_eq_some_iff.1 hi;have:=((n5 i _ _ q (List.getElem?_eq_getElem (by omega)) (List.getElem?_eq_getElem (by omega)) hi).ge b hbq).1;omega
    have hno:¬ (l.length:Int) < (l.length:Int):=by omega
    clear n2 n3 n4 n5 n6 yB hb;go_wp2;have hX':=uh hX;have hU':=uh hU;have hR':VRep (st8 wr (w.heap.size+1) (.int .i64 4) (.bool false) (.bool false) (.string ⟨#[]⟩) (.int .i64 0) (.string ⟨#[]⟩) (.slice qa (l.map nrm).length qc) (.slice none 0 0)) w.heap.size (JT.mk 4 false zed ⟨#[]⟩ (l.map nrm) []) _ _:=(uh HR).keep fun b hbm=>hU'.block b (uh hge b hbm)
    have hL':=(uh HL).trans (hU'.below (Nat.le_succ _));have hN6:=uh HN6;simp only [st8,List.length_map] at hX' hR' hL' hN6;exact bodyPost_ret (ret_norm1 hX' _ rfl) rfl ⟨_,_,rfl,hR',hN6,hL'⟩
def CopyC:Prop:=∀ (v:JT) (cs:List Value) (w:World),Bd v→VR w v cs→Calls Tryz.prog 33 #[.agg cs.toArray] w (NP w v)
structure LD (w:World) (T:Nat) (v:JT) (csV csW:List Value) (ls fs:Value) (LS FS:List Value):Prop where
 bk:w.heap[T]?=some (.cells (csV++csW++[ls,fs]).toArray 36 (0,0))
 v1:VR w v csV
 v2:VR w v csW
 rl:w.ownsRow (T+1) 24 1 ls LS.length LS
 rf:w.ownsRow (T+1) 25 1 fs FS.length FS
 ml:∀ s∈LS,MkL w s
 mf:∀ s∈FS,MkF w s
 n:LS.length+FS.length≤200000000000
 mb:∀ s∈LS++FS,∀ b∈own s,T < b∧b < w.heap.size∧b ∉ own ls∧b ∉ own fs
theorem LD.sl {w:World}{T:Nat}{v:JT}{csV csW:List Value}{ls fs:Value}{LS FS:List Value} (h:LD w T v csV csW ls fs LS FS):mm.SV w ls LS.length 1 LS:=mm.own_sv h.rl
theorem LD.sf {w:World}{T:Nat}{v:JT}{csV csW:List Value}{ls fs:Value}{LS FS:List Value} (h:LD w T v csV csW ls fs LS FS):mm.SV w fs FS.length 1 FS:=mm.own_sv h.rf
theorem LD.keep {w w':World}{T:Nat}{v:JT}{csV csW:List Value}{ls fs:Value}{LS FS:List Value} (h:LD w T v csV csW ls fs LS FS) (hb:Below w.heap.size w w'):LD w' T v csV csW ls fs LS FS :=
 ⟨(hb.block T (blk_lt h.bk)).trans h.bk,h.v1.keep hb,h.v2.keep hb,mm.row_below h.rl hb (Nat.le_refl _),mm.row_below h.rf hb (Nat.le_refl _),fun s hs=>(EX.of_below hb).mkl (h.ml s hs) (fun b _=>by simp),fun s hs=>(EX.of_below hb).mkf (h.mf s hs) (fun b _=>by simp),h.n,
   fun s hs b hb2=>by
    obtain ⟨a1,a2,a3,a4⟩:=h.mb s hs b hb2
    exact ⟨a1,Nat.lt_of_lt_of_le a2 hb.size,a3,a4⟩⟩
theorem lent_set {w:World}{T:Nat}{b0 b1 b2 b3 b4 b5 b6 b7 c0 c1 c2 c3 c4 c5 c6 c7 ls fs:Value}{t:TypeId} (h:w.heap[T]?=some (.cells ([b0,b1,b2,b3,b4,b5,b6,b7,c0,c1,c2,c3,c4,c5,c6,c7]++[ls,fs]).toArray t (0,0))) (a0 a1 a2 a3 a4 a5 a6 a7:Value) :
 (st8 w T a0 a1 a2 a3 a4 a5 a6 a7).heap[T]?=some (.cells ([a0,a1,a2,a3,a4,a5,a6,a7]++[c0,c1,c2,c3,c4,c5,c6,c7]++[ls,fs]).toArray t (0,0)):=by
 have h8:=blk_set (blk_set (blk_set (blk_set (blk_set (blk_set (blk_set (blk_set h 0 a0) 1 a1) 2 a2) 3 a3) 4 a4) 5 a5) 6 a6) 7 a7;unfold st8;simpa using h8
def LendP (w:World) (v:JT) (e:Ending) (w':World):Prop:=∃ T csV csW ls fs LS FS,e=.returned (.pointer (some ⟨T,0,none⟩))∧w.heap.size≤T∧LD w' T v csV csW ls fs LS FS∧Below w.heap.size w w'
set_option maxRecDepth 100000 in
set_option maxHeartbeats 25600000 in
theorem rlend_any (RC:CopyC) (v:JT) (hb:Bd v) (hc:cntV v≤50000000000) (cs:List Value) (w:World) (h:VR w v cs):Calls Tryz.prog 11 #[.agg cs.toArray] w (LendP w v):=by
 obtain ⟨a0,a1,a2,a3,a4,a5,a6,a7,a8,a9,aa,ab,rfl⟩:=h.form;have HV:=hide h;have CC:=hide (fun u (hu:Below w.heap.size w u)=>RC v _ u hb (h.keep hu));have CM:=hide (fun (T:Nat) (hd:List Value) (hT:w.heap.size≤T) (u:World) (hu:Below w.heap.size w u) (hl:LN T hd u (.slice none 0 0) (.slice none 0 0) [] [])=>rmarked_any w T hd hT _ v _ u _ _ [] [] (Nat.lt_succ_self _) hb h hu hl (by simp only [List.length_nil];omega));have B1:=hide (ss.one_box w [.int .i64 a0,.bool a1,.bool a2,.string a3,.int .i64 a4,.string a5,.slice a6 a7 a8,.slice a9 aa ab]);have HC:=hide hc;clear h hb hc
 go_enter Tryz.func11,Tryz.ntmps11
 go_upto_region 1 with fail;obtain ⟨q0,q1,q2⟩:=uh B1 _ rfl;generalize w.alloc (.cells [.int .i64 a0,.bool a1,.bool a2,.string a3,.int .i64 a4,.string a5,.slice a6 a7 a8,.slice a9 aa ab].toArray 27)=W at *;obtain ⟨y0,y1,y2,y3,y4,y5,y6,y7⟩:=q0.cells;have HX:=hide q0;have HQ:=hide q1;have C1:=hide (uh CC W q1);clear q0 B1 CC
 go_upto_region 2 with (
  go_at_call 33
  refine (uh C1).mono ?_;rintro e u ⟨cs2,p2,rfl,hr2,hp2,hbu⟩;obtain ⟨c0,c1,c2,c3,c4,c5,c6,c7,c8,c9,ca,cb,rfl⟩:=hr2.form;have HR2:=hide hr2;have HBU:=hide hbu
  clear C1)
 have hTW:w.heap.size≤u.heap.size:=Nat.le_trans (uh HQ).size (uh HBU).size;have hbk:=heap_alloc_new u (.cells #[.int .i64 0,.bool false,.bool false,.string ⟨#[]⟩,.int .i64 0,.string ⟨#[]⟩,.slice none 0 0,.slice none 0 0,.int .i64 c0,.bool c1,.bool c2,.string c3,.int .i64 c4,.string c5,.slice c6 c7 c8,.slice c9 ca cb,.slice none 0 0,.slice none 0 0] 36);have hbb:Below u.heap.size u (u.alloc (.cells #[.int .i64 0,.bool false,.bool false,.string ⟨#[]⟩,.int .i64 0,.string ⟨#[]⟩,.slice none 0 0,.slice none 0 0,.int .i64 c0,.bool c1,.bool c2,.string c3,.int .i64 c4,.string c5,.slice c6 c7 c8,.slice c9 ca cb,.slice none 0 0,.slice none 0 0] 36)):=(Below.refl _ u).alloc (Nat.le_refl _) _;have hsz:(u.alloc (.cells #[.int .i64 0,.bool false,.bool false,.string ⟨#[]⟩,.int .i64 0,.string ⟨#[]⟩,.slice none 0 0,.slice none 0 0,.int .i64 c0,.bool c1,.bool c2,.string c3,.int .i64 c4,.string c5,.slice c6 c7 c8,.slice c9 ca cb,.slice none 0 0,.slice none 0 0] 36)).heap.size=u.heap.size+1:=World.size_alloc _ _;generalize u.alloc (.cells #[.int .i64 0,.bool false,.bool false,.string ⟨#[]⟩,.int .i64 0,.string ⟨#[]⟩,.slice none 0 0,.slice none 0 0,.int .i64 c0,.bool c1,.bool c2,.string c3,.int .i64 c4,.string c5,.slice c6 c7 c8,.slice c9 ca cb,.slice none 0 0,.slice none 0 0] 36)=W2 at *
 have hln:LN u.heap.size [.int .i64 0,.bool false,.bool false,.string ⟨#[]⟩,.int .i64 0,.string ⟨#[]⟩,.slice none 0 0,.slice none 0 0,.int .i64 c0,.bool c1,.bool c2,.string c3,.int .i64 c4,.string c5,.slice c6 c7 c8,.slice c9 ca cb] W2 (.slice none 0 0) (.slice none 0 0) [] [] :=
  ⟨rfl,hbk,World.ownsRow_nil _ _ _ _,World.ownsRow_nil _ _ _ _,fun b hb=>by simp [own,Value.ownBlock] at hb,fun s hs=>by simp at hs,fun s hs=>by simp at hs,fun s hs=>by simp at hs⟩
 have HW2:Hid (Below w.heap.size w W2):=((uh HQ).mono (Nat.le_refl _)).trans (((uh HBU).mono (uh HQ).size).trans (hbb.mono hTW));have CM2:=hide (uh CM u.heap.size _ hTW W2 (uh HW2) hln);have x:=((uh HX).keep ((uh HBU).trans (hbb.mono (uh HBU).size)) (blk_lt (uh HX))).cells;clear y0 y1 y2 y3 y4 y5 y6 y7;obtain ⟨y0,y1,y2,y3,y4,y5,y6,y7⟩:=x;have HSZ:=hide hsz;have HBB:=hide hbb;have HTW:=hide hTW;clear hbk hbb hsz hln CM hr2 hbu q1 q2
 go_upto_region 3 with (
  go_at_call 34
  refine (uh CM2).mono ?_;rintro e u3 ⟨cs3,p3,ls,fs,LS,FS,rfl,q⟩;obtain ⟨d0,d1,d2,d3,d4,d5,d6,d7,d8,d9,da,db,rfl⟩:=q.vr.form;have HQQ:=hide q;have hb3:=q.ln.bk;have m0:u3.cell? ⟨u.heap.size,0,none⟩=some (.int .i64 0):=blk_cell hb3 0;have n0:u3.frozen? ⟨u.heap.size,0,none⟩=false:=blk_free hb3 0;have m1:u3.cell? ⟨u.heap.size,1,none⟩=some (.bool false):=blk_cell hb3 1;have n1:u3.frozen? ⟨u.heap.size,1,none⟩=false:=blk_free hb3 1;have m2:u3.cell? ⟨u.heap.size,2,none⟩=some (.bool false):=blk_cell hb3 2;have n2:u3.frozen? ⟨u.heap.size,2,none⟩=false:=blk_free hb3 2;have m3:u3.cell? ⟨u.heap.size,3,none⟩=some (.string ⟨#[]⟩):=blk_cell hb3 3;have n3:u3.frozen? ⟨u.heap.size,3,none⟩=false:=blk_free hb3 3;have m4:u3.cell? ⟨u.heap.size,4,none⟩=some (.int .i64 0):=blk_cell hb3 4;have n4:u3.frozen? ⟨u.heap.size,4,none⟩=false:=blk_free hb3 4;have m5:u3.cell? ⟨u.heap.size,5,none⟩=some (.string ⟨#[]⟩):=blk_cell hb3 5;have n5:u3.frozen? ⟨u.heap.size,5,none⟩=false:=blk_free hb3 5;have m6:u3.cell? ⟨u.heap.size,6,none⟩=some (.slice none 0 0):=blk_cell hb3 6;have n6:u3.frozen? ⟨u.heap.size,6,none⟩=false:=blk_free hb3 6;have m7:u3.cell? ⟨u.heap.size,7,none⟩=some (.slice none 0 0):=blk_cell hb3 7;have n7:u3.frozen? ⟨u.heap.size,7,none⟩=false:=blk_free hb3 7
  clear q hb3 CM2)
 have q:=uh HQQ;have hsz:=uh HSZ;have hw2:=uh HW2;have hUp:=st8_upd u3 u.heap.size (.int .i64 d0) (.bool d1) (.bool d2) (.string d3) (.int .i64 d4) (.string d5) (.slice d6 d7 d8) (.slice d9 da db);have kU:=EX.upd hUp;have hlt:∀ b,W2.heap.size≤b→b ∉ [u.heap.size]:=fun b hb q=>by simp at q;omega
 have hfin:LendP w v (.returned (.pointer (some ⟨u.heap.size,0,none⟩))) (st8 u3 u.heap.size (.int .i64 d0) (.bool d1) (.bool d2) (.string d3) (.int .i64 d4) (.string d5) (.slice d6 d7 d8) (.slice d9 da db)):=by
  refine ⟨_,_,_,ls,fs,LS,FS,rfl,hTW,⟨lent_set q.ln.bk _ _ _ _ _ _ _ _,(kU.vrep q.vr fun b hb=>hlt b (q.vr.ge b hb).1).vr,?_,kU.row q.ln.rl (fun b hb q2=>?_),kU.row q.ln.rf (fun b hb q2=>?_),fun s hs=>kU.mkl (q.ln.ml s hs) fun b hb q2=>?_,fun s hs=>kU.mkf (q.ln.mf s hs) fun b hb q2=>?_,?_,fun s hs b hb=>?_⟩,?_⟩
  · have hr2:=uh HR2
    have hold:∀ b∈p2,b < u.heap.size:=fun b hb=>(hr2.ge b hb).2
    have h1:=hr2.keep fun b hb=>(uh HBB).block b (hold b hb)
    have h2:=q.ex.vrep h1 fun b hb q2=>by
     have:=hold b hb;simp [own,Value.ownBlock] at q2;omega
    exact (kU.vrep h2 fun b hb q2=>by have:=hold b hb;simp at q2;omega).vr
  · have:=(q.ln.lge b hb).1;simp at q2;omega
  · have:=(q.ln.fge b hb).1;simp at q2;omega
  · have:=(q.ln.mb s (List.mem_append_left _ hs) b hb).1;simp at q2;omega
  · have:=(q.ln.mb s (List.mem_append_right _ hs) b hb).1;simp at q2;omega
  · have h1:=q.cn
    have h2:=uh HC;simp only [List.length_nil] at h1;omega
  · obtain ⟨a1,a2,a3,a4⟩:=q.ln.mb s hs b hb
    exact ⟨a1,Nat.lt_of_lt_of_le a2 kU.size,a3,a4⟩
  · exact hw2.trans ((q.ex.below (B:=w.heap.size) (by have:=hw2.size;omega) fun x hx=>by simp [own,Value.ownBlock] at hx;omega).trans (hUp.below hTW))
 clear hUp kU q hlt;go_wp2;go_ret;simp only [st8] at hfin;exact hfin
def RwL (e sz:Nat) (w:World) (s:Value):Prop:=∃ b n c xs,s=.slice (some ⟨b,0,none⟩) n c∧w.ownsRow 0 e sz s n xs
theorem RwL.set {e sz:Nat}{w:World}{s:Value} (h:RwL e sz w s) (b j:Nat) (x:Value):RwL e sz (w.setCell ⟨b,j,none⟩ x) s:=by
 obtain ⟨b',n,c,xs,rfl,hr⟩:=h
 by_cases e:b=b'
 · subst e
   exact ⟨b,n,c,_,rfl,mm.row_set hr j x⟩
 · exact ⟨b',n,c,xs,rfl,mm.row_keep hr fun k hk=>Below.heap_setCell _ _ _ _ (by cases hk;exact fun q=>e q.symm)⟩
theorem row_el {w:World}{e sz b n c:Nat}{xs:List Value} (h:w.ownsRow 0 e sz (.slice (some ⟨b,0,none⟩) n c) n xs) {k:Nat} (hk:k < n):∀ j,j < sz→∃ z,w.cell? ⟨b,k*sz+j,none⟩=some z:=by
 intro j hj;have hl:xs.length=n*sz:=h.1;obtain ⟨a,c',e',_,_,hat⟩:=(mm.own_sv h).some (by omega);simp only [Value.slice.injEq,Option.some.injEq] at e';obtain ⟨rfl,_,_⟩:=e'
 have hlt:k*sz+j < xs.length:=by
  have h1:(k+1)*sz≤n*sz:=Nat.mul_le_mul_right sz hk;rw [Nat.succ_mul] at h1;omega
 have:=hat (k*sz+j) _ (List.getElem?_eq_getElem hlt);rw [mm.add0] at this;exact ⟨_,this⟩
structure TS (w0 u:World) (LS FS:List Value):Prop where
 rl:∀ s∈LS,RwL 27 8 u s
 rf:∀ s∈FS,RwL 62 9 u s
 ex:EX ((LS++FS).flatMap own) w0 u
theorem TS.set {w0 u:World}{LS FS:List Value} (h:TS w0 u LS FS) {b:Nat} (hb:b∈(LS++FS).flatMap own) (j:Nat) (x:Value):TS w0 (u.setCell ⟨b,j,none⟩ x) LS FS :=
 ⟨fun s hs=>(h.rl s hs).set b j x,fun s hs=>(h.rf s hs).set b j x,h.ex.trans (EX.set u b j x) (fun y hy=>.inl (by simp at hy;rw [hy];exact hb))⟩
theorem TS.start {w:World}{T:Nat}{v:JT}{csV csW:List Value}{ls fs:Value}{LS FS:List Value} (h:LD w T v csV csW ls fs LS FS):TS w w LS FS:=by
 refine ⟨fun s hs=>?_,fun s hs=>?_,EX.refl _ _⟩
 · obtain ⟨b,n,c,xs,rfl,hr,_⟩:=h.ml s hs
   exact ⟨b,_,c,xs,rfl,hr⟩
 · obtain ⟨b,n,c,xs,rfl,hr,_⟩:=h.mf s hs
   exact ⟨b,_,c,xs,rfl,hr⟩
theorem LD.off {w:World}{T:Nat}{v:JT}{csV csW:List Value}{ls fs:Value}{LS FS:List Value} (h:LD w T v csV csW ls fs LS FS):T ∉ (LS++FS).flatMap own∧(∀ b∈own ls,b ∉ (LS++FS).flatMap own)∧(∀ b∈own fs,b ∉ (LS++FS).flatMap own):=by
 refine ⟨fun q=>?_,fun b hb q=>?_,fun b hb q=>?_⟩
 · obtain ⟨s,hs,hq⟩:=List.mem_flatMap.1 q
   have:=(h.mb s hs T hq).1;omega
 · obtain ⟨s,hs,hq⟩:=List.mem_flatMap.1 q
   exact (h.mb s hs b hq).2.2.1 hb
 · obtain ⟨s,hs,hq⟩:=List.mem_flatMap.1 q
   exact (h.mb s hs b hq).2.2.2 hb
set_option maxRecDepth 100000 in
set_option maxHeartbeats 25600000 in
theorem rturn_any {w:World}{T:Nat}{v:JT}{csV csW:List Value}{ls fs:Value}{LS FS:List Value} (h:LD w T v csV csW ls fs LS FS) :
 Calls Tryz.prog 19 #[.pointer (some ⟨T,0,none⟩)] w fun e w'=>e=.returned (.tuple #[])∧EX ((LS++FS).flatMap own) w w':=by
 obtain ⟨a0,a1,a2,a3,a4,a5,a6,a7,a8,a9,aa,ab,rfl⟩:=h.v1.form;obtain ⟨b0,b1,b2,b3,b4,b5,b6,b7,b8,b9,ba,bb,rfl⟩:=h.v2.form;obtain ⟨oa,ca,rfl,_,_⟩:=h.sl.form;obtain ⟨ob,cb,rfl,_,_⟩:=h.sf.form;have HTS:=hide (TS.start h);have HNN:Hid (LS.length+FS.length≤200000000000):=h.n;have HC16:Hid (w.cell? ⟨T,16,none⟩=some (.slice oa LS.length ca)):=blk_cell h.bk 16;have HC17:Hid (w.cell? ⟨T,17,none⟩=some (.slice ob FS.length cb)):=blk_cell h.bk 17;have HT0:=hide h.off.1;have HO16:=hide h.off.2.1;have HO17:=hide h.off.2.2;have HRL:=hide h.rl;have HRF:=hide h.rf;clear h
 go_enter Tryz.func19,Tryz.ntmps19
 go_wp2
 go_loopw [2] (fun iv wr=>∃ i:Nat,i≤LS.length∧iv=.int .i64 (i:Int)∧Hid (TS w wr LS FS)) (fun iv _=>LS.length - (intOf iv).toNat)
 case atStart=>exact ⟨0,by omega,rfl,HTS⟩
 case round =>
  obtain ⟨i,hi,rfl,HR⟩:=hrel;have hnn:=uh HNN;have cT:=(uh HR).ex.cell (a:=⟨T,16,none⟩) (uh HT0) (uh HC16)
  by_cases hc:i < LS.length
  · obtain ⟨s,hs⟩:∃ s,LS[i]?=some s:=⟨_,List.getElem?_eq_getElem hc⟩
    obtain ⟨b,n,c,xs,rfl,hr⟩:=(uh HR).rl s (List.mem_of_getElem? hs);have HBM:Hid (b∈(LS++FS).flatMap own):=List.mem_flatMap.2 ⟨_,List.mem_append_left _ (List.mem_of_getElem? hs),by simp [own_sl]⟩
    have hnl:n≤9223372036854775807:=by
     obtain ⟨_,c',e,q1,q2⟩:=mm.SV.form (mm.own_sv hr);simp only [Value.slice.injEq] at e;unfold maxLen at q2;omega
    have HSI:=hide hs;have HMS:=hide (List.mem_of_getElem? hs);have hi1:(i:Int) < (LS.length:Int):=by omega
    clear hs hr xs;go_wp2
    go_loopw [3] (fun kv wr=>∃ k:Nat,k≤n∧kv=.int .i64 (k:Int)∧Hid (TS w wr LS FS)) (fun kv _=>n - (intOf kv).toNat)
    case atStart=>exact ⟨0,by omega,rfl,HR⟩
    case round =>
     obtain ⟨k,hk,rfl,HK⟩:=hrel;clear cT;have cT:=(uh HK).ex.cell (a:=⟨T,16,none⟩) (uh HT0) (uh HC16);obtain ⟨a,ca',e,_,_,hat⟩:=(mm.own_sv ((uh HK).ex.row (uh HRL) (uh HO16))).some (by omega);simp only [Value.slice.injEq] at e;obtain ⟨rfl,_,rfl⟩:=e;have cc:=hat i _ (uh HSI);clear hat
     by_cases hck:k < n
     · obtain ⟨b',n',c',xs,e,hr⟩:=(uh HK).rl _ (uh HMS)
       simp only [Value.slice.injEq,Option.some.injEq,Addr.mk.injEq] at e;obtain ⟨⟨rfl,_⟩,rfl,rfl⟩:=e;have hel:=row_el hr hck;obtain ⟨z0,y0⟩:=hel 0 (by omega);have f0:wr.frozen? ⟨b,k*8,none⟩=false:=mm.row_frz hr _;obtain ⟨z1,y1⟩:=hel 1 (by omega);have f1:wr.frozen? ⟨b,k*8+1,none⟩=false:=mm.row_frz hr _;obtain ⟨z2,y2⟩:=hel 2 (by omega);have f2:wr.frozen? ⟨b,k*8+2,none⟩=false:=mm.row_frz hr _;obtain ⟨z3,y3⟩:=hel 3 (by omega);have f3:wr.frozen? ⟨b,k*8+3,none⟩=false:=mm.row_frz hr _;obtain ⟨z4,y4⟩:=hel 4 (by omega);have f4:wr.frozen? ⟨b,k*8+4,none⟩=false:=mm.row_frz hr _;obtain ⟨z5,y5⟩:=hel 5 (by omega);have f5:wr.frozen? ⟨b,k*8+5,none⟩=false:=mm.row_frz hr _;obtain ⟨z6,y6⟩:=hel 6 (by omega);have f6:wr.frozen? ⟨b,k*8+6,none⟩=false:=mm.row_frz hr _;obtain ⟨z7,y7⟩:=hel 7 (by omega);have f7:wr.frozen? ⟨b,k*8+7,none⟩=false:=mm.row_frz hr _;rw [Nat.add_zero] at y0;have hadd:=mm.add0 b (k*8);have hk1:(k:Int) < (n:Int):=by omega
       clear hel hr;go_wp2
       exact ⟨⟨k+1,by omega,by go_num,by
        have hb:=uh HBM
        exact hide (((((((((uh HK).set hb _ _).set hb _ _).set hb _ _).set hb _ _).set hb _ _).set hb _ _).set hb _ _).set hb _ _)⟩,by simp [intOf];omega⟩
     · obtain rfl:k=n:=by omega
       have hno:¬ (k:Int) < (k:Int):=by omega
       go_wp2;exact ⟨⟨i+1,by omega,by go_num,HK⟩,by simp [intOf];omega⟩
  · obtain rfl:i=LS.length:=by omega
    have hno:¬ (LS.length:Int) < (LS.length:Int):=by omega
    go_wp2;clear cT
    go_loopw [4] (fun iv wr=>∃ i:Nat,i≤FS.length∧iv=.int .i64 (i:Int)∧Hid (TS w wr LS FS)) (fun iv _=>FS.length - (intOf iv).toNat)
    case atStart=>exact ⟨0,by omega,rfl,HR⟩
    case round =>
     obtain ⟨i,hi,rfl,HR⟩:=hrel;have hnn:=uh HNN;have cT:=(uh HR).ex.cell (a:=⟨T,17,none⟩) (uh HT0) (uh HC17)
     by_cases hc:i < FS.length
     · obtain ⟨s,hs⟩:∃ s,FS[i]?=some s:=⟨_,List.getElem?_eq_getElem hc⟩
       obtain ⟨b,n,c,xs,rfl,hr⟩:=(uh HR).rf s (List.mem_of_getElem? hs);have HBM:Hid (b∈(LS++FS).flatMap own):=List.mem_flatMap.2 ⟨_,List.mem_append_right _ (List.mem_of_getElem? hs),by simp [own_sl]⟩
       have hnl:n≤9223372036854775807:=by
        obtain ⟨_,c',e,q1,q2⟩:=mm.SV.form (mm.own_sv hr);simp only [Value.slice.injEq] at e;unfold maxLen at q2;omega
       have HSI:=hide hs;have HMS:=hide (List.mem_of_getElem? hs);have hi1:(i:Int) < (FS.length:Int):=by omega
       clear hs hr xs;go_wp2
       go_loopw [5] (fun kv wr=>∃ k:Nat,k≤n∧kv=.int .i64 (k:Int)∧Hid (TS w wr LS FS)) (fun kv _=>n - (intOf kv).toNat)
       case atStart=>exact ⟨0,by omega,rfl,HR⟩
       case round =>
        obtain ⟨k,hk,rfl,HK⟩:=hrel;clear cT;have cT:=(uh HK).ex.cell (a:=⟨T,17,none⟩) (uh HT0) (uh HC17);obtain ⟨a,ca',e,_,_,hat⟩:=(mm.own_sv ((uh HK).ex.row (uh HRF) (uh HO17))).some (by omega);simp only [Value.slice.injEq] at e;obtain ⟨rfl,_,rfl⟩:=e;have cc:=hat i _ (uh HSI);clear hat
        by_cases hck:k < n
        · obtain ⟨b',n',c',xs,e,hr⟩:=(uh HK).rf _ (uh HMS)
          simp only [Value.slice.injEq,Option.some.injEq,Addr.mk.injEq] at e;obtain ⟨⟨rfl,_⟩,rfl,rfl⟩:=e;have hel:=row_el hr hck;obtain ⟨z0,y0⟩:=hel 0 (by omega);have f0:wr.frozen? ⟨b,k*9,none⟩=false:=mm.row_frz hr _;obtain ⟨z1,y1⟩:=hel 1 (by omega);have f1:wr.frozen? ⟨b,k*9+1,none⟩=false:=mm.row_frz hr _;obtain ⟨z2,y2⟩:=hel 2 (by omega);have f2:wr.frozen? ⟨b,k*9+2,none⟩=false:=mm.row_frz hr _;obtain ⟨z3,y3⟩:=hel 3 (by omega);have f3:wr.frozen? ⟨b,k*9+3,none⟩=false:=mm.row_frz hr _;obtain ⟨z4,y4⟩:=hel 4 (by omega);have f4:wr.frozen? ⟨b,k*9+4,none⟩=false:=mm.row_frz hr _;obtain ⟨z5,y5⟩:=hel 5 (by omega);have f5:wr.frozen? ⟨b,k*9+5,none⟩=false:=mm.row_frz hr _;obtain ⟨z6,y6⟩:=hel 6 (by omega);have f6:wr.frozen? ⟨b,k*9+6,none⟩=false:=mm.row_frz hr _;obtain ⟨z7,y7⟩:=hel 7 (by omega);have f7:wr.frozen? ⟨b,k*9+7,none⟩=false:=mm.row_frz hr _;obtain ⟨z8,y8⟩:=hel 8 (by omega);have f8:wr.frozen? ⟨b,k*9+8,none⟩=false:=mm.row_frz hr _;rw [Nat.add_zero] at y0;have hadd:=mm.add0 b (k*9);have hk1:(k:Int) < (n:Int):=by omega
          clear hel hr;go_wp2
          exact ⟨⟨k+1,by omega,by go_num,by
           have hb:=uh HBM
           exact hide ((((((((((uh HK).set hb _ _).set hb _ _).set hb _ _).set hb _ _).set hb _ _).set hb _ _).set hb _ _).set hb _ _).set hb _ _)⟩,by simp [intOf];omega⟩
        · obtain rfl:k=n:=by omega
          have hno:¬ (k:Int) < (k:Int):=by omega
          go_wp2;exact ⟨⟨i+1,by omega,by go_num,HK⟩,by simp [intOf];omega⟩
     · obtain rfl:i=FS.length:=by omega
       have hno:¬ (FS.length:Int) < (FS.length:Int):=by omega
       go_wp2;refine bodyPost_end (results_none rfl _ _ _) rfl ?_;exact ⟨rfl,by rw [← List.flatMap_append];exact (uh HR).ex⟩
set_option maxRecDepth 100000 in
set_option maxHeartbeats 25600000 in
theorem rkept_any {w:World}{T:Nat}{v:JT}{csV csW:List Value}{ls fs:Value}{LS FS:List Value} (h:LD w T v csV csW ls fs LS FS) :
 Calls Tryz.prog 13 #[.pointer (some ⟨T,0,none⟩)] w fun e w'=>e=.returned (.bool true)∧Below w.heap.size w w':=by
 obtain ⟨a0,a1,a2,a3,a4,a5,a6,a7,a8,a9,aa,ab,rfl⟩:=h.v1.form;obtain ⟨b0,b1,b2,b3,b4,b5,b6,b7,b8,b9,ba,bb,rfl⟩:=h.v2.form;obtain ⟨oa,ca,rfl,_,_⟩:=h.sl.form;obtain ⟨ob,cb,rfl,_,_⟩:=h.sf.form;have CL:=hide (fun u (hu:Below w.heap.size w u)=>rlike_any _ v v _ _ u (Nat.lt_succ_self _) (h.v1.keep hu) (h.v2.keep hu));have HLD0:=hide h;have HNN:Hid (LS.length+FS.length≤200000000000):=h.n;have hb:=h.bk;have k0:w.cell? ⟨T,0,none⟩=some (.int .i64 a0):=blk_cell hb 0;have k1:w.cell? ⟨T,1,none⟩=some (.bool a1):=blk_cell hb 1;have k2:w.cell? ⟨T,2,none⟩=some (.bool a2):=blk_cell hb 2;have k3:w.cell? ⟨T,3,none⟩=some (.string a3):=blk_cell hb 3;have k4:w.cell? ⟨T,4,none⟩=some (.int .i64 a4):=blk_cell hb 4;have k5:w.cell? ⟨T,5,none⟩=some (.string a5):=blk_cell hb 5;have k6:w.cell? ⟨T,6,none⟩=some (.slice a6 a7 a8):=blk_cell hb 6;have k7:w.cell? ⟨T,7,none⟩=some (.slice a9 aa ab):=blk_cell hb 7;have k8:w.cell? ⟨T,8,none⟩=some (.int .i64 b0):=blk_cell hb 8;have k9:w.cell? ⟨T,9,none⟩=some (.bool b1):=blk_cell hb 9;have k10:w.cell? ⟨T,10,none⟩=some (.bool b2):=blk_cell hb 10;have k11:w.cell? ⟨T,11,none⟩=some (.string b3):=blk_cell hb 11;have k12:w.cell? ⟨T,12,none⟩=some (.int .i64 b4):=blk_cell hb 12;have k13:w.cell? ⟨T,13,none⟩=some (.string b5):=blk_cell hb 13;have k14:w.cell? ⟨T,14,none⟩=some (.slice b6 b7 b8):=blk_cell hb 14;have k15:w.cell? ⟨T,15,none⟩=some (.slice b9 ba bb):=blk_cell hb 15;have k16:w.cell? ⟨T,16,none⟩=some (.slice oa LS.length ca):=blk_cell hb 16;have k17:w.cell? ⟨T,17,none⟩=some (.slice ob FS.length cb):=blk_cell hb 17;clear h hb
 go_enter Tryz.func13,Tryz.ntmps13
 go_upto_region 1 with fail;have CL1:=hide (uh CL w.drew ((Below.refl _ w).drew))
 go_cut [3] from 8 (fun s3 wx=>s3=.bool true∧Below w.heap.size w wx)
 case first =>
  go_region_law (go_simp;go_at_call 22;refine (uh CL1).mono ?_;rintro e u ⟨b,rfl,hbb,hl0⟩;have hbt:=hbb.2 rfl;subst hbt;have hl:Below w.heap.size w u:=⟨hl0.os,hl0.tape,hl0.output,hl0.size,hl0.block⟩)
  all_goals go_wp2
  all_goals go_meet
  all_goals exact ⟨rfl,hl⟩
 case rest =>
  obtain ⟨rfl,hl⟩:=hcut;obtain ⟨u,hu⟩:∃ u,u=wc:=⟨_,rfl⟩;subst hu;have HLD:=hide ((uh HLD0).keep hl);have HBL:=hide hl;have hb:=(uh HLD).bk;clear HLD0 CL CL1 hl k0 k1 k2 k3 k4 k5 k6 k7 k8 k9 k10 k11 k12 k13 k14 k15 k16 k17;have k0:u.cell? ⟨T,0,none⟩=some (.int .i64 a0):=blk_cell hb 0;have k1:u.cell? ⟨T,1,none⟩=some (.bool a1):=blk_cell hb 1;have k2:u.cell? ⟨T,2,none⟩=some (.bool a2):=blk_cell hb 2;have k3:u.cell? ⟨T,3,none⟩=some (.string a3):=blk_cell hb 3;have k4:u.cell? ⟨T,4,none⟩=some (.int .i64 a4):=blk_cell hb 4;have k5:u.cell? ⟨T,5,none⟩=some (.string a5):=blk_cell hb 5;have k6:u.cell? ⟨T,6,none⟩=some (.slice a6 a7 a8):=blk_cell hb 6;have k7:u.cell? ⟨T,7,none⟩=some (.slice a9 aa ab):=blk_cell hb 7;have k8:u.cell? ⟨T,8,none⟩=some (.int .i64 b0):=blk_cell hb 8;have k9:u.cell? ⟨T,9,none⟩=some (.bool b1):=blk_cell hb 9;have k10:u.cell? ⟨T,10,none⟩=some (.bool b2):=blk_cell hb 10;have k11:u.cell? ⟨T,11,none⟩=some (.string b3):=blk_cell hb 11;have k12:u.cell? ⟨T,12,none⟩=some (.int .i64 b4):=blk_cell hb 12;have k13:u.cell? ⟨T,13,none⟩=some (.string b5):=blk_cell hb 13;have k14:u.cell? ⟨T,14,none⟩=some (.slice b6 b7 b8):=blk_cell hb 14;have k15:u.cell? ⟨T,15,none⟩=some (.slice b9 ba bb):=blk_cell hb 15;have k16:u.cell? ⟨T,16,none⟩=some (.slice oa LS.length ca):=blk_cell hb 16;have k17:u.cell? ⟨T,17,none⟩=some (.slice ob FS.length cb):=blk_cell hb 17;clear hb;go_wp2
  go_loopw [4] (fun iv wr=>∃ i:Nat,i≤LS.length∧iv=.int .i64 (i:Int)∧u=wr) (fun iv _=>LS.length - (intOf iv).toNat)
  case atStart=>exact ⟨0,by omega,rfl,rfl⟩
  case round =>
   obtain ⟨i,hi,rfl,hwr⟩:=hrel;subst hwr;have hnn:=uh HNN
   by_cases hc:i < LS.length
   · obtain ⟨s,hs⟩:∃ s,LS[i]?=some s:=⟨_,List.getElem?_eq_getElem hc⟩
     obtain ⟨b,n,c,rfl,hc1,hc2,hk1,hk2⟩:=((uh HLD).ml s (List.mem_of_getElem? hs)).cells;obtain ⟨a,ca',e,_,_,hat⟩:=(uh HLD).sl.some (by omega);simp only [Value.slice.injEq] at e;obtain ⟨rfl,_,rfl⟩:=e;have cc:=hat i _ hs;have hn2:(n:Int)+2≤9223372036854775807:=by unfold maxLen at hc2;omega
     have hi1:(i:Int) < (LS.length:Int):=by omega
     have hadd1:=mm.add0 b (n*8);have hadd2:=mm.add0 b ((n+1)*8);have e1:((n+2:Nat):Int) - 2=(n:Int):=by omega
     have e2:((n+2:Nat):Int) - 1=((n+1:Nat):Int):=by omega
     clear hat hc1 hc2 hs;go_wp2;exact ⟨⟨i+1,by omega,by go_num,by first|rfl|trivial⟩,by simp [intOf];omega⟩
   · obtain rfl:i=LS.length:=by omega
     have hno:¬ (LS.length:Int) < (LS.length:Int):=by omega
     go_wp2
     go_loopw [6] (fun iv wr=>∃ i:Nat,i≤FS.length∧iv=.int .i64 (i:Int)∧u=wr) (fun iv _=>FS.length - (intOf iv).toNat)
     case atStart=>exact ⟨0,by omega,rfl,rfl⟩
     case round =>
      obtain ⟨i,hi,rfl,hwr⟩:=hrel;subst hwr;have hnn:=uh HNN
      by_cases hc:i < FS.length
      · obtain ⟨s,hs⟩:∃ s,FS[i]?=some s:=⟨_,List.getElem?_eq_getElem hc⟩
        obtain ⟨b,n,c,rfl,hc1,hc2,hk1,hk2⟩:=((uh HLD).mf s (List.mem_of_getElem? hs)).cells;obtain ⟨a,ca',e,_,_,hat⟩:=(uh HLD).sf.some (by omega);simp only [Value.slice.injEq] at e;obtain ⟨rfl,_,rfl⟩:=e;have cc:=hat i _ hs;have hn2:(n:Int)+2≤9223372036854775807:=by unfold maxLen at hc2;omega
        have hi1:(i:Int) < (FS.length:Int):=by omega
        have hadd1:=mm.add0 b (n*9);have hadd2:=mm.add0 b ((n+1)*9);have e1:((n+2:Nat):Int) - 2=(n:Int):=by omega
        have e2:((n+2:Nat):Int) - 1=((n+1:Nat):Int):=by omega
        clear hat hc1 hc2 hs;go_wp2;exact ⟨⟨i+1,by omega,by go_num,by first|rfl|trivial⟩,by simp [intOf];omega⟩
      · obtain rfl:i=FS.length:=by omega
        have hno:¬ (FS.length:Int) < (FS.length:Int):=by omega
        go_wp2;go_ret;exact ⟨rfl,uh HBL⟩
end Go.Proofs.YthakglomacijgaaGreatDoor.rd
