/- Texts in one: Sq Sr St De De2 Eq2 Sme Smc Sv Sy -/
import Derived.Test.YthnhobplgmojeaaGreatDoorShP
import Derived.Laws.EntriesVeiled
import Derived.Test.YthnhobplgmojeaaGreatDoorIiP
import Derived.Test.YthnhobplgmojeaaGreatDoorSaP
namespace Go.Proofs.YthnhobplgmojeaaGreatDoor.rd
open Go.RowKit
theorem ret_jnorm {m:Nat}{w:World}{a0 a1 a2 a3 a4 a5 a6 a7:Value} (h:BX w m [a0,a1,a2,a3,a4,a5,a6,a7]) (tmps:Array Value) (h2:tmps[2]?.getD undef=.pointer (some ⟨m,0,none⟩)) :
 (results Tryz.f96 tmps).run Tryz.prog w=.ok (.agg #[a0,a1,a2,a3,a4,a5,a6,a7]) w:=by
 obtain ⟨q0,q1,q2,q3,q4,q5,q6,q7⟩:=BX.cells h;simp [results,Tryz.results96,h2,go_sem,q0,q1,q2,q3,q4,q5,q6,q7]
theorem box_fn (w:World) (ca cb:List Value) (fv:Value) (ty:Nat):∀ W,W=((w.alloc (.cells ca.toArray 28)).alloc (.cells cb.toArray 28)).alloc (.cells #[fv] ty)→BX W w.heap.size ca∧BX W (w.heap.size+1) cb∧W.cell? ⟨w.heap.size+2,0,none⟩=some fv∧Below w.heap.size w W∧W.heap.size=w.heap.size+3:=by
 rintro W rfl;obtain ⟨h1,h2,h3⟩:=box_two w ca cb;have hz:((w.alloc (.cells ca.toArray 28)).alloc (.cells cb.toArray 28)).heap.size=w.heap.size+2:=by rw [World.size_alloc,World.size_alloc]
 have hA:=(Below.refl ((w.alloc (.cells ca.toArray 28)).alloc (.cells cb.toArray 28)).heap.size ((w.alloc (.cells ca.toArray 28)).alloc (.cells cb.toArray 28))).alloc (Nat.le_refl _) (.cells #[fv] ty);refine ⟨h1.keep hA (by omega),h2.keep hA (by omega),?_,h3.trans (hA.mono (by omega)),by rw [World.size_alloc,hz]⟩;have:=heap_alloc_new ((w.alloc (.cells ca.toArray 28)).alloc (.cells cb.toArray 28)) (.cells #[fv] ty);rw [hz] at this;exact blk_cell this 0
set_option maxRecDepth 100000 in
set_option maxHeartbeats 3200000 in
theorem jnorm_of (v:JT) (C:∀ (nb:Nat) (cs:List Value) (w:World),VR w v cs→w.cell? ⟨nb,0,none⟩=some (nv nb)→Calls Tryz.prog 113 #[.agg cs.toArray,.pointer (some ⟨nb,0,none⟩)] w (NP w (nrm v)))
 (cs:List Value) (w:World) (h:VR w v cs):Calls Tryz.prog 96 #[.agg cs.toArray] w (NP w (nrm v)):=by
 obtain ⟨kk,tt,ng,dg2,ex2,xx,c1,m1,k1,c2,m2,k2,rfl⟩:=h.form;have HV:=hide h;have HC:=hide C;clear h C;have B3:=hide (box_fn w [.int .i64 kk,.bool tt,.bool ng,.string dg2,.int .i64 ex2,.string xx,.slice c1 m1 k1,.slice c2 m2 k2] zcells (nv (w.heap.size+2)) 57);unfold zcells nv at B3
 go_enter Tryz.func96,Tryz.ntmps96
 go_upto_region 3 with fail;obtain ⟨q0,q1,q2,q3,q4⟩:=uh B3 _ rfl;generalize ((w.alloc (.cells [.int .i64 kk,.bool tt,.bool ng,.string dg2,.int .i64 ex2,.string xx,.slice c1 m1 k1,.slice c2 m2 k2].toArray 28)).alloc (.cells [.int .i64 0,.bool false,.bool false,.string ⟨#[]⟩,.int .i64 0,.string ⟨#[]⟩,.slice none 0 0,.slice none 0 0].toArray 28)).alloc (.cells #[.func (.func 113) #[] #[.pointer (some ⟨w.heap.size+2,0,none⟩)]] 57)=W at *;obtain ⟨y0,y1,y2,y3,y4,y5,y6,y7⟩:=q0.cells;have CN:=hide (uh HC (w.heap.size+2) _ W ((uh HV).keep q3) q2);have HX1:=hide q1;have HBW:=hide q3;have HZ:=hide q4;have eg:=enter_norm1;clear B3 q0 q1 q3 q4
 go_wp2_with (go_at_call 113;refine (uh CN).mono ?_;rintro e u2 ⟨cs,pp,rfl,hr,hpn,hbl2⟩
              obtain ⟨kk',tt',ng',dg',ex',xx',c1',m1',k1',c2',m2',k2',rfl⟩:=hr.form;have yB:=(uh HX1).keep hbl2 (by have:=uh HZ;omega);obtain ⟨t0,t1,t2,t3,t4,t5,t6,t7⟩:=yB.cells;obtain ⟨f0,f1,f2,f3,f4,f5,f6,f7⟩:=yB.frees;have hX:=hide (st8_bx yB rfl (.int .i64 kk') (.bool tt') (.bool ng') (.string dg') (.int .i64 ex') (.string xx') (.slice c1' m1' k1') (.slice c2' m2' k2'));have hU:=hide (st8_upd u2 (w.heap.size+1) (.int .i64 kk') (.bool tt') (.bool ng') (.string dg') (.int .i64 ex') (.string xx') (.slice c1' m1' k1') (.slice c2' m2' k2'))
              clear yB)
 have hX':=uh hX;have hU':=uh hU;have hz:=uh HZ;have hR':=(hr.keep fun b hb=>hU'.block b (by have:=(hr.ge b hb).1;omega)).base (show w.heap.size≤W.heap.size by omega);have hL':=((uh HBW).trans (hbl2.mono (by omega))).trans (hU'.below (Nat.le_succ _));simp only [st8] at hX' hR' hL';exact bodyPost_ret (ret_jnorm hX' _ rfl) rfl ⟨_,_,rfl,hR',hpn,hL'⟩
theorem fcs_map:∀ (g:List (ByteArray × JT)) (css:List (List Value)),fcs (g.map fun p=>(p.1,nrm p.2)) css=fcs g css
 | [],_=>rfl
 | _::_,[]=>rfl
 | p::g,c::css=>by rw [List.map_cons,fcs_cons,fcs_cons,fcs_map g css]
set_option maxRecDepth 100000 in
set_option maxHeartbeats 6400000 in
theorem norm1_obj (nb:Nat) (t:Bool) (dn:Bool) (dg:ByteArray) (dx:Int) (x:ByteArray) (g:List (ByteArray × JT)) (lv fv:Value) (w:World) (hl:g.length≤100000000000)
 (hc:w.cell? ⟨nb,0,none⟩=some (nv nb))
 (FC:∀ u,Below w.heap.size w u→Calls Tryz.prog 115 #[.agg #[.int .i64 5,.bool t,.bool dn,.string dg,.int .i64 dx,.string x,lv,fv]] u (FP w u g))
 (IH:∀ p∈g,∀ (cs:List Value) (w:World),VR w p.2 cs→w.cell? ⟨nb,0,none⟩=some (nv nb)→Calls Tryz.prog 113 #[.agg cs.toArray,.pointer (some ⟨nb,0,none⟩)] w (NP w (nrm p.2))) :
 Calls Tryz.prog 113 #[.agg #[.int .i64 5,.bool t,.bool dn,.string dg,.int .i64 dx,.string x,lv,fv],.pointer (some ⟨nb,0,none⟩)] w (NP w (JT.mk 5 false zed ⟨#[]⟩ [] (g.map fun p=>(p.1,nrm p.2)))):=by
 have HI:=hide IH;have HC:=hide hc;have HF:=hide FC;clear IH hc FC;have B3:=hide (box_two w [.int .i64 5,.bool t,.bool dn,.string dg,.int .i64 dx,.string x,lv,fv] [.int .i64 0,.bool false,.bool false,.string ⟨#[]⟩,.int .i64 0,.string ⟨#[]⟩,.slice none 0 0,.slice none 0 0])
 go_enter Tryz.func113,Tryz.ntmps113
 go_upto_region 17 with fail;obtain ⟨q0,q1,q3⟩:=uh B3;have q4:((w.alloc (.cells [.int .i64 5,.bool t,.bool dn,.string dg,.int .i64 dx,.string x,lv,fv].toArray 28)).alloc (.cells [.int .i64 0,.bool false,.bool false,.string ⟨#[]⟩,.int .i64 0,.string ⟨#[]⟩,.slice none 0 0,.slice none 0 0].toArray 28)).heap.size=w.heap.size+2:=by rw [World.size_alloc,World.size_alloc]
 generalize (w.alloc (.cells [.int .i64 5,.bool t,.bool dn,.string dg,.int .i64 dx,.string x,lv,fv].toArray 28)).alloc (.cells [.int .i64 0,.bool false,.bool false,.string ⟨#[]⟩,.int .i64 0,.string ⟨#[]⟩,.slice none 0 0,.slice none 0 0].toArray 28)=W at *;have HX1:=hide q1;have HBW:=hide q3;have HZ:=hide q4;have CF:=hide (uh HF W q3);obtain ⟨y0,y1,y2,y3,y4,y5,y6,y7⟩:=q0.cells;clear q0 q1 q3 q4 B3 HF
 go_wp2_with (go_at_call 115;refine (uh CF).mono ?_;rintro e w1 ⟨sv,css0,rfl,r1,r2,r3,r4⟩
              have R0:Hid (OO w (w.heap.size+2) w1 sv g 0):=⟨css0,[],by rw [← uh HZ];exact r1,r2,rfl,fun j p c q _ _ h=>by simp at h,fun j p c _ h1 h2=>r3 j p c h1 h2,by unfold own;cases sv.ownBlock <;> simp⟩;have hB0:=hide r4
              have hf0:∃ oa c,sv=.slice oa g.length c:=by
               obtain ⟨oa,c,e,_⟩:=mm.SV.form (mm.own_sv r1);exact ⟨oa,c,e⟩
              obtain ⟨oa,c,rfl⟩:=hf0
              clear r1 r2 r3 r4)
 go_loopw [52] (fun iv wr=>∃ i:Nat,i≤g.length∧iv=.int .i64 (i:Int)∧Hid (OO w (w.heap.size+2) wr (.slice oa g.length c) g i)∧Hid (Below (w.heap.size+2) W wr)) (fun iv _=>g.length - (intOf iv).toNat)
 case atStart=>exact ⟨0,by omega,rfl,R0,by have:=uh HZ;rw [← this];exact uh hB0⟩
 case round =>
  obtain ⟨i,hi,rfl,HN,HB⟩:=hrel;have hb:=uh HB;have HL:=hide ((uh HBW).trans (hb.mono (by omega)));have hz:w.heap.size+2≤wr.heap.size:=by rw [← uh HZ];exact hb.size
  clear R0 hB0
  by_cases hc:i < g.length
  · obtain ⟨css,ps,n1,n2,n3,n4,n5,n6⟩:=(uh HN).ex
    obtain ⟨p,hp⟩:∃ p,g[i]?=some p:=⟨_,List.getElem?_eq_getElem hc⟩;obtain ⟨cc,hcc⟩:∃ c,css[i]?=some c:=⟨_,List.getElem?_eq_getElem (by omega)⟩;have vA:=n5 i p cc (Nat.le_refl _) hp hcc;obtain ⟨kk,tt,ng,dg2,ex2,xx,c1,m1,k1,c2,m2,k2,rfl⟩:=vA.form;have h8:=oo_len n2 n3 n4 n5
    obtain ⟨g0,rfl⟩:∃ g0,oa=some ⟨g0,0,none⟩:=by
     rcases n1.2 with ⟨_,h0⟩|⟨g0,cap,cur,e,_⟩
     · omega
     · simp only [Value.slice.injEq] at e
       exact ⟨g0,e.1⟩
    obtain ⟨_,a',c',e,_,_,_,hat0⟩:=mm.own_sv n1;simp only [Value.slice.injEq] at e;obtain ⟨rfl,_,rfl⟩:=e
    have hat:∀ (j:Nat) (u:Value),[.string p.1,.int .i64 kk,.bool tt,.bool ng,.string dg2,.int .i64 ex2,.string xx,.slice c1 m1 k1,.slice c2 m2 k2][j]?=some u→wr.cell? (((⟨g0,0,none⟩:Addr).add (i*9)).add j)=some u:=by
     intro j u hu;have hj:j < 9:=(List.getElem?_eq_some_iff.1 hu).1;rw [mm.add_add];exact hat0 _ rfl _ u (by rw [fcs_at h8 hp hcc hj];exact hu)
    obtain ⟨xn,x0,x1,x2,x3,x4,x5,x6,x7⟩:=cells9 hat;have FRZ:=hide (fun (u:World) (hu:Below wr.heap.size wr u) (j:Nat)=>mm.row_frz (mm.row_below n1 hu (Nat.le_refl _)) j);have STEP:=hide (fun (u:World) (a0 a1 a2 a3 a4 a5 a6 a7:Value) (q:List Nat) q1 (q2:VRep u wr.heap.size (nrm p.2) [a0,a1,a2,a3,a4,a5,a6,a7] q) q3=>oo_step n1 n2 n3 n4 n5 n6 hp q1 q2 q3 hz);have hcn:=kc (uh HL) (uh HC);have hdr:Below wr.heap.size wr wr.drew:=⟨rfl,rfl,rfl,Nat.le_refl _,fun _ _=>rfl⟩;have CN:=hide (uh HI p (List.mem_of_getElem? hp) _ wr.drew ((vA.keep (uh HL)).keep hdr) (kc hdr hcn));have HG0:Hid (w.heap.size+2≤g0):=(mm.row_lt n1 g0 rfl).1;have eg:=enter_norm1;have hi1:(i:Int) < (g.length:Int):=by omega
    generalize ha0:(⟨g0,0,none⟩:Addr)=a at *;generalize ha:a.add (i*9)=ad at *
    have HA:Hid (ad=⟨g0,i*9,none⟩):=by
     show _=_;rw [← ha,← ha0,mm.add0]
    unfold nv at hcn;clear n1 n2 n3 n4 n5 n6 h8 hat hat0 hp hcc vA hb hdr;go_upto_region 21 with fail
    go_region_law (go_simp;go_at_call 113;refine (uh CN).mono ?_;rintro e u2 ⟨cs,pp,rfl,hr,hpn,hbl2⟩
                   obtain ⟨kk',tt',ng',dg',ex',xx',c1',m1',k1',c2',m2',k2',rfl⟩:=hr.form;have hb3:Below wr.heap.size wr u2:=⟨hbl2.os,hbl2.tape,hbl2.output,hbl2.size,hbl2.block⟩;have k0:=kc hb3 x0;have k1:=kc hb3 x1;have k2:=kc hb3 x2;have k3:=kc hb3 x3;have k4:=kc hb3 x4;have k5:=kc hb3 x5;have k6:=kc hb3 x6;have k7:=kc hb3 x7;have fr:=hide (uh FRZ u2 hb3);have z0:u2.frozen? ⟨ad.block,ad.off+1,none⟩=false:=by rw [uh HA];exact uh fr _
                   have z1:u2.frozen? ⟨ad.block,ad.off+1+1,none⟩=false:=by rw [uh HA];exact uh fr _
                   have z2:u2.frozen? ⟨ad.block,ad.off+1+2,none⟩=false:=by rw [uh HA];exact uh fr _
                   have z3:u2.frozen? ⟨ad.block,ad.off+1+3,none⟩=false:=by rw [uh HA];exact uh fr _
                   have z4:u2.frozen? ⟨ad.block,ad.off+1+4,none⟩=false:=by rw [uh HA];exact uh fr _
                   have z5:u2.frozen? ⟨ad.block,ad.off+1+5,none⟩=false:=by rw [uh HA];exact uh fr _
                   have z6:u2.frozen? ⟨ad.block,ad.off+1+6,none⟩=false:=by rw [uh HA];exact uh fr _
                   have z7:u2.frozen? ⟨ad.block,ad.off+1+7,none⟩=false:=by rw [uh HA];exact uh fr _)
    all_goals clear k0 k1 k2 k3 k4 k5 k6 k7 x0 x1 x2 x3 x4 x5 x6 x7 xn z0 z1 z2 z3 z4 z5 z6 z7
    all_goals go_wp2
    all_goals
     have hst:=uh STEP u2 (.int .i64 kk') (.bool tt') (.bool ng') (.string dg') (.int .i64 ex') (.string xx') (.slice c1' m1' k1') (.slice c2' m2' k2') pp hb3 hr hpn;have hup:=(st8a_upd u2 g0 (i*9) (.int .i64 kk') (.bool tt') (.bool ng') (.string dg') (.int .i64 ex') (.string xx') (.slice c1' m1' k1') (.slice c2' m2' k2')).below (uh HG0);obtain rfl:=uh HA;subst ha0;refine ⟨⟨i+1,by omega,by go_num,hst,(uh HB).trans ((hb3.mono hz).trans hup)⟩,by simp [intOf];omega⟩
  · obtain rfl:i=g.length:=by omega
    obtain ⟨css,ps,n1,n2,n3,n4,n5,n6⟩:=(uh HN).ex;have yB:=(uh HX1).keep hb (by omega);obtain ⟨t0,t1,t2,t3,t4,t5,t6,t7⟩:=yB.cells;obtain ⟨f0,f1,f2,f3,f4,f5,f6,f7⟩:=yB.frees;have hX:=hide (st8_bx yB rfl (.int .i64 5) (.bool false) (.bool false) (.string ⟨#[]⟩) (.int .i64 0) (.string ⟨#[]⟩) (.slice none 0 0) (.slice oa g.length c));have hU:=hide (st8_upd wr (w.heap.size+1) (.int .i64 5) (.bool false) (.bool false) (.string ⟨#[]⟩) (.int .i64 0) (.string ⟨#[]⟩) (.slice none 0 0) (.slice oa g.length c));have hgm:(g.map fun p=>(p.1,nrm p.2)).length=g.length:=List.length_map _
    have HR:Hid (VRep wr w.heap.size (JT.mk 5 false zed ⟨#[]⟩ [] (g.map fun p=>(p.1,nrm p.2))) [.int .i64 5,.bool false,.bool zed.neg,.string zed.dg,.int .i64 zed.ex,.string ⟨#[]⟩,.slice none 0 0,.slice oa g.length c] (own (.slice none 0 0)++own (.slice oa g.length c)++([]:List (List Nat)).flatten++ps.flatten)):=by
     refine VRep.mk (css:=[]) (gss:=css) (ps:=[]) (World.ownsRow_nil _ _ _ _) ?_ rfl rfl (by rw [hgm];exact n2) (by rw [hgm];exact n3) (fun i v c p h=>by simp at h) ?_
     · rw [fcs_map,hgm];exact owns_base n1 (by omega)
     · intro i n v c p h1 h2 h3
       rw [List.getElem?_map] at h1
       cases hq:g[i]? with
       | none=>rw [hq] at h1;simp at h1
       | some q =>
         rw [hq] at h1;simp only [Option.map_some,Option.some.injEq,Prod.mk.injEq] at h1;have:=n4 i q c p hq h2 h3;rw [h1.2] at this;exact this.base (by omega)
    have HN6:Hid ((own (.slice none 0 0)++own (.slice oa g.length c)++([]:List (List Nat)).flatten++ps.flatten).Nodup):=by
     show (_:List Nat).Nodup;simpa [own,Value.ownBlock] using n6
    have hge:Hid (∀ b∈(own (.slice none 0 0)++own (.slice oa g.length c)++([]:List (List Nat)).flatten++ps.flatten),b≠w.heap.size+1):=by
     intro b hbm;simp only [List.flatten_nil,List.append_nil,List.mem_append] at hbm
     rcases hbm with (hbm|hbm)|hbm
     · simp [own,Value.ownBlock] at hbm
     · have:=(owns_ge n1 b hbm).1;omega
     · obtain ⟨q,hq,hbq⟩:=List.mem_flatten.1 hbm
       obtain ⟨j,hj⟩:=List.getElem?_of_mem hq;obtain ⟨hlt,_⟩:=List.getElem?_eq_some_iff.1 hj;have:=((n4 j _ _ q (List.getElem?_eq_getElem (by omega)) (List.getElem?_eq_getElem (by omega)) hj).ge b hbq).1;omega
    have hno:¬ (g.length:Int) < (g.length:Int):=by omega
    clear n1 n2 n3 n4 n5 n6 yB hb hgm;go_wp2;have hX':=uh hX;have hU':=uh hU;have hR':=(uh HR).keep (w':=st8 wr (w.heap.size+1) (.int .i64 5) (.bool false) (.bool false) (.string ⟨#[]⟩) (.int .i64 0) (.string ⟨#[]⟩) (.slice none 0 0) (.slice oa g.length c)) fun b hbm=>hU'.block b (uh hge b hbm)
    have hL':=(uh HL).trans (hU'.below (Nat.le_succ _));have hN6:=uh HN6;simp only [st8] at hX' hR' hL';exact bodyPost_ret (ret_norm1 hX' _ rfl) rfl ⟨_,_,rfl,hR',hN6,hL'⟩
theorem puts_map {α β:Type} (g:ByteArray × α→ByteArray × β) (hg:∀ p,(g p).1=p.1) (l:List (ByteArray × α)):(jn.puts l).map g=jn.puts (l.map g):=by
 have put:∀ (acc:List (ByteArray × α)) (p:ByteArray × α),(jn.putP acc p).map g=jn.putP (acc.map g) (g p):=by
  intro acc p;unfold jn.putP;rw [any_map g hg,hg]
  split
  · rfl
  · exact ins_map g hg acc p
 have key:∀ (l acc:List (ByteArray × α)),(l.foldl jn.putP acc).map g=(l.map g).foldl jn.putP (acc.map g):=by
  intro l
  induction l with
  | nil=>intro acc;rfl
  | cons p l ih=>intro acc;rw [List.foldl_cons,ih,put,List.map_cons,List.foldl_cons]
 simpa [jn.puts] using key l []
theorem mem_puts {α:Type} (l:List (ByteArray × α)):∀ p∈jn.puts l,p∈l:=by
 have put:∀ (acc:List (ByteArray × α)) (q:ByteArray × α),∀ p∈jn.putP acc q,p=q∨p∈acc:=by
  intro acc q p hp;unfold jn.putP at hp
  split at hp
  · exact .inr hp
  · have:=(jn.ins_perm acc q).mem_iff.1 hp
    simpa using this
 have key:∀ (l acc:List (ByteArray × α)),∀ p∈l.foldl jn.putP acc,p∈l∨p∈acc:=by
  intro l
  induction l with
  | nil=>intro acc p hp;exact .inr hp
  | cons q l ih =>
    intro acc p hp;rw [List.foldl_cons] at hp
    rcases ih _ p hp with h|h
    · exact .inl (by simp [h])
    · rcases put acc q p h with h|h
      · exact .inl (by simp [h])
      · exact .inr h
 intro p hp
 rcases key l [] p hp with h|h
 · exact h
 · simp at h
def cnt (f:List (ByteArray × JT)):List (ByteArray × JT):=jn.puts (f.map fun p=>(pt.clean p.1,p.2))
theorem cnt_mem {f:List (ByteArray × JT)}{p:ByteArray × JT} (h:p∈cnt f):∃ q∈f,q.2=p.2:=by
 obtain ⟨q,hq,rfl⟩:=List.mem_map.1 (mem_puts _ p h);exact ⟨q,hq,rfl⟩
theorem cnt_len (f:List (ByteArray × JT)):(cnt f).length≤f.length:=by
 have:=puts_len (f.map fun p=>(pt.clean p.1,p.2))
 rwa [List.length_map] at this
theorem cnt_nrm (f:List (ByteArray × JT)):(cnt f).map (fun p=>(p.1,nrm p.2))=jn.puts (f.map fun p=>(pt.clean p.1,nrm p.2)):=by
 unfold cnt;rw [puts_map (fun p:ByteArray × JT=>(p.1,nrm p.2)) (fun _=>rfl),List.map_map];rfl
def FOk (f:List (ByteArray × JT)):Prop:=∀ (k:Int) (t:Bool) (d:Dn) (x:ByteArray) (l:List JT) (cs:List Value) (w u:World),VR w (JT.mk k t d x l f) cs→Below w.heap.size w u→Calls Tryz.prog 115 #[.agg cs.toArray] u (FP w u (cnt f))
inductive Gd:JT→Prop
 | mk {k:Int}{t:Bool}{d:Dn}{x:ByteArray}{l:List JT}{f:List (ByteArray × JT)} (h5:k=5→FOk f) (hl:k=4→∀ v∈l,Gd v) (hf:k=5→∀ p∈f,Gd p.2):Gd (JT.mk k t d x l f)
theorem norm1_any (nb:Nat) (n:Nat):∀ (v:JT) (cs:List Value) (w:World),SizeOf.sizeOf v < n→Bd v→Gd v→VR w v cs→w.cell? ⟨nb,0,none⟩=some (nv nb) →
 Calls Tryz.prog 113 #[.agg cs.toArray,.pointer (some ⟨nb,0,none⟩)] w (NP w (nrm v)):=by
 induction n with
 | zero=>intro v cs w h;omega
 | succ n IH =>
   intro v cs w hn hbd hgd h hc;have h':=h
   cases h with
   | @mk k t d x l f lv fv css gss hl hf h1 h3 hle hfe =>
     obtain ⟨dn,dg,dx⟩:=d
     cases hbd with
     | mk hk d0 d1 d2 d3 d4 dl dnm df =>
       cases hgd with
       | mk g5 gl gf =>
         obtain ⟨oa,c,rfl,_⟩:=mm.SV.form hl;obtain ⟨ob,c',rfl,_⟩:=mm.SV.form hf
         by_cases e4:k=4
         · subst e4
           have:=norm1_list nb t dn dg dx x l f oa c (.slice ob f.length c') w h' d3 hc (fun v hv cs w hr hc=>IH v cs w (by have:=sz_l (k:=4) (t:=t) (d:=⟨dn,dg,dx⟩) (x:=x) (f:=f) hv;omega) (dl v hv) (gl rfl v hv) hr hc);rw [nrm_mk,if_neg (by decide),if_neg (by decide),if_neg (by decide),if_pos rfl];exact this
         · by_cases e5:k=5
           · subst e5
             have:=norm1_obj nb t dn dg dx x (cnt f) (.slice oa l.length c) (.slice ob f.length c') w (by have:=cnt_len f;omega) hc (fun u hu=>g5 rfl 5 t ⟨dn,dg,dx⟩ x l _ w u h' hu)
              (fun p hp cs w hr hc=>by
               obtain ⟨q,hq,e⟩:=cnt_mem hp;rw [← e] at hr ⊢
               exact IH q.2 cs w (by have:=sz_f (k:=5) (t:=t) (d:=⟨dn,dg,dx⟩) (x:=x) (l:=l) hq;omega) (df q hq) (gf rfl q hq) hr hc)
             rw [nrm_mk,if_neg (by decide),if_neg (by decide),if_neg (by decide),if_neg (by decide),if_pos rfl,← cnt_nrm];exact this
           · exact norm1_flat k t dn dg dx x l f _ _ _ w ⟨e4,e5⟩ d0 d1.1 d1.2 d2
theorem jnorm_any (v:JT) (hb:Bd v) (hg:Gd v) (cs:List Value) (w:World) (h:VR w v cs):Calls Tryz.prog 96 #[.agg cs.toArray] w (NP w (nrm v)) :=
 jnorm_of v (fun nb cs w hr hc=>norm1_any nb (SizeOf.sizeOf v+1) v cs w (Nat.lt_succ_self _) hb hg hr hc) cs w h
theorem fd_of:∀ (f:List (ByteArray × JT)) (gss:List (List Value)),gss.length=f.length→(∀ c∈gss,V8 c) →
 ∃ D:List Fd,D.length=f.length∧D.flatMap encF=fcs f gss∧D.map Fd.nm=f.map Prod.fst∧(D.map ss.sd).flatMap encF=fcs (f.map fun p=>(said p.1,p.2)) gss
 | [],_,_,_=>⟨[],rfl,rfl,rfl,rfl⟩
 | _::_,[],h,_=>by simp at h
 | p::f,c::gss,h,hv=>by
   obtain ⟨D,e1,e2,e3,e4⟩:=fd_of f gss (by simpa using h) (fun c hc=>hv c (by simp [hc]));obtain ⟨kk,tt,ng,dg,ex,xx,q1,n1,m1,q2,n2,m2,rfl⟩:=hv c (by simp);refine ⟨⟨p.1,kk,tt,ng,dg,ex,xx,q1,n1,m1,q2,n2,m2⟩::D,by simp [e1],?_,by simp [e3],?_⟩
   · rw [List.flatMap_cons,e2,fcs_cons];rfl
   · rw [List.map_cons,List.flatMap_cons,e4,List.map_cons,fcs_cons];rfl
theorem VR.v8 {w:World}{v:JT}{cs:List Value} (h:VR w v cs):V8 cs:=h.form
def parts:JT→List JT
 | .mk k _ _ _ l f=>if k=4 then l else (cnt f).map Prod.snd
def PP (w u:World) (vs:List JT) (e:Ending) (u':World):Prop :=
 ∃ (oa:Option Addr) (c:Nat) (css:List (List Value)),e=.returned (.slice oa vs.length c)∧mm.SV u' (.slice oa vs.length c) vs.length 8 css.flatten∧css.length=vs.length ∧
   (∀ (j:Nat) (v:JT) (x:List Value),vs[j]?=some v→css[j]?=some x→VR w v x)∧(∀ a,oa=some a→0 < vs.length→a.block < w.heap.size∨u.heap.size≤a.block)∧Below u.heap.size u u'
set_option maxHeartbeats 4000000 in
set_option maxRecDepth 1000000 in
theorem partsOf_list (t:Bool) (dn:Bool) (dg:ByteArray) (dx:Int) (x:ByteArray) (l:List JT) (f:List (ByteArray × JT)) (oa:Option Addr) (c:Nat) (fv:Value) (w u:World) (hb:Below w.heap.size w u) (h:VR w (JT.mk 4 t ⟨dn,dg,dx⟩ x l f) [.int .i64 4,.bool t,.bool dn,.string dg,.int .i64 dx,.string x,.slice oa l.length c,fv]) :
 Calls Tryz.prog 126 #[.agg #[.int .i64 4,.bool t,.bool dn,.string dg,.int .i64 dx,.string x,.slice oa l.length c,fv]] u (PP w u l):=by
 have HV:=hide h;have HB:=hide hb;clear h hb
 go_enter Tryz.func126,Tryz.ntmps126
 go_wp2;go_ret;have hb2:∀ o,Below u.heap.size u (u.alloc o):=fun o=>(Below.refl _ u).alloc (Nat.le_refl _) o
 have hv:=uh HV;generalize hc:[Value.int .i64 4,.bool t,.bool dn,.string dg,.int .i64 dx,.string x,.slice oa l.length c,fv]=cs at hv;generalize ht:JT.mk 4 t ⟨dn,dg,dx⟩ x l f=T at hv
 cases hv with
 | @mk k1 t1 d1 x1 l1 f1 lv fv1 css gss hl hf h1 h3 hle hfe =>
   simp only [JT.mk.injEq] at ht;obtain ⟨_,_,_,_,rfl,_⟩:=ht;simp only [List.cons.injEq] at hc;obtain ⟨_,_,_,_,_,_,rfl,_⟩:=hc;refine ⟨oa,c,css,rfl,(hl.keep (uh HB)).keep (hb2 _),h1,hle,?_,hb2 _⟩;intro a ha hn
   left
   obtain ⟨a',c',e,_,_,hcell⟩:=hl.some hn;simp only [Value.slice.injEq] at e;obtain ⟨e,_,_⟩:=e;rw [ha] at e;obtain rfl:=Option.some.inj e;obtain ⟨y,hy⟩:∃ y,css.flatten[0]?=some y:=⟨_,List.getElem?_eq_getElem (by rw [hl.1];omega)⟩;have:=mm.cell_lt (hcell 0 y hy)
   rwa [show a.add 0=a by unfold Addr.add;simp] at this
set_option maxHeartbeats 4000000 in
set_option maxRecDepth 1000000 in
theorem partsOf_obj (t:Bool) (dn:Bool) (dg:ByteArray) (dx:Int) (x:ByteArray) (g:List (ByteArray × JT)) (lv fv:Value) (w u:World) (hn:g.length≤100000000000)
 (FC:∀ u',Below u.heap.size u u'→Calls Tryz.prog 115 #[.agg #[.int .i64 5,.bool t,.bool dn,.string dg,.int .i64 dx,.string x,lv,fv]] u' (FP w u' g)) :
 Calls Tryz.prog 126 #[.agg #[.int .i64 5,.bool t,.bool dn,.string dg,.int .i64 dx,.string x,lv,fv]] u (PP w u (g.map Prod.snd)):=by
 have HF:=hide FC;clear FC;have B1:=hide (ss.one_box u [.int .i64 5,.bool t,.bool dn,.string dg,.int .i64 dx,.string x,lv,fv])
 go_enter Tryz.func126,Tryz.ntmps126
 go_upto_region 4 with fail;obtain ⟨q0,q1,q2⟩:=uh B1 _ rfl;generalize u.alloc (.cells [.int .i64 5,.bool t,.bool dn,.string dg,.int .i64 dx,.string x,lv,fv].toArray 28)=W at *;have CF:=hide (uh HF W q1);obtain ⟨y0,y1,y2,y3,y4,y5,y6,y7⟩:=q0.cells;have HBW:=hide q1;have HZ:=hide q2;clear q0 q1 q2 B1 HF
 go_wp2_with (go_at_call 115;refine (uh CF).mono ?_;rintro e w1 ⟨sv,css,rfl,r1,r2,r3,r4⟩
              have hf0:∃ oa c,sv=.slice oa g.length c:=by
               obtain ⟨oa,c,e,_⟩:=mm.SV.form (mm.own_sv r1);exact ⟨oa,c,e⟩
              obtain ⟨oa,c,rfl⟩:=hf0;have R1:=hide r1;have R3:=hide r3;have R4:=hide r4
              clear r1 r3 r4 y0 y1 y2 y3 y4 y5 y6 y7)
 have h8:Hid (∀ c∈css,c.length=8):=by
  intro c hc;obtain ⟨j,hj⟩:=List.getElem?_of_mem hc;obtain ⟨hlt,_⟩:=List.getElem?_eq_some_iff.1 hj;exact (uh R3 j _ c (List.getElem?_eq_getElem (by omega)) hj).len
 go_loopw [3,14] (fun sv iv wr=>∃ i:Nat,i≤g.length∧iv=.int .i64 (i:Int)∧Hid (wr.ownsRow w1.heap.size 28 8 sv i (css.take i).flatten)∧Hid (Below w1.heap.size w1 wr)) (fun _ iv _=>g.length - (intOf iv).toNat)
 case atStart=>exact ⟨0,by omega,rfl,World.ownsRow_nil _ _ _ _,Below.refl _ _⟩
 case round =>
  obtain ⟨i,hi,rfl,HO,HB⟩:=hrel
  by_cases hc:i < g.length
  · obtain ⟨p,hp⟩:∃ p,g[i]?=some p:=⟨_,List.getElem?_eq_getElem hc⟩
    obtain ⟨cc,hcc⟩:∃ c,css[i]?=some c:=⟨_,List.getElem?_eq_getElem (by omega)⟩;obtain ⟨kk,tt,ng,dg2,ex2,xx,c1,m1,k1,c2,m2,k2,rfl⟩:=(uh R3 i p cc hp hcc).form;obtain ⟨a,c',e,_,_,hat0⟩:=(mm.own_sv (mm.row_below (uh R1) (uh HB) (Nat.le_refl _))).some (by omega);simp only [Value.slice.injEq] at e;obtain ⟨rfl,_,rfl⟩:=e
    have hat:∀ (j:Nat) (u:Value),[.string p.1,.int .i64 kk,.bool tt,.bool ng,.string dg2,.int .i64 ex2,.string xx,.slice c1 m1 k1,.slice c2 m2 k2][j]?=some u→wr.cell? ((a.add (i*9)).add j)=some u:=by
     intro j u hu;have hj:j < 9:=(List.getElem?_eq_some_iff.1 hu).1;rw [mm.add_add];exact hat0 _ u (by rw [fcs_at (uh h8) hp hcc hj];exact hu)
    obtain ⟨xn,x0,x1,x2,x3,x4,x5,x6,x7⟩:=cells9 hat;generalize ha:a.add (i*9)=ad at *;have hi1:(i:Int) < (g.length:Int):=by omega
    have HCC:=hide hcc;have hws:w1.heap.size≤wr.heap.size:=(uh HB).size;clear hat hat0 hp hcc;go_upto_region 7 with fail;have hba:Below wr.heap.size wr (wr.alloc (.cells #[.string p.1,.int .i64 kk,.bool tt,.bool ng,.string dg2,.int .i64 ex2,.string xx,.slice c1 m1 k1,.slice c2 m2 k2] 70)):=(Below.refl _ wr).alloc (Nat.le_refl _) _;have hbf:BF (wr.alloc (.cells #[.string p.1,.int .i64 kk,.bool tt,.bool ng,.string dg2,.int .i64 ex2,.string xx,.slice c1 m1 k1,.slice c2 m2 k2] 70)) wr.heap.size [.string p.1,.int .i64 kk,.bool tt,.bool ng,.string dg2,.int .i64 ex2,.string xx,.slice c1 m1 k1,.slice c2 m2 k2]:=heap_alloc_new wr _;generalize wr.alloc (.cells #[.string p.1,.int .i64 kk,.bool tt,.bool ng,.string dg2,.int .i64 ex2,.string xx,.slice c1 m1 k1,.slice c2 m2 k2] 70)=wa at *;obtain ⟨g0,g1,g2,g3,g4,g5,g6,g7,g8⟩:=hbf.cells;have hwa:=hba.size;have HBA:=hide hba;have O1:=hide (mm.row_below (mm.row_below (uh HO) hba (Nat.le_refl _)) ((Below.refl _ wa).alloc (Nat.le_refl _) (.cells #[.int .i64 kk,.bool tt,.bool ng,.string dg2,.int .i64 ex2,.string xx,.slice c1 m1 k1,.slice c2 m2 k2] 28)) (Nat.le_refl _));have S1:Hid (mm.SV (wa.alloc (.cells #[.int .i64 kk,.bool tt,.bool ng,.string dg2,.int .i64 ex2,.string xx,.slice c1 m1 k1,.slice c2 m2 k2] 28)) (.slice (some ⟨wa.heap.size,0,none⟩) 1 1) 1 8 [.int .i64 kk,.bool tt,.bool ng,.string dg2,.int .i64 ex2,.string xx,.slice c1 m1 k1,.slice c2 m2 k2]):=mm.sv_cells (heap_alloc_new wa _) 1 8 rfl (by unfold maxLen;omega)
    have hB1:Hid (w1.heap.size≤(wa.alloc (.cells #[.int .i64 kk,.bool tt,.bool ng,.string dg2,.int .i64 ex2,.string xx,.slice c1 m1 k1,.slice c2 m2 k2] 28)).heap.size):=by
     show _≤_;rw [World.size_alloc];omega
    have H18:Hid (∀ u∈([.int .i64 kk,.bool tt,.bool ng,.string dg2,.int .i64 ex2,.string xx,.slice c1 m1 k1,.slice c2 m2 k2]:List Value),u.oneCell'=true):=by
     intro u hu;simp only [List.mem_cons,List.not_mem_nil,or_false] at hu
     rcases hu with rfl|rfl|rfl|rfl|rfl|rfl|rfl|rfl <;> rfl
    clear hba hbf x0 x1 x2 x3 x4 x5 x6 x7 xn
    go_wp2_with (at_builtin;refine mm.wpList_append_sv (P:=Tryz.prog) rfl _ _ 25 rfl w1.heap.size 28 _ 8 112 undV infoVl rfl (by decide) _ _ i 1 _ _ rfl rfl (uh O1) (uh S1) (uh H18) (by unfold maxLen;omega) (by omega) (uh hB1) ?_
                 intro v2 w2 o2 g2' l2)
    have hbe:Below w1.heap.size wr w2:=mm.row_bl (uh O1) g2' (((uh HBA).mono hws).alloc (by omega) _) (Nat.le_refl _) (uh hB1);refine ⟨⟨i+1,by omega,by go_num,?_,(uh HB).trans hbe⟩,by simp [intOf];omega⟩;rw [take_succ' (uh HCC),List.flatten_append];refine hide ?_;simpa using o2
  · obtain rfl:i=g.length:=by omega
    have hno:¬ (g.length:Int) < (g.length:Int):=by omega
    rw [List.take_of_length_le (by omega)] at HO
    have hf1:∃ oa c,u3=.slice oa g.length c:=by
     obtain ⟨oa,c,e,_⟩:=mm.SV.form (mm.own_sv (uh HO));exact ⟨oa,c,e⟩
    obtain ⟨oa',c',rfl⟩:=hf1;go_wp2;go_ret;have hz:=uh HZ;have h4:=uh R4;have hs4:=h4.size;have hlm:(g.map Prod.snd).length=g.length:=List.length_map _;have hbl:Below u.heap.size u wr:=(uh HBW).trans ((h4.mono (by omega)).trans ((uh HB).mono (by omega)));refine ⟨oa',c',css,by rw [hlm];rfl,by rw [hlm];exact mm.own_sv (uh HO),by rw [hlm];exact r2,?_,?_,hbl⟩
    · intro j v x hv hx
      rw [List.getElem?_map] at hv
      cases hq:g[j]? with
      | none=>rw [hq] at hv;simp at hv
      | some q =>
        rw [hq] at hv;simp only [Option.map_some,Option.some.injEq] at hv;subst hv;exact uh R3 j q x hq hx
    · intro a ha h0
      right
      rcases (uh HO).2 with ⟨e,_⟩|⟨b,cap,cur,e,hb',_⟩
      · simp only [Value.slice.injEq] at e
        rw [e.1] at ha
        cases ha
      · simp only [Value.slice.injEq] at e
        rw [e.1] at ha
        cases ha
        show _≤b;omega
theorem sz_c {k:Int}{t:Bool}{d:Dn}{x:ByteArray}{l:List JT}{f:List (ByteArray × JT)}{p:ByteArray × JT} (h:p∈cnt f):SizeOf.sizeOf p.2 < SizeOf.sizeOf (JT.mk k t d x l f):=by
 obtain ⟨q,hq,e⟩:=cnt_mem h;rw [← e];exact sz_f hq
def dpt:JT→Nat
 | .mk k _ _ _ l f=>if k=4 then 1+(l.attach.map fun v=>dpt v.1).foldl max 0 else if k=5 then 1+((cnt f).attach.map fun p=>dpt p.1.2).foldl max 0 else 0
 termination_by v=>SizeOf.sizeOf v
 decreasing_by
  · exact sz_l v.2
  · exact sz_c p.2
theorem dpt_mk (k:Int) (t:Bool) (d:Dn) (x:ByteArray) (l:List JT) (f:List (ByteArray × JT)):dpt (.mk k t d x l f) =
 if k=4 then 1+(l.map dpt).foldl max 0 else if k=5 then 1+(((cnt f).map Prod.snd).map dpt).foldl max 0 else 0:=by
 rw [dpt];simp only [List.map_attach_eq_pmap,List.pmap_eq_map,List.map_map];rfl
def dup (d a n:Nat):Nat:=if n=0 then d else max d (a+n)
theorem dup_fold (a:Nat):∀ (ns:List Nat) (d m:Nat),a≤d→ns.foldl (fun e n=>dup e a n) (max d (a+m))=max d (a+ns.foldl max m)
 | [],d,m,_=>rfl
 | n::ns,d,m,h=>by
   rw [List.foldl_cons,List.foldl_cons]
   have:dup (max d (a+m)) a n=max d (a+max m n):=by
    unfold dup
    split <;> omega
   rw [this];exact dup_fold a ns d (max m n) h
theorem dup_all (a d:Nat) (ns:List Nat):ns.foldl (fun e n=>dup e (a+1) n) (max d (a+1))=dup d a (1+ns.foldl max 0):=by
 have h:=dup_fold (a+1) ns (max d (a+1)) 0 (by omega);rw [show max (max d (a+1)) (a+1+0)=max d (a+1) by omega] at h;rw [h];unfold dup;rw [if_neg (by omega)];omega
structure Exc (b:Nat) (w w':World):Prop where
 os:w'.os=w.os
 tape:w'.tape=w.tape
 output:w'.output=w.output
 size:w.heap.size≤w'.heap.size
 block:∀ k,k < w.heap.size→k≠b→w'.heap[k]?=w.heap[k]?
theorem Exc.refl (b:Nat) (w:World):Exc b w w:=⟨rfl,rfl,rfl,Nat.le_refl _,fun _ _ _=>rfl⟩
theorem Exc.trans {b:Nat}{u v w:World} (h:Exc b u v) (k:Exc b v w):Exc b u w :=
 ⟨k.os.trans h.os,k.tape.trans h.tape,k.output.trans h.output,Nat.le_trans h.size k.size,fun i hi hb=>(k.block i (Nat.lt_of_lt_of_le hi h.size) hb).trans (h.block i hi hb)⟩
theorem Exc.of {b:Nat}{u v:World} (h:Below u.heap.size u v):Exc b u v:=⟨h.os,h.tape,h.output,h.size,fun i hi _=>h.block i hi⟩
theorem Exc.upd {b:Nat}{u v:World} (h:Upd b u v):Exc b u v:=⟨h.os,h.tape,h.output,Nat.le_of_eq h.size.symm,fun i _ hb=>h.block i hb⟩
theorem Exc.low {b B:Nat}{w u v:World} (h:Exc b u v) (hl:Below B w u) (hs:B≤u.heap.size) (hb:B≤b):Below B w v :=
 hl.trans ⟨h.os,h.tape,h.output,h.size,fun i hi=>h.block i (by omega) (by omega)⟩
theorem Exc.cell {b:Nat}{u v:World} (h:Exc b u v) {p:Addr}{x:Value} (hx:u.cell? p=some x) (hb:p.block≠b):v.cell? p=some x:=by
 rw [World.cell?_of_block (w:=u) (h.block p.block (mm.cell_lt hx) hb)];exact hx
def lkV (db nb:Nat):Value:=.func (.func 125) #[] #[.pointer (some ⟨db,0,none⟩),.pointer (some ⟨nb,0,none⟩)]
theorem enter_look (args:Array Value) (w:World):(callFunc 125 args).run Tryz.prog w=.ok (.enter 125 args) w :=
 MuLone.run_callFunc_enter Tryz.func125 (by kernel_rfl) (c:=Tryz.f125.body.get (by kernel_rfl)) (by kernel_rfl) args w
def DB (db d:Nat) (u:World):Prop:=u.heap[db]?=some (.cells #[.int .i64 (d:Int)] 3 (0,0))
def LK (w:World) (db nb:Nat) (v:JT):Prop:=∀ (a d:Nat) (cs:List Value) (u:World),a+dpt v≤1000000000000→d≤1000000000000→Below w.heap.size w u→w.heap.size≤db→db≠nb→VR w v cs→DB db d u→u.cell? ⟨nb,0,none⟩=some (lkV db nb) →
 Calls Tryz.prog 125 #[.agg cs.toArray,.int .i64 (a:Int),.pointer (some ⟨db,0,none⟩),.pointer (some ⟨nb,0,none⟩)] u fun e u'=>e=.returned (.tuple #[])∧Exc db u u'∧DB db (dup d a (dpt v)) u'
set_option maxHeartbeats 4000000 in
set_option maxRecDepth 1000000 in
theorem look_flat (k:Int) (t:Bool) (dn:Bool) (dg:ByteArray) (dx:Int) (x:ByteArray) (lv fv:Value) (a db nb:Nat) (u:World) (e4:¬ k=4) (e5:¬ k=5) :
 Calls Tryz.prog 125 #[.agg #[.int .i64 k,.bool t,.bool dn,.string dg,.int .i64 dx,.string x,lv,fv],.int .i64 (a:Int),.pointer (some ⟨db,0,none⟩),.pointer (some ⟨nb,0,none⟩)] u fun e u'=>e=.returned (.tuple #[])∧Below u.heap.size u u':=by
 have f4:(k != 4)=true:=by simp [e4]
 have f5:(k != 5)=true:=by simp [e5]
 clear e4 e5
 go_enter Tryz.func125,Tryz.ntmps125
 go_wp2;refine bodyPost_ret (results_none rfl _ _ _) rfl ?_;exact ⟨rfl,(Below.refl _ u).alloc (Nat.le_refl _) _⟩
set_option maxHeartbeats 6400000 in
set_option maxRecDepth 1000000 in
theorem look4 (t:Bool) (dn:Bool) (dg:ByteArray) (dx:Int) (x:ByteArray) (lv fv:Value) (vs:List JT) (w:World) (a d db nb:Nat) (u:World) (hn:vs.length≤100000000000) (ha:a+1≤1000000000000) (hd:d≤1000000000000)
 (hdp:∀ v∈vs,a+1+dpt v≤1000000000000) (hlow:Below w.heap.size w u) (hdb:w.heap.size≤db) (hne:db≠nb) (hD:DB db d u) (hN:u.cell? ⟨nb,0,none⟩=some (lkV db nb))
 (PC:∀ u',Below w.heap.size w u'→Calls Tryz.prog 126 #[.agg #[.int .i64 4,.bool t,.bool dn,.string dg,.int .i64 dx,.string x,lv,fv]] u' (PP w u' vs)) (IH:∀ v∈vs,LK w db nb v) :
 Calls Tryz.prog 125 #[.agg #[.int .i64 4,.bool t,.bool dn,.string dg,.int .i64 dx,.string x,lv,fv],.int .i64 (a:Int),.pointer (some ⟨db,0,none⟩),.pointer (some ⟨nb,0,none⟩)] u fun e u'=>e=.returned (.tuple #[])∧Exc db u u'∧DB db ((vs.map dpt).foldl (fun e n=>dup e (a+1) n) (max d (a+1))) u':=by
 have HP:=hide PC;have HI:=hide IH;have HL:=hide hlow;have HD:=hide hD;have HN:=hide hN;have HDP:=hide hdp;have B1:=hide (ss.one_box u [.int .i64 4,.bool t,.bool dn,.string dg,.int .i64 dx,.string x,lv,fv]);have hdbu:db < u.heap.size:=blk_lt hD;have hnbu:nb < u.heap.size:=mm.cell_lt hN;have hwu:=hlow.size;have hmx:max (d:Int) ((a:Int)+1)=((max d (a+1):Nat):Int):=by omega
 have eg:=enter_look;clear PC IH hlow hD hN hdp;obtain ⟨r,hr⟩:∃ r,(vs.map dpt).foldl (fun e n=>dup e (a+1) n) (max d (a+1))=r:=⟨_,rfl⟩;obtain ⟨M,hM⟩:∃ M,max d (a+1)=M:=⟨_,rfl⟩;have hMb:M≤1000000000000:=by omega
 rw [hM] at hmx hr;rw [hM,hr];have HRR:=hide hr;clear hr hM
 go_enter Tryz.func125,Tryz.ntmps125
 go_upto_region 1 with fail;obtain ⟨q0,q1,q2⟩:=uh B1 _ rfl;generalize u.alloc (.cells [.int .i64 4,.bool t,.bool dn,.string dg,.int .i64 dx,.string x,lv,fv].toArray 28)=W at *;have HBX:=hide q0;have HBW:=hide q1;have HZ:=hide q2;have hDW:DB db d W:=(q1.block db hdbu).trans (uh HD);have hdc:W.cell? ⟨db,0,none⟩=some (.int .i64 (d:Int)):=blk_cell hDW 0;have hdf:W.frozen? ⟨db,0,none⟩=false:=blk_free hDW 0;have hup:=hide (Upd.setCell db 0 W (.int .i64 (M:Int)))
 have hD2:Hid (DB db M (W.setCell ⟨db,0,none⟩ (.int .i64 (M:Int)))):=by
  have:=blk_set hDW 0 (.int .i64 (M:Int));refine hide ?_;simpa [DB] using this
 obtain ⟨y0,y1,y2,y3,y4,y5,y6,y7⟩:=q0.cells;clear hDW q0 q1 q2 B1;go_upto_region 3 with fail;generalize W.setCell ⟨db,0,none⟩ (.int .i64 (M:Int))=W2 at *;have hqq:Below u.heap.size u W:=uh HBW;have hzz:=uh HZ;have huu:=uh hup;obtain ⟨y0,y1,y2,y3,y4,y5,y6,y7⟩:=BX.cells ((huu.block u.heap.size (by omega)).trans (uh HBX));have hlw2:Below w.heap.size w W2:=(uh HL).trans ((hqq.mono hwu).trans (huu.below hdb));have CP:=hide (uh HP W2 hlw2);have HL2:=hide hlw2;have EX2:Hid (Exc db u W2):=(Exc.of hqq).trans (Exc.upd huu);have hs2:W2.heap.size=u.heap.size+1:=by rw [huu.size];exact hzz
 clear hqq huu hup hzz HZ hdc hdf hmx hlw2
 go_wp2_with (go_at_call 126;refine (uh CP).mono ?_;rintro e w1 ⟨oa,c,css,rfl,s1,s2,s3,s4,s5⟩
              have S1:=hide s1;have S3:=hide s3;have S4:=hide s4;have S5:=hide s5
              clear s1 s3 s4 s5 y0 y1 y2 y3 y4 y5 y6 y7)
 have hs1:=(uh S5).size
 go_loopw [23] (fun iv wr=>∃ i:Nat,i≤vs.length∧iv=.int .i64 (i:Int)∧Hid (DB db (((vs.take i).map dpt).foldl (fun e n=>dup e (a+1) n) M) wr)∧Hid (Exc db w1 wr)) (fun iv _=>vs.length - (intOf iv).toNat)
 case atStart=>exact ⟨0,by omega,rfl,((uh S5).block db (by omega)).trans (uh hD2),Exc.refl _ _⟩
 case round =>
  obtain ⟨i,hi,rfl,HDr,HX⟩:=hrel;have hsx:=(uh HX).size
  by_cases hc:i < vs.length
  · obtain ⟨v,hv⟩:∃ v,vs[i]?=some v:=⟨_,List.getElem?_eq_getElem hc⟩
    obtain ⟨cc,hcc⟩:∃ c,css[i]?=some c:=⟨_,List.getElem?_eq_getElem (by omega)⟩;have vA:=uh S3 i v cc hv hcc;obtain ⟨kk,tt,ng,dg2,ex2,xx,c1,m1,k1,c2,m2,k2,rfl⟩:=vA.form;obtain ⟨ad0,c',e,_,_,hat0⟩:=(uh S1).some (by omega);simp only [Value.slice.injEq] at e;obtain ⟨rfl,_,rfl⟩:=e
    have h8:∀ c∈css,c.length=8:=by
     intro c hc;obtain ⟨j,hj⟩:=List.getElem?_of_mem hc;obtain ⟨hlt,_⟩:=List.getElem?_eq_some_iff.1 hj;exact (uh S3 j _ c (List.getElem?_eq_getElem (by omega)) hj).len
    have hblk:ad0.block≠db:=by
     rcases uh S4 ad0 rfl (by omega) with q|q <;> omega
    have hat:=sv_at h8 hat0 hcc
    have hat2:∀ (j:Nat) (u:Value),[.int .i64 kk,.bool tt,.bool ng,.string dg2,.int .i64 ex2,.string xx,.slice c1 m1 k1,.slice c2 m2 k2][j]?=some u→wr.cell? ((ad0.add (i*8)).add j)=some u:=by
     intro j u hu;refine (uh HX).cell (hat j u hu) ?_;have e1:((ad0.add (i*8)).add j).block=ad0.block:=by unfold Addr.add;split <;> split <;> rfl
     rw [e1];exact hblk
    obtain ⟨x0,x1,x2,x3,x4,x5,x6,x7⟩:=cells8 hat2;generalize hadd:ad0.add (i*8)=ad at *;have hi1:(i:Int) < (vs.length:Int):=by omega
    have HVI:=hide hv;have hdv:=uh HDP v (List.mem_of_getElem? hv);obtain ⟨R,hR⟩:∃ R,((vs.take i).map dpt).foldl (fun e n=>dup e (a+1) n) M=R:=⟨_,rfl⟩
    have hRb:R≤1000000000000:=by
     rw [← hR]
     have aux:∀ (ns:List Nat) (e:Nat),e≤1000000000000→(∀ n∈ns,a+1+n≤1000000000000)→ns.foldl (fun e n=>dup e (a+1) n) e≤1000000000000:=by
      intro ns
      induction ns with
      | nil=>intro e h _;exact h
      | cons n ns ih =>
        intro e h hs;rw [List.foldl_cons];refine ih _ ?_ (fun m hm=>hs m (by simp [hm]));have:=hs n (by simp);unfold dup
        split <;> omega
     refine aux _ M hMb (fun n hn=>?_);obtain ⟨v',hv',rfl⟩:=List.mem_map.1 hn;exact uh HDP v' (List.mem_of_mem_take hv')
    rw [hR] at HDr;have HR:=hide hR;have hlr:Below w.heap.size w wr:=(uh HX).low ((uh HL2).trans ((uh S5).mono (by omega))) (by omega) hdb;have hba:Below wr.heap.size wr (wr.alloc (.cells #[.int .i64 kk,.bool tt,.bool ng,.string dg2,.int .i64 ex2,.string xx,.slice c1 m1 k1,.slice c2 m2 k2] 28)):=(Below.refl _ wr).alloc (Nat.le_refl _) _;have hbx:BX (wr.alloc (.cells #[.int .i64 kk,.bool tt,.bool ng,.string dg2,.int .i64 ex2,.string xx,.slice c1 m1 k1,.slice c2 m2 k2] 28)) wr.heap.size [.int .i64 kk,.bool tt,.bool ng,.string dg2,.int .i64 ex2,.string xx,.slice c1 m1 k1,.slice c2 m2 k2]:=heap_alloc_new wr _;have HLR:=hide hlr;clear hat0 hat hat2 hcc hR hv hblk h8 hlr;go_upto_region 6 with fail;generalize wr.alloc (.cells #[.int .i64 kk,.bool tt,.bool ng,.string dg2,.int .i64 ex2,.string xx,.slice c1 m1 k1,.slice c2 m2 k2] 28)=wa at *;obtain ⟨g0,g1,g2,g3,g4,g5,g6,g7⟩:=hbx.cells;have hcn:wa.cell? ⟨nb,0,none⟩=some (lkV db nb):=(Exc.of hba).cell ((uh HX).cell (kc (uh S5) ((uh EX2).cell (uh HN) (fun q=>hne q.symm))) (fun q=>hne q.symm)) (fun q=>hne q.symm);have CI:=hide (uh HI v (List.mem_of_getElem? (uh HVI)) (a+1) R _ wa hdv hRb ((uh HLR).trans (hba.mono (uh HLR).size)) hdb hne vA ((hba.block db (by omega)).trans (uh HDr)) hcn);have HBA:=hide hba;unfold lkV at hcn;rw [show ((a+1:Nat):Int)=(a:Int)+1 by omega] at CI;clear hba hbx x0 x1 x2 x3 x4 x5 x6 x7 vA
    go_wp2_with (go_at_call 125;refine (uh CI).mono ?_;rintro e u2 ⟨rfl,hx2,hd2⟩)
    refine ⟨⟨i+1,by omega,by go_num,?_,((uh HX).trans (Exc.of (uh HBA))).trans hx2⟩,by simp [intOf];omega⟩;rw [take_succ' (uh HVI),List.map_append,List.foldl_append,uh HR];exact hd2
  · obtain rfl:i=vs.length:=by omega
    have hno:¬ (vs.length:Int) < (vs.length:Int):=by omega
    rw [List.take_of_length_le (Nat.le_refl _),uh HRR] at HDr;go_wp2
    go_end0
    exact ⟨rfl,((uh EX2).trans (Exc.of (uh S5))).trans (uh HX),uh HDr⟩
set_option maxHeartbeats 6400000 in
set_option maxRecDepth 1000000 in
theorem look5 (t:Bool) (dn:Bool) (dg:ByteArray) (dx:Int) (x:ByteArray) (lv fv:Value) (vs:List JT) (w:World) (a d db nb:Nat) (u:World) (hn:vs.length≤100000000000) (ha:a+1≤1000000000000) (hd:d≤1000000000000)
 (hdp:∀ v∈vs,a+1+dpt v≤1000000000000) (hlow:Below w.heap.size w u) (hdb:w.heap.size≤db) (hne:db≠nb) (hD:DB db d u) (hN:u.cell? ⟨nb,0,none⟩=some (lkV db nb))
 (PC:∀ u',Below w.heap.size w u'→Calls Tryz.prog 126 #[.agg #[.int .i64 5,.bool t,.bool dn,.string dg,.int .i64 dx,.string x,lv,fv]] u' (PP w u' vs)) (IH:∀ v∈vs,LK w db nb v) :
 Calls Tryz.prog 125 #[.agg #[.int .i64 5,.bool t,.bool dn,.string dg,.int .i64 dx,.string x,lv,fv],.int .i64 (a:Int),.pointer (some ⟨db,0,none⟩),.pointer (some ⟨nb,0,none⟩)] u fun e u'=>e=.returned (.tuple #[])∧Exc db u u'∧DB db ((vs.map dpt).foldl (fun e n=>dup e (a+1) n) (max d (a+1))) u':=by
 have HP:=hide PC;have HI:=hide IH;have HL:=hide hlow;have HD:=hide hD;have HN:=hide hN;have HDP:=hide hdp;have B1:=hide (ss.one_box u [.int .i64 5,.bool t,.bool dn,.string dg,.int .i64 dx,.string x,lv,fv]);have hdbu:db < u.heap.size:=blk_lt hD;have hnbu:nb < u.heap.size:=mm.cell_lt hN;have hwu:=hlow.size;have hmx:max (d:Int) ((a:Int)+1)=((max d (a+1):Nat):Int):=by omega
 have eg:=enter_look;clear PC IH hlow hD hN hdp;obtain ⟨r,hr⟩:∃ r,(vs.map dpt).foldl (fun e n=>dup e (a+1) n) (max d (a+1))=r:=⟨_,rfl⟩;obtain ⟨M,hM⟩:∃ M,max d (a+1)=M:=⟨_,rfl⟩;have hMb:M≤1000000000000:=by omega
 rw [hM] at hmx hr;rw [hM,hr];have HRR:=hide hr;clear hr hM
 go_enter Tryz.func125,Tryz.ntmps125
 go_upto_region 1 with fail;obtain ⟨q0,q1,q2⟩:=uh B1 _ rfl;generalize u.alloc (.cells [.int .i64 5,.bool t,.bool dn,.string dg,.int .i64 dx,.string x,lv,fv].toArray 28)=W at *;have HBX:=hide q0;have HBW:=hide q1;have HZ:=hide q2;have hDW:DB db d W:=(q1.block db hdbu).trans (uh HD);have hdc:W.cell? ⟨db,0,none⟩=some (.int .i64 (d:Int)):=blk_cell hDW 0;have hdf:W.frozen? ⟨db,0,none⟩=false:=blk_free hDW 0;have hup:=hide (Upd.setCell db 0 W (.int .i64 (M:Int)))
 have hD2:Hid (DB db M (W.setCell ⟨db,0,none⟩ (.int .i64 (M:Int)))):=by
  have:=blk_set hDW 0 (.int .i64 (M:Int));refine hide ?_;simpa [DB] using this
 obtain ⟨y0,y1,y2,y3,y4,y5,y6,y7⟩:=q0.cells;clear hDW q0 q1 q2 B1;go_upto_region 3 with fail;generalize W.setCell ⟨db,0,none⟩ (.int .i64 (M:Int))=W2 at *;have hqq:Below u.heap.size u W:=uh HBW;have hzz:=uh HZ;have huu:=uh hup;obtain ⟨y0,y1,y2,y3,y4,y5,y6,y7⟩:=BX.cells ((huu.block u.heap.size (by omega)).trans (uh HBX));have hlw2:Below w.heap.size w W2:=(uh HL).trans ((hqq.mono hwu).trans (huu.below hdb));have CP:=hide (uh HP W2 hlw2);have HL2:=hide hlw2;have EX2:Hid (Exc db u W2):=(Exc.of hqq).trans (Exc.upd huu);have hs2:W2.heap.size=u.heap.size+1:=by rw [huu.size];exact hzz
 clear hqq huu hup hzz HZ hdc hdf hmx hlw2
 go_wp2_with (go_at_call 126;refine (uh CP).mono ?_;rintro e w1 ⟨oa,c,css,rfl,s1,s2,s3,s4,s5⟩
              have S1:=hide s1;have S3:=hide s3;have S4:=hide s4;have S5:=hide s5
              clear s1 s3 s4 s5 y0 y1 y2 y3 y4 y5 y6 y7)
 have hs1:=(uh S5).size
 go_loopw [23] (fun iv wr=>∃ i:Nat,i≤vs.length∧iv=.int .i64 (i:Int)∧Hid (DB db (((vs.take i).map dpt).foldl (fun e n=>dup e (a+1) n) M) wr)∧Hid (Exc db w1 wr)) (fun iv _=>vs.length - (intOf iv).toNat)
 case atStart=>exact ⟨0,by omega,rfl,((uh S5).block db (by omega)).trans (uh hD2),Exc.refl _ _⟩
 case round =>
  obtain ⟨i,hi,rfl,HDr,HX⟩:=hrel;have hsx:=(uh HX).size
  by_cases hc:i < vs.length
  · obtain ⟨v,hv⟩:∃ v,vs[i]?=some v:=⟨_,List.getElem?_eq_getElem hc⟩
    obtain ⟨cc,hcc⟩:∃ c,css[i]?=some c:=⟨_,List.getElem?_eq_getElem (by omega)⟩;have vA:=uh S3 i v cc hv hcc;obtain ⟨kk,tt,ng,dg2,ex2,xx,c1,m1,k1,c2,m2,k2,rfl⟩:=vA.form;obtain ⟨ad0,c',e,_,_,hat0⟩:=(uh S1).some (by omega);simp only [Value.slice.injEq] at e;obtain ⟨rfl,_,rfl⟩:=e
    have h8:∀ c∈css,c.length=8:=by
     intro c hc;obtain ⟨j,hj⟩:=List.getElem?_of_mem hc;obtain ⟨hlt,_⟩:=List.getElem?_eq_some_iff.1 hj;exact (uh S3 j _ c (List.getElem?_eq_getElem (by omega)) hj).len
    have hblk:ad0.block≠db:=by
     rcases uh S4 ad0 rfl (by omega) with q|q <;> omega
    have hat:=sv_at h8 hat0 hcc
    have hat2:∀ (j:Nat) (u:Value),[.int .i64 kk,.bool tt,.bool ng,.string dg2,.int .i64 ex2,.string xx,.slice c1 m1 k1,.slice c2 m2 k2][j]?=some u→wr.cell? ((ad0.add (i*8)).add j)=some u:=by
     intro j u hu;refine (uh HX).cell (hat j u hu) ?_;have e1:((ad0.add (i*8)).add j).block=ad0.block:=by unfold Addr.add;split <;> split <;> rfl
     rw [e1];exact hblk
    obtain ⟨x0,x1,x2,x3,x4,x5,x6,x7⟩:=cells8 hat2;generalize hadd:ad0.add (i*8)=ad at *;have hi1:(i:Int) < (vs.length:Int):=by omega
    have HVI:=hide hv;have hdv:=uh HDP v (List.mem_of_getElem? hv);obtain ⟨R,hR⟩:∃ R,((vs.take i).map dpt).foldl (fun e n=>dup e (a+1) n) M=R:=⟨_,rfl⟩
    have hRb:R≤1000000000000:=by
     rw [← hR]
     have aux:∀ (ns:List Nat) (e:Nat),e≤1000000000000→(∀ n∈ns,a+1+n≤1000000000000)→ns.foldl (fun e n=>dup e (a+1) n) e≤1000000000000:=by
      intro ns
      induction ns with
      | nil=>intro e h _;exact h
      | cons n ns ih =>
        intro e h hs;rw [List.foldl_cons];refine ih _ ?_ (fun m hm=>hs m (by simp [hm]));have:=hs n (by simp);unfold dup
        split <;> omega
     refine aux _ M hMb (fun n hn=>?_);obtain ⟨v',hv',rfl⟩:=List.mem_map.1 hn;exact uh HDP v' (List.mem_of_mem_take hv')
    rw [hR] at HDr;have HR:=hide hR;have hlr:Below w.heap.size w wr:=(uh HX).low ((uh HL2).trans ((uh S5).mono (by omega))) (by omega) hdb;have hba:Below wr.heap.size wr (wr.alloc (.cells #[.int .i64 kk,.bool tt,.bool ng,.string dg2,.int .i64 ex2,.string xx,.slice c1 m1 k1,.slice c2 m2 k2] 28)):=(Below.refl _ wr).alloc (Nat.le_refl _) _;have hbx:BX (wr.alloc (.cells #[.int .i64 kk,.bool tt,.bool ng,.string dg2,.int .i64 ex2,.string xx,.slice c1 m1 k1,.slice c2 m2 k2] 28)) wr.heap.size [.int .i64 kk,.bool tt,.bool ng,.string dg2,.int .i64 ex2,.string xx,.slice c1 m1 k1,.slice c2 m2 k2]:=heap_alloc_new wr _;have HLR:=hide hlr;clear hat0 hat hat2 hcc hR hv hblk h8 hlr;go_upto_region 6 with fail;generalize wr.alloc (.cells #[.int .i64 kk,.bool tt,.bool ng,.string dg2,.int .i64 ex2,.string xx,.slice c1 m1 k1,.slice c2 m2 k2] 28)=wa at *;obtain ⟨g0,g1,g2,g3,g4,g5,g6,g7⟩:=hbx.cells;have hcn:wa.cell? ⟨nb,0,none⟩=some (lkV db nb):=(Exc.of hba).cell ((uh HX).cell (kc (uh S5) ((uh EX2).cell (uh HN) (fun q=>hne q.symm))) (fun q=>hne q.symm)) (fun q=>hne q.symm);have CI:=hide (uh HI v (List.mem_of_getElem? (uh HVI)) (a+1) R _ wa hdv hRb ((uh HLR).trans (hba.mono (uh HLR).size)) hdb hne vA ((hba.block db (by omega)).trans (uh HDr)) hcn);have HBA:=hide hba;unfold lkV at hcn;rw [show ((a+1:Nat):Int)=(a:Int)+1 by omega] at CI;clear hba hbx x0 x1 x2 x3 x4 x5 x6 x7 vA
    go_wp2_with (go_at_call 125;refine (uh CI).mono ?_;rintro e u2 ⟨rfl,hx2,hd2⟩)
    refine ⟨⟨i+1,by omega,by go_num,?_,((uh HX).trans (Exc.of (uh HBA))).trans hx2⟩,by simp [intOf];omega⟩;rw [take_succ' (uh HVI),List.map_append,List.foldl_append,uh HR];exact hd2
  · obtain rfl:i=vs.length:=by omega
    have hno:¬ (vs.length:Int) < (vs.length:Int):=by omega
    rw [List.take_of_length_le (Nat.le_refl _),uh HRR] at HDr;go_wp2
    go_end0
    exact ⟨rfl,((uh EX2).trans (Exc.of (uh S5))).trans (uh HX),uh HDr⟩
theorem fold_max_le:∀ (ns:List Nat) (m n:Nat),n∈ns→n≤ns.foldl max m
 | [],_,_,h=>by simp at h
 | x::ns,m,n,h=>by
   rw [List.foldl_cons]
   rcases List.mem_cons.1 h with e|h
   · subst e
     have:∀ (ns:List Nat) (m:Nat),m≤ns.foldl max m:=by
      intro ns
      induction ns with
      | nil=>intro m;exact Nat.le_refl _
      | cons y ns ih=>intro m;rw [List.foldl_cons];exact Nat.le_trans (Nat.le_max_left _ _) (ih _)
     exact Nat.le_trans (Nat.le_max_right _ _) (this ns (max m n))
   · exact fold_max_le ns (max m x) n h
theorem look_any (w:World) (db nb:Nat) (n:Nat):∀ v,SizeOf.sizeOf v < n→Bd v→Gd v→LK w db nb v:=by
 induction n with
 | zero=>intro v h;omega
 | succ n IH =>
   intro v hn hbd hgd a d cs u ha hd hlow hdb hne hv hD hN;have hv':=hv
   cases hv with
   | @mk k t dd x l f lv fv css gss hl hf h1 h3 hle hfe =>
     obtain ⟨dn,dg,dx⟩:=dd
     cases hbd with
     | mk hk d0 d1 d2 d3 d4 dl dnm df =>
       cases hgd with
       | mk g5 gl gf =>
         obtain ⟨oa,c,rfl,_⟩:=mm.SV.form hl;obtain ⟨ob,c',rfl,_⟩:=mm.SV.form hf;rw [dpt_mk] at ha ⊢
         by_cases e4:k=4
         · subst e4
           rw [if_pos rfl] at ha ⊢;rw [← dup_all]
           exact look4 t dn dg dx x (.slice oa l.length c) (.slice ob f.length c') l w a d db nb u d3 (by omega) hd
            (fun v hv=>by have:=fold_max_le (l.map dpt) 0 (dpt v) (List.mem_map.2 ⟨v,hv,rfl⟩);omega) hlow hdb hne hD hN
            (fun u' hu'=>partsOf_list t dn dg dx x l f oa c _ w u' hu' hv')
            (fun v hv=>IH v (by have:=sz_l (k:=4) (t:=t) (d:=⟨dn,dg,dx⟩) (x:=x) (f:=f) hv;omega) (dl v hv) (gl rfl v hv))
         · rw [if_neg e4] at ha ⊢
           by_cases e5:k=5
           · subst e5
             rw [if_pos rfl] at ha ⊢;rw [← dup_all];have hcl:=cnt_len f
             exact look5 t dn dg dx x (.slice oa l.length c) (.slice ob f.length c') ((cnt f).map Prod.snd) w a d db nb u (by rw [List.length_map];omega) (by omega) hd
              (fun v hv=>by have:=fold_max_le (((cnt f).map Prod.snd).map dpt) 0 (dpt v) (List.mem_map.2 ⟨v,hv,rfl⟩);omega) hlow hdb hne hD hN
              (fun u' hu'=>partsOf_obj t dn dg dx x (cnt f) _ _ w u' (by omega) (fun u2 hu2=>g5 rfl 5 t ⟨dn,dg,dx⟩ x l _ w u2 hv' (hu'.trans (hu2.mono hu'.size))))
              (fun v hv=>by
               obtain ⟨p,hp,rfl⟩:=List.mem_map.1 hv;obtain ⟨q,hq,e⟩:=cnt_mem hp;rw [← e]
               exact IH q.2 (by have:=sz_f (k:=5) (t:=t) (d:=⟨dn,dg,dx⟩) (x:=x) (l:=l) hq;omega) (df q hq) (gf rfl q hq))
           · rw [if_neg e5]
             refine (look_flat k t dn dg dx x _ _ a db nb u e4 e5).mono ?_;rintro e u' ⟨rfl,hb⟩;exact ⟨rfl,Exc.of hb,(hb.block db (blk_lt hD)).trans hD⟩
theorem dep_world (w:World) (cs:List Value) (ta:TypeId):∀ W,W=((w.alloc (.cells cs.toArray 28)).alloc (.cells #[.int .i64 0] 3)).alloc (.cells #[lkV (w.heap.size+1) (w.heap.size+1+1)] ta) →
 BX W w.heap.size cs∧DB (w.heap.size+1) 0 W∧W.cell? ⟨w.heap.size+1+1,0,none⟩=some (lkV (w.heap.size+1) (w.heap.size+1+1))∧W.heap.size=w.heap.size+3∧Below w.heap.size w W:=by
 rintro W rfl;obtain ⟨w1,e1⟩:∃ w1,w1=w.alloc (.cells cs.toArray 28):=⟨_,rfl⟩;have z1:w1.heap.size=w.heap.size+1:=by rw [e1,World.size_alloc]
 have b1:BX w1 w.heap.size cs:=by rw [e1];exact heap_alloc_new w _
 have l1:Below w.heap.size w w1:=by rw [e1];exact (Below.refl _ w).alloc (Nat.le_refl _) _
 rw [← e1];obtain ⟨w2,e2⟩:∃ w2,w2=w1.alloc (.cells #[.int .i64 0] 3):=⟨_,rfl⟩;have z2:w2.heap.size=w.heap.size+1+1:=by rw [e2,World.size_alloc,z1]
 have d2:DB (w.heap.size+1) 0 w2:=by unfold DB;rw [e2,← z1];exact heap_alloc_new w1 _
 have l2:Below w1.heap.size w1 w2:=by rw [e2];exact (Below.refl _ w1).alloc (Nat.le_refl _) _
 rw [← e2];have l3:Below w2.heap.size w2 (w2.alloc (.cells #[lkV (w.heap.size+1) (w.heap.size+1+1)] ta)):=(Below.refl _ w2).alloc (Nat.le_refl _) _;have n3:(w2.alloc (.cells #[lkV (w.heap.size+1) (w.heap.size+1+1)] ta)).heap[w.heap.size+1+1]?=some (.cells #[lkV (w.heap.size+1) (w.heap.size+1+1)] ta (0,0)):=by rw [← z2];exact heap_alloc_new w2 _
 have z3:(w2.alloc (.cells #[lkV (w.heap.size+1) (w.heap.size+1+1)] ta)).heap.size=w.heap.size+3:=by rw [World.size_alloc,z2]
 generalize w2.alloc (.cells #[lkV (w.heap.size+1) (w.heap.size+1+1)] ta)=w3 at *;have l13:Below w1.heap.size w1 w3:=l2.trans (l3.mono (by omega));exact ⟨b1.keep l13 (by omega),(l3.block _ (by omega)).trans d2,blk_cell n3 0,z3,l1.trans (l13.mono (by omega))⟩
set_option maxHeartbeats 4000000 in
set_option maxRecDepth 1000000 in
theorem jdepth_any (v:JT) (hb:Bd v) (hg:Gd v) (hd:dpt v≤1000000000000) (cs:List Value) (w:World) (h:VR w v cs) :
 Calls Tryz.prog 107 #[.agg cs.toArray] w fun e w'=>e=.returned (.int .i64 (dpt v:Int))∧Below w.heap.size w w':=by
 obtain ⟨kk,tt,ng,dg,ex,xx,q1,n1,m1,q2,n2,m2,rfl⟩:=h.form;have HC:=hide (fun u h1 h2 h3 h4 h5=>look_any w (w.heap.size+1) (w.heap.size+1+1) _ v (Nat.lt_succ_self _) hb hg 0 0 _ u (by omega) (by omega) h1 h2 h3 h h4 h5);have DW:=hide (dep_world w [.int .i64 kk,.bool tt,.bool ng,.string dg,.int .i64 ex,.string xx,.slice q1 n1 m1,.slice q2 n2 m2] 163);have he:dup 0 0 (dpt v)=dpt v:=by unfold dup;split <;> omega
 rw [he] at HC;clear h hb hg he;generalize dpt v=D at *;unfold lkV at DW
 go_enter Tryz.func107,Tryz.ntmps107
 go_upto_region 4 with fail;obtain ⟨r1,r2,r3,r4,r5⟩:=uh DW _ rfl;generalize ((w.alloc (.cells [.int .i64 kk,.bool tt,.bool ng,.string dg,.int .i64 ex,.string xx,.slice q1 n1 m1,.slice q2 n2 m2].toArray 28)).alloc (.cells #[.int .i64 0] 3)).alloc (.cells #[.func (.func 125) #[] #[.pointer (some ⟨w.heap.size+1,0,none⟩),.pointer (some ⟨w.heap.size+1+1,0,none⟩)]] 163)=W at *;obtain ⟨y0,y1,y2,y3,y4,y5,y6,y7⟩:=r1.cells;have CL:=hide (uh HC W r5 (Nat.le_succ _) (by omega) r2 r3);have R5:=hide r5;have R4:=hide r4;have eg:=enter_look;clear r1 r2 r4 r5 DW HC
 go_wp2_with (go_at_call 125;refine (uh CL).mono ?_;rintro e u2 ⟨rfl,hx2,hd2⟩
              have hc2:u2.cell? ⟨w.heap.size+1,0,none⟩=some (.int .i64 (D:Int)):=blk_cell hd2 0)
 go_ret;exact ⟨rfl,hx2.low (uh R5) (by have:=uh R4;omega) (Nat.le_succ _)⟩
def smV (nb fb:Nat):Value:=.func (.func 128) #[] #[.pointer (some ⟨nb,0,none⟩),.pointer (some ⟨fb,0,none⟩)]
def smFV (nb:Nat):Value:=.func (.func 127) #[] #[.pointer (some ⟨nb,0,none⟩)]
theorem enter_same2 (args:Array Value) (w:World):(callFunc 128 args).run Tryz.prog w=.ok (.enter 128 args) w :=
 MuLone.run_callFunc_enter Tryz.func128 (by kernel_rfl) (c:=Tryz.f128.body.get (by kernel_rfl)) (by kernel_rfl) args w
theorem same_world (w:World) (ca cb:List Value) (ta tb:TypeId):∀ W,W=(((w.alloc (.cells ca.toArray 28)).alloc (.cells cb.toArray 28)).alloc (.cells #[smV (w.heap.size+1+1) (w.heap.size+1+1+1)] ta)).alloc (.cells #[smFV (w.heap.size+1+1)] tb) →
 BX W w.heap.size ca∧BX W (w.heap.size+1) cb∧W.cell? ⟨w.heap.size+1+1,0,none⟩=some (smV (w.heap.size+1+1) (w.heap.size+1+1+1))∧W.cell? ⟨w.heap.size+1+1+1,0,none⟩=some (smFV (w.heap.size+1+1))∧W.heap.size=w.heap.size+4∧Below w.heap.size w W:=by
 rintro W rfl;obtain ⟨b0,b1,l2⟩:=box_two w ca cb;have z2:((w.alloc (.cells ca.toArray 28)).alloc (.cells cb.toArray 28)).heap.size=w.heap.size+1+1:=by rw [World.size_alloc,World.size_alloc]
 generalize (w.alloc (.cells ca.toArray 28)).alloc (.cells cb.toArray 28)=w2 at *;obtain ⟨w3,e3⟩:∃ w3,w3=w2.alloc (.cells #[smV (w.heap.size+1+1) (w.heap.size+1+1+1)] ta):=⟨_,rfl⟩;have z3:w3.heap.size=w.heap.size+1+1+1:=by rw [e3,World.size_alloc,z2]
 have l3:Below w2.heap.size w2 w3:=by rw [e3];exact (Below.refl _ w2).alloc (Nat.le_refl _) _
 have n3:w3.heap[w.heap.size+1+1]?=some (.cells #[smV (w.heap.size+1+1) (w.heap.size+1+1+1)] ta (0,0)):=by rw [e3,← z2];exact heap_alloc_new w2 _
 rw [← e3];have l4:Below w3.heap.size w3 (w3.alloc (.cells #[smFV (w.heap.size+1+1)] tb)):=(Below.refl _ w3).alloc (Nat.le_refl _) _;have n4:(w3.alloc (.cells #[smFV (w.heap.size+1+1)] tb)).heap[w.heap.size+1+1+1]?=some (.cells #[smFV (w.heap.size+1+1)] tb (0,0)):=by rw [← z3];exact heap_alloc_new w3 _
 have z4:(w3.alloc (.cells #[smFV (w.heap.size+1+1)] tb)).heap.size=w.heap.size+4:=by rw [World.size_alloc,z3]
 generalize w3.alloc (.cells #[smFV (w.heap.size+1+1)] tb)=w4 at *;have l24:Below w2.heap.size w2 w4:=l3.trans (l4.mono (by omega));exact ⟨b0.keep l24 (by omega),b1.keep l24 (by omega),blk_cell ((l4.block _ (by omega)).trans n3) 0,blk_cell n4 0,z4,l2.trans (l24.mono (by omega))⟩
def EQP (u:World) (P:Prop) (e:Ending) (u':World):Prop:=∃ b,e=.returned (.bool b)∧(b=true↔P)∧Below u.heap.size u u'
def SmC (nb fb:Nat) (v v':JT):Prop:=∀ (c c':List Value) (u:World),VR u v c→VR u v' c'→u.cell? ⟨nb,0,none⟩=some (smV nb fb)→u.cell? ⟨fb,0,none⟩=some (smFV nb) →
 Calls Tryz.prog 128 #[.agg c.toArray,.agg c'.toArray,.pointer (some ⟨nb,0,none⟩),.pointer (some ⟨fb,0,none⟩)] u (EQP u (v=v'))
def SfC (nb fb:Nat) (nm:ByteArray) (v:JT) (nm':ByteArray) (v':JT):Prop:=∀ (c c':List Value) (u:World),VR u v c→VR u v' c'→u.cell? ⟨nb,0,none⟩=some (smV nb fb)→u.cell? ⟨fb,0,none⟩=some (smFV nb) →
 Calls Tryz.prog 127 #[.agg (.string nm::c).toArray,.agg (.string nm'::c').toArray,.pointer (some ⟨nb,0,none⟩)] u (EQP u (nm=nm'∧v=v'))
def FX (w:World) (m:Nat) (cs:List Value):Prop:=w.heap[m]?=some (.cells cs.toArray 70 (0,0))
theorem FX.cells {w:World}{m:Nat}{z a0 a1 a2 a3 a4 a5 a6 a7:Value} (h:FX w m [z,a0,a1,a2,a3,a4,a5,a6,a7]) :
 w.cell? ⟨m,0,none⟩=some z∧w.cell? ⟨m,1,none⟩=some a0∧w.cell? ⟨m,2,none⟩=some a1∧w.cell? ⟨m,3,none⟩=some a2∧w.cell? ⟨m,4,none⟩=some a3∧w.cell? ⟨m,5,none⟩=some a4∧w.cell? ⟨m,6,none⟩=some a5∧w.cell? ⟨m,7,none⟩=some a6∧w.cell? ⟨m,8,none⟩=some a7 :=
 ⟨blk_cell h 0,blk_cell h 1,blk_cell h 2,blk_cell h 3,blk_cell h 4,blk_cell h 5,blk_cell h 6,blk_cell h 7,blk_cell h 8⟩
theorem FX.keep {w w':World}{m B:Nat}{cs:List Value} (h:FX w m cs) (hb:Below B w w') (hB:m < B):FX w' m cs:=(hb.block m hB).trans h
theorem enter_same1 (args:Array Value) (w:World):(callFunc 127 args).run Tryz.prog w=.ok (.enter 127 args) w :=
 MuLone.run_callFunc_enter Tryz.func127 (by kernel_rfl) (c:=Tryz.f127.body.get (by kernel_rfl)) (by kernel_rfl) args w
set_option maxHeartbeats 6400000 in
set_option maxRecDepth 1000000 in
theorem eqV_any {k k':Int}{t t':Bool}{d d':Dn}{x x':ByteArray}{l l':List JT}{f f':List (ByteArray × JT)}{z0 z1 z2 z3 z4 z5 z0' z1' z2' z3' z4' z5' z7 z7':Value}{oa ob:Option Addr}{c c' nb fb:Nat}{w:World} (ha:VR w (JT.mk k t d x l f) [z0,z1,z2,z3,z4,z5,.slice oa l.length c,z7]) (hb:VR w (JT.mk k' t' d' x' l' f') [z0',z1',z2',z3',z4',z5',.slice ob l'.length c',z7']) (h1:w.cell? ⟨nb,0,none⟩=some (smV nb fb)) (h2:w.cell? ⟨fb,0,none⟩=some (smFV nb)) (hm:l.length≤maxLen) (IH:∀ v∈l,∀ v',SmC nb fb v v') :
 Calls Tryz.prog 129 #[.slice oa l.length c,.slice ob l'.length c',smV nb fb] w (EQP w (l=l')):=by
 by_cases e4:l.length=l'.length
 · have HA:=hide ha
   have HB:=hide hb;have HI:=hide IH;have H1:=hide h1;have H2:=hide h2;have E4:=hide e4;have HM:=hide hm;rw [← e4];clear ha hb h1 h2 IH hm e4;unfold smV
   go_enter Tryz.func129,Tryz.ntmps129
   go_wp2
   go_loopw [17] (fun iv wr=>∃ i:Nat,i≤l.length∧iv=.int .i64 (i:Int)∧Hid (∀ j,j < i→l[j]?=l'[j]?)∧Hid (Below w.heap.size w wr)) (fun iv _=>l.length - (intOf iv).toNat)
   case atStart=>exact ⟨0,by omega,rfl,fun j hj=>by omega,Below.refl _ _⟩
   case round =>
    obtain ⟨i,hi,rfl,hE,hB⟩:=hrel
    by_cases hc:i < l.length
    · obtain ⟨a,v,a0,a1,a2,a3,a4,a5,a6,a7,rfl,hv,vA,hat⟩:=((uh HA).keep (uh hB)).el i hc
      obtain ⟨b,v',b0,b1,b2,b3,b4,b5,b6,b7,rfl,hv',vB,hbt⟩:=((uh HB).keep (uh hB)).el i (by have:=uh E4;omega);obtain ⟨k1,t1,g1,d1,e1,x1,p1,m1,n1,q1,r1,s1,hf⟩:=vA.form;simp only [List.cons.injEq,and_true] at hf;obtain ⟨rfl,rfl,rfl,rfl,rfl,rfl,rfl,rfl⟩:=hf;obtain ⟨k2,t2,g2,d2,e2,x2,p2,m2,n2,q2,r2,s2,hf⟩:=vB.form;simp only [List.cons.injEq,and_true] at hf;obtain ⟨rfl,rfl,rfl,rfl,rfl,rfl,rfl,rfl⟩:=hf;have CL:=hide (uh HI v (List.mem_of_getElem? hv) v');have HV:=hide hv;have HV':=hide hv';have hi1:(i:Int) < (l.length:Int):=by omega
      have HMX:Hid (l.length≤9223372036854775807):=by show _≤_;have hm:=uh HM;unfold maxLen at hm;omega
      have hi3:i < l'.length:=by have:=uh E4;omega
      have hi2:(i:Int) < (l'.length:Int):=by omega
      obtain ⟨x0',x1',x2',x3',x4',x5',x6',x7'⟩:=cells8 hat;obtain ⟨y0',y1',y2',y3',y4',y5',y6',y7'⟩:=cells8 hbt;generalize hadd:a.add (i*8)=ad at *;generalize hbdd:b.add (i*8)=bd at *;have hba:Below wr.heap.size wr (wr.alloc (.cells #[.int .i64 k1,.bool t1,.bool g1,.string d1,.int .i64 e1,.string x1,.slice p1 m1 n1,.slice q1 r1 s1] 28)):=(Below.refl _ wr).alloc (Nat.le_refl _) _;have hsa:(wr.alloc (.cells #[.int .i64 k1,.bool t1,.bool g1,.string d1,.int .i64 e1,.string x1,.slice p1 m1 n1,.slice q1 r1 s1] 28)).heap.size=wr.heap.size+1:=World.size_alloc _ _;have hbx:BX (wr.alloc (.cells #[.int .i64 k1,.bool t1,.bool g1,.string d1,.int .i64 e1,.string x1,.slice p1 m1 n1,.slice q1 r1 s1] 28)) wr.heap.size [.int .i64 k1,.bool t1,.bool g1,.string d1,.int .i64 e1,.string x1,.slice p1 m1 n1,.slice q1 r1 s1]:=heap_alloc_new wr _;have VA:=hide vA;have VB:=hide vB;clear hat hbt hv hv' vA vB;go_upto_region 6 with fail;generalize wr.alloc (.cells #[.int .i64 k1,.bool t1,.bool g1,.string d1,.int .i64 e1,.string x1,.slice p1 m1 n1,.slice q1 r1 s1] 28)=wa at *;have HBA:=hide hba;have HBX:=hide hbx;have HSA:=hide hsa;have w0:=kc hba y0';have w1:=kc hba y1';have w2:=kc hba y2';have w3:=kc hba y3';have w4:=kc hba y4';have w5:=kc hba y5';have w6:=kc hba y6';have w7:=kc hba y7';have hbb:Below wa.heap.size wa (wa.alloc (.cells #[.int .i64 k2,.bool t2,.bool g2,.string d2,.int .i64 e2,.string x2,.slice p2 m2 n2,.slice q2 r2 s2] 28)):=(Below.refl _ wa).alloc (Nat.le_refl _) _;have hby:BX (wa.alloc (.cells #[.int .i64 k2,.bool t2,.bool g2,.string d2,.int .i64 e2,.string x2,.slice p2 m2 n2,.slice q2 r2 s2] 28)) wa.heap.size [.int .i64 k2,.bool t2,.bool g2,.string d2,.int .i64 e2,.string x2,.slice p2 m2 n2,.slice q2 r2 s2]:=heap_alloc_new wa _;clear x0' x1' x2' x3' x4' x5' x6' x7' y0' y1' y2' y3' y4' y5' y6' y7' hba hbx hsa;go_upto_region 7 with fail;generalize wa.alloc (.cells #[.int .i64 k2,.bool t2,.bool g2,.string d2,.int .i64 e2,.string x2,.slice p2 m2 n2,.slice q2 r2 s2] 28)=wb at *;have hbx:=(uh HBX).keep hbb (by have:=uh HSA;omega);have hlb:Below wr.heap.size wr wb:=(uh HBA).trans (hbb.mono (uh HBA).size);have hlw:=(uh hB).trans (hlb.mono (uh hB).size);obtain ⟨g0',g1',g2',g3',g4',g5',g6',g7'⟩:=hbx.cells;obtain ⟨h0',h1',h2',h3',h4',h5',h6',h7'⟩:=hby.cells;have CI:=hide (uh CL _ _ wb ((uh VA).keep hlb) ((uh VB).keep hlb) (kc hlw (uh H1)) (kc hlw (uh H2)));have HLW:=hide hlw;clear hadd hbdd hi1 hi2 hi3 w0 w1 w2 w3 w4 w5 w6 w7 hbb hbx hby hlb hlw HBX HSA HBA CL VA VB;have eg:=enter_same2
      go_wp2_with (go_at_call 128;refine (uh CI).mono ?_;rintro e u4 ⟨bb,rfl,hbb,hb5⟩
                   have HBB:Hid (bb=true↔v=v'):=hbb;have HB5:=hide hb5;clear CI hbb hb5
                   cases bb)
      · go_ret
        refine ⟨false,rfl,?_,(uh HLW).trans ((uh HB5).mono (uh HLW).size)⟩;have hn:¬ v=v':=fun q=>by have:=(uh HBB).2 q;cases this
        simp only [Bool.false_eq_true,false_iff];rintro rfl;have:=uh HV';rw [uh HV] at this;simp only [Option.some.injEq] at this;exact hn this
      · have hmx:=uh HMX
        have HWQ:=hide (show wrap64 ((i:Int)+1)=((i+1:Nat):Int) by rw [IntWalk.wrap64_in _ ⟨by omega,by omega⟩];omega);clear hmx;go_wp2;rw [uh HWQ];refine ⟨⟨i+1,by omega,rfl,?_,(uh HLW).trans ((uh HB5).mono (uh HLW).size)⟩,by simp [intOf];omega⟩;intro j hj
        by_cases q:j=i
        · subst q
          have:=(uh HBB).1 (by simp);rw [uh HV,uh HV'];rw [this]
        · exact uh hE j (by omega)
    · obtain rfl:i=l.length:=by omega
      have HLL:Hid (l=l'):=by
       show l=l';apply List.ext_getElem?;intro j
       by_cases q:j < l.length
       · exact uh hE j q
       · rw [List.getElem?_eq_none (by omega),List.getElem?_eq_none (by have:=uh E4;omega)]
      clear hE;have hno:¬ (l.length:Int) < (l.length:Int):=by omega
      go_wp2;go_ret;exact ⟨true,rfl,by simpa using uh HLL,uh hB⟩
 · have hne:¬ ((l.length:Int)=(l'.length:Int)):=by omega
   have HN:=hide e4;clear ha hb h1 h2 IH e4
   go_enter Tryz.func129,Tryz.ntmps129
   go_wp2;go_ret;exact ⟨false,rfl,by simp only [Bool.false_eq_true,false_iff];intro q;exact uh HN (by rw [q]),Below.refl _ _⟩
set_option maxHeartbeats 6400000 in
set_option maxRecDepth 1000000 in
theorem eqF_any {k k':Int}{t t':Bool}{d d':Dn}{x x':ByteArray}{l l':List JT}{f f':List (ByteArray × JT)}{z0 z1 z2 z3 z4 z5 z0' z1' z2' z3' z4' z5' z6 z6':Value}{oa ob:Option Addr}{c c' nb fb:Nat}{w:World} (ha:VR w (JT.mk k t d x l f) [z0,z1,z2,z3,z4,z5,z6,.slice oa f.length c]) (hb:VR w (JT.mk k' t' d' x' l' f') [z0',z1',z2',z3',z4',z5',z6',.slice ob f'.length c']) (h1:w.cell? ⟨nb,0,none⟩=some (smV nb fb)) (h2:w.cell? ⟨fb,0,none⟩=some (smFV nb)) (hm:f.length≤maxLen) (IH:∀ nm v,(nm,v)∈f→∀ nm' v',SfC nb fb nm v nm' v') :
 Calls Tryz.prog 130 #[.slice oa f.length c,.slice ob f'.length c',smFV nb] w (EQP w (f=f')):=by
 by_cases e4:f.length=f'.length
 · have HA:=hide ha
   have HB:=hide hb;have HI:=hide IH;have H1:=hide h1;have H2:=hide h2;have E4:=hide e4;have HM:=hide hm;rw [← e4];clear ha hb h1 h2 IH hm e4;unfold smFV
   go_enter Tryz.func130,Tryz.ntmps130
   go_wp2
   go_loopw [17] (fun iv wr=>∃ i:Nat,i≤f.length∧iv=.int .i64 (i:Int)∧Hid (∀ j,j < i→f[j]?=f'[j]?)∧Hid (Below w.heap.size w wr)) (fun iv _=>f.length - (intOf iv).toNat)
   case atStart=>exact ⟨0,by omega,rfl,fun j hj=>by omega,Below.refl _ _⟩
   case round =>
    obtain ⟨i,hi,rfl,hE,hB⟩:=hrel
    by_cases hc:i < f.length
    · obtain ⟨a,nm,v,a0,a1,a2,a3,a4,a5,a6,a7,rfl,hv,vA,hat⟩:=((uh HA).keep (uh hB)).fl i hc
      obtain ⟨b,nm',v',b0,b1,b2,b3,b4,b5,b6,b7,rfl,hv',vB,hbt⟩:=((uh HB).keep (uh hB)).fl i (by have:=uh E4;omega);obtain ⟨k1,t1,g1,d1,e1,x1,p1,m1,n1,q1,r1,s1,hf⟩:=vA.form;simp only [List.cons.injEq,and_true] at hf;obtain ⟨rfl,rfl,rfl,rfl,rfl,rfl,rfl,rfl⟩:=hf;obtain ⟨k2,t2,g2,d2,e2,x2,p2,m2,n2,q2,r2,s2,hf⟩:=vB.form;simp only [List.cons.injEq,and_true] at hf;obtain ⟨rfl,rfl,rfl,rfl,rfl,rfl,rfl,rfl⟩:=hf;have CL:=hide (uh HI nm v (List.mem_of_getElem? hv) nm' v');have HV:=hide hv;have HV':=hide hv';have hi1:(i:Int) < (f.length:Int):=by omega
      have HMX:Hid (f.length≤9223372036854775807):=by show _≤_;have hm:=uh HM;unfold maxLen at hm;omega
      have hi3:i < f'.length:=by have:=uh E4;omega
      have hi2:(i:Int) < (f'.length:Int):=by omega
      obtain ⟨x0',x1',x2',x3',x4',x5',x6',x7',x8'⟩:=cells9 hat;obtain ⟨y0',y1',y2',y3',y4',y5',y6',y7',y8'⟩:=cells9 hbt;generalize hadd:a.add (i*9)=ad at *;generalize hbdd:b.add (i*9)=bd at *;have hba:Below wr.heap.size wr (wr.alloc (.cells #[.string nm,.int .i64 k1,.bool t1,.bool g1,.string d1,.int .i64 e1,.string x1,.slice p1 m1 n1,.slice q1 r1 s1] 70)):=(Below.refl _ wr).alloc (Nat.le_refl _) _;have hsa:(wr.alloc (.cells #[.string nm,.int .i64 k1,.bool t1,.bool g1,.string d1,.int .i64 e1,.string x1,.slice p1 m1 n1,.slice q1 r1 s1] 70)).heap.size=wr.heap.size+1:=World.size_alloc _ _;have hbx:FX (wr.alloc (.cells #[.string nm,.int .i64 k1,.bool t1,.bool g1,.string d1,.int .i64 e1,.string x1,.slice p1 m1 n1,.slice q1 r1 s1] 70)) wr.heap.size [.string nm,.int .i64 k1,.bool t1,.bool g1,.string d1,.int .i64 e1,.string x1,.slice p1 m1 n1,.slice q1 r1 s1]:=heap_alloc_new wr _;have VA:=hide vA;have VB:=hide vB;clear hat hbt hv hv' vA vB;go_upto_region 6 with fail;generalize wr.alloc (.cells #[.string nm,.int .i64 k1,.bool t1,.bool g1,.string d1,.int .i64 e1,.string x1,.slice p1 m1 n1,.slice q1 r1 s1] 70)=wa at *;have HBA:=hide hba;have HBX:=hide hbx;have HSA:=hide hsa;have w0:=kc hba y0';have w1:=kc hba y1';have w2:=kc hba y2';have w3:=kc hba y3';have w4:=kc hba y4';have w5:=kc hba y5';have w6:=kc hba y6';have w7:=kc hba y7';have w8:=kc hba y8';have hbb:Below wa.heap.size wa (wa.alloc (.cells #[.string nm',.int .i64 k2,.bool t2,.bool g2,.string d2,.int .i64 e2,.string x2,.slice p2 m2 n2,.slice q2 r2 s2] 70)):=(Below.refl _ wa).alloc (Nat.le_refl _) _;have hby:FX (wa.alloc (.cells #[.string nm',.int .i64 k2,.bool t2,.bool g2,.string d2,.int .i64 e2,.string x2,.slice p2 m2 n2,.slice q2 r2 s2] 70)) wa.heap.size [.string nm',.int .i64 k2,.bool t2,.bool g2,.string d2,.int .i64 e2,.string x2,.slice p2 m2 n2,.slice q2 r2 s2]:=heap_alloc_new wa _;clear x0' x1' x2' x3' x4' x5' x6' x7' x8' y0' y1' y2' y3' y4' y5' y6' y7' y8' hba hbx hsa;go_upto_region 7 with fail;generalize wa.alloc (.cells #[.string nm',.int .i64 k2,.bool t2,.bool g2,.string d2,.int .i64 e2,.string x2,.slice p2 m2 n2,.slice q2 r2 s2] 70)=wb at *;have hbx:=(uh HBX).keep hbb (by have:=uh HSA;omega);have hlb:Below wr.heap.size wr wb:=(uh HBA).trans (hbb.mono (uh HBA).size);have hlw:=(uh hB).trans (hlb.mono (uh hB).size);obtain ⟨g0',g1',g2',g3',g4',g5',g6',g7',g8'⟩:=hbx.cells;obtain ⟨h0',h1',h2',h3',h4',h5',h6',h7',h8'⟩:=hby.cells;have CI:=hide (uh CL _ _ wb ((uh VA).keep hlb) ((uh VB).keep hlb) (kc hlw (uh H1)) (kc hlw (uh H2)));have HLW:=hide hlw;clear hadd hbdd hi1 hi2 hi3 w0 w1 w2 w3 w4 w5 w6 w7 w8 hbb hbx hby hlb hlw HBX HSA HBA CL VA VB;have eg:=enter_same1
      go_wp2_with (go_at_call 127;refine (uh CI).mono ?_;rintro e u4 ⟨bb,rfl,hbb,hb5⟩
                   have HBB:Hid (bb=true↔nm=nm'∧v=v'):=hbb;have HB5:=hide hb5;clear CI hbb hb5
                   cases bb)
      · go_ret
        refine ⟨false,rfl,?_,(uh HLW).trans ((uh HB5).mono (uh HLW).size)⟩;have hn:¬ (nm=nm'∧v=v'):=fun q=>by have:=(uh HBB).2 q;cases this
        simp only [Bool.false_eq_true,false_iff];rintro rfl;have:=uh HV';rw [uh HV] at this;simp only [Option.some.injEq,Prod.mk.injEq] at this;exact hn this
      · have hmx:=uh HMX
        have HWQ:=hide (show wrap64 ((i:Int)+1)=((i+1:Nat):Int) by rw [IntWalk.wrap64_in _ ⟨by omega,by omega⟩];omega);clear hmx;go_wp2;rw [uh HWQ];refine ⟨⟨i+1,by omega,rfl,?_,(uh HLW).trans ((uh HB5).mono (uh HLW).size)⟩,by simp [intOf];omega⟩;intro j hj
        by_cases q:j=i
        · subst q
          have:=(uh HBB).1 (by simp);rw [uh HV,uh HV'];rw [this.1,this.2]
        · exact uh hE j (by omega)
    · obtain rfl:i=f.length:=by omega
      have HLL:Hid (f=f'):=by
       show f=f';apply List.ext_getElem?;intro j
       by_cases q:j < f.length
       · exact uh hE j q
       · rw [List.getElem?_eq_none (by omega),List.getElem?_eq_none (by have:=uh E4;omega)]
      clear hE;have hno:¬ (f.length:Int) < (f.length:Int):=by omega
      go_wp2;go_ret;exact ⟨true,rfl,by simpa using uh HLL,uh hB⟩
 · have hne:¬ ((f.length:Int)=(f'.length:Int)):=by omega
   have HN:=hide e4;clear ha hb h1 h2 IH e4
   go_enter Tryz.func130,Tryz.ntmps130
   go_wp2;go_ret;exact ⟨false,rfl,by simp only [Bool.false_eq_true,false_iff];intro q;exact uh HN (by rw [q]),Below.refl _ _⟩
def SameC:Prop:=∀ (va vb:JT),Bd va→Bd vb→Gd va→Gd vb→∀ (ca cb:List Value) (w:World),VR w va ca→VR w vb cb→Calls Tryz.prog 108 #[.agg ca.toArray,.agg cb.toArray] w (EQP w (nrm va=nrm vb))
end Go.Proofs.YthnhobplgmojeaaGreatDoor.rd
