/- Texts in one: Ii Ij Ik So Il -/
import Derived.Test.YthnhobplgmojeaaGreatDoorIhP
import Derived.Deep.RegionLaw
import Derived.Deep.AppendLies
import Derived.Deep.DeepCutAuto
import Derived.Deep.RegionHeld3
import Derived.Test.YthnhobplgmojeaaGreatDoorNuP
import Derived.Test.YthnhobplgmojeaaGreatDoorIfP
namespace Go.Proofs.YthnhobplgmojeaaGreatDoor.rd
open Go.RowKit
theorem undV:Tryz.prog.underlying 25=some (.slice 28):=by kernel_rfl
theorem infoVl:(Tryz.prog.info? 28).map (fun i=>(i.zero,i.size,i.bytes))=some (some (.agg #[.int .i64 0,.bool false,.bool false,.string ⟨#[]⟩,.int .i64 0,.string ⟨#[]⟩,.slice none 0 0,.slice none 0 0]),8,112):=by kernel_rfl
structure GR (u w4:World) (B n:Nat) (sv:Value) (xs cs:List Value) (g cap:Nat):Prop where
 row:w4.ownsRow B 28 8 (.slice (some ⟨g,0,none⟩) (n+1) cap) (n+1) (xs++cs)
 grow:(u.alloc (.cells cs.toArray 28)).grownBy w4 sv.ownBlock
 lies:sv.ownBlock=some g∨u.heap.size≤g
theorem GR.far {u w4:World}{B n:Nat}{sv:Value}{xs cs:List Value}{g cap:Nat} (h:GR u w4 B n sv xs cs g cap) {b:Nat} (hb:b < u.heap.size) (hn:sv.ownBlock≠some b):w4.heap[b]?=u.heap[b]?:=by
 rw [h.grow.block b (by rw [World.size_alloc];omega) (fun e=>hn e.symm)];exact Below.heap_alloc u _ b hb
theorem GR.cell {u w4:World}{B n:Nat}{sv:Value}{xs cs:List Value}{g cap:Nat} (h:GR u w4 B n sv xs cs g cap) {b o:Nat}{v:Value} (hn:sv.ownBlock≠some b) (hc:u.cell? ⟨b,o,none⟩=some v):w4.cell? ⟨b,o,none⟩=some v:=by
 rw [World.cell?_of_block (w:=u) (w':=w4) (a:=⟨b,o,none⟩) (h.far (mm.cell_lt hc) hn)];exact hc
theorem GR.frozen {u w4:World}{B n:Nat}{sv:Value}{xs cs:List Value}{g cap:Nat} (h:GR u w4 B n sv xs cs g cap) {b o:Nat} (hb:b < u.heap.size) (hn:sv.ownBlock≠some b) (hc:u.frozen? ⟨b,o,none⟩=false):w4.frozen? ⟨b,o,none⟩=false:=by
 rw [World.frozen?_of_block (w:=u) (w':=w4) (a:=⟨b,o,none⟩) (h.far hb hn)];exact hc
theorem step_addv {ops:Array Oper}{op:Oper}{a:Act}{K:Act→World→Prop}{Q:Exit→Act→World→Prop}{E0:Prop} (u W:World) (B n:Nat) (sv:Value) (xs cs:List Value) (S X:Operand) (hgd:op.guard=none)
 (ho:op.op=.call { callee:=.builtin .append,args:=#[S,X],argTypes:=#[25,25] }) (hs:a.eval S=sv) (hx:a.eval X=.slice (some ⟨u.heap.size,0,none⟩) 1 1)
 (hown:Hid (u.ownsRow B 28 8 sv n xs)) (h8:Hid (cs.length=8)) (h1:Hid (∀ v∈cs,v.oneCell'=true)) (hn:Hid (n+1≤1000000000000)) (hB:Hid (B≤u.heap.size)) (hW:W=u.alloc (.cells cs.toArray 28))
 (h:∀ g cap w4,Hid (GR u w4 B n sv xs cs g cap)→K (a.put op.dst (.slice (some ⟨g,0,none⟩) (n+1) cap)) w4) :
 if Region.wanted op (yielded ops a.tmps)=true then Oper.wp Tryz.prog op a W K Q else E0:=by
 subst hW;obtain ⟨i0,hi,hz0,hz1,hz2⟩:=info_parts infoVl;have hN:=uh hn;have hb:=uh hB
 refine step_append_lies _ hgd _ _ _ ho B 28 i0 _ 8 112 undV hi hz0 hz1 hz2 rfl (by omega) sv n xs hs (mm.row_below (uh hown) ((Below.refl _ _).alloc (Nat.le_refl _) _) (Nat.le_refl _))
  ⟨u.heap.size,0,none⟩ 1 1 cs hx (by rw [uh h8]) (fun j v hv=>?_) (uh h1) (by omega) (by unfold maxLen;omega) (by omega) (by rw [World.size_alloc];omega) (u.heap.size+1) (World.size_alloc _ _) ?_
 · rw [mm.add0,blk_cell (heap_alloc_new u _)]
   simpa using hv
 · intro g cap w4 h5 h6 h7 _
   exact h g cap w4 ⟨h5,h6,h7.imp id (fun e=>by omega)⟩
structure NL (m B:Nat) (wr:World) (ls:List JT):Prop where
 ex:∃ (sv:Value) (css:List (List Value)) (ps:List (List Nat)),BX wr m [.int .i64 4,.bool false,.bool false,.string ⟨#[]⟩,.int .i64 0,.string ⟨#[]⟩,sv,.slice none 0 0] ∧
  wr.ownsRow B 28 8 sv ls.length css.flatten∧css.length=ls.length∧ps.length=ls.length ∧
  (∀ (i:Nat) (v:JT) (c:List Value) (p:List Nat),ls[i]?=some v→css[i]?=some c→ps[i]?=some p→VRep wr B v c p)∧(own sv++ps.flatten).Nodup
theorem own_mem {sv:Value}{b:Nat}:b∈own sv↔sv.ownBlock=some b:=by
 unfold own
 cases sv.ownBlock <;> simp [eq_comm]
theorem nl_add {m B:Nat}{wr u w4:World}{ls:List JT}{sv:Value}{css:List (List Value)}{ps:List (List Nat)}{v:JT}{cs:List Value}{p:List Nat}{g cap:Nat}
 (hm:m < B) (hx:BX wr m [.int .i64 4,.bool false,.bool false,.string ⟨#[]⟩,.int .i64 0,.string ⟨#[]⟩,sv,.slice none 0 0])
 (ho:wr.ownsRow (B) 28 8 sv ls.length css.flatten) (e1:css.length=ls.length) (e2:ps.length=ls.length)
 (hv:∀ (i:Nat) (v:JT) (c:List Value) (p:List Nat),ls[i]?=some v→css[i]?=some c→ps[i]?=some p→VRep wr (B) v c p) (hn:(own sv++ps.flatten).Nodup)
 (hb:Below wr.heap.size wr u) (hr:VRep u wr.heap.size v cs p) (hp:p.Nodup) (hs:B≤wr.heap.size) (hg:GR u w4 (B) ls.length sv css.flatten cs g cap) :
 NL m B (w4.setCell ⟨m,6,none⟩ (.slice (some ⟨g,0,none⟩) (ls.length+1) cap)) (ls++[v]):=by
 have hsu:=hb.size;have hU:=Upd.setCell (m) 6 w4 (.slice (some ⟨g,0,none⟩) (ls.length+1) cap);have hsv:∀ b,sv.ownBlock=some b→B≤b∧b < wr.heap.size:=fun b hb=>mm.row_lt ho b hb
 have hgb:B≤g:=by
  rcases hg.lies with e|e
  · exact (hsv g e).1
  · omega
 have stay:∀ b,b < u.heap.size→sv.ownBlock≠some b→b≠m→(w4.setCell ⟨m,6,none⟩ (.slice (some ⟨g,0,none⟩) (ls.length+1) cap)).heap[b]?=u.heap[b]?:=fun b h1 h2 h3=>(hU.block b h3).trans (hg.far h1 h2)
 have hold:∀ b∈ps.flatten,B≤b∧b < wr.heap.size:=by
  intro b hbm;obtain ⟨q,hq,hbq⟩:=List.mem_flatten.1 hbm;obtain ⟨i,hi⟩:=List.getElem?_of_mem hq;obtain ⟨hlt,_⟩:=List.getElem?_eq_some_iff.1 hi;exact (hv i _ _ q (List.getElem?_eq_getElem (by omega)) (List.getElem?_eq_getElem (by omega)) hi).ge b hbq
 have hnew:∀ b∈p,wr.heap.size≤b∧b < u.heap.size:=hr.ge;have hnd:=List.nodup_append.1 hn;refine ⟨.slice (some ⟨g,0,none⟩) (ls.length+1) cap,css++[cs],ps++[p],?_,?_,by simp [e1],by simp [e2],?_,?_⟩
 · have h6:w4.heap[m]?=some (.cells #[.int .i64 4,.bool false,.bool false,.string ⟨#[]⟩,.int .i64 0,.string ⟨#[]⟩,sv,.slice none 0 0] 28 (0,0)) :=
    (hg.far (by omega) (fun e=>by have:=(hsv _ e).1;omega)).trans ((hb.block _ (by omega)).trans hx)
   have:=blk_set h6 6 (.slice (some ⟨g,0,none⟩) (ls.length+1) cap);simpa [BX] using this
 · rw [List.flatten_append,List.length_append]
   have:=hg.row;refine mm.row_keep (by simpa using this) (fun k hk=>hU.block k ?_)
   cases hk
   show g≠m;omega
 · intro i v' c q h1 h2 h3
   by_cases hi:i < ls.length
   · rw [List.getElem?_append_left hi] at h1
     rw [List.getElem?_append_left (by omega)] at h2 h3;have:=hv i v' c q h1 h2 h3;refine this.keep fun b hbq=>?_
     have hm:=mem_flat h3 hbq;have h4:=hold b hm;exact (stay b (by omega) (fun e=>hnd.2.2 b (own_mem.2 e) b hm rfl) (by omega)).trans (hb.block b h4.2)
   · have hil:i=ls.length:=by
      obtain ⟨hlt,_⟩:=List.getElem?_eq_some_iff.1 h1;rw [List.length_append,List.length_singleton] at hlt;omega
     subst hil;rw [List.getElem?_append_right (Nat.le_refl _),Nat.sub_self] at h1;rw [List.getElem?_append_right (by omega)] at h2 h3;rw [show ls.length - css.length=0 by omega] at h2;rw [show ls.length - ps.length=0 by omega] at h3;simp only [List.getElem?_cons_zero,Option.some.injEq] at h1 h2 h3;subst h1 h2 h3;refine (hr.base hs).keep fun b hbq=>?_
     have h4:=hnew b hbq;exact stay b h4.2 (fun e=>by have:=(hsv b e).2;omega) (by omega)
 · rw [List.flatten_append]
   simp only [List.flatten_cons,List.flatten_nil,List.append_nil];have hog:own (.slice (some ⟨g,0,none⟩) (ls.length+1) cap)=[g]:=rfl;rw [hog]
   have hgo:g ∉ ps.flatten:=by
    intro hm
    rcases hg.lies with e|e
    · exact hnd.2.2 g (own_mem.2 e) g hm rfl
    · have:=(hold g hm).2;omega
   have hgp:g ∉ p:=by
    intro hm
    rcases hg.lies with e|e
    · have:=(hsv g e).2
      have:=(hnew g hm).1;omega
    · have:=(hnew g hm).2;omega
   rw [List.nodup_append];refine ⟨by simp,?_,?_⟩
   · rw [List.nodup_append]
     exact ⟨hnd.2.1,hp,fun a ha b hb' e=>by have:=(hold a ha).2;have:=(hnew b hb').1;omega⟩
   · intro a ha b hb' e
     simp only [List.mem_singleton] at ha;subst ha;subst e
     rcases List.mem_append.1 hb' with q|q
     · exact hgo q
     · exact hgp q
theorem VR.drew {w:World}{v:JT}{cs:List Value} (h:VR w v cs):VR w.drew v cs:=h.keep ⟨rfl,rfl,rfl,Nat.le_refl _,fun _ _=>rfl⟩
theorem GR.below {u w4:World}{B n:Nat}{sv:Value}{xs cs:List Value}{g cap:Nat} (h:GR u w4 B n sv xs cs g cap) (ho:u.ownsRow B 28 8 sv n xs) {m:Nat}{wr:World} (hb:Below m wr u) (hm:m≤B) (hs:m≤u.heap.size):Below m wr w4 :=
 (hb.alloc hs _).grown h.grow (by rw [World.size_alloc];omega) (fun k hk=>by have:=(mm.row_lt ho k hk).1;omega)
theorem box_three (w:World) (ca cb cc:List Value):∀ W,W=((w.alloc (.cells ca.toArray 28)).alloc (.cells cb.toArray 28)).alloc (.cells cc.toArray 28)→BX W w.heap.size ca∧BX W (w.heap.size+1) cb∧BX W (w.heap.size+2) cc∧Below w.heap.size w W∧W.heap.size=w.heap.size+3:=by
 rintro W rfl;obtain ⟨h1,h2,h3⟩:=box_two w ca cb;have hz:((w.alloc (.cells ca.toArray 28)).alloc (.cells cb.toArray 28)).heap.size=w.heap.size+2:=by rw [World.size_alloc,World.size_alloc]
 have hA:=(Below.refl ((w.alloc (.cells ca.toArray 28)).alloc (.cells cb.toArray 28)).heap.size ((w.alloc (.cells ca.toArray 28)).alloc (.cells cb.toArray 28))).alloc (Nat.le_refl _) (.cells cc.toArray 28);refine ⟨h1.keep hA (by omega),h2.keep hA (by omega),?_,h3.trans (hA.mono (by omega)),by rw [World.size_alloc,hz]⟩;have:=heap_alloc_new ((w.alloc (.cells ca.toArray 28)).alloc (.cells cb.toArray 28)) (.cells cc.toArray 28)
 rwa [hz] at this
set_option maxRecDepth 100000 in
set_option maxHeartbeats 3200000 in
theorem nrm_list (t:Bool) (dn:Bool) (dg:ByteArray) (dx:Int) (x:ByteArray) (l:List JT) (f:List (ByteArray × JT)) (oa:Option Addr) (c:Nat) (fv:Value) (w:World) (h:VR w (JT.mk 4 t ⟨dn,dg,dx⟩ x l f) [.int .i64 4,.bool t,.bool dn,.string dg,.int .i64 dx,.string x,.slice oa l.length c,fv]) (hl:l.length≤100000000000)
 (IH:∀ v∈l,∀ (cs:List Value) (w:World),VR w v cs→Calls Tryz.prog 43 #[.agg cs.toArray] w (NP w (nrm v))) :
 Calls Tryz.prog 43 #[.agg #[.int .i64 4,.bool t,.bool dn,.string dg,.int .i64 dx,.string x,.slice oa l.length c,fv]] w (NP w (JT.mk 4 false zed ⟨#[]⟩ (l.map nrm) [])):=by
 have HV:=hide h;have HI:=hide IH;clear h IH;have B3:=hide (box_three w [.int .i64 4,.bool t,.bool dn,.string dg,.int .i64 dx,.string x,.slice oa l.length c,fv] [.int .i64 0,.bool false,.bool false,.string ⟨#[]⟩,.int .i64 0,.string ⟨#[]⟩,.slice none 0 0,.slice none 0 0] [.int .i64 4,.bool false,.bool false,.string ⟨#[]⟩,.int .i64 0,.string ⟨#[]⟩,.slice none 0 0,.slice none 0 0])
 go_enter Tryz.func43,Tryz.ntmps43
 go_wp2;obtain ⟨q0,q1,q2,q3,q4⟩:=uh B3 _ rfl;generalize ((w.alloc (.cells [.int .i64 4,.bool t,.bool dn,.string dg,.int .i64 dx,.string x,.slice oa l.length c,fv].toArray 28)).alloc (.cells [.int .i64 0,.bool false,.bool false,.string ⟨#[]⟩,.int .i64 0,.string ⟨#[]⟩,.slice none 0 0,.slice none 0 0].toArray 28)).alloc (.cells [.int .i64 4,.bool false,.bool false,.string ⟨#[]⟩,.int .i64 0,.string ⟨#[]⟩,.slice none 0 0,.slice none 0 0].toArray 28)=W at *;obtain ⟨m2,hm2⟩:∃ m,w.heap.size+1+1=m:=⟨_,rfl⟩;rw [hm2];rw [show w.heap.size+2=m2 from hm2] at q2;have HM:=hide hm2;have HX0:=hide q0;have HX1:=hide q1;have HBW:=hide q3;have HZ:=hide q4;have NL0:Hid (NL m2 (w.heap.size+3) W []):=⟨.slice none 0 0,[],[],q2,World.ownsRow_nil _ _ _ _,rfl,rfl,fun i v c p h=>by simp at h,by simp [own,Value.ownBlock]⟩;clear q0 q1 q2 q3 q4 hm2 B3
 go_loopw [4] (fun iv wr=>∃ i:Nat,i≤l.length∧iv=.int .i64 (i:Int)∧Hid (NL m2 (w.heap.size+3) wr ((l.take i).map nrm))∧Hid (Below m2 W wr)) (fun iv _=>l.length - (intOf iv).toNat)
 case atStart=>exact ⟨0,by omega,rfl,NL0,Below.refl _ _⟩
 case round =>
  obtain ⟨i,hi,rfl,HN,HB⟩:=hrel;clear NL0;have hm:w.heap.size+2=m2:=uh HM;have hb:=uh HB;have yA:=(uh HX0).keep hb (by omega);obtain ⟨p0,p1,p2,p3,p4,p5,p6,p7⟩:=yA.cells;have HL:=hide ((uh HBW).trans (hb.mono (by omega)));have hz:w.heap.size+3≤wr.heap.size:=by rw [← uh HZ];exact hb.size
  by_cases hc:i < l.length
  · obtain ⟨sv,css,ps,n1,n2,n3,n4,n5,n6⟩:=(uh HN).ex
    obtain ⟨z0,z1,z2,z3,z4,z5,z6,z7⟩:=n1.cells;obtain ⟨f0,f1,f2,f3,f4,f5,f6,f7⟩:=n1.frees;obtain ⟨a,v,a0,a1,a2,a3,a4,a5,a6,a7,rfl,hv,vA,hat⟩:=(uh HV).el i hc;have had:(a.add (i*8)).block < w.heap.size:=mm.cell_lt (cells8 hat).1;obtain ⟨x0,x1,x2,x3,x4,x5,x6,x7⟩:=cells8 (fun j u hu=>kc (uh HL) (hat j u hu));generalize ha:a.add (i*8)=ad at *;have CN:=hide (uh HI v (List.mem_of_getElem? hv) [a0,a1,a2,a3,a4,a5,a6,a7] wr.drew (vA.keep (uh HL)).drew);have FIN:=hide (fun (u w4:World) (cs:List Value) (p:List Nat) (g cap:Nat) (q1:Below wr.heap.size wr u) (q2:VRep u wr.heap.size (nrm v) cs p) (q3:p.Nodup) q4=>nl_add (g:=g) (cap:=cap) (w4:=w4) (by omega:m2 < w.heap.size+3) n1 n2 n3 n4 n5 n6 q1 q2 q3 hz q4);have HO:=hide n2;have hln:((l.take i).map nrm).length=i:=by rw [List.length_map,List.length_take];omega
    rw [hln] at HO;have hi1:(i:Int) < (l.length:Int):=by omega
    have HVI:=hide hv;clear n1 n2 n3 n4 n5 n6 hat p0 p1 p2 p3 p4 p5 p7 z0 z1 z2 z3 z4 z5 z7 f0 f1 f2 f3 f4 f5 f7 yA hv vA hb;have hadm:ad.block < m2:=by omega
    have hw2:w.heap.size < m2:=by omega
    have hn2:m2≠w.heap.size:=by omega
    have hnad:m2≠ad.block:=by omega
    have hsv:sv.ownBlock≠some m2:=fun e=>by have:=(mm.row_lt (uh HO) m2 e).1;omega
    have hmw:m2 < wr.heap.size:=by omega
    go_upto_region 13 with fail
    go_region_law (first
     | (go_simp;go_at_call 43;refine (uh CN).mono ?_;rintro e u2 ⟨cs,pp,rfl,hr,hpn,hbl2⟩
        obtain ⟨b0,b1,b2,b3,b4,b5,b6,b7,rfl⟩:=hr.eight;have hb3:Below wr.heap.size wr u2:=⟨hbl2.os,hbl2.tape,hbl2.output,hbl2.size,hbl2.block⟩;have z6':=kc hb3 z6;have hmu:m2 < u2.heap.size:=Nat.lt_of_lt_of_le hmw hb3.size;have f6':u2.frozen? ⟨m2,6,none⟩=false:=by rw [World.frozen?_of_block (w:=wr) (w':=u2) (a:=⟨m2,6,none⟩) (hb3.block m2 hmw)];exact f6
        have HO2:=hide (mm.row_below (uh HO) hb3 (Nat.le_refl _));have HR2:=hide hr;have H18:=hide hr.vr.one
        have hBu:Hid (w.heap.size+3≤u2.heap.size):=Nat.le_trans hz hb3.size)
     | (refine step_addv u2 _ (w.heap.size+3) i sv css.flatten [b0,b1,b2,b3,b4,b5,b6,b7] (.tmp 38) (.tmp 45) (by rfl) (by rfl) (by rfl) (by rfl) HO2 rfl H18 (by show i+1≤1000000000000;omega) hBu (by rfl) ?_
        intro g cap w4 HG;have z6'':=(uh HG).cell hsv z6';have f6'':=(uh HG).frozen hmu hsv f6'
        have hb4:Below m2 wr w4:=(uh HG).below (uh HO2) (hb3.mono (Nat.le_of_lt hmw)) (by omega) (Nat.le_of_lt hmu)))
    all_goals clear x0 x1 x2 x3 x4 x5 x6 x7 p6 z6 z6' f6 f6'
    all_goals go_wp2
    all_goals refine ⟨⟨i+1,by omega,by go_num,?_,(uh HB).trans (hb4.trans ((Upd.setCell m2 6 w4 _).below (Nat.le_refl _)))⟩,by simp [intOf];omega⟩
    all_goals have hfin:=uh FIN u2 w4 [b0,b1,b2,b3,b4,b5,b6,b7] pp g cap hb3 hr hpn (by rw [hln];exact uh HG)
    all_goals rw [hln] at hfin
    all_goals rw [take_succ' (uh HVI),List.map_append]
    all_goals exact hfin
  · obtain rfl:i=l.length:=by omega
    rw [List.take_of_length_le (Nat.le_refl _)] at HN;obtain ⟨sv,css,ps,n1,n2,n3,n4,n5,n6⟩:=(uh HN).ex;obtain ⟨qa,qc,esv,_,_⟩:=mm.SV.form (mm.own_sv n2);subst esv;obtain ⟨z0,z1,z2,z3,z4,z5,z6,z7⟩:=n1.cells;have yB:=(uh HX1).keep hb (by omega);obtain ⟨t0,t1,t2,t3,t4,t5,t6,t7⟩:=yB.cells;obtain ⟨f0,f1,f2,f3,f4,f5,f6,f7⟩:=yB.frees;have hX:=hide (st8_bx yB rfl (.int .i64 4) (.bool false) (.bool false) (.string ⟨#[]⟩) (.int .i64 0) (.string ⟨#[]⟩) (.slice qa (l.map nrm).length qc) (.slice none 0 0));have hU:=hide (st8_upd wr (w.heap.size+1) (.int .i64 4) (.bool false) (.bool false) (.string ⟨#[]⟩) (.int .i64 0) (.string ⟨#[]⟩) (.slice qa (l.map nrm).length qc) (.slice none 0 0))
    have HR:Hid (VRep wr w.heap.size (JT.mk 4 false zed ⟨#[]⟩ (l.map nrm) []) [.int .i64 4,.bool false,.bool zed.neg,.string zed.dg,.int .i64 zed.ex,.string ⟨#[]⟩,.slice qa (l.map nrm).length qc,.slice none 0 0] (own (.slice qa (l.map nrm).length qc)++own (.slice none 0 0)++ps.flatten++([]:List (List Nat)).flatten)) :=
     VRep.mk (css:=css) (gss:=[]) (owns_base n2 (by omega)) (World.ownsRow_nil _ _ _ _) n3 n4 rfl rfl (fun i v c p h1 h2 h3=>(n5 i v c p h1 h2 h3).base (by omega)) (fun i n v c p h=>by simp at h)
    have HN6:Hid ((own (.slice qa (l.map nrm).length qc)++own (.slice none 0 0)++ps.flatten++([]:List (List Nat)).flatten).Nodup):=by
     show (_:List Nat).Nodup;simpa [own,Value.ownBlock] using n6
    have hge:Hid (∀ b∈(own (.slice qa (l.map nrm).length qc)++own (.slice none 0 0)++ps.flatten++([]:List (List Nat)).flatten),b≠w.heap.size+1):=by
     intro b hbm;simp only [List.flatten_nil,List.append_nil,List.mem_append] at hbm
     rcases hbm with (hbm|hbm)|hbm
     · have:=(owns_ge n2 b hbm).1;omega
     · simp [own,Value.ownBlock] at hbm
     · obtain ⟨q,hq,hbq⟩:=List.mem_flatten.1 hbm
       obtain ⟨i,hi⟩:=List.getElem?_of_mem hq;obtain ⟨hlt,_⟩:=List.getElem?_eq_some_iff.1 hi;have:=((n5 i _ _ q (List.getElem?_eq_getElem (by omega)) (List.getElem?_eq_getElem (by omega)) hi).ge b hbq).1;omega
    clear n1 n2 n3 n4 n5 n6 p0 p1 p2 p3 p4 p5 p7 yA yB hb;go_wp2;have hX':=uh hX;have hU':=uh hU;have hR':VRep (st8 wr (w.heap.size+1) (.int .i64 4) (.bool false) (.bool false) (.string ⟨#[]⟩) (.int .i64 0) (.string ⟨#[]⟩) (.slice qa (l.map nrm).length qc) (.slice none 0 0)) w.heap.size (JT.mk 4 false zed ⟨#[]⟩ (l.map nrm) []) _ _:=(uh HR).keep fun b hbm=>hU'.block b (uh hge b hbm)
    have hL':=(uh HL).trans (hU'.below (Nat.le_succ _));have hN6:=uh HN6;simp only [st8,List.length_map] at hX' hR' hL' hN6;exact bodyPost_ret (ret_rnrm hX' _ rfl) rfl ⟨_,_,rfl,hR',hN6,hL'⟩
abbrev FT:=ByteArray × (JT × (List Value × List Nat))
def tf (q:FT):ByteArray × JT:=(q.1,q.2.1)
def tc (q:FT):ByteArray × List Value:=(q.1,q.2.2.1)
def tp (q:FT):List Nat:=q.2.2.2
theorem ins_map {α β:Type} (g:ByteArray × α→ByteArray × β) (hg:∀ p,(g p).1=p.1) (l:List (ByteArray × α)) (f:ByteArray × α):(jn.ins l f).map g=jn.ins (l.map g) (g f):=by
 induction l with
 | nil=>rfl
 | cons p l ih =>
   rw [List.map_cons,jn.ins,jn.ins,hg,hg]
   split
   · rfl
   · rw [List.map_cons,ih]
theorem any_map {α β:Type} (g:ByteArray × α→ByteArray × β) (hg:∀ p,(g p).1=p.1) (l:List (ByteArray × α)) (n:ByteArray):(l.map g).any (fun p=>decide (p.1=n))=l.any (fun p=>decide (p.1=n)):=by
 induction l with
 | nil=>rfl
 | cons p l ih=>rw [List.map_cons,List.any_cons,List.any_cons,ih,hg]
theorem fcs_flat (T:List FT):fcs (T.map tf) (T.map (fun q=>q.2.2.1))=flat9 (T.map tc):=by
 unfold fcs flat9
 congr 1
 rw [List.map_map]
 induction T with
 | nil=>rfl
 | cons q T ih=>rw [List.map_cons,List.map_cons,List.zipWith_cons_cons,ih,List.map_cons];rfl
structure NF (m B:Nat) (wr:World) (fl:List (ByteArray × JT)):Prop where
 ex:∃ (fv:Value) (T:List FT),BX wr m [.int .i64 5,.bool false,.bool false,.string ⟨#[]⟩,.int .i64 0,.string ⟨#[]⟩,.slice none 0 0,fv]∧fl=T.map tf ∧
  wr.ownsRow B 70 9 fv T.length (flat9 (T.map tc))∧(∀ q∈T,VRep wr B q.2.1 q.2.2.1 q.2.2.2)∧(own fv++(T.map tp).flatten).Nodup
theorem fg_tc {wr:World}{B:Nat}{T:List FT} (h:∀ q∈T,VRep wr B q.2.1 q.2.2.1 q.2.2.2):FG (T.map tc):=by
 intro p hp;obtain ⟨q,hq,rfl⟩:=List.mem_map.1 hp;exact ⟨(h q hq).vr.len,(h q hq).vr.one⟩
theorem nf_add {m B:Nat}{wr u w4:World}{fv v':Value}{T:List FT}{nm:ByteArray}{v:JT}{cs:List Value}{p:List Nat} (hm:m < B)
 (hx:BX wr m [.int .i64 5,.bool false,.bool false,.string ⟨#[]⟩,.int .i64 0,.string ⟨#[]⟩,.slice none 0 0,fv])
 (ho:wr.ownsRow B 70 9 fv T.length (flat9 (T.map tc))) (hv:∀ q∈T,VRep wr B q.2.1 q.2.2.1 q.2.2.2) (hn:(own fv++(T.map tp).flatten).Nodup)
 (hb:Below wr.heap.size wr u) (hr:VRep u wr.heap.size v cs p) (hp:p.Nodup) (hs:B≤wr.heap.size) (hb4:Below u.heap.size u w4)
 (hq:(∃ q∈T.map tc,q.1=nm)∧v'=fv∨(∀ q∈T.map tc,q.1≠nm)∧w4.ownsRow u.heap.size 70 9 v' ((T.map tc).length+1) (flat9 (jn.ins (T.map tc) (nm,cs)))) :
 NF m B (w4.setCell ⟨m,7,none⟩ v') (jn.putP (T.map tf) (nm,v)):=by
 have hU:=Upd.setCell m 7 w4 v';have hsu:=hb.size;have hbb:Below wr.heap.size wr w4:=hb.trans (hb4.mono hsu);have hx4:=hx.keep hbb (by omega)
 have hX:BX (w4.setCell ⟨m,7,none⟩ v') m [.int .i64 5,.bool false,.bool false,.string ⟨#[]⟩,.int .i64 0,.string ⟨#[]⟩,.slice none 0 0,v']:=by
  have:=blk_set hx4 7 v';simpa [BX] using this
 have hfv:∀ b,fv.ownBlock=some b→B≤b∧b < wr.heap.size:=fun b hb=>mm.row_lt ho b hb
 have hold:∀ q∈T,∀ b∈q.2.2.2,B≤b∧b < wr.heap.size:=fun q hq b hb=>(hv q hq).ge b hb
 have hvn:∀ q∈T,VRep (w4.setCell ⟨m,7,none⟩ v') B q.2.1 q.2.2.1 q.2.2.2:=fun q hq=>(hv q hq).keep fun b hbq=>by
  have:=hold q hq b hbq;exact (hU.block b (by omega)).trans (hbb.block b this.2)
 rcases hq with ⟨⟨q,hq,hqn⟩,rfl⟩|⟨hno,hrow⟩
 · have hput:jn.putP (T.map tf) (nm,v)=T.map tf:=by
    unfold jn.putP;rw [if_pos];rw [any_map tf (fun _=>rfl),← any_map tc (fun _=>rfl),List.any_eq_true];exact ⟨q,hq,decide_eq_true hqn⟩
   rw [hput]
   exact ⟨v',T,hX,rfl,mm.row_keep ho (fun k hk=>by
    have:=hfv k hk
    exact (hU.block k (by omega)).trans (hbb.block k this.2)),hvn,hn⟩
 · have hput:jn.putP (T.map tf) (nm,v)=(jn.ins T (nm,v,cs,p)).map tf:=by
    rw [ins_map tf (fun _=>rfl),jn.putP_new (fun q hq=>by
     obtain ⟨r,hr,rfl⟩:=List.mem_map.1 hq
     exact hno (tc r) (List.mem_map.2 ⟨r,hr,rfl⟩))]
    rfl
   have hpm:=jn.ins_perm T (nm,v,cs,p);have hnd:=List.nodup_append.1 hn;have hvo:∀ b,v'.ownBlock=some b→u.heap.size≤b∧b < w4.heap.size:=fun b hb=>mm.row_lt hrow b hb
   rw [hput];refine ⟨v',jn.ins T (nm,v,cs,p),hX,rfl,?_,?_,?_⟩
   · have h1:=mm.row_mono hrow (show B≤u.heap.size by omega)
     rw [show jn.ins (T.map tc) (nm,cs)=(jn.ins T (nm,v,cs,p)).map tc from (ins_map tc (fun _=>rfl) T (nm,v,cs,p)).symm,show (T.map tc).length+1=(jn.ins T (nm,v,cs,p)).length by rw [hpm.length_eq,List.length_map,List.length_cons]] at h1;exact mm.row_keep h1 (fun k hk=>hU.block k (by have:=(hvo k hk).1;omega))
   · intro q hq
     rcases List.mem_cons.1 (hpm.mem_iff.1 hq) with rfl|hq
     · refine (hr.base hs).keep fun b hbq=>?_
       have:=hr.ge b hbq;exact (hU.block b (by omega)).trans (hb4.block b this.2)
     · exact hvn q hq
   · have hpf:((jn.ins T (nm,v,cs,p)).map tp).flatten.Perm (p++(T.map tp).flatten):=by
      have:=(hpm.map tp).flatten;simpa [tp] using this
     have hpr:∀ b∈p,wr.heap.size≤b∧b < u.heap.size:=hr.ge
     have hol:∀ b∈(T.map tp).flatten,B≤b∧b < wr.heap.size:=by
      intro b hb;obtain ⟨x,hx,hbx⟩:=List.mem_flatten.1 hb;obtain ⟨q,hq,rfl⟩:=List.mem_map.1 hx;exact hold q hq b hbx
     rw [(List.Perm.append_left (own v') hpf).nodup_iff,List.nodup_append];refine ⟨by unfold own;cases v'.ownBlock <;> simp,?_,?_⟩
     · rw [List.nodup_append]
       exact ⟨hp,hnd.2.1,fun a ha b hb' e=>by have:=(hpr a ha).1;have:=(hol b hb').2;omega⟩
     · intro a ha b hb' e
       subst e;have h1:=(hvo a (own_mem.1 ha)).1
       rcases List.mem_append.1 hb' with h2|h2
       · have:=(hpr a h2).2;omega
       · have:=(hol a h2).2;omega
def st9 (w:World) (m:Nat) (z a0 a1 a2 a3 a4 a5 a6 a7:Value):World :=
 ((((((((w.setCell ⟨m,0,none⟩ z).setCell ⟨m,1,none⟩ a0).setCell ⟨m,2,none⟩ a1).setCell ⟨m,3,none⟩ a2).setCell ⟨m,4,none⟩ a3).setCell ⟨m,5,none⟩ a4).setCell ⟨m,6,none⟩ a5).setCell ⟨m,7,none⟩ a6).setCell ⟨m,8,none⟩ a7
theorem st9_upd (w:World) (m:Nat) (z a0 a1 a2 a3 a4 a5 a6 a7:Value):Upd m w (st9 w m z a0 a1 a2 a3 a4 a5 a6 a7) :=
 ((((((((Upd.setCell m 0 _ _).trans (Upd.setCell m 1 _ _)).trans (Upd.setCell m 2 _ _)).trans (Upd.setCell m 3 _ _)).trans (Upd.setCell m 4 _ _)).trans (Upd.setCell m 5 _ _)).trans (Upd.setCell m 6 _ _)).trans (Upd.setCell m 7 _ _)).trans (Upd.setCell m 8 _ _)
def BF (w:World) (m:Nat) (cs:List Value):Prop:=w.heap[m]?=some (.cells cs.toArray 70 (0,0))
theorem st9_bf {w:World}{m:Nat}{cs:List Value} (h:BF w m cs) (hl:cs.length=9) (z a0 a1 a2 a3 a4 a5 a6 a7:Value):BF (st9 w m z a0 a1 a2 a3 a4 a5 a6 a7) m [z,a0,a1,a2,a3,a4,a5,a6,a7]:=by
 match cs,hl with
 | [b0,b1,b2,b3,b4,b5,b6,b7,b8],_ =>
   have h8:=blk_set (blk_set (blk_set (blk_set (blk_set (blk_set (blk_set (blk_set (blk_set h 0 z) 1 a0) 2 a1) 3 a2) 4 a3) 5 a4) 6 a5) 7 a6) 8 a7;unfold BF st9;simpa using h8
def z9:List Value:=[.string ⟨#[]⟩,.int .i64 0,.bool false,.bool false,.string ⟨#[]⟩,.int .i64 0,.string ⟨#[]⟩,.slice none 0 0,.slice none 0 0]
theorem BF.cells {w:World}{m:Nat}{z a0 a1 a2 a3 a4 a5 a6 a7:Value} (h:BF w m [z,a0,a1,a2,a3,a4,a5,a6,a7]) :
 w.cell? ⟨m,0,none⟩=some z∧w.cell? ⟨m,1,none⟩=some a0∧w.cell? ⟨m,2,none⟩=some a1∧w.cell? ⟨m,3,none⟩=some a2∧w.cell? ⟨m,4,none⟩=some a3∧w.cell? ⟨m,5,none⟩=some a4∧w.cell? ⟨m,6,none⟩=some a5∧w.cell? ⟨m,7,none⟩=some a6∧w.cell? ⟨m,8,none⟩=some a7 :=
 ⟨blk_cell h 0,blk_cell h 1,blk_cell h 2,blk_cell h 3,blk_cell h 4,blk_cell h 5,blk_cell h 6,blk_cell h 7,blk_cell h 8⟩
theorem BF.frees {w:World}{m:Nat}{cs:List Value} (h:BF w m cs):w.frozen? ⟨m,0,none⟩=false∧w.frozen? ⟨m,1,none⟩=false∧w.frozen? ⟨m,2,none⟩=false∧w.frozen? ⟨m,3,none⟩=false ∧
 w.frozen? ⟨m,4,none⟩=false∧w.frozen? ⟨m,5,none⟩=false∧w.frozen? ⟨m,6,none⟩=false∧w.frozen? ⟨m,7,none⟩=false∧w.frozen? ⟨m,8,none⟩=false :=
 ⟨blk_free h 0,blk_free h 1,blk_free h 2,blk_free h 3,blk_free h 4,blk_free h 5,blk_free h 6,blk_free h 7,blk_free h 8⟩
theorem st9_below {wr L:World}{b:Nat} (hL:Below wr.heap.size wr L) (hb:wr.heap.size≤b) (z a0 a1 a2 a3 a4 a5 a6 a7:Value):Below wr.heap.size wr (((((((((L.setCell ⟨b,0,none⟩ z).setCell ⟨b,1,none⟩ a0).setCell ⟨b,2,none⟩ a1).setCell ⟨b,3,none⟩ a2).setCell ⟨b,4,none⟩ a3).setCell ⟨b,5,none⟩ a4).setCell ⟨b,6,none⟩ a5).setCell ⟨b,7,none⟩ a6).setCell ⟨b,8,none⟩ a7) :=
 hL.trans ((st9_upd L b z a0 a1 a2 a3 a4 a5 a6 a7).below hb)
theorem zb_new {Y u:World} (h:Below (Y.alloc (.cells #[.string ⟨#[]⟩,.int .i64 0,.bool false,.bool false,.string ⟨#[]⟩,.int .i64 0,.string ⟨#[]⟩,.slice none 0 0,.slice none 0 0] 70)).heap.size (Y.alloc (.cells #[.string ⟨#[]⟩,.int .i64 0,.bool false,.bool false,.string ⟨#[]⟩,.int .i64 0,.string ⟨#[]⟩,.slice none 0 0,.slice none 0 0] 70)) u):BF u Y.heap.size z9 :=
 (h.block _ (by rw [World.size_alloc];omega)).trans (heap_alloc_new Y _)
theorem drew_size (w:World):w.drew.heap.size=w.heap.size:=rfl
theorem zb_newd {Y u:World} (h:Below ((Y.alloc (.cells #[.string ⟨#[]⟩,.int .i64 0,.bool false,.bool false,.string ⟨#[]⟩,.int .i64 0,.string ⟨#[]⟩,.slice none 0 0,.slice none 0 0] 70)).drew).heap.size ((Y.alloc (.cells #[.string ⟨#[]⟩,.int .i64 0,.bool false,.bool false,.string ⟨#[]⟩,.int .i64 0,.string ⟨#[]⟩,.slice none 0 0,.slice none 0 0] 70)).drew) u):BF u Y.heap.size z9 :=
 (h.block _ (by rw [drew_size,World.size_alloc];omega)).trans (heap_alloc_new Y _)
theorem zb_old {X u:World}{b:Nat} (z:BF X b z9) (h:Below X.heap.size X u):BF u b z9:=(h.block b (blk_lt z)).trans z
theorem below_step {B:Nat}{wr X u:World} (h2:Below X.heap.size X u) (h1:Below B wr X) (hB:B≤wr.heap.size):Below B wr u:=h1.trans (h2.mono (Nat.le_trans hB h1.size))
theorem vr_on {X u:World}{B:Nat}{v:JT}{cs:List Value}{p:List Nat} (h:VRep X B v cs p) (hb:Below X.heap.size X u):VRep u B v cs p:=h.keep fun b hbp=>hb.block b (h.ge b hbp).2
def R20 (wr:World) (nm:ByteArray) (v:JT) (b7:Nat) (wx:World):Prop:=∃ b0 b1 b2 b3 b4 b5 b6 b8 p,BF wx b7 [.string nm,b0,b1,b2,b3,b4,b5,b6,b8]∧Below wr.heap.size wr wx∧VRep wx wr.heap.size v [b0,b1,b2,b3,b4,b5,b6,b8] p∧p.Nodup
theorem r20_new {wr L:World}{nm:ByteArray}{v:JT}{b0 b1 b2 b3 b4 b5 b6 b8:Value}{p:List Nat} (hb:Below wr.heap.size wr L) (hr:VRep L wr.heap.size v [b0,b1,b2,b3,b4,b5,b6,b8] p) (hp:p.Nodup) :
 R20 wr nm v L.heap.size (L.alloc (.cells #[.string nm,b0,b1,b2,b3,b4,b5,b6,b8] 70)) :=
 ⟨b0,b1,b2,b3,b4,b5,b6,b8,p,heap_alloc_new L _,hb.alloc hb.size _,vr_on hr ((Below.refl _ _).alloc (Nat.le_refl _) _),hp⟩
theorem r20_old {wr L:World}{nm:ByteArray}{v:JT}{b0 b1 b2 b3 b4 b5 b6 b8:Value}{p:List Nat}{b:Nat} (hz:BF L b z9) (hw:wr.heap.size≤b) (hb:Below wr.heap.size wr L) (hr:VRep L wr.heap.size v [b0,b1,b2,b3,b4,b5,b6,b8] p) (hp:p.Nodup) (hn:∀ x∈p,x≠b) :
 R20 wr nm v b (st9 L b (.string nm) b0 b1 b2 b3 b4 b5 b6 b8) :=
 have hU:=st9_upd L b (.string nm) b0 b1 b2 b3 b4 b5 b6 b8
 ⟨b0,b1,b2,b3,b4,b5,b6,b8,p,st9_bf hz rfl _ _ _ _ _ _ _ _ _,hb.trans (hU.below hw),hr.keep fun x hx=>hU.block x (hn x hx),hp⟩
theorem puts_len (l:List (ByteArray × JT)):(jn.puts l).length≤l.length:=by
 have key:∀ (l acc:List (ByteArray × JT)),(l.foldl jn.putP acc).length≤acc.length+l.length:=by
  intro l
  induction l with
  | nil=>intro acc;simp
  | cons p l ih =>
    intro acc;rw [List.foldl_cons,List.length_cons];refine Nat.le_trans (ih _) ?_
    have:(jn.putP acc p).length≤acc.length+1:=by
     unfold jn.putP
     split
     · omega
     · rw [(jn.ins_perm _ _).length_eq];simp
    omega
 simpa [jn.puts] using key l []
theorem VRep.form {w:World}{B:Nat}{v:JT}{cs:List Value}{p:List Nat} (h:VRep w B v cs p):∃ (kk:Int) (tt ng:Bool) (dg:ByteArray) (ex:Int) (xx:ByteArray) (q1:Option Addr) (n1 m1:Nat) (q2:Option Addr) (n2 m2:Nat),cs=[.int .i64 kk,.bool tt,.bool ng,.string dg,.int .i64 ex,.string xx,.slice q1 n1 m1,.slice q2 n2 m2]:=by
 cases h with
 | mk hl hf _ _ _ _ _ _ =>
   obtain ⟨oa,c,rfl,_⟩:=mm.SV.form (mm.own_sv hl);obtain ⟨oa',c',rfl,_⟩:=mm.SV.form (mm.own_sv hf);exact ⟨_,_,_,_,_,_,_,_,_,_,_,_,rfl⟩
set_option maxRecDepth 100000 in
set_option maxHeartbeats 1600000 in
theorem nrm_obj (t:Bool) (dn:Bool) (dg:ByteArray) (dx:Int) (x:ByteArray) (l:List JT) (f:List (ByteArray × JT)) (oa:Option Addr) (c:Nat) (lv:Value) (w:World) (h:VR w (JT.mk 5 t ⟨dn,dg,dx⟩ x l f) [.int .i64 5,.bool t,.bool dn,.string dg,.int .i64 dx,.string x,lv,.slice oa f.length c]) (hl:f.length≤100000000000)
 (hnm:∀ p∈f,p.1.size≤35184372088832)
 (IH:∀ p∈f,∀ (cs:List Value) (w:World),VR w p.2 cs→Calls Tryz.prog 43 #[.agg cs.toArray] w (NP w (nrm p.2))) :
 Calls Tryz.prog 43 #[.agg #[.int .i64 5,.bool t,.bool dn,.string dg,.int .i64 dx,.string x,lv,.slice oa f.length c]] w (NP w (JT.mk 5 false zed ⟨#[]⟩ [] (jn.puts (f.map fun p=>(pt.clean p.1,nrm p.2))))):=by
 have HV:=hide h;have HI:=hide IH;have HNM:=hide hnm;clear h IH hnm;have B3:=hide (box_three w [.int .i64 5,.bool t,.bool dn,.string dg,.int .i64 dx,.string x,lv,.slice oa f.length c] [.int .i64 0,.bool false,.bool false,.string ⟨#[]⟩,.int .i64 0,.string ⟨#[]⟩,.slice none 0 0,.slice none 0 0] [.int .i64 5,.bool false,.bool false,.string ⟨#[]⟩,.int .i64 0,.string ⟨#[]⟩,.slice none 0 0,.slice none 0 0])
 go_enter Tryz.func43,Tryz.ntmps43
 go_wp2;obtain ⟨q0,q1,q2,q3,q4⟩:=uh B3 _ rfl;generalize ((w.alloc (.cells [.int .i64 5,.bool t,.bool dn,.string dg,.int .i64 dx,.string x,lv,.slice oa f.length c].toArray 28)).alloc (.cells [.int .i64 0,.bool false,.bool false,.string ⟨#[]⟩,.int .i64 0,.string ⟨#[]⟩,.slice none 0 0,.slice none 0 0].toArray 28)).alloc (.cells [.int .i64 5,.bool false,.bool false,.string ⟨#[]⟩,.int .i64 0,.string ⟨#[]⟩,.slice none 0 0,.slice none 0 0].toArray 28)=W at *;obtain ⟨m2,hm2⟩:∃ m,w.heap.size+1+1=m:=⟨_,rfl⟩;rw [hm2];rw [show w.heap.size+2=m2 from hm2] at q2;have HM:=hide hm2;have HX0:=hide q0;have HX1:=hide q1;have HBW:=hide q3;have HZ:=hide q4;have NF0:Hid (NF m2 (w.heap.size+3) W []):=⟨.slice none 0 0,[],q2,rfl,World.ownsRow_nil _ _ _ _,fun q h=>by simp at h,by simp [own,Value.ownBlock]⟩;clear q0 q1 q2 q3 q4 hm2 B3
 go_loopw [6] (fun iv wr=>∃ i:Nat,i≤f.length∧iv=.int .i64 (i:Int)∧Hid (NF m2 (w.heap.size+3) wr (jn.puts ((f.take i).map fun p=>(pt.clean p.1,nrm p.2))))∧Hid (Below m2 W wr)) (fun iv _=>f.length - (intOf iv).toNat)
 case atStart=>exact ⟨0,by omega,rfl,NF0,Below.refl _ _⟩
 case round =>
  obtain ⟨i,hi,rfl,HN,HB⟩:=hrel;clear NF0;have hm:w.heap.size+2=m2:=uh HM;have hb:=uh HB;have yA:=(uh HX0).keep hb (by omega);obtain ⟨p0,p1,p2,p3,p4,p5,p6,p7⟩:=yA.cells;have HL:=hide ((uh HBW).trans (hb.mono (by omega)));have hz:w.heap.size+3≤wr.heap.size:=by rw [← uh HZ];exact hb.size
  by_cases hc:i < f.length
  · obtain ⟨a,nm,v,a0,a1,a2,a3,a4,a5,a6,a7,rfl,hv,vA,hat⟩:=((uh HV).keep (uh HL)).fl i hc
    obtain ⟨xn,x0,x1,x2,x3,x4,x5,x6,x7⟩:=cells9 hat;generalize ha:a.add (i*9)=ad at *;have CN:=hide (fun u (hu:Below wr.heap.size wr u)=>uh HI (nm,v) (List.mem_of_getElem? hv) [a0,a1,a2,a3,a4,a5,a6,a7] u (vA.keep hu));have CC:=hide (fun u=>pt.clean_any nm u (uh HNM (nm,v) (List.mem_of_getElem? hv)));simp only at CN;have hi1:(i:Int) < (f.length:Int):=by omega
    have HVI:=hide hv;clear hat p0 p1 p2 p3 p4 p5 p6 yA hv vA hb;obtain ⟨nm',hnc⟩:∃ y,pt.clean nm=y:=⟨_,rfl⟩;rw [hnc] at CC;have HNC:=hide hnc;clear hnc;go_upto_region 20 with fail
    go_cut [7] from 52 to 78 (fun s7 wx=>∃ b7,s7=.pointer (some ⟨b7,0,none⟩)∧R20 wr nm' (nrm v) b7 wx)
    case first =>
     have hw0:Below wr.heap.size wr wr.drew:=⟨rfl,rfl,rfl,Nat.le_refl _,fun _ _=>rfl⟩;have hwa:Below wr.heap.size wr ((wr.alloc (.cells #[.string ⟨#[]⟩,.int .i64 0,.bool false,.bool false,.string ⟨#[]⟩,.int .i64 0,.string ⟨#[]⟩,.slice none 0 0,.slice none 0 0] 70)).drew):=((Below.refl wr.heap.size wr).alloc (Nat.le_refl _) (.cells #[.string ⟨#[]⟩,.int .i64 0,.bool false,.bool false,.string ⟨#[]⟩,.int .i64 0,.string ⟨#[]⟩,.slice none 0 0,.slice none 0 0] 70)).drew;have HmkS:∀ u,Below wr.heap.size wr u→Below wr.heap.size wr u∧u.cell? ⟨w.heap.size,7,none⟩=some (.slice (some a) f.length c)∧u.cell? ad=some (.string nm)∧u.cell? ⟨ad.block,ad.off+1,none⟩=some a0∧u.cell? ⟨ad.block,ad.off+2,none⟩=some a1∧u.cell? ⟨ad.block,ad.off+3,none⟩=some a2∧u.cell? ⟨ad.block,ad.off+4,none⟩=some a3∧u.cell? ⟨ad.block,ad.off+5,none⟩=some a4∧u.cell? ⟨ad.block,ad.off+6,none⟩=some a5∧u.cell? ⟨ad.block,ad.off+7,none⟩=some a6∧u.cell? ⟨ad.block,ad.off+8,none⟩=some a7:=fun u hu=>⟨hu,kc hu p7,kc hu xn,kc hu x0,kc hu x1,kc hu x2,kc hu x3,kc hu x4,kc hu x5,kc hu x6,kc hu x7⟩
     go_region_held3 (fun u=>Below wr.heap.size wr u∧u.cell? ⟨w.heap.size,7,none⟩=some (.slice (some a) f.length c)∧u.cell? ad=some (.string nm)∧u.cell? ⟨ad.block,ad.off+1,none⟩=some a0∧u.cell? ⟨ad.block,ad.off+2,none⟩=some a1∧u.cell? ⟨ad.block,ad.off+3,none⟩=some a2∧u.cell? ⟨ad.block,ad.off+4,none⟩=some a3∧u.cell? ⟨ad.block,ad.off+5,none⟩=some a4∧u.cell? ⟨ad.block,ad.off+6,none⟩=some a5∧u.cell? ⟨ad.block,ad.off+7,none⟩=some a6∧u.cell? ⟨ad.block,ad.off+8,none⟩=some a7) (exact HmkS _ (by first|with_reducible assumption|(with_reducible refine Below.alloc ?_ ?_ _ <;> first|with_reducible assumption|with_reducible exact hB2.size|with_reducible exact hB3.size)|with_reducible exact st9_below (L:=u2) (b:=wr.heap.size) hB2 (Nat.le_refl _) _ _ _ _ _ _ _ _ _|with_reducible exact st9_below (L:=u3) (b:=wr.heap.size) hB3 (Nat.le_refl _) _ _ _ _ _ _ _ _ _|with_reducible exact st9_below (L:=u2) (b:=u3.heap.size) hB2 hB3.size _ _ _ _ _ _ _ _ _|with_reducible exact st9_below (L:=u3) (b:=u2.heap.size) hB3 hB2.size _ _ _ _ _ _ _ _ _)) (first
      | (go_at_call 56;refine (uh CC _).mono ?_;rintro e u2 ⟨rfl,hbc⟩
         have hB2:Below wr.heap.size wr u2:=below_step hbc (by first|with_reducible assumption|(with_reducible refine Below.alloc ?_ ?_ _ <;> first|with_reducible assumption|with_reducible exact hB2.size|with_reducible exact hB3.size)) (Nat.le_refl _);have hs2:=hbc.size
         (try simp only [drew_size,World.size_alloc] at hs2)
         (first|with_reducible have zb:=zb_newd hbc|with_reducible have zb:=zb_new hbc|have zb:=zb_old zb hbc|skip)
         (first|with_reducible have HRn:=vr_on HRn hbc|with_reducible have HRn:=vr_on HRn (below_alloc hbc)|skip)
         (first|(have hzz:=BF.cells zb;have hyy:=BF.frees zb;obtain ⟨g0,g1,g2,g3,g4,g5,g6,g7,g8⟩:=hzz;obtain ⟨r0,r1,r2,r3,r4,r5,r6,r7,r8⟩:=hyy)|skip))
      | (go_at_call 43;refine (uh CN _ (by first|with_reducible assumption|(with_reducible refine Below.alloc ?_ ?_ _ <;> first|with_reducible assumption|with_reducible exact hB2.size|with_reducible exact hB3.size))).mono ?_;rintro e u3 ⟨cs,pp,rfl,hr,hpn,hbn⟩
         obtain ⟨kk,tt,ng,dg',ex,xx,c1,n1,k1,c2,n2,k2,rfl⟩:=hr.form;have hB3:Below wr.heap.size wr u3:=below_step hbn (by first|with_reducible assumption|(with_reducible refine Below.alloc ?_ ?_ _ <;> first|with_reducible assumption|with_reducible exact hB2.size|with_reducible exact hB3.size)) (Nat.le_refl _);have HRn:=hr.base (show wr.heap.size≤_ from Below.size (B:=wr.heap.size) (by first|with_reducible assumption|(with_reducible refine Below.alloc ?_ ?_ _ <;> first|with_reducible assumption|with_reducible exact hB2.size|with_reducible exact hB3.size)));have hrg:=hr.ge;have hs3:=hbn.size
         (try simp only [World.size_alloc] at hrg)
         (try simp only [World.size_alloc] at hs3)
         (first|with_reducible have zb:=zb_newd hbn|with_reducible have zb:=zb_new hbn|have zb:=zb_old zb hbn|skip)
         (first|(have hzz:=BF.cells zb;have hyy:=BF.frees zb;obtain ⟨g0,g1,g2,g3,g4,g5,g6,g7,g8⟩:=hzz;obtain ⟨r0,r1,r2,r3,r4,r5,r6,r7,r8⟩:=hyy)|skip)))
     all_goals go_wp2_with fail
     all_goals go_meet
     all_goals first
      | (refine ⟨u3.heap.size,by with_reducible rfl,?_⟩
         with_reducible exact r20_new hB3 HRn hpn)
      | (refine ⟨u2.heap.size,by with_reducible rfl,?_⟩
         have h20:=r20_old (nm:=nm') zb hB2.size hB3 HRn hpn (fun x hx e=>by have:=(hrg x hx).1;omega);simp only [st9] at h20
         with_reducible exact h20)
      | (refine ⟨wr.heap.size,by with_reducible rfl,?_⟩
         have h20:=r20_old (nm:=nm') zb (Nat.le_refl _) hB3 HRn hpn (fun x hx e=>by have:=(hrg x hx).1;omega);simp only [st9] at h20
         with_reducible exact h20)
    case rest =>
     obtain ⟨b7,rfl,b0,b1,b2,b3,b4,b5,b6,b8,pp,bf,hbl,hvr,hpn⟩:=hcut;obtain ⟨fv,T,n1,n2,n3,n4,n5⟩:=(uh HN).ex;obtain ⟨g0,g1,g2,g3,g4,g5,g6,g7,g8⟩:=bf.cells;have z7:=kc hbl n1.cells.2.2.2.2.2.2.2;have hmw:m2 < wr.heap.size:=by omega
     have f7:wc.frozen? ⟨m2,7,none⟩=false:=blk_free (n1.keep hbl hmw) 7
     have hTl:T.length≤i:=by
      have h1:=congrArg List.length n2;rw [List.length_map] at h1;rw [← h1];refine Nat.le_trans (puts_len _) ?_;rw [List.length_map,List.length_take];omega
     have hsv:mm.SV wc fv (T.map tc).length 9 (flat9 (T.map tc)):=by rw [List.length_map];exact (mm.own_sv n3).keep hbl
     have CP:=hide (rput_any (T.map tc) nm' b0 b1 b2 b3 b4 b5 b6 b8 fv wc hsv (fg_tc n4) (by rw [List.length_map];omega) hvr.vr.one);have FIN:=hide (fun (w4:World) (v':Value) q1 q2=>nf_add (nm:=nm') (w4:=w4) (v':=v') (by omega:m2 < w.heap.size+3) n1 n3 n4 n5 hbl hvr hpn hz q1 q2)
     have hform:Hid (∃ oa c,fv=.slice oa T.length c):=by
      obtain ⟨oa,c,e,_⟩:=mm.SV.form (mm.own_sv n3);exact ⟨oa,c,e⟩
     have HEQ:Hid (jn.putP (T.map tf) (nm',nrm v)=jn.puts ((f.take (i+1)).map fun p=>(pt.clean p.1,nrm p.2))):=by
      show _=_;rw [take_succ' (uh HVI),List.map_append,← n2];unfold jn.puts;rw [List.foldl_append,← uh HNC];rfl
     have hB4:=hide ((uh HB).trans (hbl.mono (by omega)));have hwc:=hide hbl;clear hsv n1 n2 n3 n4 n5 bf hbl hvr hpn xn x0 x1 x2 x3 x4 x5 x6 x7 p7 CN CC HN
     go_wp2_with fail
     refine (uh CP).mono ?_;rintro e w4 ⟨v',rfl,hb4,hq⟩;have hfin:=hide (uh FIN w4 v' hb4 hq)
     have hf:∃ oa n c,v'=.slice oa n c:=by
      rcases hq with ⟨_,rfl⟩|⟨_,hr⟩
      · obtain ⟨oa,c,e⟩:=uh hform
        exact ⟨oa,_,c,e⟩
      · obtain ⟨oa,c,e,_⟩:=mm.SV.form (mm.own_sv hr)
        exact ⟨oa,_,c,e⟩
     obtain ⟨oa',n',c',rfl⟩:=hf;have z7':=kc hb4 z7;have f7':w4.frozen? ⟨m2,7,none⟩=false:=by rw [World.frozen?_of_block (w:=wc) (w':=w4) (a:=⟨m2,7,none⟩) (hb4.block m2 (Nat.lt_of_lt_of_le hmw (uh hwc).size))];exact f7
     have hB5:=hide ((uh hB4).trans (hb4.mono (Nat.le_of_lt (Nat.lt_of_lt_of_le hmw (uh hwc).size))));clear hb4 hq CP FIN;go_wp2;refine ⟨⟨i+1,by omega,by go_num,?_,(uh hB5).trans ((Upd.setCell m2 7 w4 _).below (Nat.le_refl _))⟩,by simp [intOf];omega⟩;rw [← uh HEQ];exact uh hfin
  · obtain rfl:i=f.length:=by omega
    rw [List.take_of_length_le (Nat.le_refl _)] at HN;obtain ⟨fv,T,n1,n2,n3,n4,n5⟩:=(uh HN).ex;obtain ⟨qa,qc,esv,_,_⟩:=mm.SV.form (mm.own_sv n3);subst esv;obtain ⟨z0,z1,z2,z3,z4,z5,z6,z7⟩:=n1.cells;have yB:=(uh HX1).keep hb (by omega);obtain ⟨t0,t1,t2,t3,t4,t5,t6,t7⟩:=yB.cells;obtain ⟨f0,f1,f2,f3,f4,f5,f6,f7⟩:=yB.frees;have hX:=hide (st8_bx yB rfl (.int .i64 5) (.bool false) (.bool false) (.string ⟨#[]⟩) (.int .i64 0) (.string ⟨#[]⟩) (.slice none 0 0) (.slice qa T.length qc));have hU:=hide (st8_upd wr (w.heap.size+1) (.int .i64 5) (.bool false) (.bool false) (.string ⟨#[]⟩) (.int .i64 0) (.string ⟨#[]⟩) (.slice none 0 0) (.slice qa T.length qc))
    have HR:Hid (VRep wr w.heap.size (JT.mk 5 false zed ⟨#[]⟩ [] (jn.puts (f.map fun p=>(pt.clean p.1,nrm p.2)))) [.int .i64 5,.bool false,.bool zed.neg,.string zed.dg,.int .i64 zed.ex,.string ⟨#[]⟩,.slice none 0 0,.slice qa T.length qc] (own (.slice none 0 0)++own (.slice qa T.length qc)++([]:List (List Nat)).flatten++(T.map tp).flatten)):=by
     rw [n2];refine VRep.mk (css:=[]) (gss:=T.map (fun q=>q.2.2.1)) (ps:=[]) (World.ownsRow_nil _ _ _ _) ?_ rfl rfl (by simp) (by simp) (fun i v c p h=>by simp at h) ?_
     · rw [fcs_flat,List.length_map];exact owns_base n3 (by omega)
     · intro i n v c p h1 h2 h3
       rw [List.getElem?_map] at h1 h2 h3
       cases hq:T[i]? with
       | none=>rw [hq] at h1;simp at h1
       | some q =>
         rw [hq] at h1 h2 h3;simp only [Option.map_some,Option.some.injEq,tf,Prod.mk.injEq] at h1 h2 h3;have:=n4 q (List.mem_of_getElem? hq);rw [h1.2,h2,show q.2.2.2=p from h3] at this;exact this.base (by omega)
    have HN6:Hid ((own (.slice none 0 0)++own (.slice qa T.length qc)++([]:List (List Nat)).flatten++(T.map tp).flatten).Nodup):=by
     show (_:List Nat).Nodup;simpa [own,Value.ownBlock] using n5
    have hge:Hid (∀ b∈(own (.slice none 0 0)++own (.slice qa T.length qc)++([]:List (List Nat)).flatten++(T.map tp).flatten),b≠w.heap.size+1):=by
     intro b hbm;simp only [List.flatten_nil,List.append_nil,List.mem_append] at hbm
     rcases hbm with (hbm|hbm)|hbm
     · simp [own,Value.ownBlock] at hbm
     · have:=(owns_ge n3 b hbm).1;omega
     · obtain ⟨y,hy,hby⟩:=List.mem_flatten.1 hbm
       obtain ⟨q,hq,rfl⟩:=List.mem_map.1 hy;have:=((n4 q hq).ge b hby).1;omega
    clear n1 n2 n3 n4 n5 p0 p1 p2 p3 p4 p5 p6 yA yB hb;go_wp2;have hX':=uh hX;have hU':=uh hU;have hR':VRep (st8 wr (w.heap.size+1) (.int .i64 5) (.bool false) (.bool false) (.string ⟨#[]⟩) (.int .i64 0) (.string ⟨#[]⟩) (.slice none 0 0) (.slice qa T.length qc)) w.heap.size (JT.mk 5 false zed ⟨#[]⟩ [] (jn.puts (f.map fun p=>(pt.clean p.1,nrm p.2)))) _ _:=(uh HR).keep fun b hbm=>hU'.block b (uh hge b hbm)
    have hL':=(uh HL).trans (hU'.below (Nat.le_succ _));simp only [st8] at hX' hR' hL';exact bodyPost_ret (ret_rnrm hX' _ rfl) rfl ⟨_,_,rfl,hR',uh HN6,hL'⟩
theorem rnrm_any (n:Nat):∀ (v:JT) (cs:List Value) (w:World),SizeOf.sizeOf v < n→Bd v→VR w v cs→Calls Tryz.prog 43 #[.agg cs.toArray] w (NP w (nrm v)):=by
 induction n with
 | zero=>intro v cs w h;omega
 | succ n IH =>
   intro v cs w hn hbd h;have h':=h
   cases h with
   | @mk k t d x l f lv fv css gss hl hf h1 h3 hle hfe =>
     obtain ⟨dn,dg,dx⟩:=d
     cases hbd with
     | mk hk d0 d1 d2 d3 d4 dl dnm df =>
       obtain ⟨oa,c,rfl,_⟩:=mm.SV.form hl;obtain ⟨ob,c',rfl,_⟩:=mm.SV.form hf
       by_cases e4:k=4
       · subst e4
         have:=nrm_list t dn dg dx x l f oa c (.slice ob f.length c') w h' d3 (fun v hv cs w hr=>IH v cs w (by have:=sz_l (k:=4) (t:=t) (d:=⟨dn,dg,dx⟩) (x:=x) (f:=f) hv;omega) (dl v hv) hr);rw [nrm_mk,if_neg (by decide),if_neg (by decide),if_neg (by decide),if_pos rfl];exact this
       · by_cases e5:k=5
         · subst e5
           have:=nrm_obj t dn dg dx x l f ob c' (.slice oa l.length c) w h' d4 dnm (fun p hp cs w hr=>IH p.2 cs w (by have:=sz_f (k:=5) (t:=t) (d:=⟨dn,dg,dx⟩) (x:=x) (l:=l) hp;omega) (df p hp) hr);rw [nrm_mk,if_neg (by decide),if_neg (by decide),if_neg (by decide),if_neg (by decide),if_pos rfl];exact this
         · exact nrm_flat k t dn dg dx x l f _ _ w ⟨e4,e5⟩ d0 d1.1 d1.2 d2
def FP (w u:World) (g:List (ByteArray × JT)) (e:Ending) (u':World):Prop :=
 ∃ (sv:Value) (css:List (List Value)),e=.returned sv∧u'.ownsRow u.heap.size 70 9 sv g.length (fcs g css)∧css.length=g.length ∧
   (∀ (j:Nat) (p:ByteArray × JT) (c:List Value),g[j]?=some p→css[j]?=some c→VR w p.2 c)∧Below u.heap.size u u'
structure OO (w:World) (B:Nat) (wr:World) (sv:Value) (g:List (ByteArray × JT)) (i:Nat):Prop where
 ex:∃ (css:List (List Value)) (ps:List (List Nat)),wr.ownsRow B 70 9 sv g.length (fcs g css)∧css.length=g.length∧ps.length=i ∧
  (∀ (j:Nat) (p:ByteArray × JT) (c:List Value) (q:List Nat),g[j]?=some p→css[j]?=some c→ps[j]?=some q→VRep wr B (nrm p.2) c q) ∧
  (∀ (j:Nat) (p:ByteArray × JT) (c:List Value),i≤j→g[j]?=some p→css[j]?=some c→VR w p.2 c)∧(own sv++ps.flatten).Nodup
def st8a (w:World) (m o:Nat) (a0 a1 a2 a3 a4 a5 a6 a7:Value):World :=
 (((((((w.setCell ⟨m,o+1,none⟩ a0).setCell ⟨m,o+2,none⟩ a1).setCell ⟨m,o+3,none⟩ a2).setCell ⟨m,o+4,none⟩ a3).setCell ⟨m,o+5,none⟩ a4).setCell ⟨m,o+6,none⟩ a5).setCell ⟨m,o+7,none⟩ a6).setCell ⟨m,o+8,none⟩ a7
theorem st8a_upd (w:World) (m o:Nat) (a0 a1 a2 a3 a4 a5 a6 a7:Value):Upd m w (st8a w m o a0 a1 a2 a3 a4 a5 a6 a7) :=
 (((((((Upd.setCell m _ _ _).trans (Upd.setCell m _ _ _)).trans (Upd.setCell m _ _ _)).trans (Upd.setCell m _ _ _)).trans (Upd.setCell m _ _ _)).trans (Upd.setCell m _ _ _)).trans (Upd.setCell m _ _ _)).trans (Upd.setCell m _ _ _)
theorem set_app {α:Type} (l m:List α) (n k:Nat) (a:α) (h:l.length=k):(l++m).set (k+n) a=l++m.set n a:=by
 rw [List.set_append_right _ _ (by omega),h,Nat.add_sub_cancel_left]
theorem fcs_cons (p:ByteArray × JT) (f:List (ByteArray × JT)) (c:List Value) (css:List (List Value)):fcs (p::f) (c::css)=(Value.string p.1::c)++fcs f css:=by
 simp [fcs]
theorem fcs_set:∀ (g:List (ByteArray × JT)) (css:List (List Value)) (i:Nat) (a0 a1 a2 a3 a4 a5 a6 a7:Value),css.length=g.length→(∀ c∈css,c.length=8)→i < g.length →
 ((((((((fcs g css).set (i*9+1) a0).set (i*9+2) a1).set (i*9+3) a2).set (i*9+4) a3).set (i*9+5) a4).set (i*9+6) a5).set (i*9+7) a6).set (i*9+8) a7=fcs g (css.set i [a0,a1,a2,a3,a4,a5,a6,a7])
 | [],_,_,_,_,_,_,_,_,_,_,_,_,h=>by simp at h
 | _::_,[],_,_,_,_,_,_,_,_,_,h,_,_=>by simp at h
 | p::g,c::css,0,a0,a1,a2,a3,a4,a5,a6,a7,_,h8,_=>by
   have hc:=h8 c (by simp)
   match c,hc with
   | [b0,b1,b2,b3,b4,b5,b6,b7],_ =>
     rw [List.set_cons_zero,fcs_cons,fcs_cons];simp
 | p::g,c::css,i+1,a0,a1,a2,a3,a4,a5,a6,a7,h,h8,hi=>by
   have hc:=h8 c (by simp);have ih:=fcs_set g css i a0 a1 a2 a3 a4 a5 a6 a7 (by simpa using h) (fun c hc=>h8 c (by simp [hc])) (by simpa using hi);have hl:(Value.string p.1::c).length=9:=by simp [hc]
   rw [List.set_cons_succ,fcs_cons,fcs_cons,← ih]
   rw [show (i+1)*9+1=9+(i*9+1) by omega,show (i+1)*9+2=9+(i*9+2) by omega,show (i+1)*9+3=9+(i*9+3) by omega,show (i+1)*9+4=9+(i*9+4) by omega,
    show (i+1)*9+5=9+(i*9+5) by omega,show (i+1)*9+6=9+(i*9+6) by omega,show (i+1)*9+7=9+(i*9+7) by omega,show (i+1)*9+8=9+(i*9+8) by omega]
   rw [set_app _ _ _ _ _ hl,set_app _ _ _ _ _ hl,set_app _ _ _ _ _ hl,set_app _ _ _ _ _ hl,set_app _ _ _ _ _ hl,set_app _ _ _ _ _ hl,set_app _ _ _ _ _ hl,set_app _ _ _ _ _ hl]
theorem fcs_at {g:List (ByteArray × JT)}{css:List (List Value)} (h8:∀ c∈css,c.length=8) {i:Nat}{p:ByteArray × JT}{c:List Value} (hp:g[i]?=some p) (hc:css[i]?=some c) {j:Nat} (hj:j < 9):(fcs g css)[i*9+j]?=(Value.string p.1::c)[j]?:=by
 have h9:∀ c∈List.zipWith (fun (p:ByteArray × JT) c=>Value.string p.1::c) g css,c.length=9:=by
  intro c hc;obtain ⟨j,hj⟩:=List.getElem?_of_mem hc;rw [List.getElem?_zipWith] at hj
  cases ha:g[j]? with
  | none=>rw [ha] at hj;simp at hj
  | some q =>
    cases hb:css[j]? with
    | none=>rw [ha,hb] at hj;simp at hj
    | some cc =>
      rw [ha,hb] at hj;simp only [Option.some.injEq] at hj;rw [← hj,List.length_cons,h8 cc (List.mem_of_getElem? hb)]
 exact flat_at h9 (zip_at hp hc) hj
theorem oo_len {w:World}{B:Nat}{wr:World}{g:List (ByteArray × JT)}{i:Nat}{css:List (List Value)}{ps:List (List Nat)} (e1:css.length=g.length) (e2:ps.length=i)
 (h1:∀ (j:Nat) (p:ByteArray × JT) (c:List Value) (q:List Nat),g[j]?=some p→css[j]?=some c→ps[j]?=some q→VRep wr B (nrm p.2) c q)
 (h2:∀ (j:Nat) (p:ByteArray × JT) (c:List Value),i≤j→g[j]?=some p→css[j]?=some c→VR w p.2 c):∀ c∈css,c.length=8:=by
 intro c hc;obtain ⟨j,hj⟩:=List.getElem?_of_mem hc;obtain ⟨hlt,_⟩:=List.getElem?_eq_some_iff.1 hj;have hg:g[j]?=some g[j]:=List.getElem?_eq_getElem (by omega)
 by_cases hi:j < i
 · exact (h1 j _ c _ hg hj (List.getElem?_eq_getElem (by omega))).vr.len
 · exact (h2 j _ c (by omega) hg hj).len
theorem oo_step {w:World}{B:Nat}{wr u:World}{g0 n cap:Nat}{g:List (ByteArray × JT)}{i:Nat}{css:List (List Value)}{ps:List (List Nat)} (ho:wr.ownsRow B 70 9 (.slice (some ⟨g0,0,none⟩) n cap) g.length (fcs g css)) (e1:css.length=g.length) (e2:ps.length=i)
 (h1:∀ (j:Nat) (p:ByteArray × JT) (c:List Value) (q:List Nat),g[j]?=some p→css[j]?=some c→ps[j]?=some q→VRep wr B (nrm p.2) c q)
 (h2:∀ (j:Nat) (p:ByteArray × JT) (c:List Value),i≤j→g[j]?=some p→css[j]?=some c→VR w p.2 c) (hn:(own (.slice (some ⟨g0,0,none⟩) n cap)++ps.flatten).Nodup)
 {p:ByteArray × JT} (hp:g[i]?=some p) {a0 a1 a2 a3 a4 a5 a6 a7:Value}{q:List Nat} (hb:Below wr.heap.size wr u) (hr:VRep u wr.heap.size (nrm p.2) [a0,a1,a2,a3,a4,a5,a6,a7] q) (hq:q.Nodup) (hs:B≤wr.heap.size) :
 OO w B (st8a u g0 (i*9) a0 a1 a2 a3 a4 a5 a6 a7) (.slice (some ⟨g0,0,none⟩) n cap) g (i+1):=by
 have hi:i < g.length:=(List.getElem?_eq_some_iff.1 hp).1;have hg0:=mm.row_lt ho g0 rfl;have ho2:=mm.row_below ho hb (Nat.le_refl _);have hU:=st8a_upd u g0 (i*9) a0 a1 a2 a3 a4 a5 a6 a7;have hnd:=List.nodup_append.1 hn
 have hold:∀ b∈ps.flatten,B≤b∧b < wr.heap.size:=by
  intro b hbm;obtain ⟨q,hq,hbq⟩:=List.mem_flatten.1 hbm;obtain ⟨j,hj⟩:=List.getElem?_of_mem hq;obtain ⟨hlt,_⟩:=List.getElem?_eq_some_iff.1 hj;exact (h1 j _ _ q (List.getElem?_eq_getElem (by omega)) (List.getElem?_eq_getElem (by omega)) hj).ge b hbq
 have hnew:∀ b∈q,wr.heap.size≤b∧b < u.heap.size:=hr.ge;refine ⟨css.set i [a0,a1,a2,a3,a4,a5,a6,a7],ps++[q],?_,by simp [e1],by simp [e2],?_,?_,?_⟩
 · rw [← fcs_set g css i a0 a1 a2 a3 a4 a5 a6 a7 e1 (oo_len e1 e2 h1 h2) hi]
   exact mm.row_set (mm.row_set (mm.row_set (mm.row_set (mm.row_set (mm.row_set (mm.row_set (mm.row_set ho2 _ _) _ _) _ _) _ _) _ _) _ _) _ _) _ _
 · intro j p2 c q2 k1 k2 k3
   by_cases hj:j < i
   · rw [List.getElem?_set_ne (by omega)] at k2
     rw [List.getElem?_append_left (by omega)] at k3;refine (h1 j p2 c q2 k1 k2 k3).keep fun b hbq=>?_
     have hm:=mem_flat k3 hbq;rw [hU.block b (fun e=>hnd.2.2 g0 (by simp [own,Value.ownBlock]) b hm e.symm)];exact hb.block b (hold b hm).2
   · have hj2:j=i:=by
      obtain ⟨hlt,_⟩:=List.getElem?_eq_some_iff.1 k3;rw [List.length_append,List.length_singleton] at hlt;omega
     subst hj2;obtain rfl:p=p2:=Option.some.inj (hp.symm.trans k1);rw [List.getElem?_set_self (by omega)] at k2;rw [List.getElem?_append_right (by omega),e2,Nat.sub_self] at k3;simp only [List.getElem?_cons_zero,Option.some.injEq] at k2 k3;subst k2 k3;exact (hr.base hs).keep fun b hbq=>hU.block b (fun e=>by have:=(hnew b hbq).1;omega)
 · intro j p2 c hj k1 k2
   rw [List.getElem?_set_ne (by omega)] at k2;exact h2 j p2 c (by omega) k1 k2
 · rw [List.flatten_append]
   simp only [List.flatten_cons,List.flatten_nil,List.append_nil];rw [List.nodup_append];refine ⟨hnd.1,List.nodup_append.2 ⟨hnd.2.1,hq,fun a ha b hb' e=>by have:=(hold a ha).2;have:=(hnew b hb').1;omega⟩,?_⟩;intro a ha b hb' e
   rcases List.mem_append.1 hb' with k|k
   · exact hnd.2.2 a ha b k e
   · simp [own,Value.ownBlock] at ha
     have:=(hnew b k).1;omega
set_option maxRecDepth 100000 in
set_option maxHeartbeats 1600000 in
theorem rsame_any (va vb:JT) (ca cb:List Value) (w:World) (ha:VR w va ca) (hb:VR w vb cb) (da:Bd va) (db:Bd vb) :
 Calls Tryz.prog 33 #[.agg ca.toArray,.agg cb.toArray] w fun e w'=>∃ b,e=.returned (.bool b)∧(b=true↔nrm va=nrm vb)∧Below w.heap.size w w':=by
 obtain ⟨a0,a1,a2,a3,a4,a5,a6,a7,rfl⟩:=ha.eight;obtain ⟨b0,b1,b2,b3,b4,b5,b6,b7,rfl⟩:=hb.eight;obtain ⟨q0,q1,q2⟩:=box_two w [a0,a1,a2,a3,a4,a5,a6,a7] [b0,b1,b2,b3,b4,b5,b6,b7];have C1:=hide (rnrm_any _ va [a0,a1,a2,a3,a4,a5,a6,a7] _ (Nat.lt_succ_self _) da (ha.keep q2));have HQ1:=hide q1;have HQ2:=hide q2
 have HZ:Hid (((w.alloc (.cells [a0,a1,a2,a3,a4,a5,a6,a7].toArray 28)).alloc (.cells [b0,b1,b2,b3,b4,b5,b6,b7].toArray 28)).heap.size=w.heap.size+2):=by
  show _=_;rw [World.size_alloc,World.size_alloc]
 have HB:=hide hb;have DB:=hide db;clear ha hb da db q0 q1 q2
 go_enter Tryz.func33,Tryz.ntmps33
 go_wp2_with fail
 refine (uh C1).mono ?_;generalize (w.alloc (.cells [a0,a1,a2,a3,a4,a5,a6,a7].toArray 28)).alloc (.cells [b0,b1,b2,b3,b4,b5,b6,b7].toArray 28)=W0 at *;rintro e u1 ⟨cs1,p1,rfl,hr1,_,hb1⟩;obtain ⟨kk,tt,ng,dg',ex,xx,c1,n1,k1,c2,n2,k2,rfl⟩:=hr1.form;have hz1:w.heap.size+1 < u1.heap.size:=by have:=uh HZ;have:=hb1.size;omega
 have hB1:Below w.heap.size w u1:=(uh HQ2).trans (hb1.mono (by have:=uh HZ;omega));obtain ⟨z0,z1,z2,z3,z4,z5,z6,z7⟩:=((uh HQ1).keep hb1 (by have:=uh HZ;omega)).cells;have hA1:=(Below.refl u1.heap.size u1).alloc (Nat.le_refl _) (.cells #[.int .i64 kk,.bool tt,.bool ng,.string dg',.int .i64 ex,.string xx,.slice c1 n1 k1,.slice c2 n2 k2] 28);have hB1a:=hB1.trans (hA1.mono (by omega));have C2:=hide (rnrm_any _ vb [b0,b1,b2,b3,b4,b5,b6,b7] _ (Nat.lt_succ_self _) (uh DB) ((uh HB).keep hB1a));have HR1:=hide (hr1.vr.keep hA1);have HX1:Hid (BX (u1.alloc (.cells #[.int .i64 kk,.bool tt,.bool ng,.string dg',.int .i64 ex,.string xx,.slice c1 n1 k1,.slice c2 n2 k2] 28)) u1.heap.size [.int .i64 kk,.bool tt,.bool ng,.string dg',.int .i64 ex,.string xx,.slice c1 n1 k1,.slice c2 n2 k2]):=heap_alloc_new u1 _;have HB1:=hide hB1a;clear C1 hr1 hb1 hA1 hB1a hB1 HQ1 HQ2 HB DB
 go_wp2_with fail
 refine (uh C2).mono ?_;have hzz:(u1.alloc (.cells #[.int .i64 kk,.bool tt,.bool ng,.string dg',.int .i64 ex,.string xx,.slice c1 n1 k1,.slice c2 n2 k2] 28)).heap.size=u1.heap.size+1:=World.size_alloc _ _;generalize u1.alloc (.cells #[.int .i64 kk,.bool tt,.bool ng,.string dg',.int .i64 ex,.string xx,.slice c1 n1 k1,.slice c2 n2 k2] 28)=W1 at *;rintro e u2 ⟨cs2,p2,rfl,hr2,_,hb2⟩;obtain ⟨kk',tt',ng',dg2,ex',xx',c1',n1',k1',c2',n2',k2',rfl⟩:=hr2.form;have hz2:u1.heap.size < u2.heap.size:=by have:=hb2.size;omega
 have x1:=(uh HX1).keep hb2 (by omega);obtain ⟨y0,y1,y2,y3,y4,y5,y6,y7⟩:=x1.cells;have hA2:=(Below.refl u2.heap.size u2).alloc (Nat.le_refl _) (.cells #[.int .i64 kk',.bool tt',.bool ng',.string dg2,.int .i64 ex',.string xx',.slice c1' n1' k1',.slice c2' n2' k2'] 28);have HB2:=hide (((uh HB1).trans (hb2.mono (uh HB1).size)).trans (hA2.mono (Nat.le_trans (uh HB1).size hb2.size)));have C3:=hide (rlike_any _ (nrm va) (nrm vb) [.int .i64 kk,.bool tt,.bool ng,.string dg',.int .i64 ex,.string xx,.slice c1 n1 k1,.slice c2 n2 k2] [.int .i64 kk',.bool tt',.bool ng',.string dg2,.int .i64 ex',.string xx',.slice c1' n1' k1',.slice c2' n2' k2'] _ (Nat.lt_succ_self _) (((uh HR1).keep hb2).keep hA2) (hr2.vr.keep hA2));clear C2 hr2 hb2 HR1 HX1 HB1 x1 hA2 z0 z1 z2 z3 z4 z5 z6 z7
 go_wp2_with fail
 refine (uh C3).mono ?_;rintro e u3 ⟨b,rfl,hbb,hb3⟩;have HB3:=hide ((uh HB2).trans (hb3.mono (uh HB2).size));have HBB:=hide hbb;clear C3 hb3 hbb;go_wp2;go_ret;exact ⟨b,rfl,uh HBB,uh HB3⟩
end Go.Proofs.YthnhobplgmojeaaGreatDoor.rd
