/- Texts in one: RecM RecS RecS2 RecV RecB RecB2 RecK RecQ RecQ2 RecL2 -/
import Derived.Test.YthnhobplgmojeaaGreatDoorRecR5PB
import Derived.Deep.MidRow
import Derived.Test.YthnhobplgmojeaaGreatDoorRecTPB
import Derived.Test.YthnhobplgmojeaaGreatDoorFo5P
import Derived.Test.YthnhobplgmojeaaGreatDoorByaP
import Derived.Test.YthnhobplgmojeaaGreatDoorVvP
import Derived.Test.YthnhobplgmojeaaGreatDoorHwP
namespace Go.Proofs.YthnhobplgmojeaaGreatDoor.ev
open Go.RowKit Go.Proofs.YthnhobplgmojeaaGreatDoor.rd
theorem setCells_upd (m:Nat):∀ (vs:List Value) (o:Nat) (w:World),Upd m w (w.setCells m o vs)
 | [],_,w=>Upd.refl m w
 | v::r,o,w=>(Upd.setCell m o w v).trans (setCells_upd m r (o+1) _)
theorem infoE:(Tryz.prog.info? 32).map (·.size)=some 17:=by kernel_rfl
theorem setCells_range {w:World}{m:Nat}{old:Array Value}{cs:List Value} (h:w.heap[m]?=some (.cells old 32 (0,0))) (ho:old.size=17) (hc:cs.length=17):(w.setCells m 0 cs).rangeAt m 0 cs :=
 World.rangeAt_setCells_same w m 0 cs (fun j hj=>(⟨by rw [Nat.zero_add,blk_cell h j,Array.getElem?_eq_getElem (by omega)];rfl,by rw [Nat.zero_add];exact blk_free h j⟩:_∧_))
theorem there_event {w:World}{m:Nat}{old:Array Value} (h:w.heap[m]?=some (.cells old 32 (0,0))) (ho:old.size=17):w.there m 0 17:=fun j hj=>⟨by rw [Nat.zero_add,blk_cell h j,Array.getElem?_eq_getElem (by omega)];rfl,by rw [Nat.zero_add];exact blk_free h j⟩
theorem ret_event_mid {m:Nat}{w:World}{cs:List Value} (hc:w.rangeAt m 0 cs) (hl:cs.length=17) (tmps:Array Value) (ht:tmps[2]?.getD undef=.pointer (some ⟨m,0,none⟩)) :
 (results Tryz.f27 tmps).run Tryz.prog w=.ok (.agg cs.toArray) w:=by
 have hld:=run_loadVar_mid (P:=Tryz.prog) w m 0 32 cs _ hc Tryz.underlying32 rfl (by rw [hl];exact infoE);simp [results,Tryz.results27,ht,asAddr,hld]
set_option maxRecDepth 100000 in
set_option maxHeartbeats 12800000 in
theorem revent_good (JS:SameC) (E:Nat→Value) (m:Nat) (l:List UInt8) (r:Bool) (w:World) (h:RB w m l r) (hd:RdE E w m) (hT:∀ u,Below m w u→TBl u) (hh:1≤hdB l∧hdB l≤7) :
 Calls Tryz.prog 27 #[.pointer (some ⟨m,0,none⟩)] w (RdEv w m l r):=by
 have x0:=heap_alloc_new w (.cells #[.int .i64 0,.slice none 0 0,.int .i64 0,.bool false,.int .i64 0,.bool false,.bool false,.string ⟨#[]⟩,.int .i64 0,.string ⟨#[]⟩,.slice none 0 0,.slice none 0 0,.string ⟨#[]⟩,.string ⟨#[]⟩,.string ⟨#[]⟩,.string ⟨#[]⟩,.int .i64 0] 32);have l0:=(Below.refl w.heap.size w).alloc (Nat.le_refl _) (.cells #[.int .i64 0,.slice none 0 0,.int .i64 0,.bool false,.int .i64 0,.bool false,.bool false,.string ⟨#[]⟩,.int .i64 0,.string ⟨#[]⟩,.slice none 0 0,.slice none 0 0,.string ⟨#[]⟩,.string ⟨#[]⟩,.string ⟨#[]⟩,.string ⟨#[]⟩,.int .i64 0] 32);have HML:=hide h.lt;have L0:=hide l0;have NX:=hide (next_any m l r _ (h.keep l0));have HDD:=hide (fun u (hu:Mv m w u)=>hd.go (hu.below (Nat.le_refl m) (Nat.le_of_lt h.lt)));have HTT:=hide (fun u (hu:Mv m w u)=>hT u (hu.below (Nat.le_refl m) (Nat.le_of_lt h.lt)));have HJ:=hide JS;have HH:=hide hh;clear h hd l0 JS hT hh
 go_enter Tryz.func27,Tryz.ntmps27
 go_upto_region 1 with fail;generalize w.alloc (.cells #[.int .i64 0,.slice none 0 0,.int .i64 0,.bool false,.int .i64 0,.bool false,.bool false,.string ⟨#[]⟩,.int .i64 0,.string ⟨#[]⟩,.slice none 0 0,.slice none 0 0,.string ⟨#[]⟩,.string ⟨#[]⟩,.string ⟨#[]⟩,.string ⟨#[]⟩,.int .i64 0] 32)=W0 at *;have X0:=hide x0;clear x0
 go_upto_region 2 with (go_at_call 48;refine (uh NX).mono ?_;rintro e1 u1 ⟨c,l1,r1,rfl,h1,b1,⟨hc,hch⟩,z1,g1,k1⟩
                        have H1:=hide h1;have M1:=hide ((Mv.of (uh L0)).trans b1);have X1:=hide ((b1.block _ (blk_lt (uh X0)) (by have:=uh HML;omega)).trans (uh X0));have hwc:IntKind.i64.wrap c=c:=IntWalk.i64_in _ ⟨by omega,by omega⟩;have HC:=hide hc;have HCH:=hide hch;have Z1:=hide z1;have G1:=hide g1;have K1:=hide k1
                        clear NX h1 b1 z1 g1 k1 X0 L0 hc hch)
 have hk:1≤c∧c≤7:=by rw [uh HCH];exact uh HH
 have hc:=uh HC;have hd:decide (1≤c∧c≤7)=true:=decide_eq_true hk;have RE:Hid (∀ t,rdE (UInt8.ofNat c.toNat::t)=rdParts [pk c 0,pk c 1,pk c 2] (ev0 c) t):=fun t=>by rw [rdE_cons (uh HC).1 (uh HC).2,if_pos hk]
 generalize h2:u1.alloc (.cells #[.int .i64 c,.slice none 0 0,.int .i64 0,.bool false,.int .i64 0,.bool false,.bool false,.string ⟨#[]⟩,.int .i64 0,.string ⟨#[]⟩,.slice none 0 0,.slice none 0 0,.string ⟨#[]⟩,.string ⟨#[]⟩,.string ⟨#[]⟩,.string ⟨#[]⟩,.int .i64 0] 32)=U2;have hx2:U2.heap[u1.heap.size]?=some (.cells #[.int .i64 c,.slice none 0 0,.int .i64 0,.bool false,.int .i64 0,.bool false,.bool false,.string ⟨#[]⟩,.int .i64 0,.string ⟨#[]⟩,.slice none 0 0,.slice none 0 0,.string ⟨#[]⟩,.string ⟨#[]⟩,.string ⟨#[]⟩,.string ⟨#[]⟩,.int .i64 0] 32 (0,0)):=h2 ▸ heap_alloc_new u1 _;have b2:Below u1.heap.size u1 U2:=h2 ▸ (Below.refl u1.heap.size u1).alloc (Nat.le_refl _) _;have CT:=hide (partsOf_any c U2 (uh HTT U2 ((uh M1).trans (Mv.of b2))));rw [hd] at CT;have M2:=hide ((uh M1).trans (Mv.of b2));have H2:=hide ((uh H1).keep b2);have X2:=hide ((b2.block _ (blk_lt (uh X1))).trans (uh X1));have XE:=hide hx2;have HWK:Hid (w.heap.size < u1.heap.size):=blk_lt (uh X1);generalize hkb:u1.heap.size=kb at *;obtain ⟨z0,z1,z2,z3,z4,z5,z6,z7,z8,z9,za,zb,zc,zd,ze,zf,zg⟩:=ecells (show U2.heap[kb]?=some (.cells [.int .i64 c,.slice none 0 0,.int .i64 0,.bool false,.int .i64 0,.bool false,.bool false,.string ⟨#[]⟩,.int .i64 0,.string ⟨#[]⟩,.slice none 0 0,.slice none 0 0,.string ⟨#[]⟩,.string ⟨#[]⟩,.string ⟨#[]⟩,.string ⟨#[]⟩,.int .i64 0].toArray 32 (0,0)) from hx2);clear h2 hx2 b2 hkb hk hd M1 H1 X1;generalize hq0:pk c 0=q0 at *;generalize hq1:pk c 1=q1 at *;generalize hq2:pk c 2=q2 at *;clear hq0 hq1 hq2
 go_upto_region 3 with (go_at_call 39;refine (uh CT).mono ?_;rintro e2 u3 ⟨rfl,b3⟩
                        have M3:=hide ((uh M2).trans (Mv.of b3));have H3:=hide ((uh H2).keep b3);have X3:=hide ((b3.block _ (blk_lt (uh X2))).trans (uh X2));have XE3:=hide ((b3.block _ (blk_lt (uh XE))).trans (uh XE))
                        clear CT b3)
 generalize h4:u3.alloc (.cells #[.int .i64 q0,.int .i64 q1,.int .i64 q2] 88)=U4;have hx4:U4.heap[u3.heap.size]?=some (.cells #[.int .i64 q0,.int .i64 q1,.int .i64 q2] 88 (0,0)):=h4 ▸ heap_alloc_new u3 _;have b4:Below u3.heap.size u3 U4:=h4 ▸ (Below.refl u3.heap.size u3).alloc (Nat.le_refl _) _;have M4:=hide ((uh M3).trans (Mv.of b4));have H4:=hide ((uh H3).keep b4);have X4:=hide ((b4.block _ (blk_lt (uh X3))).trans (uh X3));have XE4:=hide ((b4.block _ (blk_lt (uh XE3))).trans (uh XE3));have d0:=blk_cell hx4 0;have d1:=blk_cell hx4 1;have d2:=blk_cell hx4 2;have HMK:Hid (m < kb):=by have:=uh HML;have:=uh HWK;show _ < _;omega
 have ES:Hid (EvS U4 kb (ev0 c)):=⟨.slice none 0 0,[.int .i64 0,.bool false,.bool false,.string ⟨#[]⟩,.int .i64 0,.string ⟨#[]⟩,.slice none 0 0,.slice none 0 0],[],uh XE4,OI.nil _ _,vrep_flat U4 (kb+1) 0 false zed ⟨#[]⟩,List.nodup_nil⟩;clear h4 hx4 b4 z0 z1 z2 z3 z4 z5 z6 z7 z8 z9 za zb zc zd ze zf zg M3 H3 X3 XE3 M2 H2 X2 XE XE4;go_upto_region 7 with fail;have HD:=hide (fun u (hu:Mv2 m kb U4 u)=>uh HDD u ⟨hu.os.trans (uh M4).os,hu.tape.trans (uh M4).tape,hu.output.trans (uh M4).output,Nat.le_trans (uh M4).size hu.size,fun i hi hn=>(hu.block i (Nat.lt_of_lt_of_le hi (uh M4).size) hn (by have:=uh HWK;omega)).trans ((uh M4).block i hi hn)⟩);clear d0 d1 d2
 go_loopw [25] (fun iv wr=>∃ (i:Nat) (ev:Ev) (o:List UInt8) (q:Bool),iv=.int .i64 (i:Int)∧i≤3∧Hid (EvS wr kb ev)∧Hid (EvOk ev)∧Hid (RB wr m o q)∧Hid (Mv2 m kb U4 wr)∧Hid (o.length≤l.length)∧Hid (q=false→r=false∧rdE l=rdParts ([q0,q1,q2].drop i) ev o)∧Hid (q=true→r=true∨rdE l=none)) (fun iv _=>3 - (intOf iv).toNat)
 case atStart =>
  refine ⟨0,ev0 c,l1,r1,rfl,by omega,uh ES,ev0_ok c,uh H4,Mv2.refl _ _ _,uh Z1,fun q=>?_,fun q=>?_⟩
  · obtain ⟨y1,y2⟩:=uh G1 q
    refine ⟨y1,?_⟩;rw [y2,uh RE];rfl
  · rcases uh K1 q with y|y
    · exact .inl y
    · exact .inr (by rw [y];rfl)
 case round =>
  have hi0:∀ u:World,(Instr.index 88 (.agg #[.int .i64 q0,.int .i64 q1,.int .i64 q2]) (.int .i64 0)).run Tryz.prog u=.ok (.int .i64 q0) u:=fun u=>by kernel_rfl
  have hi1:∀ u:World,(Instr.index 88 (.agg #[.int .i64 q0,.int .i64 q1,.int .i64 q2]) (.int .i64 1)).run Tryz.prog u=.ok (.int .i64 q1) u:=fun u=>by kernel_rfl
  have hi2:∀ u:World,(Instr.index 88 (.agg #[.int .i64 q0,.int .i64 q1,.int .i64 q2]) (.int .i64 2)).run Tryz.prog u=.ok (.int .i64 q2) u:=fun u=>by kernel_rfl
  obtain ⟨i,ev,o,q,rfl,hi3,hes,hok,hrb,hmv,hol,hq0,hq1⟩:=hrel;have hcs:i=0∨i=1∨i=2∨i=3:=by omega
  rcases hcs with rfl|rfl|rfl|rfl
  · skip
    rw [show ((0:Nat):Int)=0 from rfl];have PC:=hide (rpart_any (uh HJ) E m kb q0 ev o q _ (uh hrb) (uh HD _ (uh hmv)) (uh HMK) (uh hes) (uh hok))
    go_wp2_with (go_at_call 49;refine (uh PC).mono ?_;rintro e2 w2 ⟨rfl,ev2,l2,r2,s2,ok2,h2,m2,z2,kd2,g2,k2⟩
                 have S2:=hide s2;have OK2:=hide ok2;have H2:=hide h2;have M2:=hide m2;have Z2:=hide z2;have G2:=hide g2;have K2:=hide k2
                 clear PC s2 ok2 h2 m2 z2 g2 k2 kd2)
    refine ⟨⟨1,ev2,l2,r2,rfl,by omega,uh S2,uh OK2,uh H2,(uh hmv).trans (uh M2),Nat.le_trans (uh Z2) (uh hol),fun z=>?_,fun z=>?_⟩,by simp [intOf]⟩
    · obtain ⟨z1,z2⟩:=uh G2 z
      obtain ⟨y1,y2⟩:=uh hq0 z1;refine ⟨y1,?_⟩;rw [y2];show rdParts (q0::_) ev o=_;rw [rdParts,z2];rfl
    · rcases uh K2 z with y|y
      · exact uh hq1 y
      · cases q with
        | true=>exact uh hq1 rfl
        | false =>
          refine .inr ?_;rw [(uh hq0 rfl).2];show rdParts (q0::_) ev o=_;rw [rdParts,y]
  · skip
    rw [show ((1:Nat):Int)=1 from rfl];have PC:=hide (rpart_any (uh HJ) E m kb q1 ev o q _ (uh hrb) (uh HD _ (uh hmv)) (uh HMK) (uh hes) (uh hok))
    go_wp2_with (go_at_call 49;refine (uh PC).mono ?_;rintro e2 w2 ⟨rfl,ev2,l2,r2,s2,ok2,h2,m2,z2,kd2,g2,k2⟩
                 have S2:=hide s2;have OK2:=hide ok2;have H2:=hide h2;have M2:=hide m2;have Z2:=hide z2;have G2:=hide g2;have K2:=hide k2
                 clear PC s2 ok2 h2 m2 z2 g2 k2 kd2)
    refine ⟨⟨2,ev2,l2,r2,rfl,by omega,uh S2,uh OK2,uh H2,(uh hmv).trans (uh M2),Nat.le_trans (uh Z2) (uh hol),fun z=>?_,fun z=>?_⟩,by simp [intOf]⟩
    · obtain ⟨z1,z2⟩:=uh G2 z
      obtain ⟨y1,y2⟩:=uh hq0 z1;refine ⟨y1,?_⟩;rw [y2];show rdParts (q1::_) ev o=_;rw [rdParts,z2];rfl
    · rcases uh K2 z with y|y
      · exact uh hq1 y
      · cases q with
        | true=>exact uh hq1 rfl
        | false =>
          refine .inr ?_;rw [(uh hq0 rfl).2];show rdParts (q1::_) ev o=_;rw [rdParts,y]
  · skip
    rw [show ((2:Nat):Int)=2 from rfl];have PC:=hide (rpart_any (uh HJ) E m kb q2 ev o q _ (uh hrb) (uh HD _ (uh hmv)) (uh HMK) (uh hes) (uh hok))
    go_wp2_with (go_at_call 49;refine (uh PC).mono ?_;rintro e2 w2 ⟨rfl,ev2,l2,r2,s2,ok2,h2,m2,z2,kd2,g2,k2⟩
                 have S2:=hide s2;have OK2:=hide ok2;have H2:=hide h2;have M2:=hide m2;have Z2:=hide z2;have G2:=hide g2;have K2:=hide k2
                 clear PC s2 ok2 h2 m2 z2 g2 k2 kd2)
    refine ⟨⟨3,ev2,l2,r2,rfl,by omega,uh S2,uh OK2,uh H2,(uh hmv).trans (uh M2),Nat.le_trans (uh Z2) (uh hol),fun z=>?_,fun z=>?_⟩,by simp [intOf]⟩
    · obtain ⟨z1,z2⟩:=uh G2 z
      obtain ⟨y1,y2⟩:=uh hq0 z1;refine ⟨y1,?_⟩;rw [y2];show rdParts (q2::_) ev o=_;rw [rdParts,z2];rfl
    · rcases uh K2 z with y|y
      · exact uh hq1 y
      · cases q with
        | true=>exact uh hq1 rfl
        | false =>
          refine .inr ?_;rw [(uh hq0 rfl).2];show rdParts (q2::_) ev o=_;rw [rdParts,y]
  · obtain ⟨pv,vc,fp,hk,hoi,hvr,hnd⟩:=uh hes
    obtain ⟨v0,v1,v2,v3,v4,v5,v6,v7,v8,v9,va,vb,rfl⟩:=hvr.vr.form;obtain ⟨p0,p1,p2,rfl⟩:=hoi.sl;rw [evC_eq] at hk;have XR:Hid (wr.heap[w.heap.size]?=some (.cells [.int .i64 0,.slice none 0 0,.int .i64 0,.bool false,.int .i64 0,.bool false,.bool false,.string ⟨#[]⟩,.int .i64 0,.string ⟨#[]⟩,.slice none 0 0,.slice none 0 0,.string ⟨#[]⟩,.string ⟨#[]⟩,.string ⟨#[]⟩,.string ⟨#[]⟩,.int .i64 0].toArray 32 (0,0))):=(((uh hmv).block _ (blk_lt (uh X4)) (by have:=uh HML;omega) (by have:=uh HWK;omega)).trans (uh X4));have HOI:=hide hoi;have HVR:=hide hvr;have HND:=hide hnd;have HKK:=hide hk;have HTH:=hide (there_event (uh XR) rfl);have HONE:Hid (([.int .i64 ev.kind,.slice p0 p1 p2,.int .i64 ev.time,.bool ev.fine,.int .i64 v0,.bool v1,.bool v2,.string v3,.int .i64 v4,.string v5,.slice v6 v7 v8,.slice v9 va vb,.string ev.er,.string ev.ca,.string ev.mach,.string ev.inp,.int .i64 ev.fuel]:List Value).toArray.all (·.oneCell')=true):=by simp [Hid,Value.oneCell']
    have HRG:=hide (setCells_range (cs:=[.int .i64 ev.kind,.slice p0 p1 p2,.int .i64 ev.time,.bool ev.fine,.int .i64 v0,.bool v1,.bool v2,.string v3,.int .i64 v4,.string v5,.slice v6 v7 v8,.slice v9 va vb,.string ev.er,.string ev.ca,.string ev.mach,.string ev.inp,.int .i64 ev.fuel]) (uh XR) rfl rfl);have HUS:=hide (setCells_upd w.heap.size [.int .i64 ev.kind,.slice p0 p1 p2,.int .i64 ev.time,.bool ev.fine,.int .i64 v0,.bool v1,.bool v2,.string v3,.int .i64 v4,.string v5,.slice v6 v7 v8,.slice v9 va vb,.string ev.er,.string ev.ca,.string ev.mach,.string ev.inp,.int .i64 ev.fuel] 0 wr);have HEV:=hide (evC_eq ev (.slice p0 p1 p2) v0 v1 v2 v3 v4 v5 v6 v7 v8 v9 va vb);have hmw:Mv m w wr:=⟨(uh hmv).os.trans (uh M4).os,(uh hmv).tape.trans (uh M4).tape,(uh hmv).output.trans (uh M4).output,Nat.le_trans (uh M4).size (uh hmv).size,fun i hi hn=>((uh hmv).block i (Nat.lt_of_lt_of_le hi (uh M4).size) hn (by have:=uh HWK;omega)).trans ((uh M4).block i hi hn)⟩;have HMW:=hide hmw;clear hk hoi hvr hnd hi0 hi1 hi2 hmw
    go_wp2_with (first
     | (refine wpList_load_row rfl 32 _ rfl kb rfl 32 _ (0,0) _ (uh HKK) Tryz.underlying32 rfl infoE ?_)
     | (refine wpList_store_mid rfl 32 _ _ rfl w.heap.size 0 ([.int .i64 ev.kind,.slice p0 p1 p2,.int .i64 ev.time,.bool ev.fine,.int .i64 v0,.bool v1,.bool v2,.string v3,.int .i64 v4,.string v5,.slice v6 v7 v8,.slice v9 va vb,.string ev.er,.string ev.ca,.string ev.mach,.string ev.inp,.int .i64 ev.fuel]:List Value).toArray rfl rfl (uh HTH) infoE (uh HONE) ?_))
    refine bodyPost_ret (ret_event_mid (m:=w.heap.size) (uh HRG) rfl _ rfl) rfl ?_;have hup:=uh HUS;have hbl:=Upd.below hup (Nat.le_refl _);have hwk:=uh HWK;refine ⟨ev,.slice p0 p1 p2,[.int .i64 v0,.bool v1,.bool v2,.string v3,.int .i64 v4,.string v5,.slice v6 v7 v8,.slice v9 va vb],fp,o,q,by rw [evC_eq],((uh HOI).upd hup (by omega)).base (by omega),(vrep_upd (uh HVR) hup (by omega)).base (by omega),uh HND,uh hok,(uh hrb).below hbl (uh HML),mv_below (uh HMW) hbl,uh hol,fun z=>?_,uh hq1⟩;obtain ⟨y1,y2⟩:=uh hq0 z;exact ⟨y1,by rw [y2];rfl⟩
set_option maxRecDepth 100000 in
set_option maxHeartbeats 12800000 in
theorem revent_bad (m:Nat) (l:List UInt8) (r:Bool) (w:World) (h:RB w m l r) (hT:∀ u,Below m w u→TBl u) (hh:¬ (1≤hdB l∧hdB l≤7)) :
 Calls Tryz.prog 27 #[.pointer (some ⟨m,0,none⟩)] w (RdEv w m l r):=by
 have x0:=heap_alloc_new w (.cells #[.int .i64 0,.slice none 0 0,.int .i64 0,.bool false,.int .i64 0,.bool false,.bool false,.string ⟨#[]⟩,.int .i64 0,.string ⟨#[]⟩,.slice none 0 0,.slice none 0 0,.string ⟨#[]⟩,.string ⟨#[]⟩,.string ⟨#[]⟩,.string ⟨#[]⟩,.int .i64 0] 32);have l0:=(Below.refl w.heap.size w).alloc (Nat.le_refl _) (.cells #[.int .i64 0,.slice none 0 0,.int .i64 0,.bool false,.int .i64 0,.bool false,.bool false,.string ⟨#[]⟩,.int .i64 0,.string ⟨#[]⟩,.slice none 0 0,.slice none 0 0,.string ⟨#[]⟩,.string ⟨#[]⟩,.string ⟨#[]⟩,.string ⟨#[]⟩,.int .i64 0] 32);have HML:=hide h.lt;have L0:=hide l0;have NX:=hide (next_any m l r _ (h.keep l0));have HTT:=hide (fun u (hu:Mv m w u)=>hT u (hu.below (Nat.le_refl m) (Nat.le_of_lt h.lt)));have HH:=hide hh;clear h l0 hT hh
 go_enter Tryz.func27,Tryz.ntmps27
 go_upto_region 1 with fail;generalize w.alloc (.cells #[.int .i64 0,.slice none 0 0,.int .i64 0,.bool false,.int .i64 0,.bool false,.bool false,.string ⟨#[]⟩,.int .i64 0,.string ⟨#[]⟩,.slice none 0 0,.slice none 0 0,.string ⟨#[]⟩,.string ⟨#[]⟩,.string ⟨#[]⟩,.string ⟨#[]⟩,.int .i64 0] 32)=W0 at *;have X0:=hide x0;clear x0
 go_upto_region 2 with (go_at_call 48;refine (uh NX).mono ?_;rintro e1 u1 ⟨c,l1,r1,rfl,h1,b1,⟨hc,hch⟩,z1,g1,k1⟩
                        have H1:=hide h1;have M1:=hide ((Mv.of (uh L0)).trans b1);have X1:=hide ((b1.block _ (blk_lt (uh X0)) (by have:=uh HML;omega)).trans (uh X0));have hwc:IntKind.i64.wrap c=c:=IntWalk.i64_in _ ⟨by omega,by omega⟩;have HC:=hide hc;have HCH:=hide hch;have Z1:=hide z1;have G1:=hide g1;have K1:=hide k1
                        clear NX h1 b1 z1 g1 k1 X0 L0 hc hch)
 have hk:¬ (1≤c∧c≤7):=by rw [uh HCH];exact uh HH
 have hc:=uh HC
 have HBAD:Hid (r=true∨rdE l=none):=by
  cases hr:r1 with
  | true=>exact (uh K1 hr).imp id fun y=>by rw [y];rfl
  | false =>
    refine .inr ?_;rw [(uh G1 hr).2,rdE_cons (uh HC).1 (uh HC).2,if_neg hk]
 have hd:decide (1≤c∧c≤7)=false:=decide_eq_false hk;generalize h2:u1.alloc (.cells #[.int .i64 c,.slice none 0 0,.int .i64 0,.bool false,.int .i64 0,.bool false,.bool false,.string ⟨#[]⟩,.int .i64 0,.string ⟨#[]⟩,.slice none 0 0,.slice none 0 0,.string ⟨#[]⟩,.string ⟨#[]⟩,.string ⟨#[]⟩,.string ⟨#[]⟩,.int .i64 0] 32)=U2;have hx2:U2.heap[u1.heap.size]?=some (.cells #[.int .i64 c,.slice none 0 0,.int .i64 0,.bool false,.int .i64 0,.bool false,.bool false,.string ⟨#[]⟩,.int .i64 0,.string ⟨#[]⟩,.slice none 0 0,.slice none 0 0,.string ⟨#[]⟩,.string ⟨#[]⟩,.string ⟨#[]⟩,.string ⟨#[]⟩,.int .i64 0] 32 (0,0)):=h2 ▸ heap_alloc_new u1 _;have b2:Below u1.heap.size u1 U2:=h2 ▸ (Below.refl u1.heap.size u1).alloc (Nat.le_refl _) _;have CT:=hide (partsOf_any c U2 (uh HTT U2 ((uh M1).trans (Mv.of b2))));rw [hd] at CT;have M2:=hide ((uh M1).trans (Mv.of b2));have H2:=hide ((uh H1).keep b2);have X2:=hide ((b2.block _ (blk_lt (uh X1))).trans (uh X1));have XE:=hide hx2;have HWK:Hid (w.heap.size < u1.heap.size):=blk_lt (uh X1);generalize hkb:u1.heap.size=kb at *;obtain ⟨z0,z1,z2,z3,z4,z5,z6,z7,z8,z9,za,zb,zc,zd,ze,zf,zg⟩:=ecells (show U2.heap[kb]?=some (.cells [.int .i64 c,.slice none 0 0,.int .i64 0,.bool false,.int .i64 0,.bool false,.bool false,.string ⟨#[]⟩,.int .i64 0,.string ⟨#[]⟩,.slice none 0 0,.slice none 0 0,.string ⟨#[]⟩,.string ⟨#[]⟩,.string ⟨#[]⟩,.string ⟨#[]⟩,.int .i64 0].toArray 32 (0,0)) from hx2);clear h2 hx2 b2 hkb hk hd M1 H1 X1;generalize pk c 0=q0 at *;generalize pk c 1=q1 at *;generalize pk c 2=q2 at *
 go_upto_region 3 with (go_at_call 39;refine (uh CT).mono ?_;rintro e2 u3 ⟨rfl,b3⟩
                        have M3:=hide ((uh M2).trans (Mv.of b3));have H3:=hide ((uh H2).keep b3);have X3:=hide ((b3.block _ (blk_lt (uh X2))).trans (uh X2));have XE3:=hide ((b3.block _ (blk_lt (uh XE))).trans (uh XE))
                        clear CT b3)
 generalize h4:u3.alloc (.cells #[.int .i64 q0,.int .i64 q1,.int .i64 q2] 88)=U4;have b4:Below u3.heap.size u3 U4:=h4 ▸ (Below.refl u3.heap.size u3).alloc (Nat.le_refl _) _;have M4:=hide ((uh M3).trans (Mv.of b4));have H4:=hide ((uh H3).keep b4);have X4:=hide ((b4.block _ (blk_lt (uh X3))).trans (uh X3));have XE4:=hide ((b4.block _ (blk_lt (uh XE3))).trans (uh XE3));have HUP:=hide (Upd.setCell m 1 U4 (.bool true));have HRF:=hide ((uh H4).refuse);obtain ⟨lv,hc,hv⟩:=uh H4;have c1:=blk_cell hc 1;have f1:=blk_free hc 1;have XR:Hid ((U4.setCell ⟨m,1,none⟩ (.bool true)).heap[w.heap.size]?=some (.cells [.int .i64 0,.slice none 0 0,.int .i64 0,.bool false,.int .i64 0,.bool false,.bool false,.string ⟨#[]⟩,.int .i64 0,.string ⟨#[]⟩,.slice none 0 0,.slice none 0 0,.string ⟨#[]⟩,.string ⟨#[]⟩,.string ⟨#[]⟩,.string ⟨#[]⟩,.int .i64 0].toArray 32 (0,0))):=((uh HUP).block _ (by have:=uh HML;omega)).trans (uh X4);have XQ:Hid ((U4.setCell ⟨m,1,none⟩ (.bool true)).heap[kb]?=some (.cells [.int .i64 c,.slice none 0 0,.int .i64 0,.bool false,.int .i64 0,.bool false,.bool false,.string ⟨#[]⟩,.int .i64 0,.string ⟨#[]⟩,.slice none 0 0,.slice none 0 0,.string ⟨#[]⟩,.string ⟨#[]⟩,.string ⟨#[]⟩,.string ⟨#[]⟩,.int .i64 0].toArray 32 (0,0))):=((uh HUP).block _ (by have:=uh HML;have:=uh HWK;omega)).trans (uh XE4);have MQ:=hide ((uh M4).trans (mv_upd (uh HUP)));clear h4 b4 hc hv z0 z1 z2 z3 z4 z5 z6 z7 z8 z9 za zb zc zd ze zf zg M3 H3 X3 XE3 M2 H2 X2 XE;go_upto_region 5 with fail;generalize U4.setCell ⟨m,1,none⟩ (.bool true)=U5 at *;clear c1 f1 HUP H4 X4 XE4;have HRG:=hide (setCells_range (cs:=[.int .i64 c,.slice none 0 0,.int .i64 0,.bool false,.int .i64 0,.bool false,.bool false,.string ⟨#[]⟩,.int .i64 0,.string ⟨#[]⟩,.slice none 0 0,.slice none 0 0,.string ⟨#[]⟩,.string ⟨#[]⟩,.string ⟨#[]⟩,.string ⟨#[]⟩,.int .i64 0]) (uh XR) rfl rfl);have HUS:=hide (setCells_upd w.heap.size [.int .i64 c,.slice none 0 0,.int .i64 0,.bool false,.int .i64 0,.bool false,.bool false,.string ⟨#[]⟩,.int .i64 0,.string ⟨#[]⟩,.slice none 0 0,.slice none 0 0,.string ⟨#[]⟩,.string ⟨#[]⟩,.string ⟨#[]⟩,.string ⟨#[]⟩,.int .i64 0] 0 U5);have HTH:=hide (there_event (uh XR) rfl);have HONE:Hid (([.int .i64 c,.slice none 0 0,.int .i64 0,.bool false,.int .i64 0,.bool false,.bool false,.string ⟨#[]⟩,.int .i64 0,.string ⟨#[]⟩,.slice none 0 0,.slice none 0 0,.string ⟨#[]⟩,.string ⟨#[]⟩,.string ⟨#[]⟩,.string ⟨#[]⟩,.int .i64 0]:List Value).toArray.all (·.oneCell')=true):=by simp [Hid,Value.oneCell']
 go_wp2_with (first
  | (refine wpList_load_row rfl 32 _ rfl kb rfl 32 _ (0,0) _ (uh XQ) Tryz.underlying32 rfl infoE ?_)
  | (refine wpList_store_mid rfl 32 _ _ rfl w.heap.size 0 ([.int .i64 c,.slice none 0 0,.int .i64 0,.bool false,.int .i64 0,.bool false,.bool false,.string ⟨#[]⟩,.int .i64 0,.string ⟨#[]⟩,.slice none 0 0,.slice none 0 0,.string ⟨#[]⟩,.string ⟨#[]⟩,.string ⟨#[]⟩,.string ⟨#[]⟩,.int .i64 0]:List Value).toArray rfl rfl (uh HTH) infoE (uh HONE) ?_))
 refine bodyPost_ret (ret_event_mid (m:=w.heap.size) (uh HRG) rfl _ rfl) rfl ?_;have hbl:=Upd.below (uh HUS) (Nat.le_refl _);exact ⟨ev0 c,.slice none 0 0,[.int .i64 0,.bool false,.bool false,.string ⟨#[]⟩,.int .i64 0,.string ⟨#[]⟩,.slice none 0 0,.slice none 0 0],[],l1,true,rfl,OI.nil _ _,vrep_flat _ _ 0 false zed ⟨#[]⟩,List.nodup_nil,ev0_ok c,(uh HRF).below hbl (uh HML),mv_below (uh MQ) hbl,uh Z1,fun z=>Bool.noConfusion z,fun _=>uh HBAD⟩
theorem revent_any (JS:SameC) (E:Nat→Value) (m:Nat) (l:List UInt8) (r:Bool) (w:World) (h:RB w m l r) (hd:RdE E w m) (hT:∀ u,Below m w u→TBl u) :
 Calls Tryz.prog 27 #[.pointer (some ⟨m,0,none⟩)] w (RdEv w m l r):=by
 by_cases hh:1≤hdB l∧hdB l≤7
 · exact revent_good JS E m l r w h hd hT hh
 · exact revent_bad m l r w h hT hh
def DecP (ev:Value) (w:World) (b:List UInt8) (e:Ending) (w':World):Prop :=
 Below w.heap.size w w'∧((∃ d pv vc fp,rdE b=some (d,[])∧e=.returned (.tuple #[.agg (evC d pv vc).toArray,.nilIface])∧OI w' w.heap.size pv d.ns∧VRep w' w.heap.size d.v vc fp∧fp.Nodup∧EvOk d) ∨
  ((∀ d,rdE b≠some (d,[]))∧e=.returned (.tuple #[.agg #[.int .i64 0,.slice none 0 0,.int .i64 0,.bool false,.int .i64 0,.bool false,.bool false,.string ⟨#[]⟩,.int .i64 0,.string ⟨#[]⟩,.slice none 0 0,.slice none 0 0,.string ⟨#[]⟩,.string ⟨#[]⟩,.string ⟨#[]⟩,.string ⟨#[]⟩,.int .i64 0],.iface 264 ev])))
theorem ret_decode {m:Nat}{w:World}{cs:List Value}{x:Value} (hc:w.rangeAt m 0 cs) (hl:cs.length=17) (tmps:Array Value) (ht:tmps[2]?.getD undef=.pointer (some ⟨m,0,none⟩)) (hx:tmps[3]?.getD undef=x) :
 (results Tryz.f16 tmps).run Tryz.prog w=.ok (.tuple #[.agg cs.toArray,x]) w:=by
 have hld:=run_loadVar_mid (P:=Tryz.prog) w m 0 32 cs _ hc Tryz.underlying32 rfl (by rw [hl];exact infoE);simp [results,Tryz.results16,ht,hx,asAddr,hld]
set_option maxRecDepth 100000 in
set_option maxHeartbeats 12800000 in
theorem decode_any (JS:SameC) (E:Nat→Value) (ev:Value) (b:List UInt8) (bv:Value) (w:World) (hb:mm.BY w bv b) (hE:RE ev w) (hv:Env E w) (hng:17≤w.heap.size) :
 Calls Tryz.prog 16 #[bv] w (DecP ev w b):=by
 obtain ⟨oa,ca,rfl,_,_⟩:=hb.form;generalize hnl:b.length=nl at *;have TA:=hide (two_alloc w (.cells #[.int .i64 0,.slice none 0 0,.int .i64 0,.bool false,.int .i64 0,.bool false,.bool false,.string ⟨#[]⟩,.int .i64 0,.string ⟨#[]⟩,.slice none 0 0,.slice none 0 0,.string ⟨#[]⟩,.string ⟨#[]⟩,.string ⟨#[]⟩,.string ⟨#[]⟩,.int .i64 0] 32) (.cells #[.slice oa nl ca,.bool false] 72));have HB:=hide (fun u (hu:Below w.heap.size w u)=>hb.keep hu)
 have HBB:Hid (b≠[]→∀ a n c,Value.slice oa nl ca=.slice (some a) n c→a.block < w.heap.size+1):=fun hne a n c e=>by
  obtain ⟨a',c',e',_,_,h3⟩:=hb.at (List.length_pos_iff.2 hne);rw [e'] at e;simp only [Value.slice.injEq,Option.some.injEq] at e;obtain ⟨rfl,_,_⟩:=e;obtain ⟨x,hx⟩:∃ x,b[0]?=some x:=⟨b[0]'(List.length_pos_iff.2 hne),List.getElem?_eq_getElem _⟩;have:=mm.cell_lt (h3 0 x hx);rw [add_block] at this;omega
 have HE:=hide (fun u (hu:Below w.heap.size w u)=>hE.keep hu);have HRD:=hide (fun u (hu:Below w.heap.size w u)=>(⟨fun x hx=>hE.pw.keep (hu.trans (hx.mono (Nat.le_succ _))),fun x hx=>hv.below (hu.trans (hx.mono (Nat.le_succ _))),fun x hx=>Nat.le_trans hng (hu.trans (hx.mono (Nat.le_succ _))).size⟩:RdE E u (w.heap.size+1)));have HJ:=hide JS;clear hb hE hv hng hnl JS
 go_enter Tryz.func16,Tryz.ntmps16
 go_upto_region 2 with fail;generalize h0:w.alloc (.cells #[.int .i64 0,.slice none 0 0,.int .i64 0,.bool false,.int .i64 0,.bool false,.bool false,.string ⟨#[]⟩,.int .i64 0,.string ⟨#[]⟩,.slice none 0 0,.slice none 0 0,.string ⟨#[]⟩,.string ⟨#[]⟩,.string ⟨#[]⟩,.string ⟨#[]⟩,.int .i64 0] 32)=W0;generalize h1:W0.alloc (.cells #[.slice oa nl ca,.bool false] 72)=W1;obtain ⟨t1,t2,t3⟩:=uh TA W0 h0 W1 h1;have hrb:RB W1 (w.heap.size+1) b false:=⟨.slice oa nl ca,t2,uh HB W1 t3,uh HBB⟩;have CE:=hide (revent_any (uh HJ) E (w.heap.size+1) b false W1 hrb (uh HRD W1 t3) (fun u hu=>(uh HE u (t3.trans (hu.mono (Nat.le_succ _)))).tl));have T3:=hide t3;have X1:=hide t1;have HLT:=hide hrb.lt;clear h0 h1 TA t1 t2 t3 hrb HB HBB HRD HJ
 go_upto_region 3 with (first
  | (go_at_call 27;refine (uh CE).mono ?_;rintro e1 u1 ⟨d,pv,vc,fp,l2,r2,rfl,hoi,hvr,hnd,hok,hrb,hmv,hlen,hg,hk⟩
     obtain ⟨v0,v1,v2,v3,v4,v5,v6,v7,v8,v9,va,vb,rfl⟩:=hvr.vr.form;obtain ⟨p0,p1,p2,rfl⟩:=hoi.sl;rw [evC_eq];have OI1:=hide hoi;have VR1:=hide hvr;have ND:=hide hnd;have OK1:=hide hok;have RB1:=hide hrb;have MV1:=hide hmv;have G1:=hide hg;have K1:=hide hk;have NB:=hide (heap_alloc_new u1 (.cells #[.int .i64 0,.slice none 0 0,.int .i64 0,.bool false,.int .i64 0,.bool false,.bool false,.string ⟨#[]⟩,.int .i64 0,.string ⟨#[]⟩,.slice none 0 0,.slice none 0 0,.string ⟨#[]⟩,.string ⟨#[]⟩,.string ⟨#[]⟩,.string ⟨#[]⟩,.int .i64 0] 32));have HTH:=hide (there_event (uh NB) rfl);have HONE:Hid (([.int .i64 d.kind,.slice p0 p1 p2,.int .i64 d.time,.bool d.fine,.int .i64 v0,.bool v1,.bool v2,.string v3,.int .i64 v4,.string v5,.slice v6 v7 v8,.slice v9 va vb,.string d.er,.string d.ca,.string d.mach,.string d.inp,.int .i64 d.fuel]:List Value).toArray.all (·.oneCell')=true):=by simp [Hid,Value.oneCell']
     clear hoi hvr hnd hok hrb hmv hlen hg hk CE)
  | (refine wpList_store_mid rfl 32 _ _ rfl u1.heap.size 0 ([.int .i64 d.kind,.slice p0 p1 p2,.int .i64 d.time,.bool d.fine,.int .i64 v0,.bool v1,.bool v2,.string v3,.int .i64 v4,.string v5,.slice v6 v7 v8,.slice v9 va vb,.string d.er,.string d.ca,.string d.mach,.string d.inp,.int .i64 d.fuel]:List Value).toArray rfl rfl (uh HTH) infoE (uh HONE) ?_))
 have bA:=(Below.refl u1.heap.size u1).alloc (Nat.le_refl _) (.cells #[.int .i64 0,.slice none 0 0,.int .i64 0,.bool false,.int .i64 0,.bool false,.bool false,.string ⟨#[]⟩,.int .i64 0,.string ⟨#[]⟩,.slice none 0 0,.slice none 0 0,.string ⟨#[]⟩,.string ⟨#[]⟩,.string ⟨#[]⟩,.string ⟨#[]⟩,.int .i64 0] 32);have upA:=setCells_upd u1.heap.size [.int .i64 d.kind,.slice p0 p1 p2,.int .i64 d.time,.bool d.fine,.int .i64 v0,.bool v1,.bool v2,.string v3,.int .i64 v4,.string v5,.slice v6 v7 v8,.slice v9 va vb,.string d.er,.string d.ca,.string d.mach,.string d.inp,.int .i64 d.fuel] 0 (u1.alloc (.cells #[.int .i64 0,.slice none 0 0,.int .i64 0,.bool false,.int .i64 0,.bool false,.bool false,.string ⟨#[]⟩,.int .i64 0,.string ⟨#[]⟩,.slice none 0 0,.slice none 0 0,.string ⟨#[]⟩,.string ⟨#[]⟩,.string ⟨#[]⟩,.string ⟨#[]⟩,.int .i64 0] 32));have RG:=hide (setCells_range (cs:=[.int .i64 d.kind,.slice p0 p1 p2,.int .i64 d.time,.bool d.fine,.int .i64 v0,.bool v1,.bool v2,.string v3,.int .i64 v4,.string v5,.slice v6 v7 v8,.slice v9 va vb,.string d.er,.string d.ca,.string d.mach,.string d.inp,.int .i64 d.fuel]) (uh NB) rfl rfl);generalize (u1.alloc (.cells #[.int .i64 0,.slice none 0 0,.int .i64 0,.bool false,.int .i64 0,.bool false,.bool false,.string ⟨#[]⟩,.int .i64 0,.string ⟨#[]⟩,.slice none 0 0,.slice none 0 0,.string ⟨#[]⟩,.string ⟨#[]⟩,.string ⟨#[]⟩,.string ⟨#[]⟩,.int .i64 0] 32)).setCells u1.heap.size 0 [.int .i64 d.kind,.slice p0 p1 p2,.int .i64 d.time,.bool d.fine,.int .i64 v0,.bool v1,.bool v2,.string v3,.int .i64 v4,.string v5,.slice v6 v7 v8,.slice v9 va vb,.string d.er,.string d.ca,.string d.mach,.string d.inp,.int .i64 d.fuel]=V at *;have bV:Below u1.heap.size u1 V:=bA.trans (Upd.below upA (Nat.le_refl _));have hmu:w.heap.size+1 < u1.heap.size:=Nat.lt_of_lt_of_le (uh HLT) (uh MV1).size;have RBV:=hide ((uh RB1).below bV hmu);have X2:Hid (V.heap[w.heap.size]?=some (.cells #[.int .i64 0,.slice none 0 0,.int .i64 0,.bool false,.int .i64 0,.bool false,.bool false,.string ⟨#[]⟩,.int .i64 0,.string ⟨#[]⟩,.slice none 0 0,.slice none 0 0,.string ⟨#[]⟩,.string ⟨#[]⟩,.string ⟨#[]⟩,.string ⟨#[]⟩,.int .i64 0] 32 (0,0))):=(bV.block _ (by omega)).trans (((uh MV1).block _ (blk_lt (uh X1)) (by omega)).trans (uh X1));have OI2:Hid (OI V W1.heap.size (.slice p0 p1 p2) d.ns):=mm.row_below (uh OI1) bV (Nat.le_refl _);have VR2:=hide (vrep_below (uh VR1) bV);have BV2:Hid (Below w.heap.size w V):=(uh T3).trans (((uh MV1).below (Nat.le_succ _) (Nat.le_of_lt (Nat.lt_of_succ_lt (uh HLT)))).trans (bV.mono (by omega)));have HWK:Hid (w.heap.size < W1.heap.size):=Nat.lt_of_succ_lt (uh HLT);generalize hkb:u1.heap.size=kb at *;have HTH2:=hide (there_event (uh X2) rfl);have HONE2:=hide (uh HONE);have HR2:=hide (setCells_range (cs:=[.int .i64 d.kind,.slice p0 p1 p2,.int .i64 d.time,.bool d.fine,.int .i64 v0,.bool v1,.bool v2,.string v3,.int .i64 v4,.string v5,.slice v6 v7 v8,.slice v9 va vb,.string d.er,.string d.ca,.string d.mach,.string d.inp,.int .i64 d.fuel]) (uh X2) rfl rfl);have HU2:=hide (setCells_upd w.heap.size [.int .i64 d.kind,.slice p0 p1 p2,.int .i64 d.time,.bool d.fine,.int .i64 v0,.bool v1,.bool v2,.string v3,.int .i64 v4,.string v5,.slice v6 v7 v8,.slice v9 va vb,.string d.er,.string d.ca,.string d.mach,.string d.inp,.int .i64 d.fuel] 0 V);obtain ⟨lv,hc,hv2⟩:=uh RBV;obtain ⟨ob,cb,rfl,_,_⟩:=hv2.1.form;have c0:=blk_cell hc 0;have c1:=blk_cell hc 1;clear hc hv2 bA upA bV hmu hkb
 cases r2 with
 | true =>
   have HBAD:Hid (∀ d,rdE b≠some (d,[])):=fun d' q=>by
    rcases uh K1 rfl with z|z
    · cases z
    · rw [z] at q;cases q
   clear RG HTH2 HONE2 HR2 HU2 OI2 VR2 HWK;go_upto_region 4 with fail;clear c0 c1;have hdw:Below V.heap.size V V.drew:=⟨rfl,rfl,rfl,Nat.le_refl _,fun _ _=>rfl⟩;have er:=(uh HE V.drew ((uh BV2).trans (hdw.mono (uh BV2).size))).er;have hgn:0≠w.heap.size:=Nat.ne_of_lt (mm.cell_lt (uh HE w (Below.refl _ _)).er);have X9:V.drew.heap[w.heap.size]?=some (.cells #[.int .i64 0,.slice none 0 0,.int .i64 0,.bool false,.int .i64 0,.bool false,.bool false,.string ⟨#[]⟩,.int .i64 0,.string ⟨#[]⟩,.slice none 0 0,.slice none 0 0,.string ⟨#[]⟩,.string ⟨#[]⟩,.string ⟨#[]⟩,.string ⟨#[]⟩,.int .i64 0] 32 (0,0)):=uh X2;have HT9:=there_event X9 rfl;have HR9:=hide (setCells_range (cs:=[.int .i64 0,.slice none 0 0,.int .i64 0,.bool false,.int .i64 0,.bool false,.bool false,.string ⟨#[]⟩,.int .i64 0,.string ⟨#[]⟩,.slice none 0 0,.slice none 0 0,.string ⟨#[]⟩,.string ⟨#[]⟩,.string ⟨#[]⟩,.string ⟨#[]⟩,.int .i64 0]) X9 rfl rfl);have HB9:Hid (Below w.heap.size w (V.drew.setCells w.heap.size 0 [.int .i64 0,.slice none 0 0,.int .i64 0,.bool false,.int .i64 0,.bool false,.bool false,.string ⟨#[]⟩,.int .i64 0,.string ⟨#[]⟩,.slice none 0 0,.slice none 0 0,.string ⟨#[]⟩,.string ⟨#[]⟩,.string ⟨#[]⟩,.string ⟨#[]⟩,.int .i64 0])):=(uh BV2).trans ((hdw.mono (uh BV2).size).trans (Upd.below (setCells_upd w.heap.size [.int .i64 0,.slice none 0 0,.int .i64 0,.bool false,.int .i64 0,.bool false,.bool false,.string ⟨#[]⟩,.int .i64 0,.string ⟨#[]⟩,.slice none 0 0,.slice none 0 0,.string ⟨#[]⟩,.string ⟨#[]⟩,.string ⟨#[]⟩,.string ⟨#[]⟩,.int .i64 0] 0 V.drew) (Nat.le_refl _)));have HONE9:(([.int .i64 0,.slice none 0 0,.int .i64 0,.bool false,.int .i64 0,.bool false,.bool false,.string ⟨#[]⟩,.int .i64 0,.string ⟨#[]⟩,.slice none 0 0,.slice none 0 0,.string ⟨#[]⟩,.string ⟨#[]⟩,.string ⟨#[]⟩,.string ⟨#[]⟩,.int .i64 0]:List Value).toArray.all (·.oneCell')=true):=by simp [Value.oneCell']
   refine wp_region_held_drew (S:=fun u=>u.cell? ⟨0,0,none⟩=some (.iface 264 ev)) (by kernel_rfl) er (fun hHeld=>?_);refine wpAnyH_take (i:=0) (v:=.agg #[.int .i64 0,.slice none 0 0,.int .i64 0,.bool false,.int .i64 0,.bool false,.bool false,.string ⟨#[]⟩,.int .i64 0,.string ⟨#[]⟩,.slice none 0 0,.slice none 0 0,.string ⟨#[]⟩,.string ⟨#[]⟩,.string ⟨#[]⟩,.string ⟨#[]⟩,.int .i64 0]) rfl (by kernel_rfl) (by kernel_rfl) (by kernel_rfl) (fun _ _ _ h=>h) (Or.inl ⟨by rfl,fun u hu=>by go_simp⟩) hHeld ?_;refine wpAnyH_take (i:=1) (v:=.iface 264 ev) rfl (by kernel_rfl) (by kernel_rfl) (by kernel_rfl) (fun _ _ _ h=>h) (Or.inl ⟨by rfl,fun u hu=>by dsimp only at hu;go_simp⟩) hHeld ?_;refine wpAnyH_ready (rs:=[2]) (by kernel_rfl) (by simp) ?_;refine AllReadyH.cons rfl (fun K hK=>?_) AllReadyH.nil;rw [if_pos (by rfl)];refine wp_store_mid 32 _ _ rfl w.heap.size 0 ([.int .i64 0,.slice none 0 0,.int .i64 0,.bool false,.int .i64 0,.bool false,.bool false,.string ⟨#[]⟩,.int .i64 0,.string ⟨#[]⟩,.slice none 0 0,.slice none 0 0,.string ⟨#[]⟩,.string ⟨#[]⟩,.string ⟨#[]⟩,.string ⟨#[]⟩,.int .i64 0]:List Value).toArray rfl rfl HT9 infoE HONE9 ?_;refine hK.out _ _ ?_ (fun hHeld2=>?_)
   · show World.cell? _ _=_
     rw [World.cell?_setCells_out _ _ _ _ _ (fun hb _=>absurd hb hgn)];exact er
   refine wpAnyH_take (i:=3) (v:=.iface 264 ev) rfl (by kernel_rfl) (by kernel_rfl) (by kernel_rfl) (fun _ _ _ h=>h) (Or.inl ⟨by rfl,fun u hu=>by go_simp⟩) hHeld2 ?_;refine wpAnyH_done (by kernel_rfl) ?_ _;go_wp2;refine bodyPost_ret (ret_decode (m:=w.heap.size) (uh HR9) rfl _ rfl rfl) rfl ?_;exact ⟨uh HB9,.inr ⟨uh HBAD,rfl⟩⟩
 | false =>
   obtain ⟨_,hrd⟩:=uh G1 rfl
   by_cases hl:l2.length=0
   · obtain rfl:=List.eq_nil_of_length_eq_zero hl
     have HRD2:=hide hrd;have hl':¬ (0:Int) < (([]:List UInt8).length:Int):=by simp
     clear hl hrd G1 K1
     go_wp2_with (first
      | (refine wpList_load_mid rfl 32 _ rfl kb 0 rfl [.int .i64 d.kind,.slice p0 p1 p2,.int .i64 d.time,.bool d.fine,.int .i64 v0,.bool v1,.bool v2,.string v3,.int .i64 v4,.string v5,.slice v6 v7 v8,.slice v9 va vb,.string d.er,.string d.ca,.string d.mach,.string d.inp,.int .i64 d.fuel] _ (uh RG) Tryz.underlying32 rfl infoE ?_)
      | (refine wpList_store_mid rfl 32 _ _ rfl w.heap.size 0 ([.int .i64 d.kind,.slice p0 p1 p2,.int .i64 d.time,.bool d.fine,.int .i64 v0,.bool v1,.bool v2,.string v3,.int .i64 v4,.string v5,.slice v6 v7 v8,.slice v9 va vb,.string d.er,.string d.ca,.string d.mach,.string d.inp,.int .i64 d.fuel]:List Value).toArray rfl rfl (uh HTH2) infoE (uh HONE2) ?_))
     refine bodyPost_ret (ret_decode (m:=w.heap.size) (uh HR2) rfl _ rfl rfl) rfl ?_;have hup:=uh HU2;have hwk:=uh HWK;exact ⟨(uh BV2).trans (Upd.below hup (Nat.le_refl _)),.inl ⟨d,.slice p0 p1 p2,[.int .i64 v0,.bool v1,.bool v2,.string v3,.int .i64 v4,.string v5,.slice v6 v7 v8,.slice v9 va vb],fp,uh HRD2,rfl,((uh OI2).upd hup (by omega)).base (by omega),(vrep_upd (uh VR2) hup (by omega)).base (by omega),uh ND,uh OK1⟩⟩
   · have hl':(0:Int) < (l2.length:Int):=by omega
     have HBAD:Hid (∀ d,rdE b≠some (d,[])):=fun d' q=>by
      rw [hrd] at q;simp only [Option.some.injEq,Prod.mk.injEq] at q;exact hl (by rw [q.2];rfl)
     clear RG HTH2 HONE2 HR2 HU2 OI2 VR2 HWK;go_upto_region 4 with fail;clear c0 c1;have hdw:Below V.heap.size V V.drew:=⟨rfl,rfl,rfl,Nat.le_refl _,fun _ _=>rfl⟩;have er:=(uh HE V.drew ((uh BV2).trans (hdw.mono (uh BV2).size))).er;have hgn:0≠w.heap.size:=Nat.ne_of_lt (mm.cell_lt (uh HE w (Below.refl _ _)).er);have X9:V.drew.heap[w.heap.size]?=some (.cells #[.int .i64 0,.slice none 0 0,.int .i64 0,.bool false,.int .i64 0,.bool false,.bool false,.string ⟨#[]⟩,.int .i64 0,.string ⟨#[]⟩,.slice none 0 0,.slice none 0 0,.string ⟨#[]⟩,.string ⟨#[]⟩,.string ⟨#[]⟩,.string ⟨#[]⟩,.int .i64 0] 32 (0,0)):=uh X2;have HT9:=there_event X9 rfl;have HR9:=hide (setCells_range (cs:=[.int .i64 0,.slice none 0 0,.int .i64 0,.bool false,.int .i64 0,.bool false,.bool false,.string ⟨#[]⟩,.int .i64 0,.string ⟨#[]⟩,.slice none 0 0,.slice none 0 0,.string ⟨#[]⟩,.string ⟨#[]⟩,.string ⟨#[]⟩,.string ⟨#[]⟩,.int .i64 0]) X9 rfl rfl);have HB9:Hid (Below w.heap.size w (V.drew.setCells w.heap.size 0 [.int .i64 0,.slice none 0 0,.int .i64 0,.bool false,.int .i64 0,.bool false,.bool false,.string ⟨#[]⟩,.int .i64 0,.string ⟨#[]⟩,.slice none 0 0,.slice none 0 0,.string ⟨#[]⟩,.string ⟨#[]⟩,.string ⟨#[]⟩,.string ⟨#[]⟩,.int .i64 0])):=(uh BV2).trans ((hdw.mono (uh BV2).size).trans (Upd.below (setCells_upd w.heap.size [.int .i64 0,.slice none 0 0,.int .i64 0,.bool false,.int .i64 0,.bool false,.bool false,.string ⟨#[]⟩,.int .i64 0,.string ⟨#[]⟩,.slice none 0 0,.slice none 0 0,.string ⟨#[]⟩,.string ⟨#[]⟩,.string ⟨#[]⟩,.string ⟨#[]⟩,.int .i64 0] 0 V.drew) (Nat.le_refl _)));have HONE9:(([.int .i64 0,.slice none 0 0,.int .i64 0,.bool false,.int .i64 0,.bool false,.bool false,.string ⟨#[]⟩,.int .i64 0,.string ⟨#[]⟩,.slice none 0 0,.slice none 0 0,.string ⟨#[]⟩,.string ⟨#[]⟩,.string ⟨#[]⟩,.string ⟨#[]⟩,.int .i64 0]:List Value).toArray.all (·.oneCell')=true):=by simp [Value.oneCell']
     refine wp_region_held_drew (S:=fun u=>u.cell? ⟨0,0,none⟩=some (.iface 264 ev)) (by kernel_rfl) er (fun hHeld=>?_);refine wpAnyH_take (i:=0) (v:=.agg #[.int .i64 0,.slice none 0 0,.int .i64 0,.bool false,.int .i64 0,.bool false,.bool false,.string ⟨#[]⟩,.int .i64 0,.string ⟨#[]⟩,.slice none 0 0,.slice none 0 0,.string ⟨#[]⟩,.string ⟨#[]⟩,.string ⟨#[]⟩,.string ⟨#[]⟩,.int .i64 0]) rfl (by kernel_rfl) (by kernel_rfl) (by kernel_rfl) (fun _ _ _ h=>h) (Or.inl ⟨by rfl,fun u hu=>by go_simp⟩) hHeld ?_;refine wpAnyH_take (i:=1) (v:=.iface 264 ev) rfl (by kernel_rfl) (by kernel_rfl) (by kernel_rfl) (fun _ _ _ h=>h) (Or.inl ⟨by rfl,fun u hu=>by dsimp only at hu;go_simp⟩) hHeld ?_;refine wpAnyH_ready (rs:=[2]) (by kernel_rfl) (by simp) ?_;refine AllReadyH.cons rfl (fun K hK=>?_) AllReadyH.nil;rw [if_pos (by rfl)];refine wp_store_mid 32 _ _ rfl w.heap.size 0 ([.int .i64 0,.slice none 0 0,.int .i64 0,.bool false,.int .i64 0,.bool false,.bool false,.string ⟨#[]⟩,.int .i64 0,.string ⟨#[]⟩,.slice none 0 0,.slice none 0 0,.string ⟨#[]⟩,.string ⟨#[]⟩,.string ⟨#[]⟩,.string ⟨#[]⟩,.int .i64 0]:List Value).toArray rfl rfl HT9 infoE HONE9 ?_;refine hK.out _ _ ?_ (fun hHeld2=>?_)
     · show World.cell? _ _=_
       rw [World.cell?_setCells_out _ _ _ _ _ (fun hb _=>absurd hb hgn)];exact er
     refine wpAnyH_take (i:=3) (v:=.iface 264 ev) rfl (by kernel_rfl) (by kernel_rfl) (by kernel_rfl) (fun _ _ _ h=>h) (Or.inl ⟨by rfl,fun u hu=>by go_simp⟩) hHeld2 ?_;refine wpAnyH_done (by kernel_rfl) ?_ _;go_wp2;refine bodyPost_ret (ret_decode (m:=w.heap.size) (uh HR9) rfl _ rfl rfl) rfl ?_;exact ⟨uh HB9,.inr ⟨uh HBAD,rfl⟩⟩
theorem str_of (s:ByteArray):mm.str s.data.toList=s:=by
 obtain ⟨a⟩:=s;simp [mm.str]
theorem size_list (s:ByteArray):s.data.toList.length=s.size:=Array.length_toList
theorem rdV_told {n:Nat}{v:JT} (hp:Pf n (nrm v)) (hs:VSound v) (t:List UInt8):rdV (txtB (prt (nrm v))++t)=some (nrm v,t):=by
 unfold rdV;rw [rdT_txt t hs.2];have h:=parse_sound hp ⟨by rw [dpt_nrm _ v (Nat.lt_succ_self _) n hp];exact hs.1,hs.2⟩;have e:mm.str (prt (nrm v))=⟨(prt (nrm v)).toArray⟩:=rfl;simp only [e,h,if_true]
theorem rdF_told (s1 s2 t:List UInt8) (h:Lib.validD s1=true∧Lib.validD s2=true∧s1.length+s2.length≤1048576):rdF (txtB s1++txtB s2++t)=some (s1,s2,t):=by
 unfold rdF;rw [List.append_assoc,rdT_txt _ (by omega)];simp only;rw [rdT_txt _ (by omega)];simp only [if_pos h]
def vOne (fine:Bool) (v:JT):JT:=if fine then nrm v else null
theorem rdO_told {n:Nat}{fine:Bool}{v:JT}{er ca:ByteArray} (hp:Pf n (nrm v)) (ho:OkOut fine v er ca) (t:List UInt8):rdO (outB fine v er ca++t)=some (fine,vOne fine v,er.data.toList,ca.data.toList,t):=by
 rcases ho with ⟨rfl,h1,h2,hs⟩|⟨rfl,_,hc⟩
 · obtain rfl:=ba_empty h1
   obtain rfl:=ba_empty h2;show (rdV (txtB (prt (nrm v))++t)).map (fun p=>(true,p.1,([]:List UInt8),([]:List UInt8),p.2))=_;rw [rdV_told hp hs t];rfl
 · show (rdF (txtB er.data.toList++txtB ca.data.toList++t)).map (fun p=>(false,null,p.1,p.2.1,p.2.2))=_
   rw [rdF_told _ _ t ⟨hc.1,hc.2.1,by rw [size_list,size_list];exact hc.2.2⟩];rfl
theorem toNat_id {ns:List Int} (h:∀ n∈ns,0≤n∧n≤2147483647):(ns.map Int.toNat).map Int.ofNat=ns:=by
 rw [List.map_map]
 conv=>rhs;rw [← List.map_id ns]
 apply List.map_congr_left;intro a ha;have:=h a ha;show Int.ofNat a.toNat=a;have e:Int.ofNat a.toNat=((a.toNat:Nat):Int):=rfl;rw [e];omega
def upd (p:Int) (e d:Ev):Ev :=
 if p=1 then {d with mach:=e.mach} else if p=2 then {d with inp:=e.inp} else if p=3 then {d with fuel:=e.fuel} else if p=4 then {d with ns:=e.ns}
 else if p=5 then {d with fine:=e.fine,v:=vOne e.fine e.v,er:=e.er,ca:=e.ca} else if p=6 then {d with time:=e.time} else d
theorem upd1 (e d:Ev):upd 1 e d={d with mach:=e.mach}:=rfl
theorem upd2 (e d:Ev):upd 2 e d={d with inp:=e.inp}:=rfl
theorem upd3 (e d:Ev):upd 3 e d={d with fuel:=e.fuel}:=rfl
theorem upd4 (e d:Ev):upd 4 e d={d with ns:=e.ns}:=rfl
theorem upd5 (e d:Ev):upd 5 e d={d with fine:=e.fine,v:=vOne e.fine e.v,er:=e.er,ca:=e.ca}:=rfl
theorem upd6 (e d:Ev):upd 6 e d={d with time:=e.time}:=rfl
theorem upd0 (e d:Ev):upd 0 e d=d:=rfl
theorem rdPart_told {n:Nat} (p:Int) (hp:p=0∨p=1∨p=2∨p=3∨p=4∨p=5∨p=6) (e d:Ev) (hv:Pf n (nrm e.v)) (ho:partOk p e) (t:List UInt8):rdPart p d (partB p e++t)=some (upd p e d,t):=by
 rcases hp with rfl|rfl|rfl|rfl|rfl|rfl|rfl
 · rfl
 · have h:=(part_ok1 e).1 ho
   show (rdT (txtB e.mach.data.toList++t)).map (fun q=>(({d with mach:=mm.str q.1}:Ev),q.2))=_;rw [rdT_txt t (by rw [size_list];exact h)];simp only [Option.map_some,str_of,upd1]
 · have h:=(part_ok2 e).1 ho
   show (rdT (txtB e.inp.data.toList++t)).map (fun q=>(({d with inp:=mm.str q.1}:Ev),q.2))=_;rw [rdT_txt t (by rw [size_list];exact h)];simp only [Option.map_some,str_of,upd2]
 · have h:=(part_ok3 e).1 ho
   show (rdN 1 65536 (cntB e.fuel.toNat++t)).map (fun q=>(({d with fuel:=(q.1:Int)}:Ev),q.2))=_;rw [rdN_cnt t (by omega) (by omega) (by decide)];have e1:((e.fuel.toNat:Nat):Int)=e.fuel:=by omega
   simp only [Option.map_some,e1,upd3]
 · have h:=(part_ok4 e).1 ho
   show (rdP (plcB (e.ns.map Int.toNat)++t)).map (fun q=>(({d with ns:=q.1.map Int.ofNat}:Ev),q.2))=_
   rw [rdP_plc t (by rw [List.length_map];exact h.1) (fun n hn=>by
    obtain ⟨a,ha,rfl⟩:=List.mem_map.1 hn;have:=h.2 a ha
    omega)]
   simp only [Option.map_some,toNat_id h.2,upd4]
 · have h:=(part_ok5 e).1 ho
   show (rdO (outB e.fine e.v e.er e.ca++t)).map (fun q=>(({d with fine:=q.1,v:=q.2.1,er:=mm.str q.2.2.1,ca:=mm.str q.2.2.2.1}:Ev),q.2.2.2.2))=_;rw [rdO_told hv h t];simp only [Option.map_some,str_of,upd5]
 · have h:=(part_ok6 e).1 ho
   show (rdN 0 1125899906842624 (cntB e.time.toNat++t)).map (fun q=>(({d with time:=(q.1:Int)}:Ev),q.2))=_;rw [rdN_cnt t (by omega) (by omega) (by decide)];have e1:((e.time.toNat:Nat):Int)=e.time:=by omega
   simp only [Option.map_some,e1,upd6]
theorem rdParts_told {n:Nat} (e:Ev) (hv:Pf n (nrm e.v)):∀ (ps:List Int),(∀ p∈ps,(p=0∨p=1∨p=2∨p=3∨p=4∨p=5∨p=6)∧partOk p e)→∀ (d:Ev) (t:List UInt8),rdParts ps d (ps.flatMap (fun p=>partB p e)++t)=some (ps.foldl (fun d p=>upd p e d) d,t)
 | [],_,_,_=>rfl
 | p::ps,h,d,t=>by
   show (match rdPart p d (partB p e++ps.flatMap (fun p=>partB p e)++t) with
    | some (e',u)=>rdParts ps e' u
    | none=>none)=_
   rw [List.append_assoc,rdPart_told p (h p (List.mem_cons_self ..)).1 e d hv (h p (List.mem_cons_self ..)).2];exact rdParts_told e hv ps (fun q hq=>h q (List.mem_cons_of_mem _ hq)) _ t
theorem pk_in (k:Int) (hk:1≤k∧k≤7) (j:Nat) (hj:j < 3):pk k j=0∨pk k j=1∨pk k j=2∨pk k j=3∨pk k j=4∨pk k j=5∨pk k j=6:=by
 have h1:k=1∨k=2∨k=3∨k=4∨k=5∨k=6∨k=7:=by omega
 have h2:j=0∨j=1∨j=2:=by omega
 rcases h1 with rfl|rfl|rfl|rfl|rfl|rfl|rfl <;> rcases h2 with rfl|rfl|rfl <;> decide
def evOne (e:Ev):Ev:=[pk e.kind 0,pk e.kind 1,pk e.kind 2].foldl (fun d p=>upd p e d) (ev0 e.kind)
theorem rdE_told {n:Nat} (e:Ev) (hv:Pf n (nrm e.v)) (ho:evOk e) (t:List UInt8):rdE (evB e++t)=some (evOne e,t):=by
 show rdE (UInt8.ofNat e.kind.toNat::([pk e.kind 0,pk e.kind 1,pk e.kind 2].flatMap (fun p=>partB p e)++t))=_;rw [rdE_cons (by have:=ho.1;omega) (by have:=ho.1;omega),if_pos ho.1];refine rdParts_told e hv _ (fun p hp=>⟨?_,ho.2 p hp⟩) _ _;simp only [List.mem_cons,List.not_mem_nil,or_false] at hp
 rcases hp with rfl|rfl|rfl
 · exact pk_in _ ho.1 0 (by decide)
 · exact pk_in _ ho.1 1 (by decide)
 · exact pk_in _ ho.1 2 (by decide)
theorem upd_kind (p:Int) (e d:Ev):(upd p e d).kind=d.kind:=by
 unfold upd
 repeat' split
 all_goals rfl
theorem evOne_kind (e:Ev):(evOne e).kind=e.kind:=by
 unfold evOne;simp only [List.foldl,upd_kind];rfl
theorem rdN_more {lo hi n:Nat} (hh:hi < 2 ^ 63) {l t:List UInt8} (h:rdN lo hi l=some (n,t)) (u:List UInt8):rdN lo hi (l++u)=some (n,t++u):=by
 obtain ⟨rfl,h1,h2⟩:=rdN_inv h;rw [List.append_assoc,rdN_cnt _ h1 h2 hh]
theorem rdT_more {l s t:List UInt8} (h:rdT l=some (s,t)) (u:List UInt8):rdT (l++u)=some (s,t++u):=by
 obtain ⟨rfl,h1⟩:=rdT_inv h;rw [List.append_assoc,rdT_txt _ h1]
theorem rdP_more {l t:List UInt8}{ns:List Nat} (h:rdP l=some (ns,t)) (u:List UInt8):rdP (l++u)=some (ns,t++u):=by
 obtain ⟨rfl,h1,h2⟩:=rdP_inv h;rw [List.append_assoc,rdP_plc _ h1 h2]
theorem rdV_more {l t:List UInt8}{v:JT} (h:rdV l=some (v,t)) (u:List UInt8):rdV (l++u)=some (v,t++u):=by
 unfold rdV at h ⊢
 split at h
 · rename_i s t' hs
   rw [rdT_more hs u]
   split at h
   · rename_i v' hv
     split at h
     · rename_i hp
       simp only [Option.some.injEq,Prod.mk.injEq] at h;obtain ⟨rfl,rfl⟩:=h;simp only [hv,hp,if_true]
     · cases h
   · cases h
 · cases h
theorem rdF_more {l t s1 s2:List UInt8} (h:rdF l=some (s1,s2,t)) (u:List UInt8):rdF (l++u)=some (s1,s2,t++u):=by
 unfold rdF at h ⊢
 split at h
 · rename_i a x ha
   rw [rdT_more ha u]
   split at h
   · rename_i b y hb
     simp only [rdT_more hb u]
     split at h
     · rename_i hc
       simp only [Option.some.injEq,Prod.mk.injEq] at h;obtain ⟨rfl,rfl,rfl⟩:=h;rw [if_pos hc]
     · cases h
   · cases h
 · cases h
theorem rdO_more {l t er ca:List UInt8}{fine:Bool}{v:JT} (h:rdO l=some (fine,v,er,ca,t)) (u:List UInt8):rdO (l++u)=some (fine,v,er,ca,t++u):=by
 cases l with
 | nil=>cases h
 | cons c l =>
   show rdO (c::(l++u))=_;unfold rdO at h ⊢;simp only at h ⊢
   split at h
   · rename_i hc
     rw [if_pos hc];obtain ⟨p,hp,he⟩:=Option.map_eq_some_iff.1 h;obtain ⟨v',t'⟩:=p;simp only [Prod.mk.injEq] at he;obtain ⟨rfl,rfl,rfl,rfl,rfl⟩:=he;rw [rdV_more hp u];rfl
   · rename_i hc
     rw [if_neg hc]
     split at h
     · rename_i hd
       rw [if_pos hd];obtain ⟨p,hp,he⟩:=Option.map_eq_some_iff.1 h;obtain ⟨s1,s2,t'⟩:=p;simp only [Prod.mk.injEq] at he;obtain ⟨rfl,rfl,rfl,rfl,rfl⟩:=he;rw [rdF_more hp u];rfl
     · cases h
theorem rdPart_more (p:Int) {e d:Ev}{l t:List UInt8} (h:rdPart p e l=some (d,t)) (u:List UInt8):rdPart p e (l++u)=some (d,t++u):=by
 unfold rdPart at h ⊢
 split at h
 · rename_i hc
   rw [if_pos hc];obtain ⟨q,hq,he⟩:=Option.map_eq_some_iff.1 h;simp only [Prod.mk.injEq] at he;obtain ⟨rfl,rfl⟩:=he;rw [rdT_more (t:=q.2) hq u];rfl
 · rename_i hc
   rw [if_neg hc]
   split at h
   · rename_i hc
     rw [if_pos hc];obtain ⟨q,hq,he⟩:=Option.map_eq_some_iff.1 h;simp only [Prod.mk.injEq] at he;obtain ⟨rfl,rfl⟩:=he;rw [rdT_more (t:=q.2) hq u];rfl
   · rename_i hc
     rw [if_neg hc]
     split at h
     · rename_i hc
       rw [if_pos hc];obtain ⟨q,hq,he⟩:=Option.map_eq_some_iff.1 h;simp only [Prod.mk.injEq] at he;obtain ⟨rfl,rfl⟩:=he;rw [rdN_more (by decide) (n:=q.1) (t:=q.2) hq u];rfl
     · rename_i hc
       rw [if_neg hc]
       split at h
       · rename_i hc
         rw [if_pos hc];obtain ⟨q,hq,he⟩:=Option.map_eq_some_iff.1 h;simp only [Prod.mk.injEq] at he;obtain ⟨rfl,rfl⟩:=he;rw [rdP_more (t:=q.2) hq u];rfl
       · rename_i hc
         rw [if_neg hc]
         split at h
         · rename_i hc
           rw [if_pos hc];obtain ⟨q,hq,he⟩:=Option.map_eq_some_iff.1 h;obtain ⟨q1,q2,q3,q4,q5⟩:=q;simp only [Prod.mk.injEq] at he;obtain ⟨rfl,rfl⟩:=he;rw [rdO_more hq u];rfl
         · rename_i hc
           rw [if_neg hc]
           split at h
           · rename_i hc
             rw [if_pos hc];obtain ⟨q,hq,he⟩:=Option.map_eq_some_iff.1 h;simp only [Prod.mk.injEq] at he;obtain ⟨rfl,rfl⟩:=he;rw [rdN_more (by decide) (n:=q.1) (t:=q.2) hq u];rfl
           · rename_i hc
             rw [if_neg hc];simp only [Option.some.injEq,Prod.mk.injEq] at h;obtain ⟨rfl,rfl⟩:=h;rfl
theorem rdParts_more:∀ (ps:List Int) (e d:Ev) (l t:List UInt8),rdParts ps e l=some (d,t)→∀ u,rdParts ps e (l++u)=some (d,t++u)
 | [],e,d,l,t,h,u=>by
   have h':some (e,l)=some (d,t):=h;simp only [Option.some.injEq,Prod.mk.injEq] at h';obtain ⟨rfl,rfl⟩:=h';rfl
 | p::ps,e,d,l,t,h,u=>by
   obtain ⟨e',t',h1,h2⟩:=parts_cons h
   show (match rdPart p e (l++u) with
    | some (e',u)=>rdParts ps e' u
    | none=>none)=_
   rw [rdPart_more p h1 u];exact rdParts_more ps e' d t' t h2 u
theorem rdE_more {l t:List UInt8}{d:Ev} (h:rdE l=some (d,t)) (u:List UInt8):rdE (l++u)=some (d,t++u):=by
 cases l with
 | nil=>cases h
 | cons c l =>
   have h2:(if 1≤(c.toNat:Int)∧(c.toNat:Int)≤7 then rdParts [pk c.toNat 0,pk c.toNat 1,pk c.toNat 2] (ev0 c.toNat) l else none)=some (d,t):=h;show (if 1≤(c.toNat:Int)∧(c.toNat:Int)≤7 then rdParts [pk c.toNat 0,pk c.toNat 1,pk c.toNat 2] (ev0 c.toNat) (l++u) else none)=some (d,t++u)
   split at h2
   · rename_i hk
     rw [if_pos hk];exact rdParts_more _ _ _ _ _ h2 u
   · cases h2
theorem cut_none {n:Nat} (e:Ev) (hv:Pf n (nrm e.v)) (ho:evOk e) (k:Nat) (hk:k < (evB e).length) (d:Ev):rdE ((evB e).take k)≠some (d,[]):=fun h=>by
 have h1:=rdE_more h ((evB e).drop k);have h3:=rdE_told e hv ho [];rw [List.take_append_drop,← List.append_nil (evB e),h3] at h1;simp only [Option.some.injEq,Prod.mk.injEq,List.nil_append] at h1;have h4:=congrArg List.length h1.2;rw [List.append_nil,List.length_drop] at h4;simp at h4;omega
theorem more_none {n:Nat} (e:Ev) (hv:Pf n (nrm e.v)) (ho:evOk e) (c:UInt8) (d:Ev):rdE (evB e++[c])≠some (d,[]):=fun h=>by
 rw [rdE_told e hv ho [c]] at h;simp at h
theorem txt_len {s:List UInt8} (h:s.length≤1048576):(txtB s).length≤s.length+3:=by
 unfold txtB;rw [List.length_append];have:=cnt_len 3 s.length (by omega) (by decide);omega
theorem nums_len:∀ (l:List Nat),(∀ n∈l,n≤2147483647)→(numsB l).length≤5*l.length
 | [],_=>Nat.le_refl _
 | n::l,h=>by
   show (cntB n++numsB l).length≤_;rw [List.length_append,List.length_cons];have:=cnt_len 5 n (by have:=h n (List.mem_cons_self ..);omega) (by decide);have:=nums_len l fun m hm=>h m (List.mem_cons_of_mem _ hm)
   omega
theorem part_len (p:Int) (hp:p=0∨p=1∨p=2∨p=3∨p=4∨p=5∨p=6) (e:Ev) (ho:partOk p e):(partB p e).length≤1100000:=by
 rcases hp with rfl|rfl|rfl|rfl|rfl|rfl|rfl
 · rw [b0];simp
 · have h:=(part_ok1 e).1 ho
   rw [part_b1];have:=txt_len (s:=e.mach.data.toList) (by rw [size_list];exact h);rw [size_list] at this;omega
 · have h:=(part_ok2 e).1 ho
   rw [part_b2];have:=txt_len (s:=e.inp.data.toList) (by rw [size_list];exact h);rw [size_list] at this;omega
 · have h:=(part_ok3 e).1 ho
   rw [part_b3];have:=cnt_len 9 e.fuel.toNat (by omega) (by decide);omega
 · have h:=(part_ok4 e).1 ho
   rw [part_b4];unfold plcB;rw [List.length_append,List.length_map];have h1:=cnt_len 9 e.ns.length (by have:=h.1;omega) (by decide)
   have h2:=nums_len (e.ns.map Int.toNat) (fun n hn=>by
    obtain ⟨a,ha,rfl⟩:=List.mem_map.1 hn;have:=h.2 a ha
    omega)
   rw [List.length_map] at h2;have:=h.1;omega
 · have h:=(part_ok5 e).1 ho
   rw [part_b5]
   rcases h with ⟨hf,_,_,hs⟩|⟨hf,_,_,_,hs⟩
   · unfold outB
     rw [hf,if_pos rfl,List.length_cons];have:=txt_len hs.2;have:=hs.2;omega
   · unfold outB
     rw [hf,if_neg (by decide),List.length_cons,List.length_append];have h1:=txt_len (s:=e.er.data.toList) (by rw [size_list];omega);have h2:=txt_len (s:=e.ca.data.toList) (by rw [size_list];omega);rw [size_list] at h1 h2;omega
 · have h:=(part_ok6 e).1 ho
   rw [part_b6];have:=cnt_len 9 e.time.toNat (by omega) (by decide);omega
theorem ev_len (e:Ev) (ho:evOk e):0 < (evB e).length∧(evB e).length≤4194304:=by
 have h1:=part_len _ (pk_in _ ho.1 0 (by decide)) e (ho.2 _ (by simp));have h2:=part_len _ (pk_in _ ho.1 1 (by decide)) e (ho.2 _ (by simp));have h3:=part_len _ (pk_in _ ho.1 2 (by decide)) e (ho.2 _ (by simp));unfold evB;simp only [List.length_cons,List.flatMap_cons,List.flatMap_nil,List.length_append,List.length_nil];omega
theorem evOne_told {n:Nat} (e:Ev) (hv:Pf n (nrm e.v)) (ho:evOk e):rdE (evB e)=some (evOne e,[])∧evB (evOne e)=evB e∧evOk (evOne e):=by
 have h:=rdE_told e hv ho [];rw [List.append_nil] at h;obtain ⟨h1,h2⟩:=rdE_inv h;exact ⟨h,by rw [List.append_nil] at h1;exact h1.symm,h2⟩
section
variable {ops:Array Oper}{rest:List Oper}{o:Oper}{a:Act}{Q:Exit→Act→World→Prop}
theorem wpl_apY (ys:List UInt8) (w:World) (B:Nat) (v vs:Value) (l:List UInt8) (hgd:o.guard=none) (sl x:Operand) (ho:o.op=.call { callee:=.builtin .append,args:=#[sl,x],argTypes:=#[38,38] })
 (hv:a.eval sl=v) (hx:a.eval x=vs) (hown:Hid (OB w B v l)) (hs:Hid (mm.BY w vs ys)) (hB:Hid (B≤w.heap.size)) (hz:Hid (l.length+ys.length≤140000000000000))
 (h:∀ v' w',Hid (OB w' B v' (l++ys))→Hid (Below B w w')→wpList Tryz.prog ops Q rest (a.put o.dst v') w'):wpList Tryz.prog ops Q (o::rest) a w:=by
 have hz':=uh hz;have hBB:=uh hB;refine mm.wpList_append_sv2 hgd sl x 38 ho B 5 (.int .u8 0) 1 1 Tryz.underlying38 info5 rfl (by decide) v _ l.length ys.length (l.map vb) (ys.map mm.vb) hv hx (uh hown) (uh hs) ?_ (by unfold maxLen;omega) (by omega) hBB ?_
 · intro u hu
   obtain ⟨c,_,rfl⟩:=List.mem_map.1 hu;rfl
 · intro v' w' hA
   have hx1:Ext w w' v v':=⟨hA.grow,hA.blk⟩;refine h v' w' ?_ (hx1.below (uh hown) hBB);show w'.ownsRow B 5 1 v' (l++ys).length ((l++ys).map vb);rw [List.map_append,List.length_append];exact hA.row
end
structure LE (E:Nat→Value) (a:Addr) (w:World):Prop where
 re:RE (.pointer (some a)) w
 env:Env E w
 ng:17≤w.heap.size
theorem LE.keep {E:Nat→Value}{a:Addr}{w w':World} (h:LE E a w) (hb:Below w.heap.size w w'):LE E a w':=⟨h.re.keep hb,h.env.below hb,Nat.le_trans h.ng hb.size⟩
def ev1:Ev:={ ev0 3 with ns:=[1,1,0] }
def ev2:Ev:={ ev0 5 with time:=12 }
theorem pf0:Pf 64 (nrm null):=by rw [nrm_null];exact .null 64
theorem ev1_ok:evOk ev1:=evOk_of (k:=3) (p0:=4) (p1:=0) (p2:=0) rfl (by decide) (by decide) (by decide) (by decide) ((part_ok4 _).2 ⟨by decide,by decide⟩) (ok0 _) (ok0 _)
theorem ev1_b:evB ev1=[3,3,1,1,0]:=by
 rw [evB_of (k:=3) (p0:=4) (p1:=0) (p2:=0) rfl (by decide) (by decide) (by decide),part_b4,b0];show _::(plcB [1,1,0]++_)=_;simp [plcB,numsB,cntB_small]
theorem ev2_ok:evOk ev2:=evOk_of (k:=5) (p0:=4) (p1:=6) (p2:=0) rfl (by decide) (by decide) (by decide) (by decide) ((part_ok4 _).2 ⟨by decide,by decide⟩) ((part_ok6 _).2 (by decide)) (ok0 _)
theorem ev2_b:evB ev2=[5,0,12]:=by
 rw [evB_of (k:=5) (p0:=4) (p1:=6) (p2:=0) rfl (by decide) (by decide) (by decide),part_b4,part_b6,b0];show _::(plcB []++(cntB 12++_))=_;simp [plcB,numsB,cntB_small]
theorem ev2_one:evOne ev2=ev2:=rfl
theorem ev2_rd:rdE [5,0,12]=some (ev2,[]):=by
 have h:=rdE_told ev2 pf0 ev2_ok [];rw [ev2_b,ev2_one] at h;exact h
theorem evc_len {w:World}{e:Ev}{v:JT}{pv:Value}{vc:List Value} (hv:VR w v vc):(evC e pv vc).length=17:=by
 obtain ⟨a0,a1,a2,a3,a4,a5,a6,a7,a8,a9,aa,ab,rfl⟩:=hv.form;rfl
theorem evc_one {w w':World}{e:Ev}{v:JT}{l:List Int}{pv:Value}{vc:List Value} (hv:VR w v vc) (hn:rt.IS w' pv l):(evC e pv vc).toArray.all (·.oneCell')=true:=by
 obtain ⟨a0,a1,a2,a3,a4,a5,a6,a7,a8,a9,aa,ab,rfl⟩:=hv.form;obtain ⟨oa,cap,rfl,_,_⟩:=hn.form;rw [evC_eq];simp [Value.oneCell']
theorem ob_by {w:World}{B:Nat}{v:Value}{l:List UInt8} (h:OB w B v l):mm.BY w v l:=mm.own_sv h
structure EvR (w:World) (B:Nat) (d:Ev) (cs:List Value):Prop where
 len:cs.length=17
 one:cs.toArray.all (·.oneCell')=true
 ok:EvOk d
 at_:∃ pv vc fp,cs=evC d pv vc∧OI w B pv d.ns∧VRep w B d.v vc fp∧fp.Nodup
theorem EvR.keep {w w':World}{B:Nat}{d:Ev}{cs:List Value} (h:EvR w B d cs) (hb:Below w.heap.size w w'):EvR w' B d cs:=by
 obtain ⟨pv,vc,fp,h1,h2,h3,h4⟩:=h.at_;exact ⟨h.len,h.one,h.ok,pv,vc,fp,h1,mm.row_below h2 hb (Nat.le_refl _),vrep_below h3 hb,h4⟩
theorem decode_yes (JS:SameC) {E:Nat→Value}{a:Addr}{b:List UInt8}{bv:Value}{w:World}{d:Ev} (hr:rdE b=some (d,[])) (hb:mm.BY w bv b) (hL:LE E a w) :
 Calls Tryz.prog 16 #[bv] w fun e w'=>∃ cs,e=.returned (.tuple #[.agg cs.toArray,.nilIface])∧EvR w' w.heap.size d cs∧Below w.heap.size w w':=by
 refine (decode_any JS E _ b bv w hb hL.re hL.env hL.ng).mono ?_;rintro e w' ⟨hbl,h|⟨h,_⟩⟩
 · obtain ⟨d',pv,vc,fp,h1,rfl,h2,h3,h4,h5⟩:=h
   rw [hr] at h1;simp only [Option.some.injEq,Prod.mk.injEq,and_true] at h1;subst h1;exact ⟨_,rfl,⟨evc_len h3.vr,evc_one h3.vr h2.is,h5,pv,vc,fp,rfl,h2,h3,h4⟩,hbl⟩
 · exact absurd hr (h d)
def zev:List Value:=[.int .i64 0,.slice none 0 0,.int .i64 0,.bool false,.int .i64 0,.bool false,.bool false,.string ⟨#[]⟩,.int .i64 0,.string ⟨#[]⟩,.slice none 0 0,.slice none 0 0,.string ⟨#[]⟩,.string ⟨#[]⟩,.string ⟨#[]⟩,.string ⟨#[]⟩,.int .i64 0]
theorem zev_len:zev.length=17:=rfl
theorem zev_one:zev.toArray.all (·.oneCell')=true:=by simp [zev,Value.oneCell']
theorem zc_len {cs:List Value} (h:cs=zev):cs.length=17:=by rw [h,zev_len]
theorem zc_one {cs:List Value} (h:cs=zev):cs.toArray.all (·.oneCell')=true:=by rw [h];exact zev_one
theorem decode_no (JS:SameC) {E:Nat→Value}{a:Addr}{b:List UInt8}{bv:Value}{w:World} (hr:∀ d,rdE b≠some (d,[])) (hb:mm.BY w bv b) (hL:LE E a w) :
 Calls Tryz.prog 16 #[bv] w fun e w'=>∃ cs:List Value,e=.returned (.tuple #[.agg cs.toArray,.iface 264 (.pointer (some a))])∧cs=zev∧Below w.heap.size w w':=by
 refine (decode_any JS E _ b bv w hb hL.re hL.env hL.ng).mono ?_;rintro e w' ⟨hbl,h|⟨_,h⟩⟩
 · obtain ⟨d',pv,vc,fp,h1,_⟩:=h
   exact absurd h1 (hr d')
 · exact ⟨zev,h,rfl,hbl⟩
theorem encode_yes (JS:SameC) {E:Nat→Value}{a:Addr}{e:Ev}{pv:Value}{vc:List Value}{w:World} (ho:evOk e) (hk:EvOk e) (hv:VR w e.v vc) (hn:rt.IS w pv e.ns) (hL:LE E a w) :
 Calls Tryz.prog 11 #[.agg (evC e pv vc).toArray] w fun en w'=>∃ tv,en=.returned (.tuple #[tv,.nilIface])∧OB w' w.heap.size tv (evB e)∧Below w.heap.size w w':=by
 refine (encode_any JS _ e pv vc w hL.re hk hv hn).mono ?_;rintro en w' ⟨hbl,⟨_,tv,h1,h2⟩|⟨h,_⟩⟩
 · exact ⟨tv,h1,h2,hbl⟩
 · exact absurd ho h
theorem encode_no (JS:SameC) {E:Nat→Value}{a:Addr}{e:Ev}{pv:Value}{vc:List Value}{w:World} (ho:¬ evOk e) (hk:EvOk e) (hv:VR w e.v vc) (hn:rt.IS w pv e.ns) (hL:LE E a w) :
 Calls Tryz.prog 11 #[.agg (evC e pv vc).toArray] w fun en w'=>en=.returned (.tuple #[.slice none 0 0,.iface 264 (.pointer (some a))])∧Below w.heap.size w w':=by
 refine (encode_any JS _ e pv vc w hL.re hk hv hn).mono ?_;rintro en w' ⟨hbl,⟨h,_⟩|⟨_,h1⟩⟩
 · exact absurd h ho
 · exact ⟨h1,hbl⟩
theorem encode_evr (JS:SameC) {E:Nat→Value}{a:Addr}{B:Nat}{d:Ev}{cs:List Value}{w:World} (ho:evOk d) (hr:EvR w B d cs) (hL:LE E a w) :
 Calls Tryz.prog 11 #[.agg cs.toArray] w fun en w'=>∃ tv,en=.returned (.tuple #[tv,.nilIface])∧OB w' w.heap.size tv (evB d)∧Below w.heap.size w w':=by
 obtain ⟨pv,vc,fp,rfl,h2,h3,_⟩:=hr.at_;exact encode_yes JS ho hr.ok h3.vr h2.is hL
theorem infoPE:(Tryz.prog.info? 264).map (fun i=>i.comparable)=some true:=by kernel_rfl
theorem infoEE:(Tryz.prog.info? 266).map (fun i=>i.size)=some 1:=by kernel_rfl
theorem eql_sameE (w:World) (a:Addr):(binOp .eql 40 (.iface 264 (.pointer (some a))) (.iface 264 (.pointer (some a)))).run Tryz.prog w=.ok (.bool true) w:=by
 have hi:=infoPE;have hj:=infoEE
 cases h1:Tryz.prog.info? 264 with
 | none=>rw [h1] at hi;cases hi
 | some i =>
   cases h2:Tryz.prog.info? 266 with
   | none=>rw [h2] at hj;cases hj
   | some j =>
     rw [h1] at hi;exact run_eql_iface_ptr_same w a Tryz.underlying40 Tryz.underlying264 h1 (by simpa using hi) h2
theorem row_at {w:World}{g:Nat}{l:List Value}{t:TypeId}{fr:Nat × Nat} (h:w.heap[g]?=some (.cells l.toArray t fr)) (n:Nat) (hn:l.length=n) (h1:n≤1000):mm.SV w (.slice (some ⟨g,0,none⟩) n n) n 1 l:=by
 refine ⟨by omega,some ⟨g,0,none⟩,n,rfl,Nat.le_refl _,by unfold maxLen;omega,(fun q=>by cases q),fun b hb j u hu=>?_⟩
 cases hb
 rw [Addr.add_mid,Nat.zero_add,cell_of_row w g j _ _ _ h];simpa using hu
theorem null_vr (w:World):VR w null [.int .i64 0,.bool false,.bool false,.string ⟨#[]⟩,.int .i64 0,.string ⟨#[]⟩,.slice none 0 0,.slice none 0 0]:=(vrep_flat w w.heap.size 0 false zed ⟨#[]⟩).vr
theorem ev1_o:EvOk ev1:=⟨vok_null,by decide,(fun n hn=>by
 have:n=1∨n=1∨n=0:=by simpa [ev1] using hn
 unfold rt.Oki
 omega),(by show (0:Nat)≤4000000000000000000;omega),(by show (0:Nat)≤4000000000000000000;omega),(by show (0:Nat)≤4000000000000000000;omega),(by show (0:Nat)≤4000000000000000000;omega)⟩
theorem store17 (u:World) (cs:List Value) (h:cs.length=17) (h1:cs.toArray.all (·.oneCell')=true) :
 (u.alloc (.cells #[.int .i64 0,.slice none 0 0,.int .i64 0,.bool false,.int .i64 0,.bool false,.bool false,.string ⟨#[]⟩,.int .i64 0,.string ⟨#[]⟩,.slice none 0 0,.slice none 0 0,.string ⟨#[]⟩,.string ⟨#[]⟩,.string ⟨#[]⟩,.string ⟨#[]⟩,.int .i64 0] 32)).there u.heap.size 0 cs.toArray.size∧(Tryz.prog.info? 32).map (·.size)=some cs.toArray.size∧cs.toArray.all (·.oneCell')=true:=by
 have hz:cs.toArray.size=17:=by rw [List.size_toArray,h]
 exact ⟨by rw [hz];exact there_event (heap_alloc_new u _) rfl,by rw [hz];exact infoE,h1⟩
theorem stored17 (u:World) (cs:List Value) (h:cs.length=17):∀ V,V=(u.alloc (.cells #[.int .i64 0,.slice none 0 0,.int .i64 0,.bool false,.int .i64 0,.bool false,.bool false,.string ⟨#[]⟩,.int .i64 0,.string ⟨#[]⟩,.slice none 0 0,.slice none 0 0,.string ⟨#[]⟩,.string ⟨#[]⟩,.string ⟨#[]⟩,.string ⟨#[]⟩,.int .i64 0] 32)).setCells u.heap.size 0 cs.toArray.toList→V.rangeAt u.heap.size 0 cs∧Below u.heap.size u V∧u.heap.size < V.heap.size∧(V.there u.heap.size 0 17):=by
 rintro V rfl;have bA:=(Below.refl u.heap.size u).alloc (Nat.le_refl _) (.cells #[.int .i64 0,.slice none 0 0,.int .i64 0,.bool false,.int .i64 0,.bool false,.bool false,.string ⟨#[]⟩,.int .i64 0,.string ⟨#[]⟩,.slice none 0 0,.slice none 0 0,.string ⟨#[]⟩,.string ⟨#[]⟩,.string ⟨#[]⟩,.string ⟨#[]⟩,.int .i64 0] 32);have upA:=setCells_upd u.heap.size cs.toArray.toList 0 (u.alloc (.cells #[.int .i64 0,.slice none 0 0,.int .i64 0,.bool false,.int .i64 0,.bool false,.bool false,.string ⟨#[]⟩,.int .i64 0,.string ⟨#[]⟩,.slice none 0 0,.slice none 0 0,.string ⟨#[]⟩,.string ⟨#[]⟩,.string ⟨#[]⟩,.string ⟨#[]⟩,.int .i64 0] 32));have r:=setCells_range (cs:=cs.toArray.toList) (heap_alloc_new u (.cells #[.int .i64 0,.slice none 0 0,.int .i64 0,.bool false,.int .i64 0,.bool false,.bool false,.string ⟨#[]⟩,.int .i64 0,.string ⟨#[]⟩,.slice none 0 0,.slice none 0 0,.string ⟨#[]⟩,.string ⟨#[]⟩,.string ⟨#[]⟩,.string ⟨#[]⟩,.int .i64 0] 32)) rfl (by simpa using h);have hs:u.heap.size < (u.alloc (.cells #[.int .i64 0,.slice none 0 0,.int .i64 0,.bool false,.int .i64 0,.bool false,.bool false,.string ⟨#[]⟩,.int .i64 0,.string ⟨#[]⟩,.slice none 0 0,.slice none 0 0,.string ⟨#[]⟩,.string ⟨#[]⟩,.string ⟨#[]⟩,.string ⟨#[]⟩,.int .i64 0] 32)).heap.size:=by rw [World.size_alloc];omega
 exact ⟨by simpa using r,bA.trans (Upd.below upA (Nat.le_refl _)),Nat.lt_of_lt_of_le hs (Upd.below upA (Nat.le_refl _)).size,World.there_setCells (there_event (heap_alloc_new u _) rfl) _ _ _⟩
theorem wpList_load_midG {P:Program}{ops:Array Oper}{rest:List Oper}{op:Oper}{a:Act}{w:World}{Q:Exit→Act→World→Prop} (hw:Region.wanted op (yielded ops a.tmps)=true) (ty:TypeId) (x:Operand) (ho:op.op=.load ty x)
 (b o:Nat) (hx:a.eval x=.pointer (some ⟨b,o,none⟩)) (cs:List Value) (d:TypeDesc) (hc:w.rangeAt b o cs)
 (hu:P.underlying ty=some d) (hd:d.isRow=true) (hi:(P.info? ty).map (·.size)=some cs.length)
 (h:wpList P ops Q rest (a.put op.dst (.agg cs.toArray)) w):wpList P ops Q (op::rest) a w :=
 wpList_step fun K hK=>by
  rw [if_pos hw];exact wp_load_mid ty x ho b o hx cs d hc hu hd hi (hK _ _ h)
theorem rangeAt.keep {w w':World}{m:Nat}{cs:List Value} (h:w.rangeAt m 0 cs) (hb:Below w.heap.size w w'):w'.rangeAt m 0 cs:=fun j v hv=>kc hb (h j v hv)
theorem evok_of (e:Ev) (h:EvA e) (hc:cntV e.v≤4194304):EvOk e∧∃ n,Pf n (nrm e.v):=by
 have hp:=light_few _ e.v (Nat.lt_succ_self _) (by omega);have hd:=dpt_nrm _ e.v (Nat.lt_succ_self _) _ hp.1;have hd2:=pf_dpt hp.1;exact ⟨⟨⟨h.v,light_gd _ e.v (Nat.lt_succ_self _) h.v (by omega),pf_bd hp.1,by have:=hp.2;omega,by omega⟩,h.n,h.o,by have:=h.er;omega,by have:=h.ca;omega,by have:=h.ma;omega,by have:=h.inp;omega⟩,_,hp.1⟩
set_option maxRecDepth 100000 in
set_option maxHeartbeats 12800000 in
theorem awake_any (JS:SameC) {E:Nat→Value}{a:Addr} (w:World) (h:LE E a w) :
 Calls Tryz.prog 8 #[] w fun e w'=>e=.returned (.bool true)∧Below w.heap.size w w':=by
 have HL:=hide (fun u (hu:Below w.heap.size w u)=>h.keep hu);have l0:=(Below.refl w.heap.size w).alloc (Nat.le_refl _) (.cells #[.int .i64 1,.int .i64 1,.int .i64 0] 3);have hs:rt.IS (w.alloc (.cells #[.int .i64 1,.int .i64 1,.int .i64 0] 3)) (.slice (some ⟨w.heap.size,0,none⟩) 3 3) ev1.ns:=row_at (l:=[.int .i64 1,.int .i64 1,.int .i64 0]) (heap_alloc_new w _) 3 rfl (by decide);have ce:=encode_yes JS (e:=ev1) ev1_ok ev1_o (null_vr _) hs (uh HL _ l0);have hev:(evC ev1 (.slice (some ⟨w.heap.size,0,none⟩) 3 3) [.int .i64 0,.bool false,.bool false,.string ⟨#[]⟩,.int .i64 0,.string ⟨#[]⟩,.slice none 0 0,.slice none 0 0]).toArray=#[.int .i64 3,.slice (some ⟨w.heap.size,0,none⟩) 3 3,.int .i64 0,.bool false,.int .i64 0,.bool false,.bool false,.string ⟨#[]⟩,.int .i64 0,.string ⟨#[]⟩,.slice none 0 0,.slice none 0 0,.string ⟨#[]⟩,.string ⟨#[]⟩,.string ⟨#[]⟩,.string ⟨#[]⟩,.int .i64 0]:=rfl;rw [hev,ev1_b] at ce;have CE:=hide ce;have HD:=hide (fun u (hu:Below w.heap.size w u) (bv:Value) (hb:mm.BY u bv [5,0,12])=>decode_yes JS ev2_rd hb (uh HL u hu));have L0:=hide l0;clear h JS hs l0 ce hev
 go_enter Tryz.func8,Tryz.ntmps8
 go_upto_region 2 with (go_at_call 11;refine (uh CE).mono ?_;rintro e1 u1 ⟨tv,rfl,hob,b1⟩);have L1:=hide ((uh L0).trans (b1.mono (uh L0).size));have O1:=hide (hob.keep (Below.refl _ _));obtain ⟨oa1,c1,rfl⟩:=hob.len;have l2:=(Below.refl u1.heap.size u1).alloc (Nat.le_refl _) (.cells #[.int .u8 5,.int .u8 0,.int .u8 12] 5);have hb2:mm.BY (u1.alloc (.cells #[.int .u8 5,.int .u8 0,.int .u8 12] 5)) (.slice (some ⟨u1.heap.size,0,none⟩) 3 3) [5,0,12]:=row_at (l:=[.int .u8 5,.int .u8 0,.int .u8 12]) (heap_alloc_new u1 _) 3 rfl (by decide);have L2:=hide ((uh L1).trans (l2.mono (uh L1).size));have O2:=hide ((uh O1).keep l2);have CD:=hide (uh HD _ (uh L2) _ hb2);clear hob b1 l2 hb2 CE HD L0 L1 O1
 go_upto_region 3 with (first
  | (go_at_call 16;refine (uh CD).mono ?_;rintro e2 u2 ⟨cs,rfl,hev,b2⟩
     have L3:=hide ((uh L2).trans (b2.mono (uh L2).size));have O3:=hide ((uh O2).keep b2);have EV:=hide hev;obtain ⟨s1,s2,s3⟩:=store17 u2 cs hev.len hev.one;have S1:=hide s1;have S2:=hide s2;have S3:=hide s3
     clear hev b2 CD s1 s2 s3)
  | (refine wpList_store_mid rfl 32 _ _ rfl u2.heap.size 0 cs.toArray rfl rfl (uh S1) (uh S2) (uh S3) ?_))
 generalize hV:(u2.alloc (.cells #[.int .i64 0,.slice none 0 0,.int .i64 0,.bool false,.int .i64 0,.bool false,.bool false,.string ⟨#[]⟩,.int .i64 0,.string ⟨#[]⟩,.slice none 0 0,.slice none 0 0,.string ⟨#[]⟩,.string ⟨#[]⟩,.string ⟨#[]⟩,.string ⟨#[]⟩,.int .i64 0] 32)).setCells u2.heap.size 0 cs.toArray.toList=V;obtain ⟨r1,r2,r3,_⟩:=stored17 u2 cs (uh EV).len V hV.symm;have hc:(convert 38 9 (.slice oa1 5 c1)).run Tryz.prog V=.ok (.string ⟨#[3,3,1,1,0]⟩) V:=((uh O3).keep r2).str;obtain ⟨pv,vc,fp,hcs,_⟩:=(uh EV).at_;have k0:V.cell? ⟨u2.heap.size,0,none⟩=some (.int .i64 5):=r1 0 _ (by rw [hcs];rfl);have k2:V.cell? ⟨u2.heap.size,2,none⟩=some (.int .i64 12):=r1 2 _ (by rw [hcs];rfl);have L4:=hide ((uh L3).trans (r2.mono (uh L3).size));clear hcs r1 r2 r3 hV S1 S2 S3 EV O3 O2 L2 L3 HL;go_wp2;go_ret;exact ⟨rfl,uh L4⟩
set_option maxRecDepth 1000000 in
set_option maxHeartbeats 25600000 in
theorem back_law (JS:SameC) {E:Nat→Value}{a:Addr} (e:Ev) (pv:Value) (vc:List Value) (c m:Int) (w:World) (hL:LE E a w) (hv:VR w e.v vc) (hn:rt.IS w pv e.ns) (hA:EvA e) (hc:-9223372036854775808≤c∧c≤9223372036854775807) (hm:0≤m∧m≤255) :
 Calls Tryz.prog 5 #[.agg (evC e pv vc).toArray,.int .i64 c,.int .u8 m] w fun en w'=>en=.returned (.bool true)∧Below w.heap.size w w':=by
 have HMV:Hid ([UInt8.ofNat m.toNat].map vb=[Value.int .u8 m]):=by
  show [_]=[_];have h1:((UInt8.ofNat m.toNat).toNat:Int)=m:=by rw [toNat_of (by omega)];omega
  simp only [vb,h1]
 obtain ⟨a0,a1,a2,a3,a4,a5,a6,a7,a8,a9,aa,ab,rfl⟩:=hv.form;have hl17:=evc_len (e:=e) (pv:=pv) hv;obtain ⟨x0,l0,s0⟩:=one17 w (evC e pv [.int .i64 a0,.bool a1,.bool a2,.string a3,.int .i64 a4,.string a5,.slice a6 a7 a8,.slice a9 aa ab]) _ rfl;have LE0:=hide (fun u (hu:Below w.heap.size w u)=>hL.keep hu);have VR0:=hide (fun u (hu:Below w.heap.size w u)=>hv.keep hu);have IS0:=hide (fun u (hu:Below w.heap.size w u)=>hn.keep hu);have CB:=hide (fun u (hu:Below w.heap.size w u)=>beyond_any e.v hA.v _ u (hv.keep hu));have HA:=hide hA;have HJ:=hide JS;obtain ⟨ce,hce⟩:∃ ce,ce=evC e pv [.int .i64 a0,.bool a1,.bool a2,.string a3,.int .i64 a4,.string a5,.slice a6 a7 a8,.slice a9 aa ab]:=⟨_,rfl⟩;rw [← hce] at x0 l0 s0 hl17 ⊢;have HCE:=hide hce;have HL17:=hide hl17;clear hL hv hn hA JS hce hl17
 go_enter Tryz.func5,Tryz.ntmps5
 go_upto_region 1 with fail;generalize w.alloc (.cells ce.toArray 32)=W0 at *;have X0:Hid (W0.heap[w.heap.size]?=some (.cells ce.toArray 32 (0,0))):=x0;have L0:=hide l0;have S0:=hide s0;have y4:W0.cell? ⟨w.heap.size,4,none⟩=some (.int .i64 a0):=by rw [cell_of_row _ _ _ _ _ _ x0,uh HCE];rfl
 have y5:W0.cell? ⟨w.heap.size,5,none⟩=some (.bool a1):=by rw [cell_of_row _ _ _ _ _ _ x0,uh HCE];rfl
 have y6:W0.cell? ⟨w.heap.size,6,none⟩=some (.bool a2):=by rw [cell_of_row _ _ _ _ _ _ x0,uh HCE];rfl
 have y7:W0.cell? ⟨w.heap.size,7,none⟩=some (.string a3):=by rw [cell_of_row _ _ _ _ _ _ x0,uh HCE];rfl
 have y8:W0.cell? ⟨w.heap.size,8,none⟩=some (.int .i64 a4):=by rw [cell_of_row _ _ _ _ _ _ x0,uh HCE];rfl
 have y9:W0.cell? ⟨w.heap.size,9,none⟩=some (.string a5):=by rw [cell_of_row _ _ _ _ _ _ x0,uh HCE];rfl
 have ya:W0.cell? ⟨w.heap.size,10,none⟩=some (.slice a6 a7 a8):=by rw [cell_of_row _ _ _ _ _ _ x0,uh HCE];rfl
 have yb:W0.cell? ⟨w.heap.size,11,none⟩=some (.slice a9 aa ab):=by rw [cell_of_row _ _ _ _ _ _ x0,uh HCE];rfl
 have CBw:=hide (uh CB W0 l0);clear x0 l0 s0 CB
 go_upto_if 22 with (go_at_call 7;refine (uh CBw).mono ?_;rintro e1 u1 ⟨h1,rfl,hh1,l1⟩)
 have HH:=hide hh1;have L1:=hide ((uh L0).trans (l1.mono (uh L0).size));have X1:Hid (u1.heap[w.heap.size]?=some (.cells ce.toArray 32 (0,0))):=(l1.block _ (uh S0)).trans (uh X0);clear l1 hh1 CBw L0 X0 S0 y4 y5 y6 y7 y8 y9 ya yb
 cases h1 with
 | true =>
   go_wp2;go_ret;exact ⟨rfl,uh L1⟩
 | false =>
   obtain ⟨hok,pn,hpf⟩:=evok_of e (uh HA) (uh HH rfl);have HOK:=hide hok;have HPF:=hide hpf;have CAw:=hide (awake_any (uh HJ) u1 (uh LE0 u1 (uh L1)));clear HH hok hpf;go_upto_region 4 with (go_at_call 8;refine (uh CAw).mono ?_;rintro e2 u2 ⟨rfl,l2⟩);have L2:=hide ((uh L1).trans (l2.mono (uh L1).size));have X2:Hid (u2.heap[w.heap.size]?=some (.cells ce.toArray 32 (0,0))):=(l2.block _ (blk_lt (uh X1))).trans (uh X1);have I17e:Hid ((Tryz.prog.info? 32).map (·.size)=some ce.length):=by rw [uh HL17];exact infoE
   have RGE:Hid (u2.rangeAt w.heap.size 0 ce):=fun j v hv=>by
    rw [Nat.zero_add,blk_cell (uh X2) j];simpa using hv
   clear l2 CAw L1 X1
   by_cases ho:evOk e
   · have CF:Hid (Calls Tryz.prog 11 #[.agg ce.toArray] u2 fun en w'=>∃ tv,en=.returned (.tuple #[tv,.nilIface])∧OB w' u2.heap.size tv (evB e)∧Below u2.heap.size u2 w'):=by
      rw [uh HCE];exact encode_yes (uh HJ) ho (uh HOK) (uh VR0 u2 (uh L2)) (uh IS0 u2 (uh L2)) (uh LE0 u2 (uh L2))
     obtain ⟨hr,hbe,hod⟩:=evOne_told e (uh HPF) ho;have HR:=hide hr;have HBE:=hide hbe;have HOD:=hide hod;have HO:=hide ho;have HLN:=hide (ev_len e ho);clear ho hr hbe hod
     go_upto_region 7 with (first
      | (go_at_call 11;refine (uh CF).mono ?_;rintro e3 u3 ⟨tv,rfl,hob,b3⟩)
      | (refine wpList_load_mid rfl 32 _ rfl w.heap.size 0 rfl ce _ (uh RGE) Tryz.underlying32 rfl (uh I17e) ?_))
     have L3:=hide ((uh L2).trans (b3.mono (uh L2).size));have X3:Hid (u3.heap[w.heap.size]?=some (.cells ce.toArray 32 (0,0))):=(b3.block _ (blk_lt (uh X2))).trans (uh X2);have OT:=hide (hob.keep (Below.refl _ _));have CD:=hide (decode_yes (uh HJ) (uh HR) (ob_by hob) (uh LE0 u3 (uh L3)));obtain ⟨ot,ct,rfl⟩:=hob.len;clear hob b3 CF RGE L2 X2
     go_upto_region 8 with (first
      | (go_at_call 16;refine (uh CD).mono ?_;rintro e3 u3' ⟨cd,rfl,hev,b3⟩
         have EVV4:=hide hev;have B3:=hide b3;obtain ⟨s1,s2,s3⟩:=store17 u3' cd hev.len hev.one;have S1:=hide s1;have S2:=hide s2;have S3:=hide s3
         clear hev b3 CD s1 s2 s3)
      | (refine wpList_store_mid rfl 32 _ _ rfl u3'.heap.size 0 cd.toArray rfl rfl (uh S1) (uh S2) (uh S3) ?_))
     generalize hV:(u3'.alloc (.cells #[.int .i64 0,.slice none 0 0,.int .i64 0,.bool false,.int .i64 0,.bool false,.bool false,.string ⟨#[]⟩,.int .i64 0,.string ⟨#[]⟩,.slice none 0 0,.slice none 0 0,.string ⟨#[]⟩,.string ⟨#[]⟩,.string ⟨#[]⟩,.string ⟨#[]⟩,.int .i64 0] 32)).setCells u3'.heap.size 0 cd.toArray.toList=V4;obtain ⟨r1,r2,r3,_⟩:=stored17 u3' cd (uh EVV4).len V4 hV.symm;have b4:Below u3.heap.size u3 V4:=(uh B3).trans (r2.mono (uh B3).size);have RGV4:=hide r1;have EWV4:=hide ((uh EVV4).keep r2);generalize hkk:u3'.heap.size=k4 at *;have KV4:=hide r3;have L4:=hide ((uh L3).trans (b4.mono (uh L3).size));have X4:Hid (V4.heap[w.heap.size]?=some (.cells ce.toArray 32 (0,0))):=(b4.block _ (blk_lt (uh X3))).trans (uh X3);have OT4:=hide ((uh OT).keep b4);have CE:=hide (encode_evr (uh HJ) (uh HOD) (uh EWV4) (uh LE0 V4 (uh L4)));rw [uh HBE] at CE;have I17:Hid ((Tryz.prog.info? 32).map (·.size)=some cd.length):=by rw [(uh EWV4).len];exact infoE
     have y0:V4.cell? ⟨w.heap.size,0,none⟩=some (.int .i64 e.kind):=by rw [cell_of_row _ _ _ _ _ _ (uh X4),uh HCE];rfl
     have z0:V4.cell? ⟨k4,0,none⟩=some (.int .i64 e.kind):=by
      obtain ⟨p1,v1,f1,e1,_⟩:=(uh EWV4).at_;rw [← evOne_kind e];exact uh RGV4 0 _ (by rw [e1];rfl)
     generalize hbl:(evB e).length=bl at *;have HBL:=hide hbl;have hl0:0 < bl:=(uh HLN).1;have hl2:bl≤4194304:=(uh HLN).2;have hl1:¬ (4194304:Int) < (bl:Int):=by omega
     clear hbl;clear b4 r1 r2 r3 hV S1 S2 S3 B3 EVV4 L3 X3 OT hkk
     go_upto_region 11 with (first
      | (go_at_call 11;refine (uh CE).mono ?_;rintro e5 u5 ⟨tw,rfl,how,b5⟩)
      | (refine wpList_load_mid rfl 32 _ rfl k4 0 rfl cd _ (uh RGV4) Tryz.underlying32 rfl (uh I17) ?_))
     have L5:=hide ((uh L4).trans (b5.mono (uh L4).size));have hc1:=how.str;obtain ⟨ow,cw,rfl⟩:=how.len;have hc2:=((uh OT4).keep b5).str;have OT5:=hide ((uh OT4).keep b5);clear how b5 CE OT4 RGV4 EWV4 KV4 X4 L4 y0 z0;go_upto_region 13 with fail;clear hc1 hc2
     by_cases hc0:c < 0
     · have wa:IntKind.i64.wrap (c+1)=c+1:=IntWalk.i64_in _ ⟨by omega,by omega⟩
       have wb:IntKind.i64.wrap (-(c+1))=-(c+1):=IntWalk.i64_in _ ⟨by omega,by omega⟩;go_upto_region 15 with fail;have w1:0≤-(c+1):=by omega
       have hbn:(bl:Int)≠0:=by omega
       have hbq:((bl:Int) == 0)=false:=by rw [beq_eq_false_iff_ne];exact hbn
       have hrm:Int.tmod (-(c+1)) (bl:Int)=(-(c+1)) % (bl:Int):=Int.tmod_eq_emod_of_nonneg w1;obtain ⟨kc,hkc⟩:∃ kc:Nat,((-(c+1)) % (bl:Int))=(kc:Int):=⟨((-(c+1)) % (bl:Int)).toNat,by have:=Int.emod_nonneg (-(c+1)) hbn;omega⟩;have hkl:kc < bl:=by have:=Int.emod_lt_of_pos (-(c+1)) (show (0:Int) < (bl:Int) by omega);omega
       have hkr:-9223372036854775808≤(kc:Int)∧(kc:Int)≤9223372036854775807:=by omega
       rw [hkc] at hrm;obtain ⟨vk,hsl,hvk⟩:=(ob_by (uh OT5)).h kc (by have:=uh HBL;omega) (kc:Int) rfl;have hslu:=hsl u5;have hwk:IntKind.i64.wrap (kc:Int)=(kc:Int):=IntWalk.i64_in _ hkr;have CD6:=hide (decode_no (uh HJ) (cut_none e (uh HPF) (uh HO) kc (by have:=uh HBL;omega)) hvk (uh LE0 u5 (uh L5)));have HZ1:=hide (fun u cs (hz:cs=zev)=>store17 u cs (zc_len hz) (zc_one hz));clear hkc hsl hvk
       go_upto_region 16 with (first
        | (go_at_call 16;refine (uh CD6).mono ?_;rintro e6 u6 ⟨zu6,rfl,hz,b6⟩
           have HZzu6:=hide hz;have S1:=hide (uh HZ1 u6 zu6 hz).1;have S2:=hide (uh HZ1 u6 zu6 hz).2.1;have S3:=hide (uh HZ1 u6 zu6 hz).2.2
           clear hz)
        | (refine wpList_store_mid rfl 32 _ _ rfl u6.heap.size 0 zu6.toArray rfl rfl (uh S1) (uh S2) (uh S3) ?_))
       generalize hV:(u6.alloc (.cells #[.int .i64 0,.slice none 0 0,.int .i64 0,.bool false,.int .i64 0,.bool false,.bool false,.string ⟨#[]⟩,.int .i64 0,.string ⟨#[]⟩,.slice none 0 0,.slice none 0 0,.string ⟨#[]⟩,.string ⟨#[]⟩,.string ⟨#[]⟩,.string ⟨#[]⟩,.int .i64 0] 32)).setCells u6.heap.size 0 zu6.toArray.toList=V6;obtain ⟨r1,r2,r3,_⟩:=stored17 u6 zu6 (zc_len (uh HZzu6)) V6 hV.symm;have b7:=b6.trans (r2.mono b6.size);have L6:=hide ((uh L5).trans (b7.mono (uh L5).size));have OT6:=hide (ob_by ((uh OT5).keep b7));have N6:=hide (OB.nil V6 V6.heap.size);have HB6:Hid (V6.heap.size≤V6.heap.size):=Nat.le_refl _;have HZ6:Hid (([]:List UInt8).length+(evB e).length≤140000000000000):=by have:=(uh HLN).2;have:=uh HBL;show 0+(evB e).length≤_;omega
       clear r1 r2 r3 hV S1 S2 S3 b6 b7 CD6 hrm hslu hwk;go_upto_region 18 with (at_builtin;refine wpl_apY (evB e) V6 V6.heap.size _ _ [] rfl _ _ rfl rfl rfl (uh (hide N6)) OT6 HB6 HZ6 ?_;intro v8 u8 o8 b8);rw [List.nil_append] at o8;have HB8:Hid (V6.heap.size≤u8.heap.size):=(uh b8).size;have HZ8:Hid ((evB e).length+[UInt8.ofNat m.toNat].length≤140000000000000):=by have:=(uh HLN).2;have:=uh HBL;show (evB e).length+1≤_;omega
       go_upto_region 19 with (at_builtin;refine wpl_apB [UInt8.ofNat m.toNat] u8 _ V6.heap.size _ (evB e) rfl _ _ rfl rfl ?a1 ?a2 o8 HB8 HZ8 ?_
                               case a1=>rfl
                               case a2=>rw [uh HMV]
                               intro v9 u9 o9 b9 _)
       have b10:Below V6.heap.size V6 u9:=(uh b8).trans (uh b9);have L9:=hide ((uh L6).trans (b10.mono (uh L6).size));have CD9:=hide (decode_no (uh HJ) (more_none e (uh HPF) (uh HO) (UInt8.ofNat m.toNat)) (ob_by (uh o9)) (uh LE0 u9 (uh L9)));clear b10 b8 b9
       go_upto_region 20 with (first
        | (go_at_call 16;refine (uh CD9).mono ?_;rintro e10 uA ⟨zuA,rfl,hz,bA⟩
           have HZzuA:=hide hz;have S1:=hide (uh HZ1 uA zuA hz).1;have S2:=hide (uh HZ1 uA zuA hz).2.1;have S3:=hide (uh HZ1 uA zuA hz).2.2
           clear hz)
        | (refine wpList_store_mid rfl 32 _ _ rfl uA.heap.size 0 zuA.toArray rfl rfl (uh S1) (uh S2) (uh S3) ?_))
       generalize hV:(uA.alloc (.cells #[.int .i64 0,.slice none 0 0,.int .i64 0,.bool false,.int .i64 0,.bool false,.bool false,.string ⟨#[]⟩,.int .i64 0,.string ⟨#[]⟩,.slice none 0 0,.slice none 0 0,.string ⟨#[]⟩,.string ⟨#[]⟩,.string ⟨#[]⟩,.string ⟨#[]⟩,.int .i64 0] 32)).setCells uA.heap.size 0 zuA.toArray.toList=VA;obtain ⟨r1,r2,r3,_⟩:=stored17 uA zuA (zc_len (uh HZzuA)) VA hV.symm;have bB:=bA.trans (r2.mono bA.size);have LA:=hide ((uh L9).trans (bB.mono (uh L9).size));have er:=(uh LE0 VA (uh LA)).re.er;have hq:=eql_sameE VA a;clear r1 r2 r3 hV S1 S2 S3 bA bB CD9 o8 o9;go_wp2;go_ret;exact ⟨rfl,uh LA⟩
     · have hc1:decide (c < 0)=false:=decide_eq_false hc0
       go_upto_region 15 with fail;have w1:0≤c:=by omega
       have hbn:(bl:Int)≠0:=by omega
       have hbq:((bl:Int) == 0)=false:=by rw [beq_eq_false_iff_ne];exact hbn
       have hrm:Int.tmod c (bl:Int)=c % (bl:Int):=Int.tmod_eq_emod_of_nonneg w1;obtain ⟨kc,hkc⟩:∃ kc:Nat,(c % (bl:Int))=(kc:Int):=⟨(c % (bl:Int)).toNat,by have:=Int.emod_nonneg c hbn;omega⟩;have hkl:kc < bl:=by have:=Int.emod_lt_of_pos c (show (0:Int) < (bl:Int) by omega);omega
       have hkr:-9223372036854775808≤(kc:Int)∧(kc:Int)≤9223372036854775807:=by omega
       rw [hkc] at hrm;obtain ⟨vk,hsl,hvk⟩:=(ob_by (uh OT5)).h kc (by have:=uh HBL;omega) (kc:Int) rfl;have hslu:=hsl u5;have hwk:IntKind.i64.wrap (kc:Int)=(kc:Int):=IntWalk.i64_in _ hkr;have CD6:=hide (decode_no (uh HJ) (cut_none e (uh HPF) (uh HO) kc (by have:=uh HBL;omega)) hvk (uh LE0 u5 (uh L5)));have HZ1:=hide (fun u cs (hz:cs=zev)=>store17 u cs (zc_len hz) (zc_one hz));clear hkc hsl hvk
       go_upto_region 16 with (first
        | (go_at_call 16;refine (uh CD6).mono ?_;rintro e6 u6 ⟨zu6,rfl,hz,b6⟩
           have HZzu6:=hide hz;have S1:=hide (uh HZ1 u6 zu6 hz).1;have S2:=hide (uh HZ1 u6 zu6 hz).2.1;have S3:=hide (uh HZ1 u6 zu6 hz).2.2
           clear hz)
        | (refine wpList_store_mid rfl 32 _ _ rfl u6.heap.size 0 zu6.toArray rfl rfl (uh S1) (uh S2) (uh S3) ?_))
       generalize hV:(u6.alloc (.cells #[.int .i64 0,.slice none 0 0,.int .i64 0,.bool false,.int .i64 0,.bool false,.bool false,.string ⟨#[]⟩,.int .i64 0,.string ⟨#[]⟩,.slice none 0 0,.slice none 0 0,.string ⟨#[]⟩,.string ⟨#[]⟩,.string ⟨#[]⟩,.string ⟨#[]⟩,.int .i64 0] 32)).setCells u6.heap.size 0 zu6.toArray.toList=V6;obtain ⟨r1,r2,r3,_⟩:=stored17 u6 zu6 (zc_len (uh HZzu6)) V6 hV.symm;have b7:=b6.trans (r2.mono b6.size);have L6:=hide ((uh L5).trans (b7.mono (uh L5).size));have OT6:=hide (ob_by ((uh OT5).keep b7));have N6:=hide (OB.nil V6 V6.heap.size);have HB6:Hid (V6.heap.size≤V6.heap.size):=Nat.le_refl _;have HZ6:Hid (([]:List UInt8).length+(evB e).length≤140000000000000):=by have:=(uh HLN).2;have:=uh HBL;show 0+(evB e).length≤_;omega
       clear r1 r2 r3 hV S1 S2 S3 b6 b7 CD6 hrm hslu hwk;go_upto_region 18 with (at_builtin;refine wpl_apY (evB e) V6 V6.heap.size _ _ [] rfl _ _ rfl rfl rfl (uh (hide N6)) OT6 HB6 HZ6 ?_;intro v8 u8 o8 b8);rw [List.nil_append] at o8;have HB8:Hid (V6.heap.size≤u8.heap.size):=(uh b8).size;have HZ8:Hid ((evB e).length+[UInt8.ofNat m.toNat].length≤140000000000000):=by have:=(uh HLN).2;have:=uh HBL;show (evB e).length+1≤_;omega
       go_upto_region 19 with (at_builtin;refine wpl_apB [UInt8.ofNat m.toNat] u8 _ V6.heap.size _ (evB e) rfl _ _ rfl rfl ?a1 ?a2 o8 HB8 HZ8 ?_
                               case a1=>rfl
                               case a2=>rw [uh HMV]
                               intro v9 u9 o9 b9 _)
       have b10:Below V6.heap.size V6 u9:=(uh b8).trans (uh b9);have L9:=hide ((uh L6).trans (b10.mono (uh L6).size));have CD9:=hide (decode_no (uh HJ) (more_none e (uh HPF) (uh HO) (UInt8.ofNat m.toNat)) (ob_by (uh o9)) (uh LE0 u9 (uh L9)));clear b10 b8 b9
       go_upto_region 20 with (first
        | (go_at_call 16;refine (uh CD9).mono ?_;rintro e10 uA ⟨zuA,rfl,hz,bA⟩
           have HZzuA:=hide hz;have S1:=hide (uh HZ1 uA zuA hz).1;have S2:=hide (uh HZ1 uA zuA hz).2.1;have S3:=hide (uh HZ1 uA zuA hz).2.2
           clear hz)
        | (refine wpList_store_mid rfl 32 _ _ rfl uA.heap.size 0 zuA.toArray rfl rfl (uh S1) (uh S2) (uh S3) ?_))
       generalize hV:(uA.alloc (.cells #[.int .i64 0,.slice none 0 0,.int .i64 0,.bool false,.int .i64 0,.bool false,.bool false,.string ⟨#[]⟩,.int .i64 0,.string ⟨#[]⟩,.slice none 0 0,.slice none 0 0,.string ⟨#[]⟩,.string ⟨#[]⟩,.string ⟨#[]⟩,.string ⟨#[]⟩,.int .i64 0] 32)).setCells uA.heap.size 0 zuA.toArray.toList=VA;obtain ⟨r1,r2,r3,_⟩:=stored17 uA zuA (zc_len (uh HZzuA)) VA hV.symm;have bB:=bA.trans (r2.mono bA.size);have LA:=hide ((uh L9).trans (bB.mono (uh L9).size));have er:=(uh LE0 VA (uh LA)).re.er;have hq:=eql_sameE VA a;clear r1 r2 r3 hV S1 S2 S3 bA bB CD9 o8 o9;go_wp2;go_ret;exact ⟨rfl,uh LA⟩
   · have CF:Hid (Calls Tryz.prog 11 #[.agg ce.toArray] u2 fun en w'=>en=.returned (.tuple #[.slice none 0 0,.iface 264 (.pointer (some a))])∧Below u2.heap.size u2 w'):=by
      rw [uh HCE];exact encode_no (uh HJ) ho (uh HOK) (uh VR0 u2 (uh L2)) (uh IS0 u2 (uh L2)) (uh LE0 u2 (uh L2))
     clear ho
     go_upto_region 6 with (first
      | (go_at_call 11;refine (uh CF).mono ?_;rintro e3 u3 ⟨rfl,b3⟩)
      | (refine wpList_load_mid rfl 32 _ rfl w.heap.size 0 rfl ce _ (uh RGE) Tryz.underlying32 rfl (uh I17e) ?_))
     have L3:=hide ((uh L2).trans (b3.mono (uh L2).size));have er:=(uh LE0 u3 (uh L3)).re.er;have hq:=eql_sameE u3 a;go_wp2;go_ret;exact ⟨rfl,uh L3⟩
end Go.Proofs.YthnhobplgmojeaaGreatDoor.ev
