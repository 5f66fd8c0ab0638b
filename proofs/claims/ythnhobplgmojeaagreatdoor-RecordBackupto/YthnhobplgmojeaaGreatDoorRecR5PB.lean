/- Texts in one: RecR5 RecR6 RecR7 RecR8 RecR9 RecS0 RecP RecP2 -/
import Derived.Test.YthnhobplgmojeaaGreatDoorRecRP
import Derived.Test.YthnhobplgmojeaaGreatDoorRecTPB
import Derived.Test.YthnhobplgmojeaaGreatDoorFo5P
namespace Go.Proofs.YthnhobplgmojeaaGreatDoor.ev
open Go.RowKit Go.Proofs.YthnhobplgmojeaaGreatDoor.rd
def set8 (w:World) (m:Nat) (a0 a1 a2 a3 a4 a5 a6 a7:Value):World:=(((((((w.setCell ⟨m,0,none⟩ a0).setCell ⟨m,1,none⟩ a1).setCell ⟨m,2,none⟩ a2).setCell ⟨m,3,none⟩ a3).setCell ⟨m,4,none⟩ a4).setCell ⟨m,5,none⟩ a5).setCell ⟨m,6,none⟩ a6).setCell ⟨m,7,none⟩ a7
theorem set8_upd (w:World) (m:Nat) (a0 a1 a2 a3 a4 a5 a6 a7:Value):Upd m w (set8 w m a0 a1 a2 a3 a4 a5 a6 a7) :=
 (((((((Upd.setCell m 0 w a0).trans (Upd.setCell m 1 _ a1)).trans (Upd.setCell m 2 _ a2)).trans (Upd.setCell m 3 _ a3)).trans (Upd.setCell m 4 _ a4)).trans (Upd.setCell m 5 _ a5)).trans (Upd.setCell m 6 _ a6)).trans (Upd.setCell m 7 _ a7)
theorem set8_lies {w:World}{m:Nat}{b0 b1 b2 b3 b4 b5 b6 b7:Value}{t:TypeId} (h:w.heap[m]?=some (.cells #[b0,b1,b2,b3,b4,b5,b6,b7] t (0,0))) (a0 a1 a2 a3 a4 a5 a6 a7:Value):(set8 w m a0 a1 a2 a3 a4 a5 a6 a7).heap[m]?=some (.cells #[a0,a1,a2,a3,a4,a5,a6,a7] t (0,0)):=by
 have:=blk_set (blk_set (blk_set (blk_set (blk_set (blk_set (blk_set (blk_set h 0 a0) 1 a1) 2 a2) 3 a3) 4 a4) 5 a5) 6 a6) 7 a7;simpa [set8] using this
theorem ret_value {m:Nat} (w:World) (a0 a1 a2 a3 a4 a5 a6 a7:Value) (h:w.heap[m]?=some (.cells #[a0,a1,a2,a3,a4,a5,a6,a7] 28 (0,0))) (tmps:Array Value) (ht:tmps[2]?.getD undef=.pointer (some ⟨m,0,none⟩)) :
 (results Tryz.f77 tmps).run Tryz.prog w=.ok (.agg #[a0,a1,a2,a3,a4,a5,a6,a7]) w:=by
 have q0:w.cell? ⟨m,0,none⟩=some a0:=blk_cell h 0;have q1:w.cell? ⟨m,1,none⟩=some a1:=blk_cell h 1;have q2:w.cell? ⟨m,2,none⟩=some a2:=blk_cell h 2;have q3:w.cell? ⟨m,3,none⟩=some a3:=blk_cell h 3;have q4:w.cell? ⟨m,4,none⟩=some a4:=blk_cell h 4;have q5:w.cell? ⟨m,5,none⟩=some a5:=blk_cell h 5;have q6:w.cell? ⟨m,6,none⟩=some a6:=blk_cell h 6;have q7:w.cell? ⟨m,7,none⟩=some a7:=blk_cell h 7;simp [results,Tryz.results77,ht,go_sem,q0,q1,q2,q3,q4,q5,q6,q7]
structure RdE (E:Nat→Value) (w:World) (m:Nat):Prop where
 pw:∀ u,Below m w u→Pow u
 env:∀ u,Below m w u→Env E u
 ng:∀ u,Below m w u→17≤u.heap.size
theorem RdE.go {E:Nat→Value}{w w':World}{m:Nat} (h:RdE E w m) (hb:Below m w w'):RdE E w' m :=
 ⟨fun u hu=>h.pw u (hb.trans hu),fun u hu=>h.env u (hb.trans hu),fun u hu=>h.ng u (hb.trans hu)⟩
theorem vok_parse {s:ByteArray}{v:JT} (h:parseJ s=.inl v):VOk v∧nrm v=v∧(prt v).length≤100000000000:=by
 obtain ⟨h1,h2⟩:=parseJ_good h;have hn:=pf_nrm h1;have h3:=prt_le _ v (Nat.lt_succ_self _);exact ⟨⟨pf_bd h1,pf_gd h1,by rw [hn];exact pf_bd h1,by rw [hn];omega,by have:=pf_dpt h1;omega⟩,hn,by omega⟩
theorem nrm_null:nrm null=null:=by unfold null;rw [nrm_mk,if_neg (by decide),if_neg (by decide),if_neg (by decide),if_neg (by decide),if_neg (by decide)];rfl
theorem vok_null:VOk null:=⟨wk.bdL (by decide) (by decide) (by decide) (by decide),wk.gdL (by decide),by
 rw [show nrm null=null by unfold null;rw [nrm_mk,if_neg (by decide),if_neg (by decide),if_neg (by decide),if_neg (by decide),if_neg (by decide)];rfl];exact wk.bdL (by decide) (by decide) (by decide) (by decide),by
 rw [nrm_null,show null=leaf 0 false zed ⟨#[]⟩ from rfl,cst_leaf,txt_zed];decide,by
 unfold null;rw [dpt_mk];decide⟩
theorem vrep_below {w w':World}{B:Nat}{v:JT}{cs:List Value}{p:List Nat} (h:VRep w B v cs p) (hb:Below w.heap.size w w'):VRep w' B v cs p:=h.keep fun b hbp=>hb.block b (h.ge b hbp).2
theorem vrep_upd {w w':World}{m B:Nat}{v:JT}{cs:List Value}{p:List Nat} (h:VRep w B v cs p) (hu:Upd m w w') (hm:m < B):VRep w' B v cs p:=h.keep fun b hbp=>hu.block b (by have:=(h.ge b hbp).1;omega)
def rdV (l:List UInt8):Option (JT × List UInt8):=match rdT l with
 | some (s,t)=>match parseJ (mm.str s) with
   | .inl v=>if prt v=s then some (v,t) else none
   | .inr _=>none
 | none=>none
def RdV (w:World) (m:Nat) (l:List UInt8) (r:Bool) (e:Ending) (w':World):Prop :=
 ∃ (v:JT) (vc:List Value) (fp:List Nat) (l':List UInt8) (r':Bool),e=.returned (.agg vc.toArray)∧VRep w' w.heap.size v vc fp∧fp.Nodup∧VOk v∧RB w' m l' r'∧Mv m w w'∧l'.length≤l.length∧(r'=false→r=false∧rdV l=some (v,l'))∧(r'=true→r=true∨rdV l=none)
theorem vcells {w:World}{m:Nat}{a0 a1 a2 a3 a4 a5 a6 a7:Value}{t:TypeId} (h:w.heap[m]?=some (.cells #[a0,a1,a2,a3,a4,a5,a6,a7] t (0,0))) :
 (w.frozen? ⟨m,0,none⟩=false∧w.frozen? ⟨m,1,none⟩=false∧w.frozen? ⟨m,2,none⟩=false∧w.frozen? ⟨m,3,none⟩=false∧w.frozen? ⟨m,4,none⟩=false∧w.frozen? ⟨m,5,none⟩=false∧w.frozen? ⟨m,6,none⟩=false∧w.frozen? ⟨m,7,none⟩=false) ∧
 w.cell? ⟨m,0,none⟩=some a0∧w.cell? ⟨m,1,none⟩=some a1∧w.cell? ⟨m,2,none⟩=some a2∧w.cell? ⟨m,3,none⟩=some a3∧w.cell? ⟨m,4,none⟩=some a4∧w.cell? ⟨m,5,none⟩=some a5∧w.cell? ⟨m,6,none⟩=some a6∧w.cell? ⟨m,7,none⟩=some a7 :=
 ⟨⟨blk_free h 0,blk_free h 1,blk_free h 2,blk_free h 3,blk_free h 4,blk_free h 5,blk_free h 6,blk_free h 7⟩,blk_cell h 0,blk_cell h 1,blk_cell h 2,blk_cell h 3,blk_cell h 4,blk_cell h 5,blk_cell h 6,blk_cell h 7⟩
theorem str_ne {a b:List UInt8} (h:a≠b):mm.str a≠mm.str b∧((mm.str a).toList == (mm.str b).toList)=false∧¬ (mm.str a).toList=(mm.str b).toList:=by
 have h3:¬ (mm.str a).toList=(mm.str b).toList:=by rw [mm.str_list,mm.str_list];exact h
 exact ⟨fun e=>h3 (by rw [e]),by rw [beq_eq_false_iff_ne];exact h3,h3⟩
set_option maxRecDepth 100000 in
set_option maxHeartbeats 12800000 in
theorem rval_any (E:Nat→Value) (m:Nat) (l:List UInt8) (r:Bool) (w:World) (h:RB w m l r) (hd:RdE E w m) :
 Calls Tryz.prog 77 #[.pointer (some ⟨m,0,none⟩)] w (RdV w m l r):=by
 have x0:=heap_alloc_new w (.cells #[.int .i64 0,.bool false,.bool false,.string ⟨#[]⟩,.int .i64 0,.string ⟨#[]⟩,.slice none 0 0,.slice none 0 0] 28);have l0:=(Below.refl w.heap.size w).alloc (Nat.le_refl _) (.cells #[.int .i64 0,.bool false,.bool false,.string ⟨#[]⟩,.int .i64 0,.string ⟨#[]⟩,.slice none 0 0,.slice none 0 0] 28);have C:=hide (rtext_any m l r _ (h.keep l0));have HML:=hide h.lt;have L0:=hide l0;have HD:=hide (fun u (hu:Mv m w u)=>hd.go (hu.below (Nat.le_refl m) (Nat.le_of_lt h.lt)));clear h hd l0
 go_enter Tryz.func77,Tryz.ntmps77
 go_upto_region 1 with fail;generalize w.alloc (.cells #[.int .i64 0,.bool false,.bool false,.string ⟨#[]⟩,.int .i64 0,.string ⟨#[]⟩,.slice none 0 0,.slice none 0 0] 28)=W0 at *;have X0:=hide x0;clear x0
 go_upto_region 2 with (go_at_call 61;refine (uh C).mono ?_;rintro e1 u1 ⟨s,l1,r1,rfl,h1,b1,z1,n1,g1,k1⟩
                        have H1:=hide h1;have M1:=hide ((Mv.of (uh L0)).trans b1);have X1:=hide ((b1.block _ (blk_lt (uh X0)) (by have:=uh HML;omega)).trans (uh X0));have Z1:=hide z1;have N1:=hide n1;have G1:=hide g1;have K1:=hide k1
                        clear C h1 b1 z1 n1 g1 k1 X0 L0)
 have HWL:Hid (w.heap.size < u1.heap.size):=blk_lt (uh X1);have D1:=uh HD u1 (uh M1);have CP:=hide (jparse_any E (mm.str s) u1 (D1.env u1 (Below.refl _ _)) (D1.ng u1 (Below.refl _ _)) (by rw [mm.str_size];have:=uh N1;omega));clear D1
 cases hp:parseJ (mm.str s) with
 | inl v =>
   obtain ⟨hok,hnv,hlen⟩:=vok_parse hp;rw [hp] at CP;have HOK:=hide hok;have HNV:=hide hnv;have HP:=hide hp;clear hok hnv hlen hp
   go_upto_region 3 with (go_at_call 101;refine (uh CP).mono ?_;rintro e u2 hp
                          obtain ⟨cs2,fp,rfl,v2,nd,b2⟩:=parse_ok hp;obtain ⟨n0,n1,n2,n3,n4,n5,n6,n7,n8,n9,na,nb,rfl⟩:=v2.vr.form;have vp2:=v2;have HND:=hide nd
                          clear hp CP v2 nd)
   obtain ⟨x2,l2,_,z2⟩:=boxE u2 [.int .i64 n0,.bool n1,.bool n2,.string n3,.int .i64 n4,.string n5,.slice n6 n7 n8,.slice n9 na nb] _ u2 (Below.refl _ u2) (Nat.le_refl _) _ rfl;generalize u2.alloc (.cells [.int .i64 n0,.bool n1,.bool n2,.string n3,.int .i64 n4,.string n5,.slice n6 n7 n8,.slice n9 na nb].toArray 28)=W2 at *;have bb:=b2.trans (l2.mono b2.size);have M2:=hide ((uh M1).trans (Mv.of bb));have H2:=hide ((uh H1).keep bb);have X2:=hide ((bb.block _ (blk_lt (uh X1))).trans (uh X1));have VW2:=hide (vrep_below vp2 l2);have VR2:=hide (uh VW2).vr;have MW2:=M2;have HW2:=H2;have XW2:=X2;have XB:=hide x2;have XBW2:=hide x2;have ZB:Hid (u2.heap.size < W2.heap.size):=z2;have HGE:=hide (Nat.le_trans (uh M1).size b2.size);generalize u2.heap.size=m2 at *;clear b2 l2 x2 z2 bb vp2;have PRw:=hide (jprint_any v (uh HOK).bd (uh HOK).gd (uh HOK).bn (by have:=(uh HOK).cst;omega) _ W2 (uh VR2) ((uh HD W2 (uh M2)).pw W2 (Below.refl _ _)));rw [uh HNV] at PRw;obtain ⟨⟨_,_,_,_,_,_,_,_⟩,e0,e1,e2,e3,e4,e5,e6,e7⟩:=vcells (uh XB)
   by_cases heq:prt v=s
   · have HEQ:=hide heq
     have hst:(⟨(prt v).toArray⟩:ByteArray)=mm.str s:=by rw [heq];rfl
     rw [hst] at PRw;clear heq hst;generalize hss:mm.str s=ss at *;have HSS:=hide hss;clear hss
     go_upto_region 5 with (go_at_call 69;refine (uh PRw).mono ?_;rintro e u3 ⟨rfl,b3⟩
                            have Mu3:=hide ((uh M2).trans (Mv.of b3));have Hu3:=hide ((uh H2).keep b3);have Xu3:=hide ((b3.block _ (blk_lt (uh X2))).trans (uh X2));have XBu3:=hide ((b3.block _ (uh ZB)).trans (uh XB));have Vu3:=hide (vrep_below (uh VW2) b3)
                            clear PRw b3)
     have XR:Hid (u3.heap[w.heap.size]?=some (.cells #[.int .i64 0,.bool false,.bool false,.string ⟨#[]⟩,.int .i64 0,.string ⟨#[]⟩,.slice none 0 0,.slice none 0 0] 28 (0,0))):=uh Xu3;have XQ:Hid (u3.heap[m2]?=some (.cells [.int .i64 n0,.bool n1,.bool n2,.string n3,.int .i64 n4,.string n5,.slice n6 n7 n8,.slice n9 na nb].toArray 28 (0,0))):=uh XBu3;have VQ:=hide (uh Vu3);have HRF:=hide (uh Hu3);have MQ:=hide (uh Mu3);obtain ⟨⟨g0,g1,g2,g3,g4,g5,g6,g7⟩,k0,k1,k2,k3,k4,k5,k6,k7⟩:=vcells (uh XR);obtain ⟨⟨_,_,_,_,_,_,_,_⟩,e0,e1,e2,e3,e4,e5,e6,e7⟩:=vcells (uh XQ);go_wp2;refine bodyPost_ret (ret_value (m:=w.heap.size) _ _ _ _ _ _ _ _ _ (set8_lies (uh XR) (.int .i64 n0) (.bool n1) (.bool n2) (.string n3) (.int .i64 n4) (.string n5) (.slice n6 n7 n8) (.slice n9 na nb)) _ rfl) rfl ?_;have hup:=set8_upd u3 w.heap.size (.int .i64 n0) (.bool n1) (.bool n2) (.string n3) (.int .i64 n4) (.string n5) (.slice n6 n7 n8) (.slice n9 na nb);have hbl:=Upd.below hup (Nat.le_refl _);exact ⟨v,_,fp,l1,r1,rfl,(vrep_upd (uh VQ) hup (uh HWL)).base (Nat.le_of_lt (uh HWL)),uh HND,uh HOK,(uh HRF).below hbl (uh HML),mv_below (uh MQ) hbl,uh Z1,fun q=>⟨(uh G1 q).1,by unfold rdV;rw [(uh G1 q).2];show (match parseJ (mm.str s) with|.inl v=>if prt v=s then some (v,l1) else none|.inr _=>none)=_;rw [uh HSS,uh HP];show (if prt v=s then some (v,l1) else none)=_;rw [if_pos (uh HEQ)]⟩,fun q=>(uh K1 q).imp id fun z=>by unfold rdV;rw [z]⟩
   · have HBAD:Hid (r=true∨rdV l=none):=by
      cases hr:r1 with
      | true=>exact (uh K1 hr).imp id fun z=>by unfold rdV;rw [z]
      | false =>
        refine .inr ?_;unfold rdV;rw [(uh G1 hr).2];show (match parseJ (mm.str s) with|.inl v=>if prt v=s then some (v,l1) else none|.inr _=>none)=_;rw [uh HP];show (if prt v=s then some (v,l1) else none)=_;rw [if_neg heq]
     obtain ⟨hs1,hs2,hs3⟩:=str_ne heq;have hst:(⟨(prt v).toArray⟩:ByteArray)=mm.str (prt v):=rfl;rw [hst] at PRw;clear heq hst;generalize mm.str (prt v)=sp at *;generalize mm.str s=ss at *
     go_upto_region 4 with (go_at_call 69;refine (uh PRw).mono ?_;rintro e u3 ⟨rfl,b3⟩
                            have Mu3:=hide ((uh M2).trans (Mv.of b3));have Hu3:=hide ((uh H2).keep b3);have Xu3:=hide ((b3.block _ (blk_lt (uh X2))).trans (uh X2));have XBu3:=hide ((b3.block _ (uh ZB)).trans (uh XB));have Vu3:=hide (vrep_below (uh VW2) b3)
                            clear PRw b3)
     obtain ⟨lv,hc,hv⟩:=uh Hu3;have c1:=blk_cell hc 1;have f1:=blk_free hc 1;have HUP:=hide (Upd.setCell m 1 u3 (.bool true));have HRF:=hide ((uh Hu3).refuse);clear hc hv;have XR:Hid ((u3.setCell ⟨m,1,none⟩ (.bool true)).heap[w.heap.size]?=some (.cells #[.int .i64 0,.bool false,.bool false,.string ⟨#[]⟩,.int .i64 0,.string ⟨#[]⟩,.slice none 0 0,.slice none 0 0] 28 (0,0))):=((uh HUP).block _ (by have:=uh HML;omega)).trans (uh Xu3);have XQ:Hid ((u3.setCell ⟨m,1,none⟩ (.bool true)).heap[m2]?=some (.cells [.int .i64 n0,.bool n1,.bool n2,.string n3,.int .i64 n4,.string n5,.slice n6 n7 n8,.slice n9 na nb].toArray 28 (0,0))):=((uh HUP).block _ (by have:=uh HML;have:=uh HGE;omega)).trans (uh XBu3);have VQ:=hide (vrep_upd (uh Vu3) (uh HUP) (by have:=uh HML;have:=uh HWL;omega));have MQ:=hide ((uh Mu3).trans (mv_upd (uh HUP)));obtain ⟨⟨g0,g1,g2,g3,g4,g5,g6,g7⟩,k0,k1,k2,k3,k4,k5,k6,k7⟩:=vcells (uh XR);obtain ⟨⟨_,_,_,_,_,_,_,_⟩,e0,e1,e2,e3,e4,e5,e6,e7⟩:=vcells (uh XQ);go_wp2;refine bodyPost_ret (ret_value (m:=w.heap.size) _ _ _ _ _ _ _ _ _ (set8_lies (uh XR) (.int .i64 n0) (.bool n1) (.bool n2) (.string n3) (.int .i64 n4) (.string n5) (.slice n6 n7 n8) (.slice n9 na nb)) _ rfl) rfl ?_;have hup:=set8_upd (u3.setCell ⟨m,1,none⟩ (.bool true)) w.heap.size (.int .i64 n0) (.bool n1) (.bool n2) (.string n3) (.int .i64 n4) (.string n5) (.slice n6 n7 n8) (.slice n9 na nb);have hbl:=Upd.below hup (Nat.le_refl _);exact ⟨v,_,fp,l1,true,rfl,(vrep_upd (uh VQ) hup (uh HWL)).base (Nat.le_of_lt (uh HWL)),uh HND,uh HOK,(uh HRF).below hbl (uh HML),mv_below (uh MQ) hbl,uh Z1,fun q=>Bool.noConfusion q,fun _=>uh HBAD⟩
 | inr e =>
   obtain ⟨ge,ke⟩:=e;rw [hp] at CP;have HOK:=hide vok_null;have HND:Hid ([]:List Nat).Nodup:=List.nodup_nil
   have HBAD:Hid (r=true∨rdV l=none):=by
    cases hr:r1 with
    | true=>exact (uh K1 hr).imp id fun z=>by unfold rdV;rw [z]
    | false =>
      refine .inr ?_;unfold rdV;rw [(uh G1 hr).2];show (match parseJ (mm.str s) with|.inl v=>if prt v=s then some (v,l1) else none|.inr _=>none)=_;rw [hp]
   clear hp
   go_upto_region 3 with (go_at_call 101;refine (uh CP).mono ?_;rintro e u2 hp
                          obtain ⟨fb2,rfl,ff2,b2⟩:=parse_bad hp;simp only [vNull,vc,zed,nilS]
                          clear hp ff2 CP)
   have fp:List Nat:=[];have vp2:=vrep_flat u2 u1.heap.size 0 false zed ⟨#[]⟩;obtain ⟨x2,l2,_,z2⟩:=boxE u2 [.int .i64 0,.bool false,.bool false,.string ByteArray.empty,.int .i64 0,.string ⟨#[]⟩,.slice none 0 0,.slice none 0 0] _ u2 (Below.refl _ u2) (Nat.le_refl _) _ rfl;generalize u2.alloc (.cells [.int .i64 0,.bool false,.bool false,.string ByteArray.empty,.int .i64 0,.string ⟨#[]⟩,.slice none 0 0,.slice none 0 0].toArray 28)=W2 at *;have bb:=b2.trans (l2.mono b2.size);have M2:=hide ((uh M1).trans (Mv.of bb));have H2:=hide ((uh H1).keep bb);have X2:=hide ((bb.block _ (blk_lt (uh X1))).trans (uh X1));have VW2:=hide (vrep_below vp2 l2);have VR2:=hide (uh VW2).vr;have MW2:=M2;have HW2:=H2;have XW2:=X2;have XB:=hide x2;have XBW2:=hide x2;have ZB:Hid (u2.heap.size < W2.heap.size):=z2;have HGE:=hide (Nat.le_trans (uh M1).size b2.size);generalize u2.heap.size=m2 at *;clear b2 l2 x2 z2 bb vp2;clear fp;obtain ⟨lv,hc,hv⟩:=uh HW2;have c1:=blk_cell hc 1;have f1:=blk_free hc 1;have HUP:=hide (Upd.setCell m 1 W2 (.bool true));have HRF:=hide ((uh HW2).refuse);clear hc hv;have XR:Hid ((W2.setCell ⟨m,1,none⟩ (.bool true)).heap[w.heap.size]?=some (.cells #[.int .i64 0,.bool false,.bool false,.string ⟨#[]⟩,.int .i64 0,.string ⟨#[]⟩,.slice none 0 0,.slice none 0 0] 28 (0,0))):=((uh HUP).block _ (by have:=uh HML;omega)).trans (uh XW2);have XQ:Hid ((W2.setCell ⟨m,1,none⟩ (.bool true)).heap[m2]?=some (.cells [.int .i64 0,.bool false,.bool false,.string ByteArray.empty,.int .i64 0,.string ⟨#[]⟩,.slice none 0 0,.slice none 0 0].toArray 28 (0,0))):=((uh HUP).block _ (by have:=uh HML;have:=uh HGE;omega)).trans (uh XBW2);have VQ:=hide (vrep_upd (uh VW2) (uh HUP) (by have:=uh HML;have:=uh HWL;omega));have MQ:=hide ((uh MW2).trans (mv_upd (uh HUP)));obtain ⟨⟨g0,g1,g2,g3,g4,g5,g6,g7⟩,k0,k1,k2,k3,k4,k5,k6,k7⟩:=vcells (uh XR);obtain ⟨⟨_,_,_,_,_,_,_,_⟩,e0,e1,e2,e3,e4,e5,e6,e7⟩:=vcells (uh XQ);go_wp2;refine bodyPost_ret (ret_value (m:=w.heap.size) _ _ _ _ _ _ _ _ _ (set8_lies (uh XR) (.int .i64 0) (.bool false) (.bool false) (.string ByteArray.empty) (.int .i64 0) (.string ⟨#[]⟩) (.slice none 0 0) (.slice none 0 0)) _ rfl) rfl ?_;have hup:=set8_upd (W2.setCell ⟨m,1,none⟩ (.bool true)) w.heap.size (.int .i64 0) (.bool false) (.bool false) (.string ByteArray.empty) (.int .i64 0) (.string ⟨#[]⟩) (.slice none 0 0) (.slice none 0 0);have hbl:=Upd.below hup (Nat.le_refl _);exact ⟨null,_,[],l1,true,rfl,(vrep_upd (uh VQ) hup (uh HWL)).base (Nat.le_of_lt (uh HWL)),uh HND,uh HOK,(uh HRF).below hbl (uh HML),mv_below (uh MQ) hbl,uh Z1,fun q=>Bool.noConfusion q,fun _=>uh HBAD⟩
def set11 (w:World) (m:Nat) (a0 a1 a2 a3 a4 a5 a6 a7 a8 a9 aa:Value):World:=(((((((((((w.setCell ⟨m,0,none⟩ a0).setCell ⟨m,1,none⟩ a1).setCell ⟨m,2,none⟩ a2).setCell ⟨m,3,none⟩ a3).setCell ⟨m,4,none⟩ a4).setCell ⟨m,5,none⟩ a5).setCell ⟨m,6,none⟩ a6).setCell ⟨m,7,none⟩ a7).setCell ⟨m,8,none⟩ a8).setCell ⟨m,9,none⟩ a9).setCell ⟨m,10,none⟩ aa)
theorem set11_upd (w:World) (m:Nat) (a0 a1 a2 a3 a4 a5 a6 a7 a8 a9 aa:Value):Upd m w (set11 w m a0 a1 a2 a3 a4 a5 a6 a7 a8 a9 aa):=(((((((((((Upd.setCell m 0 w a0).trans (Upd.setCell m 1 _ a1)).trans (Upd.setCell m 2 _ a2)).trans (Upd.setCell m 3 _ a3)).trans (Upd.setCell m 4 _ a4)).trans (Upd.setCell m 5 _ a5)).trans (Upd.setCell m 6 _ a6)).trans (Upd.setCell m 7 _ a7)).trans (Upd.setCell m 8 _ a8)).trans (Upd.setCell m 9 _ a9)).trans (Upd.setCell m 10 _ aa))
theorem set11_lies {w:World}{m:Nat}{b0 b1 b2 b3 b4 b5 b6 b7 b8 b9 ba:Value}{t:TypeId} (h:w.heap[m]?=some (.cells #[b0,b1,b2,b3,b4,b5,b6,b7,b8,b9,ba] t (0,0))) (a0 a1 a2 a3 a4 a5 a6 a7 a8 a9 aa:Value):(set11 w m a0 a1 a2 a3 a4 a5 a6 a7 a8 a9 aa).heap[m]?=some (.cells #[a0,a1,a2,a3,a4,a5,a6,a7,a8,a9,aa] t (0,0)):=by
 have:=blk_set (blk_set (blk_set (blk_set (blk_set (blk_set (blk_set (blk_set (blk_set (blk_set (blk_set h 0 a0) 1 a1) 2 a2) 3 a3) 4 a4) 5 a5) 6 a6) 7 a7) 8 a8) 9 a9) 10 aa;simpa [set11] using this
theorem ofrees {w:World}{m:Nat}{cs:Array Value}{t:TypeId} (h:w.heap[m]?=some (.cells cs t (0,0))) :
 w.frozen? ⟨m,0,none⟩=false∧w.frozen? ⟨m,1,none⟩=false∧w.frozen? ⟨m,2,none⟩=false∧w.frozen? ⟨m,3,none⟩=false∧w.frozen? ⟨m,4,none⟩=false∧w.frozen? ⟨m,5,none⟩=false∧w.frozen? ⟨m,6,none⟩=false∧w.frozen? ⟨m,7,none⟩=false∧w.frozen? ⟨m,8,none⟩=false∧w.frozen? ⟨m,9,none⟩=false∧w.frozen? ⟨m,10,none⟩=false:=⟨blk_free h 0,blk_free h 1,blk_free h 2,blk_free h 3,blk_free h 4,blk_free h 5,blk_free h 6,blk_free h 7,blk_free h 8,blk_free h 9,blk_free h 10⟩
theorem ret_failure {m:Nat} (w:World) (a0 a1 a2 a3 a4 a5 a6 a7 a8 a9 aa:Value) (h:w.heap[m]?=some (.cells #[a0,a1,a2,a3,a4,a5,a6,a7,a8,a9,aa] 30 (0,0))) (tmps:Array Value) (ht:tmps[2]?.getD undef=.pointer (some ⟨m,0,none⟩)) :
 (results Tryz.f78 tmps).run Tryz.prog w=.ok (.agg #[a0,a1,a2,a3,a4,a5,a6,a7,a8,a9,aa]) w:=by
 obtain ⟨y0,y1,y2,y3,y4,y5,y6,y7,y8,y9,ya⟩:=ocells h;simp [results,Tryz.results78,ht,go_sem,y0,y1,y2,y3,y4,y5,y6,y7,y8,y9,ya]
theorem two_alloc (w:World) (o o':Obj):∀ W0,w.alloc o=W0→∀ W1,W0.alloc o'=W1→W1.heap[w.heap.size]?=some o∧W1.heap[w.heap.size+1]?=some o'∧Below w.heap.size w W1:=by
 rintro W0 rfl W1 rfl;have b0:=(Below.refl w.heap.size w).alloc (Nat.le_refl _) o;have b1:=(Below.refl (w.alloc o).heap.size (w.alloc o)).alloc (Nat.le_refl _) o';refine ⟨(b1.block _ (by rw [World.size_alloc];omega)).trans (heap_alloc_new w o),?_,b0.trans (b1.mono b0.size)⟩;have:=heap_alloc_new (w.alloc o) o';rw [World.size_alloc] at this;exact this
def rdF (l:List UInt8):Option (List UInt8 × List UInt8 × List UInt8):=match rdT l with
 | some (s1,t)=>match rdT t with
   | some (s2,u)=>if Lib.validD s1=true∧Lib.validD s2=true∧s1.length+s2.length≤1048576 then some (s1,s2,u) else none
   | none=>none
 | none=>none
def RdF (w:World) (m:Nat) (l:List UInt8) (r:Bool) (e:Ending) (w':World):Prop :=
 ∃ (s1 s2 l':List UInt8) (r':Bool),e=.returned (.agg #[.bool false,.int .i64 0,.bool false,.bool false,.string ⟨#[]⟩,.int .i64 0,.string ⟨#[]⟩,.slice none 0 0,.slice none 0 0,.string (mm.str s1),.string (mm.str s2)])∧RB w' m l' r'∧Mv m w w'∧l'.length≤l.length∧s1.length≤1048576∧s2.length≤1048576∧(r'=false→r=false∧rdF l=some (s1,s2,l'))∧(r'=true→r=true∨rdF l=none)
theorem ok_fail (s1 s2:List UInt8):OkOut false null (mm.str s1) (mm.str s2)↔Lib.validD s1=true∧Lib.validD s2=true∧s1.length+s2.length≤1048576:=by
 unfold OkOut;rw [mm.str_size,mm.str_size]
 constructor
 · rintro (⟨q,_⟩|⟨_,_,a,b,c⟩)
   · cases q
   · exact ⟨a,b,c⟩
 · rintro ⟨a,b,c⟩
   exact .inr ⟨rfl,nrm_null,a,b,c⟩
theorem fail_good {l l1 l2 s1 s2:List UInt8}{r r1 r2:Bool} (g1:r1=false→r=false∧rdT l=some (s1,l1)) (g2:r2=false→r1=false∧rdT l1=some (s2,l2)) (h:Lib.validD s1=true∧Lib.validD s2=true∧s1.length+s2.length≤1048576) (q:r2=false):r=false∧rdF l=some (s1,s2,l2):=by
 obtain ⟨a1,a2⟩:=g2 q;obtain ⟨c1,c2⟩:=g1 a1;refine ⟨c1,?_⟩;unfold rdF;rw [c2];show (match rdT l1 with|some (s2,u)=>if Lib.validD s1=true∧Lib.validD s2=true∧s1.length+s2.length≤1048576 then some (s1,s2,u) else none|none=>none)=_;rw [a2];show (if Lib.validD s1=true∧Lib.validD s2=true∧s1.length+s2.length≤1048576 then some (s1,s2,l2) else none)=_;rw [if_pos h]
theorem fail_bad {l l1 s1:List UInt8}{r r1 r2:Bool} (g1:r1=false→r=false∧rdT l=some (s1,l1)) (k1:r1=true→r=true∨rdT l=none) (k2:r2=true→r1=true∨rdT l1=none) (q:r2=true):r=true∨rdF l=none:=by
 rcases k2 q with z|z
 · exact (k1 z).imp id fun y=>by unfold rdF;rw [y]
 · cases hr1:r1 with
   | true=>exact (k1 hr1).imp id fun y=>by unfold rdF;rw [y]
   | false =>
     refine .inr ?_;unfold rdF;rw [(g1 hr1).2];show (match rdT l1 with|some (s2,u)=>if Lib.validD s1=true∧Lib.validD s2=true∧s1.length+s2.length≤1048576 then some (s1,s2,u) else none|none=>none)=_;rw [z]
set_option maxRecDepth 100000 in
set_option maxHeartbeats 12800000 in
theorem rfail_any (JS:SameC) (E:Nat→Value) (m:Nat) (l:List UInt8) (r:Bool) (w:World) (h:RB w m l r) (hd:RdE E w m) :
 Calls Tryz.prog 78 #[.pointer (some ⟨m,0,none⟩)] w (RdF w m l r):=by
 have TA:=hide (two_alloc w (.cells #[.bool false,.int .i64 0,.bool false,.bool false,.string ⟨#[]⟩,.int .i64 0,.string ⟨#[]⟩,.slice none 0 0,.slice none 0 0,.string ⟨#[]⟩,.string ⟨#[]⟩] 30) (.cells #[.bool false,.int .i64 0,.bool false,.bool false,.string ⟨#[]⟩,.int .i64 0,.string ⟨#[]⟩,.slice none 0 0,.slice none 0 0,.string ⟨#[]⟩,.string ⟨#[]⟩] 30));have HML:=hide h.lt;have HD:=hide (fun u (hu:Mv m w u)=>hd.go (hu.below (Nat.le_refl m) (Nat.le_of_lt h.lt)));have HR:=hide (fun u (hu:Below w.heap.size w u)=>h.keep hu);have HJ:=hide JS;clear h hd JS
 go_enter Tryz.func78,Tryz.ntmps78
 go_upto_region 2 with fail;generalize h0:w.alloc (.cells #[.bool false,.int .i64 0,.bool false,.bool false,.string ⟨#[]⟩,.int .i64 0,.string ⟨#[]⟩,.slice none 0 0,.slice none 0 0,.string ⟨#[]⟩,.string ⟨#[]⟩] 30)=W0;generalize h1:W0.alloc (.cells #[.bool false,.int .i64 0,.bool false,.bool false,.string ⟨#[]⟩,.int .i64 0,.string ⟨#[]⟩,.slice none 0 0,.slice none 0 0,.string ⟨#[]⟩,.string ⟨#[]⟩] 30)=W1;obtain ⟨t1,t2,t3⟩:=uh TA W0 h0 W1 h1;have C1:=hide (rtext_any m l r W1 (uh HR W1 t3));have X0:=hide t1;have Y0:=hide t2;have M0:Hid (Mv m w W1):=Mv.of t3;clear h0 h1 t1 t2 t3 TA
 go_upto_region 3 with (go_at_call 61;refine (uh C1).mono ?_;rintro e1 u1 ⟨s1,l1,r1,rfl,h1,b1,z1,n1,g1,k1⟩
                        have X1:=hide ((b1.block _ (blk_lt (uh X0)) (by have:=uh HML;omega)).trans (uh X0));have Y1:=hide ((b1.block _ (blk_lt (uh Y0)) (by have:=uh HML;omega)).trans (uh Y0));have M1:=hide ((uh M0).trans b1);have f9:=blk_free (uh Y1) 9;have y9:=blk_cell (uh Y1) 9;have H1:=hide h1;have Z1:=hide z1;have N1:=hide n1;have G1:=hide g1;have K1:=hide k1
                        clear C1 h1 b1 z1 n1 g1 k1 M0 X0 Y0)
 generalize hv1:u1.setCell ⟨w.heap.size+1,9,none⟩ (.string (mm.str s1))=v1;have up1:Upd (w.heap.size+1) u1 v1:=hv1 ▸ Upd.setCell _ _ _ _
 have Y1b:Hid (v1.heap[w.heap.size+1]?=some (.cells #[.bool false,.int .i64 0,.bool false,.bool false,.string ⟨#[]⟩,.int .i64 0,.string ⟨#[]⟩,.slice none 0 0,.slice none 0 0,.string (mm.str s1),.string ⟨#[]⟩] 30 (0,0))):=by
  have:=blk_set (uh Y1) 9 (.string (mm.str s1));rw [hv1] at this;exact this
 have X1b:=hide ((up1.block _ (by omega)).trans (uh X1));have H1b:=hide ((uh H1).below (Upd.below up1 (Nat.le_refl _)) (by have:=uh HML;omega));have M1b:=hide (mv_below (uh M1) (Upd.below up1 (Nat.le_succ _)));have C2:=hide (rtext_any m l1 r1 v1 (uh H1b));clear hv1 up1 f9 y9 X1 Y1 H1 M1
 go_upto_region 4 with (go_at_call 61;refine (uh C2).mono ?_;rintro e2 u2 ⟨s2,l2,r2,rfl,h2,b2,z2,n2,g2,k2⟩
                        have X2:=hide ((b2.block _ (blk_lt (uh X1b)) (by have:=uh HML;omega)).trans (uh X1b));have Y2:=hide ((b2.block _ (blk_lt (uh Y1b)) (by have:=uh HML;omega)).trans (uh Y1b));have M2:=hide ((uh M1b).trans b2);have fa:=blk_free (uh Y2) 10;have ya:=blk_cell (uh Y2) 10;have H2:=hide h2;have Z2:=hide z2;have N2:=hide n2;have G2:=hide g2;have K2:=hide k2
                        clear C2 h2 b2 z2 n2 g2 k2 M1b X1b Y1b H1b)
 generalize hv2:u2.setCell ⟨w.heap.size+1,10,none⟩ (.string (mm.str s2))=v2;have up2:Upd (w.heap.size+1) u2 v2:=hv2 ▸ Upd.setCell _ _ _ _
 have Y2b:Hid (v2.heap[w.heap.size+1]?=some (.cells #[.bool false,.int .i64 0,.bool false,.bool false,.string ⟨#[]⟩,.int .i64 0,.string ⟨#[]⟩,.slice none 0 0,.slice none 0 0,.string (mm.str s1),.string (mm.str s2)] 30 (0,0))):=by
  have:=blk_set (uh Y2) 10 (.string (mm.str s2));rw [hv2] at this;exact this
 have X2b:=hide ((up2.block _ (by omega)).trans (uh X2));have H2b:=hide ((uh H2).below (Upd.below up2 (Nat.le_refl _)) (by have:=uh HML;omega));have M2b:=hide (mv_below (uh M2) (Upd.below up2 (Nat.le_succ _)));have D2:=uh HD v2 (uh M2b)
 have CT:Hid (Calls Tryz.prog 68 #[.agg #[.bool false,.int .i64 0,.bool false,.bool false,.string ⟨#[]⟩,.int .i64 0,.string ⟨#[]⟩,.slice none 0 0,.slice none 0 0,.string (mm.str s1),.string (mm.str s2)]] v2 (EQP v2 (OkOut false null (mm.str s1) (mm.str s2)))) :=
  tellable_any (uh HJ) false null (mm.str s1) (mm.str s2) vok_null _ v2 ⟨_,rfl,(vrep_flat v2 v2.heap.size 0 false zed ⟨#[]⟩).vr⟩ (D2.pw v2 (Below.refl _ _)) (D2.env v2 (Below.refl _ _)).tabs (by rw [mm.str_size];have:=uh N1;omega) (by rw [mm.str_size];have:=uh N2;omega)
 have HOKF:=hide (ok_fail s1 s2);generalize OkOut false null (mm.str s1) (mm.str s2)=good at *;obtain ⟨y0,y1,y2,y3,y4,y5,y6,y7,y8,y9,ya⟩:=ocells (uh Y2b);clear hv2 up2 fa X2 Y2 H2 M2 D2
 by_cases hg:good
 · have HGD:=hide ((uh HOKF).1 hg)
   have HG0:=hide hg;clear hg
   go_upto_region 6 with (go_at_call 68;refine (uh CT).mono ?_;rintro e3 u3 ⟨b,rfl,hb,b3⟩
                          obtain rfl:b=true:=hb.2 (uh HG0);have H3:=hide ((uh H2b).keep b3);have X3:=hide ((b3.block _ (blk_lt (uh X2b))).trans (uh X2b));have Y3:=hide ((b3.block _ (blk_lt (uh Y2b))).trans (uh Y2b));have M3:=hide ((uh M2b).trans (Mv.of b3))
                          clear CT b3 hb)
   have XR:Hid (u3.heap[w.heap.size]?=some (.cells #[.bool false,.int .i64 0,.bool false,.bool false,.string ⟨#[]⟩,.int .i64 0,.string ⟨#[]⟩,.slice none 0 0,.slice none 0 0,.string ⟨#[]⟩,.string ⟨#[]⟩] 30 (0,0))):=uh X3;have XQ:Hid (u3.heap[w.heap.size+1]?=some (.cells #[.bool false,.int .i64 0,.bool false,.bool false,.string ⟨#[]⟩,.int .i64 0,.string ⟨#[]⟩,.slice none 0 0,.slice none 0 0,.string (mm.str s1),.string (mm.str s2)] 30 (0,0))):=uh Y3;have HRF:=hide (uh H3);have MQ:=hide (uh M3);obtain ⟨g0,g1,g2,g3,g4,g5,g6,g7,g8,g9,ga⟩:=ofrees (uh XR);obtain ⟨k0,k1,k2,k3,k4,k5,k6,k7,k8,k9,ka⟩:=ocells (uh XR);obtain ⟨y0,y1,y2,y3,y4,y5,y6,y7,y8,y9,ya⟩:=ocells (uh XQ);go_wp2;refine bodyPost_ret (ret_failure (m:=w.heap.size) _ _ _ _ _ _ _ _ _ _ _ _ (set11_lies (uh XR) (.bool false) (.int .i64 0) (.bool false) (.bool false) (.string ⟨#[]⟩) (.int .i64 0) (.string ⟨#[]⟩) (.slice none 0 0) (.slice none 0 0) (.string (mm.str s1)) (.string (mm.str s2))) _ rfl) rfl ?_;have hup:=set11_upd u3 w.heap.size (.bool false) (.int .i64 0) (.bool false) (.bool false) (.string ⟨#[]⟩) (.int .i64 0) (.string ⟨#[]⟩) (.slice none 0 0) (.slice none 0 0) (.string (mm.str s1)) (.string (mm.str s2));have hbl:=Upd.below hup (Nat.le_refl _);exact ⟨s1,s2,l2,r2,rfl,(uh HRF).below hbl (uh HML),mv_below (uh MQ) hbl,Nat.le_trans (uh Z2) (uh Z1),uh N1,uh N2,fun q=>fail_good (uh G1) (uh G2) (uh HGD) q,fun q=>fail_bad (uh G1) (uh K1) (uh K2) q⟩
 · have HGD:Hid (¬ (Lib.validD s1=true∧Lib.validD s2=true∧s1.length+s2.length≤1048576)):=fun z=>hg ((uh HOKF).2 z)
   have HG0:=hide hg;clear hg
   have HBAD:Hid (r=true∨rdF l=none):=by
    cases hr2:r2 with
    | true =>
      rcases uh K2 hr2 with z|z
      · exact (uh K1 z).imp id fun y=>by unfold rdF;rw [y]
      · cases hr1:r1 with
        | true=>exact (uh K1 hr1).imp id fun y=>by unfold rdF;rw [y]
        | false =>
          refine .inr ?_;unfold rdF;rw [(uh G1 hr1).2];show (match rdT l1 with|some (s2,u)=>if Lib.validD s1=true∧Lib.validD s2=true∧s1.length+s2.length≤1048576 then some (s1,s2,u) else none|none=>none)=_;rw [z]
    | false =>
      obtain ⟨q1,q2⟩:=uh G2 hr2;refine .inr ?_;unfold rdF;rw [(uh G1 q1).2];show (match rdT l1 with|some (s2,u)=>if Lib.validD s1=true∧Lib.validD s2=true∧s1.length+s2.length≤1048576 then some (s1,s2,u) else none|none=>none)=_;rw [q2];show (if Lib.validD s1=true∧Lib.validD s2=true∧s1.length+s2.length≤1048576 then some (s1,s2,l2) else none)=_;rw [if_neg (uh HGD)]
   go_upto_region 5 with (go_at_call 68;refine (uh CT).mono ?_;rintro e3 u3 ⟨b,rfl,hb,b3⟩
                          obtain rfl:b=false:=Bool.eq_false_iff.mpr fun z=>uh HG0 (hb.1 z)
                          have H3:=hide ((uh H2b).keep b3);have X3:=hide ((b3.block _ (blk_lt (uh X2b))).trans (uh X2b));have Y3:=hide ((b3.block _ (blk_lt (uh Y2b))).trans (uh Y2b));have M3:=hide ((uh M2b).trans (Mv.of b3))
                          clear CT b3 hb)
   obtain ⟨lv,hc,hv⟩:=uh H3;have c1:=blk_cell hc 1;have f1:=blk_free hc 1;have HUP:=hide (Upd.setCell m 1 u3 (.bool true));have HRF:=hide ((uh H3).refuse);clear hc hv;have XR:Hid ((u3.setCell ⟨m,1,none⟩ (.bool true)).heap[w.heap.size]?=some (.cells #[.bool false,.int .i64 0,.bool false,.bool false,.string ⟨#[]⟩,.int .i64 0,.string ⟨#[]⟩,.slice none 0 0,.slice none 0 0,.string ⟨#[]⟩,.string ⟨#[]⟩] 30 (0,0))):=((uh HUP).block _ (by have:=uh HML;omega)).trans (uh X3);have XQ:Hid ((u3.setCell ⟨m,1,none⟩ (.bool true)).heap[w.heap.size+1]?=some (.cells #[.bool false,.int .i64 0,.bool false,.bool false,.string ⟨#[]⟩,.int .i64 0,.string ⟨#[]⟩,.slice none 0 0,.slice none 0 0,.string (mm.str s1),.string (mm.str s2)] 30 (0,0))):=((uh HUP).block _ (by have:=uh HML;omega)).trans (uh Y3);have MQ:=hide ((uh M3).trans (mv_upd (uh HUP)));obtain ⟨g0,g1,g2,g3,g4,g5,g6,g7,g8,g9,ga⟩:=ofrees (uh XR);obtain ⟨k0,k1,k2,k3,k4,k5,k6,k7,k8,k9,ka⟩:=ocells (uh XR);obtain ⟨y0,y1,y2,y3,y4,y5,y6,y7,y8,y9,ya⟩:=ocells (uh XQ);go_wp2;refine bodyPost_ret (ret_failure (m:=w.heap.size) _ _ _ _ _ _ _ _ _ _ _ _ (set11_lies (uh XR) (.bool false) (.int .i64 0) (.bool false) (.bool false) (.string ⟨#[]⟩) (.int .i64 0) (.string ⟨#[]⟩) (.slice none 0 0) (.slice none 0 0) (.string (mm.str s1)) (.string (mm.str s2))) _ rfl) rfl ?_;have hup:=set11_upd (u3.setCell ⟨m,1,none⟩ (.bool true)) w.heap.size (.bool false) (.int .i64 0) (.bool false) (.bool false) (.string ⟨#[]⟩) (.int .i64 0) (.string ⟨#[]⟩) (.slice none 0 0) (.slice none 0 0) (.string (mm.str s1)) (.string (mm.str s2));have hbl:=Upd.below hup (Nat.le_refl _);exact ⟨s1,s2,l2,true,rfl,(uh HRF).below hbl (uh HML),mv_below (uh MQ) hbl,Nat.le_trans (uh Z2) (uh Z1),uh N1,uh N2,fun q=>Bool.noConfusion q,fun _=>uh HBAD⟩
theorem ret_outcome {m:Nat} (w:World) (a0 a1 a2 a3 a4 a5 a6 a7 a8 a9 aa:Value) (h:w.heap[m]?=some (.cells #[a0,a1,a2,a3,a4,a5,a6,a7,a8,a9,aa] 30 (0,0))) (tmps:Array Value) (ht:tmps[2]?.getD undef=.pointer (some ⟨m,0,none⟩)) :
 (results Tryz.f64 tmps).run Tryz.prog w=.ok (.agg #[a0,a1,a2,a3,a4,a5,a6,a7,a8,a9,aa]) w:=by
 obtain ⟨y0,y1,y2,y3,y4,y5,y6,y7,y8,y9,ya⟩:=ocells h;simp [results,Tryz.results64,ht,go_sem,y0,y1,y2,y3,y4,y5,y6,y7,y8,y9,ya]
def rdO (l:List UInt8):Option (Bool × JT × List UInt8 × List UInt8 × List UInt8):=match l with
 | []=>none
 | c::t=>if c=1 then (rdV t).map fun p=>(true,p.1,[],[],p.2) else if c=0 then (rdF t).map fun p=>(false,null,p.1,p.2.1,p.2.2) else none
def RdO (w:World) (m:Nat) (l:List UInt8) (r:Bool) (e:Ending) (w':World):Prop :=
 ∃ (fine:Bool) (v:JT) (vc:List Value) (fp:List Nat) (er ca l':List UInt8) (r':Bool),e=.returned (.agg (.bool fine::(vc++[.string (mm.str er),.string (mm.str ca)])).toArray)∧VRep w' w.heap.size v vc fp∧fp.Nodup∧VOk v∧RB w' m l' r'∧Mv m w w'∧l'.length≤l.length∧er.length≤1048576∧ca.length≤1048576∧(r'=false→r=false∧rdO l=some (fine,v,er,ca,l'))∧(r'=true→r=true∨rdO l=none)
set_option maxRecDepth 100000 in
set_option maxHeartbeats 12800000 in
theorem rout_any (JS:SameC) (E:Nat→Value) (m:Nat) (l:List UInt8) (r:Bool) (w:World) (h:RB w m l r) (hd:RdE E w m) :
 Calls Tryz.prog 64 #[.pointer (some ⟨m,0,none⟩)] w (RdO w m l r):=by
 have x0:=heap_alloc_new w (.cells #[.bool false,.int .i64 0,.bool false,.bool false,.string ⟨#[]⟩,.int .i64 0,.string ⟨#[]⟩,.slice none 0 0,.slice none 0 0,.string ⟨#[]⟩,.string ⟨#[]⟩] 30);have l0:=(Below.refl w.heap.size w).alloc (Nat.le_refl _) (.cells #[.bool false,.int .i64 0,.bool false,.bool false,.string ⟨#[]⟩,.int .i64 0,.string ⟨#[]⟩,.slice none 0 0,.slice none 0 0,.string ⟨#[]⟩,.string ⟨#[]⟩] 30);have HML:=hide h.lt;have L0:=hide l0;have R0:=hide (h.keep l0);have HD:=hide (fun u (hu:Mv m w u)=>hd.go (hu.below (Nat.le_refl m) (Nat.le_of_lt h.lt)));have HJ:=hide JS;clear h hd l0 JS
 go_enter Tryz.func64,Tryz.ntmps64
 go_upto_region 1 with fail;generalize w.alloc (.cells #[.bool false,.int .i64 0,.bool false,.bool false,.string ⟨#[]⟩,.int .i64 0,.string ⟨#[]⟩,.slice none 0 0,.slice none 0 0,.string ⟨#[]⟩,.string ⟨#[]⟩] 30)=W0 at *;have X0:=hide x0;clear x0;have vok:=vok_null
 cases l with
 | nil =>
   have NX:=hide (next_nil m r W0 (uh R0))
   go_upto_region 2 with (go_at_call 48;refine (uh NX).mono ?_;rintro e1 u1 ⟨rfl,h1,b1⟩
                          have H1:=hide h1;have M1:=hide ((Mv.of (uh L0)).trans b1);have X1:=hide ((b1.block _ (blk_lt (uh X0)) (by have:=uh HML;omega)).trans (uh X0))
                          clear NX h1 b1 X0 L0)
   have CF:=hide (rfail_any (uh HJ) E m [] true u1 (uh H1) (uh HD u1 (uh M1)));go_upto_region 5 with fail
   go_wp2_with (go_at_call 78;refine (uh CF).mono ?_;rintro e2 u2 ⟨s1,s2,l2,r2,rfl,h2,b2,z2,n1,n2,g2,k2⟩
                have H2:=hide h2;have M2:=hide ((uh M1).trans b2);have XR:=hide ((b2.block _ (blk_lt (uh X1)) (by have:=uh HML;omega)).trans (uh X1));have HW2:Hid (w.heap.size < u1.heap.size):=blk_lt (uh X1);have HS2:=hide b2.size;have Z2:=hide z2;have N1:=hide n1;have N2:=hide n2;have G2:=hide g2;clear CF h2 b2 z2 n1 n2 g2 k2;obtain ⟨g0,g1,g2,g3,g4,g5,g6,g7,g8,g9,ga⟩:=ofrees (uh XR)
                obtain ⟨k0,k1,k2,k3,k4,k5,k6,k7,k8,k9,ka⟩:=ocells (uh XR))
   refine bodyPost_ret (ret_outcome (m:=w.heap.size) _ _ _ _ _ _ _ _ _ _ _ _ (set11_lies (uh XR) (.bool false) (.int .i64 0) (.bool false) (.bool false) (.string ⟨#[]⟩) (.int .i64 0) (.string ⟨#[]⟩) (.slice none 0 0) (.slice none 0 0) (.string (mm.str s1)) (.string (mm.str s2))) _ rfl) rfl ?_;have hup:=set11_upd u2 w.heap.size (.bool false) (.int .i64 0) (.bool false) (.bool false) (.string ⟨#[]⟩) (.int .i64 0) (.string ⟨#[]⟩) (.slice none 0 0) (.slice none 0 0) (.string (mm.str s1)) (.string (mm.str s2));have hbl:=Upd.below hup (Nat.le_refl _);exact ⟨false,null,_,[],s1,s2,l2,r2,rfl,(vrep_flat _ _ 0 false zed ⟨#[]⟩),List.nodup_nil,vok,(uh H2).below hbl (uh HML),mv_below (uh M2) hbl,(uh Z2),uh N1,uh N2,fun q=>absurd (uh G2 q).1 (by decide),fun _=>.inr rfl⟩
 | cons c t =>
   have NX:=hide (next_cons m c t r W0 (uh R0))
   by_cases hc1:c=1
   · have e1:((c.toNat:Int) == 1)=true:=by rw [hc1];rfl
     have HO:Hid (∀ v u,rdV t=some (v,u)→rdO (c::t)=some (true,v,[],[],u)):=fun v u q=>by
      show (if c=1 then (rdV t).map (fun p=>(true,p.1,[],[],p.2)) else if c=0 then (rdF t).map (fun p=>(false,null,p.1,p.2.1,p.2.2)) else none)=_;rw [if_pos hc1,q];rfl
     have HN:Hid (rdV t=none→rdO (c::t)=none):=fun q=>by
      show (if c=1 then (rdV t).map (fun p=>(true,p.1,[],[],p.2)) else if c=0 then (rdF t).map (fun p=>(false,null,p.1,p.2.1,p.2.2)) else none)=_;rw [if_pos hc1,q];rfl
     have HLE:Hid (t.length≤(c::t).length):=by simp [Hid]
     generalize c::t=ct at *;clear hc1 vok
     go_upto_region 3 with (go_at_call 48;refine (uh NX).mono ?_;rintro e1 u1 ⟨rfl,h1,b1⟩
                            have H1:=hide h1;have M1:=hide ((Mv.of (uh L0)).trans b1);have X1:=hide ((b1.block _ (blk_lt (uh X0)) (by have:=uh HML;omega)).trans (uh X0))
                            clear NX h1 b1 X0 L0)
     have CV:=hide (rval_any E m t r u1 (uh H1) (uh HD u1 (uh M1)));have HWL:Hid (w.heap.size < u1.heap.size):=blk_lt (uh X1)
     go_wp2_with (go_at_call 77;refine (uh CV).mono ?_;rintro e2 u2 ⟨v,vc,fp,l2,r2,rfl,vp,nd,vok,h2,b2,z2,g2,k2⟩
                  obtain ⟨n0,n1,n2,n3,n4,n5,n6,n7,n8,n9,na,nb,rfl⟩:=vp.vr.form;have H2:=hide h2;have M2:=hide ((uh M1).trans b2);have XR:=hide ((b2.block _ (blk_lt (uh X1)) (by have:=uh HML;omega)).trans (uh X1));have VP:=hide vp;have ND:=hide nd;have VK:=hide vok;have Z2:=hide z2;have G2:=hide g2;have K2:=hide k2;clear CV h2 b2 z2 g2 k2 vp nd vok;obtain ⟨g0,g1,g2,g3,g4,g5,g6,g7,g8,g9,ga⟩:=ofrees (uh XR)
                  obtain ⟨k0,k1,k2,k3,k4,k5,k6,k7,k8,k9,ka⟩:=ocells (uh XR))
     have vok:=uh VK;refine bodyPost_ret (ret_outcome (m:=w.heap.size) _ _ _ _ _ _ _ _ _ _ _ _ (set11_lies (uh XR) (.bool true) (.int .i64 n0) (.bool n1) (.bool n2) (.string n3) (.int .i64 n4) (.string n5) (.slice n6 n7 n8) (.slice n9 na nb) (.string ⟨#[]⟩) (.string ⟨#[]⟩)) _ rfl) rfl ?_;have hup:=set11_upd u2 w.heap.size (.bool true) (.int .i64 n0) (.bool n1) (.bool n2) (.string n3) (.int .i64 n4) (.string n5) (.slice n6 n7 n8) (.slice n9 na nb) (.string ⟨#[]⟩) (.string ⟨#[]⟩);have hbl:=Upd.below hup (Nat.le_refl _);exact ⟨true,v,_,fp,[],[],l2,r2,rfl,(vrep_upd (uh VP) hup (uh HWL)).base (Nat.le_of_lt (uh HWL)),uh ND,vok,(uh H2).below hbl (uh HML),mv_below (uh M2) hbl,Nat.le_trans (uh Z2) (uh HLE),by simp,by simp,fun q=>⟨(uh G2 q).1,uh HO _ _ (uh G2 q).2⟩,fun q=>(uh K2 q).imp id (uh HN)⟩
   · by_cases hc0:c=0
     · have e1:((c.toNat:Int) == 1)=false:=by rw [hc0];rfl
       have e0:((c.toNat:Int) == 0)=true:=by rw [hc0];rfl
       have HO:Hid (∀ a b u,rdF t=some (a,b,u)→rdO (c::t)=some (false,null,a,b,u)):=fun a b u q=>by
        show (if c=1 then (rdV t).map (fun p=>(true,p.1,[],[],p.2)) else if c=0 then (rdF t).map (fun p=>(false,null,p.1,p.2.1,p.2.2)) else none)=_;rw [if_neg hc1,if_pos hc0,q];rfl
       have HN:Hid (rdF t=none→rdO (c::t)=none):=fun q=>by
        show (if c=1 then (rdV t).map (fun p=>(true,p.1,[],[],p.2)) else if c=0 then (rdF t).map (fun p=>(false,null,p.1,p.2.1,p.2.2)) else none)=_;rw [if_neg hc1,if_pos hc0,q];rfl
       have HLE:Hid (t.length≤(c::t).length):=by simp [Hid]
       generalize c::t=ct at *;clear hc1 hc0
       go_upto_region 5 with (go_at_call 48;refine (uh NX).mono ?_;rintro e1 u1 ⟨rfl,h1,b1⟩
                              have H1:=hide h1;have M1:=hide ((Mv.of (uh L0)).trans b1);have X1:=hide ((b1.block _ (blk_lt (uh X0)) (by have:=uh HML;omega)).trans (uh X0))
                              clear NX h1 b1 X0 L0)
       have CF:=hide (rfail_any (uh HJ) E m t r u1 (uh H1) (uh HD u1 (uh M1)))
       go_wp2_with (go_at_call 78;refine (uh CF).mono ?_;rintro e2 u2 ⟨s1,s2,l2,r2,rfl,h2,b2,z2,n1,n2,g2,k2⟩
                    have H2:=hide h2;have M2:=hide ((uh M1).trans b2);have XR:=hide ((b2.block _ (blk_lt (uh X1)) (by have:=uh HML;omega)).trans (uh X1));have Z2:=hide z2;have N1:=hide n1;have N2:=hide n2;have G2:=hide g2;have K2:=hide k2;clear CF h2 b2 z2 n1 n2 g2 k2;obtain ⟨g0,g1,g2,g3,g4,g5,g6,g7,g8,g9,ga⟩:=ofrees (uh XR)
                    obtain ⟨k0,k1,k2,k3,k4,k5,k6,k7,k8,k9,ka⟩:=ocells (uh XR))
       refine bodyPost_ret (ret_outcome (m:=w.heap.size) _ _ _ _ _ _ _ _ _ _ _ _ (set11_lies (uh XR) (.bool false) (.int .i64 0) (.bool false) (.bool false) (.string ⟨#[]⟩) (.int .i64 0) (.string ⟨#[]⟩) (.slice none 0 0) (.slice none 0 0) (.string (mm.str s1)) (.string (mm.str s2))) _ rfl) rfl ?_;have hup:=set11_upd u2 w.heap.size (.bool false) (.int .i64 0) (.bool false) (.bool false) (.string ⟨#[]⟩) (.int .i64 0) (.string ⟨#[]⟩) (.slice none 0 0) (.slice none 0 0) (.string (mm.str s1)) (.string (mm.str s2));have hbl:=Upd.below hup (Nat.le_refl _);exact ⟨false,null,_,[],s1,s2,l2,r2,rfl,(vrep_flat _ _ 0 false zed ⟨#[]⟩),List.nodup_nil,vok,(uh H2).below hbl (uh HML),mv_below (uh M2) hbl,Nat.le_trans (uh Z2) (uh HLE),uh N1,uh N2,fun q=>⟨(uh G2 q).1,uh HO _ _ _ (uh G2 q).2⟩,fun q=>(uh K2 q).imp id (uh HN)⟩
     · have e1:((c.toNat:Int) == 1)=false:=by rw [beq_eq_false_iff_ne];exact fun q=>hc1 (UInt8.toNat_inj.1 (by show c.toNat=1;omega))
       have e0:((c.toNat:Int) == 0)=false:=by rw [beq_eq_false_iff_ne];exact fun q=>hc0 (UInt8.toNat_inj.1 (by show c.toNat=0;omega))
       have HN:Hid (rdO (c::t)=none):=by
        show (if c=1 then (rdV t).map (fun p=>(true,p.1,[],[],p.2)) else if c=0 then (rdF t).map (fun p=>(false,null,p.1,p.2.1,p.2.2)) else none)=_;rw [if_neg hc1,if_neg hc0]
       have HLE:Hid (t.length≤(c::t).length):=by simp [Hid]
       generalize c::t=ct at *;clear hc1 hc0
       go_upto_region 6 with (go_at_call 48;refine (uh NX).mono ?_;rintro e1 u1 ⟨rfl,h1,b1⟩
                              have H1:=hide h1;have M1:=hide ((Mv.of (uh L0)).trans b1);have X1:=hide ((b1.block _ (blk_lt (uh X0)) (by have:=uh HML;omega)).trans (uh X0))
                              clear NX h1 b1 X0 L0)
       have HUP:=hide (Upd.setCell m 1 u1 (.bool true));have HRF:=hide ((uh H1).refuse);obtain ⟨lv,hc,hv⟩:=uh H1;have c1:=blk_cell hc 1;have f1:=blk_free hc 1;clear hc hv;have XR:=hide (((uh HUP).block _ (by have:=uh HML;omega)).trans (uh X1));have MQ:=hide ((uh M1).trans (mv_upd (uh HUP)));obtain ⟨g0,g1,g2,g3,g4,g5,g6,g7,g8,g9,ga⟩:=ofrees (uh XR);obtain ⟨k0,k1,k2,k3,k4,k5,k6,k7,k8,k9,ka⟩:=ocells (uh XR);go_wp2;refine bodyPost_ret (ret_outcome (m:=w.heap.size) _ _ _ _ _ _ _ _ _ _ _ _ (set11_lies (uh XR) (.bool false) (.int .i64 0) (.bool false) (.bool false) (.string ⟨#[]⟩) (.int .i64 0) (.string ⟨#[]⟩) (.slice none 0 0) (.slice none 0 0) (.string ⟨#[]⟩) (.string ⟨#[]⟩)) _ rfl) rfl ?_;have hup:=set11_upd (u1.setCell ⟨m,1,none⟩ (.bool true)) w.heap.size (.bool false) (.int .i64 0) (.bool false) (.bool false) (.string ⟨#[]⟩) (.int .i64 0) (.string ⟨#[]⟩) (.slice none 0 0) (.slice none 0 0) (.string ⟨#[]⟩) (.string ⟨#[]⟩);have hbl:=Upd.below hup (Nat.le_refl _);exact ⟨false,null,_,[],[],[],t,true,rfl,(vrep_flat _ _ 0 false zed ⟨#[]⟩),List.nodup_nil,vok,(uh HRF).below hbl (uh HML),mv_below (uh MQ) hbl,uh HLE,by simp,by simp,fun q=>Bool.noConfusion q,fun _=>.inr (uh HN)⟩
theorem efrees {w:World}{m:Nat}{cs:Array Value}{t:TypeId} (h:w.heap[m]?=some (.cells cs t (0,0))) :
 w.frozen? ⟨m,0,none⟩=false∧w.frozen? ⟨m,1,none⟩=false∧w.frozen? ⟨m,2,none⟩=false∧w.frozen? ⟨m,3,none⟩=false∧w.frozen? ⟨m,4,none⟩=false∧w.frozen? ⟨m,5,none⟩=false∧w.frozen? ⟨m,6,none⟩=false∧w.frozen? ⟨m,7,none⟩=false∧w.frozen? ⟨m,8,none⟩=false∧w.frozen? ⟨m,9,none⟩=false∧w.frozen? ⟨m,10,none⟩=false∧w.frozen? ⟨m,11,none⟩=false∧w.frozen? ⟨m,12,none⟩=false∧w.frozen? ⟨m,13,none⟩=false∧w.frozen? ⟨m,14,none⟩=false∧w.frozen? ⟨m,15,none⟩=false∧w.frozen? ⟨m,16,none⟩=false:=⟨blk_free h 0,blk_free h 1,blk_free h 2,blk_free h 3,blk_free h 4,blk_free h 5,blk_free h 6,blk_free h 7,blk_free h 8,blk_free h 9,blk_free h 10,blk_free h 11,blk_free h 12,blk_free h 13,blk_free h 14,blk_free h 15,blk_free h 16⟩
theorem eset1 {w:World}{m:Nat}{a0 a1 a2 a3 a4 a5 a6 a7 a8 a9 aa ab ac ad ae af ag:Value}{t:TypeId} (h:w.heap[m]?=some (.cells [a0,a1,a2,a3,a4,a5,a6,a7,a8,a9,aa,ab,ac,ad,ae,af,ag].toArray t (0,0))) (x14:Value):(w.setCell ⟨m,14,none⟩ x14).heap[m]?=some (.cells [a0,a1,a2,a3,a4,a5,a6,a7,a8,a9,aa,ab,ac,ad,x14,af,ag].toArray t (0,0)):=by
 have:=blk_set h 14 x14;simpa using this
theorem eset2 {w:World}{m:Nat}{a0 a1 a2 a3 a4 a5 a6 a7 a8 a9 aa ab ac ad ae af ag:Value}{t:TypeId} (h:w.heap[m]?=some (.cells [a0,a1,a2,a3,a4,a5,a6,a7,a8,a9,aa,ab,ac,ad,ae,af,ag].toArray t (0,0))) (x15:Value):(w.setCell ⟨m,15,none⟩ x15).heap[m]?=some (.cells [a0,a1,a2,a3,a4,a5,a6,a7,a8,a9,aa,ab,ac,ad,ae,x15,ag].toArray t (0,0)):=by
 have:=blk_set h 15 x15;simpa using this
theorem eset3 {w:World}{m:Nat}{a0 a1 a2 a3 a4 a5 a6 a7 a8 a9 aa ab ac ad ae af ag:Value}{t:TypeId} (h:w.heap[m]?=some (.cells [a0,a1,a2,a3,a4,a5,a6,a7,a8,a9,aa,ab,ac,ad,ae,af,ag].toArray t (0,0))) (x16:Value):(w.setCell ⟨m,16,none⟩ x16).heap[m]?=some (.cells [a0,a1,a2,a3,a4,a5,a6,a7,a8,a9,aa,ab,ac,ad,ae,af,x16].toArray t (0,0)):=by
 have:=blk_set h 16 x16;simpa using this
theorem eset4 {w:World}{m:Nat}{a0 a1 a2 a3 a4 a5 a6 a7 a8 a9 aa ab ac ad ae af ag:Value}{t:TypeId} (h:w.heap[m]?=some (.cells [a0,a1,a2,a3,a4,a5,a6,a7,a8,a9,aa,ab,ac,ad,ae,af,ag].toArray t (0,0))) (x1:Value):(w.setCell ⟨m,1,none⟩ x1).heap[m]?=some (.cells [a0,x1,a2,a3,a4,a5,a6,a7,a8,a9,aa,ab,ac,ad,ae,af,ag].toArray t (0,0)):=by
 have:=blk_set h 1 x1;simpa using this
theorem eset6 {w:World}{m:Nat}{a0 a1 a2 a3 a4 a5 a6 a7 a8 a9 aa ab ac ad ae af ag:Value}{t:TypeId} (h:w.heap[m]?=some (.cells [a0,a1,a2,a3,a4,a5,a6,a7,a8,a9,aa,ab,ac,ad,ae,af,ag].toArray t (0,0))) (x2:Value):(w.setCell ⟨m,2,none⟩ x2).heap[m]?=some (.cells [a0,a1,x2,a3,a4,a5,a6,a7,a8,a9,aa,ab,ac,ad,ae,af,ag].toArray t (0,0)):=by
 have:=blk_set h 2 x2;simpa using this
theorem eset5 {w:World}{m:Nat}{a0 a1 a2 a3 a4 a5 a6 a7 a8 a9 aa ab ac ad ae af ag:Value}{t:TypeId} (h:w.heap[m]?=some (.cells [a0,a1,a2,a3,a4,a5,a6,a7,a8,a9,aa,ab,ac,ad,ae,af,ag].toArray t (0,0))) (x3 x4 x5 x6 x7 x8 x9 x10 x11 x12 x13:Value):(((((((((((w.setCell ⟨m,3,none⟩ x3).setCell ⟨m,4,none⟩ x4).setCell ⟨m,5,none⟩ x5).setCell ⟨m,6,none⟩ x6).setCell ⟨m,7,none⟩ x7).setCell ⟨m,8,none⟩ x8).setCell ⟨m,9,none⟩ x9).setCell ⟨m,10,none⟩ x10).setCell ⟨m,11,none⟩ x11).setCell ⟨m,12,none⟩ x12).setCell ⟨m,13,none⟩ x13).heap[m]?=some (.cells [a0,a1,a2,x3,x4,x5,x6,x7,x8,x9,x10,x11,x12,x13,ae,af,ag].toArray t (0,0)):=by
 have:=blk_set (blk_set (blk_set (blk_set (blk_set (blk_set (blk_set (blk_set (blk_set (blk_set (blk_set h 3 x3) 4 x4) 5 x5) 6 x6) 7 x7) 8 x8) 9 x9) 10 x10) 11 x11) 12 x12) 13 x13;simpa using this
def rdPart (p:Int) (e:Ev) (l:List UInt8):Option (Ev × List UInt8) :=
 if p=1 then (rdT l).map fun q=>({e with mach:=mm.str q.1},q.2)
 else if p=2 then (rdT l).map fun q=>({e with inp:=mm.str q.1},q.2)
 else if p=3 then (rdN 1 65536 l).map fun q=>({e with fuel:=(q.1:Int)},q.2)
 else if p=4 then (rdP l).map fun q=>({e with ns:=q.1.map Int.ofNat},q.2)
 else if p=5 then (rdO l).map fun q=>({e with fine:=q.1,v:=q.2.1,er:=mm.str q.2.2.1,ca:=mm.str q.2.2.2.1},q.2.2.2.2)
 else if p=6 then (rdN 0 1125899906842624 l).map fun q=>({e with time:=(q.1:Int)},q.2)
 else some (e,l)
def EvS (w:World) (k:Nat) (e:Ev):Prop:=∃ pv vc fp,w.heap[k]?=some (.cells (evC e pv vc).toArray 32 (0,0))∧OI w (k+1) pv e.ns∧VRep w (k+1) e.v vc fp∧fp.Nodup
structure Mv2 (m k:Nat) (w w':World):Prop where
 os:w'.os=w.os
 tape:w'.tape=w.tape
 output:w'.output=w.output
 size:w.heap.size≤w'.heap.size
 block:∀ q,q < w.heap.size→q≠m→q≠k→w'.heap[q]?=w.heap[q]?
theorem Mv2.refl (m k:Nat) (w:World):Mv2 m k w w:=⟨rfl,rfl,rfl,Nat.le_refl _,fun _ _ _ _=>rfl⟩
theorem Mv2.trans {m k:Nat}{a b c:World} (h:Mv2 m k a b) (g:Mv2 m k b c):Mv2 m k a c :=
 ⟨g.os.trans h.os,g.tape.trans h.tape,g.output.trans h.output,Nat.le_trans h.size g.size,fun q hq h1 h2=>(g.block q (Nat.lt_of_lt_of_le hq h.size) h1 h2).trans (h.block q hq h1 h2)⟩
theorem Mv2.of {m k:Nat}{a b:World} (h:Mv m a b):Mv2 m k a b:=⟨h.os,h.tape,h.output,h.size,fun q hq h1 _=>h.block q hq h1⟩
theorem Mv2.upd {m k:Nat}{a b:World} (h:Upd k a b):Mv2 m k a b:=⟨h.os,h.tape,h.output,Nat.le_of_eq h.size.symm,fun q _ _ h2=>h.block q h2⟩
theorem vrep_mv {w w':World}{m B:Nat}{v:JT}{cs:List Value}{p:List Nat} (h:VRep w B v cs p) (hb:Mv m w w') (hm:m < B):VRep w' B v cs p:=h.keep fun b hbp=>hb.block b (h.ge b hbp).2 (by have:=(h.ge b hbp).1;omega)
theorem OI.upd {w w':World}{B k:Nat}{v:Value}{ns:List Int} (h:OI w B v ns) (hu:Upd k w w') (hk:k < B):OI w' B v ns:=mm.row_keep h fun q hq=>hu.block q (by have:=(mm.row_lt h q hq).1;omega)
theorem OI.base {w:World}{B B':Nat}{v:Value}{ns:List Int} (h:OI w B v ns) (hb:B'≤B):OI w B' v ns:=mm.row_mono h hb
def RdPt (w:World) (m k:Nat) (p:Int) (ev:Ev) (l:List UInt8) (r:Bool) (e:Ending) (w':World):Prop :=
 e=.returned (.tuple #[])∧∃ (ev':Ev) (l':List UInt8) (r':Bool),EvS w' k ev'∧EvOk ev'∧RB w' m l' r'∧Mv2 m k w w'∧l'.length≤l.length∧ev'.kind=ev.kind∧(r'=false→r=false∧rdPart p ev l=some (ev',l'))∧(r'=true→r=true∨rdPart p ev l=none)
set_option maxRecDepth 100000 in
set_option maxHeartbeats 12800000 in
theorem rpart_any (JS:SameC) (E:Nat→Value) (m k:Nat) (p:Int) (e:Ev) (l:List UInt8) (r:Bool) (w:World) (h:RB w m l r) (hd:RdE E w m) (hmk:m < k) (hs:EvS w k e) (ho:EvOk e) :
 Calls Tryz.prog 49 #[.pointer (some ⟨m,0,none⟩),.int .i64 p,.pointer (some ⟨k,0,none⟩)] w (RdPt w m k p e l r):=by
 have HMK:=hide hmk;have HO:=hide ho;have HS:=hide hs
 by_cases hp1:p=1
 · subst hp1
   have CC:=hide (rtext_any m l r w h);have RDS:Hid (∀ q,rdT l=some q→rdPart 1 e l=some (({e with mach:=mm.str q.1}:Ev),q.2)):=fun q hq=>by show (rdT l).map _=_;rw [hq];rfl
   have RDN:Hid (rdT l=none→rdPart 1 e l=none):=fun hq=>by show (rdT l).map _=_;rw [hq];rfl
   obtain ⟨pv,vc,fp,hk,hoi0,hvr0,hnd0⟩:=hs;obtain ⟨v0,v1,v2,v3,v4,v5,v6,v7,v8,v9,va,vb,rfl⟩:=hvr0.vr.form;obtain ⟨p0,p1,p2,rfl⟩:=hoi0.sl;rw [evC_eq] at hk;have HKW:Hid (k+1≤w.heap.size):=blk_lt hk;have XK0:=hide hk;have OI0:=hide hoi0;have VR0:=hide hvr0;have ND0:=hide hnd0;clear h hd hmk ho hk hoi0 hvr0 hnd0 JS HS
   go_enter Tryz.func49,Tryz.ntmps49
   go_wp2_with (go_at_call 61;refine (uh CC).mono ?_;rintro e1 u2 ⟨s,l2,r2,rfl,h2,b2,z2,n2,g2,k2⟩
                have XK:=hide ((b2.block _ (blk_lt (uh XK0)) (by have:=uh HMK;omega)).trans (uh XK0));have OI1:=hide ((uh OI0).mv b2 (by have:=uh HMK;omega));have VR1:=hide (vrep_mv (uh VR0) b2 (by have:=uh HMK;omega));obtain ⟨f0,f1,f2,f3,f4,f5,f6,f7,f8,f9,fa,fb,fc,fd,fe,ff,fg⟩:=efrees (uh XK);obtain ⟨y0,y1,y2,y3,y4,y5,y6,y7,y8,y9,ya,yb,yc,yd,ye,yf,yg⟩:=ecells (uh XK);have B2:=hide b2;have H2:=hide h2;have Z2:=hide z2;have N2:=hide n2;have G2:=hide g2;have K2:=hide k2
                clear CC h2 b2 z2 n2 g2 k2)
   refine bodyPost_end (results_none rfl _ _ _) rfl ?_;have hup:=(Upd.setCell k 14 u2 (.string (mm.str s)));have ho:=uh HO;exact ⟨rfl,{e with mach:=mm.str s},l2,r2,⟨(.slice p0 p1 p2),[.int .i64 v0,.bool v1,.bool v2,.string v3,.int .i64 v4,.string v5,.slice v6 v7 v8,.slice v9 va vb],fp,by rw [evC_eq];exact eset1 (uh XK) (.string (mm.str s)),(uh OI1).upd hup (Nat.lt_succ_self k),vrep_upd (uh VR1) hup (Nat.lt_succ_self k),uh ND0⟩,⟨ho.v,ho.n,ho.o,ho.er,ho.ca,by show (mm.str s).size≤_;rw [mm.str_size];have:=uh N2;omega,ho.inp⟩,(uh H2).below (Upd.below hup (Nat.le_refl _)) (uh HMK),(Mv2.of (uh B2)).trans (Mv2.upd hup),uh Z2,rfl,fun q=>⟨(uh G2 q).1,uh RDS _ (uh G2 q).2⟩,fun q=>(uh K2 q).imp id (uh RDN)⟩
 by_cases hp2:p=2
 · subst hp2
   have CC:=hide (rtext_any m l r w h);have RDS:Hid (∀ q,rdT l=some q→rdPart 2 e l=some (({e with inp:=mm.str q.1}:Ev),q.2)):=fun q hq=>by show (rdT l).map _=_;rw [hq];rfl
   have RDN:Hid (rdT l=none→rdPart 2 e l=none):=fun hq=>by show (rdT l).map _=_;rw [hq];rfl
   obtain ⟨pv,vc,fp,hk,hoi0,hvr0,hnd0⟩:=hs;obtain ⟨v0,v1,v2,v3,v4,v5,v6,v7,v8,v9,va,vb,rfl⟩:=hvr0.vr.form;obtain ⟨p0,p1,p2,rfl⟩:=hoi0.sl;rw [evC_eq] at hk;have HKW:Hid (k+1≤w.heap.size):=blk_lt hk;have XK0:=hide hk;have OI0:=hide hoi0;have VR0:=hide hvr0;have ND0:=hide hnd0;clear h hd hmk ho hk hoi0 hvr0 hnd0 JS HS
   go_enter Tryz.func49,Tryz.ntmps49
   go_wp2_with (go_at_call 61;refine (uh CC).mono ?_;rintro e1 u2 ⟨s,l2,r2,rfl,h2,b2,z2,n2,g2,k2⟩
                have XK:=hide ((b2.block _ (blk_lt (uh XK0)) (by have:=uh HMK;omega)).trans (uh XK0));have OI1:=hide ((uh OI0).mv b2 (by have:=uh HMK;omega));have VR1:=hide (vrep_mv (uh VR0) b2 (by have:=uh HMK;omega));obtain ⟨f0,f1,f2,f3,f4,f5,f6,f7,f8,f9,fa,fb,fc,fd,fe,ff,fg⟩:=efrees (uh XK);obtain ⟨y0,y1,y2,y3,y4,y5,y6,y7,y8,y9,ya,yb,yc,yd,ye,yf,yg⟩:=ecells (uh XK);have B2:=hide b2;have H2:=hide h2;have Z2:=hide z2;have N2:=hide n2;have G2:=hide g2;have K2:=hide k2
                clear CC h2 b2 z2 n2 g2 k2)
   refine bodyPost_end (results_none rfl _ _ _) rfl ?_;have hup:=(Upd.setCell k 15 u2 (.string (mm.str s)));have ho:=uh HO;exact ⟨rfl,{e with inp:=mm.str s},l2,r2,⟨(.slice p0 p1 p2),[.int .i64 v0,.bool v1,.bool v2,.string v3,.int .i64 v4,.string v5,.slice v6 v7 v8,.slice v9 va vb],fp,by rw [evC_eq];exact eset2 (uh XK) (.string (mm.str s)),(uh OI1).upd hup (Nat.lt_succ_self k),vrep_upd (uh VR1) hup (Nat.lt_succ_self k),uh ND0⟩,⟨ho.v,ho.n,ho.o,ho.er,ho.ca,ho.ma,by show (mm.str s).size≤_;rw [mm.str_size];have:=uh N2;omega⟩,(uh H2).below (Upd.below hup (Nat.le_refl _)) (uh HMK),(Mv2.of (uh B2)).trans (Mv2.upd hup),uh Z2,rfl,fun q=>⟨(uh G2 q).1,uh RDS _ (uh G2 q).2⟩,fun q=>(uh K2 q).imp id (uh RDN)⟩
 by_cases hp3:p=3
 · subst hp3
   have CC:=hide (rcnt_any m l r 1 65536 (by decide) (by decide) w h);have RDS:Hid (∀ q,rdN 1 65536 l=some q→rdPart 3 e l=some (({e with fuel:=(q.1:Int)}:Ev),q.2)):=fun q hq=>by show (rdN 1 65536 l).map _=_;rw [hq];rfl
   have RDN:Hid (rdN 1 65536 l=none→rdPart 3 e l=none):=fun hq=>by show (rdN 1 65536 l).map _=_;rw [hq];rfl
   obtain ⟨pv,vc,fp,hk,hoi0,hvr0,hnd0⟩:=hs;obtain ⟨v0,v1,v2,v3,v4,v5,v6,v7,v8,v9,va,vb,rfl⟩:=hvr0.vr.form;obtain ⟨p0,p1,p2,rfl⟩:=hoi0.sl;rw [evC_eq] at hk;have HKW:Hid (k+1≤w.heap.size):=blk_lt hk;have XK0:=hide hk;have OI0:=hide hoi0;have VR0:=hide hvr0;have ND0:=hide hnd0;clear h hd hmk ho hk hoi0 hvr0 hnd0 JS HS
   go_enter Tryz.func49,Tryz.ntmps49
   go_wp2_with (go_at_call 62;refine (uh CC).mono ?_;rintro e1 u2 ⟨n,l2,r2,rfl,h2,b2,z2,n2,g2,k2⟩
                have XK:=hide ((b2.block _ (blk_lt (uh XK0)) (by have:=uh HMK;omega)).trans (uh XK0));have OI1:=hide ((uh OI0).mv b2 (by have:=uh HMK;omega));have VR1:=hide (vrep_mv (uh VR0) b2 (by have:=uh HMK;omega));obtain ⟨f0,f1,f2,f3,f4,f5,f6,f7,f8,f9,fa,fb,fc,fd,fe,ff,fg⟩:=efrees (uh XK);obtain ⟨y0,y1,y2,y3,y4,y5,y6,y7,y8,y9,ya,yb,yc,yd,ye,yf,yg⟩:=ecells (uh XK);have B2:=hide b2;have H2:=hide h2;have Z2:=hide z2;have N2:=hide n2;have G2:=hide g2;have K2:=hide k2
                clear CC h2 b2 z2 n2 g2 k2)
   refine bodyPost_end (results_none rfl _ _ _) rfl ?_;have hup:=(Upd.setCell k 16 u2 (.int .i64 (n:Int)));have ho:=uh HO;exact ⟨rfl,{e with fuel:=(n:Int)},l2,r2,⟨(.slice p0 p1 p2),[.int .i64 v0,.bool v1,.bool v2,.string v3,.int .i64 v4,.string v5,.slice v6 v7 v8,.slice v9 va vb],fp,by rw [evC_eq];exact eset3 (uh XK) (.int .i64 (n:Int)),(uh OI1).upd hup (Nat.lt_succ_self k),vrep_upd (uh VR1) hup (Nat.lt_succ_self k),uh ND0⟩,⟨ho.v,ho.n,ho.o,ho.er,ho.ca,ho.ma,ho.inp⟩,(uh H2).below (Upd.below hup (Nat.le_refl _)) (uh HMK),(Mv2.of (uh B2)).trans (Mv2.upd hup),uh Z2,rfl,fun q=>⟨(uh G2 q).1,uh RDS _ (uh G2 q).2⟩,fun q=>(uh K2 q).imp id (uh RDN)⟩
 by_cases hp4:p=4
 · subst hp4
   have CC:=hide (rplace_any m l r w h);have RDS:Hid (∀ q,rdP l=some q→rdPart 4 e l=some (({e with ns:=q.1.map Int.ofNat}:Ev),q.2)):=fun q hq=>by show (rdP l).map _=_;rw [hq];rfl
   have RDN:Hid (rdP l=none→rdPart 4 e l=none):=fun hq=>by show (rdP l).map _=_;rw [hq];rfl
   obtain ⟨pv,vc,fp,hk,hoi0,hvr0,hnd0⟩:=hs;obtain ⟨v0,v1,v2,v3,v4,v5,v6,v7,v8,v9,va,vb,rfl⟩:=hvr0.vr.form;obtain ⟨p0,p1,p2,rfl⟩:=hoi0.sl;rw [evC_eq] at hk;have HKW:Hid (k+1≤w.heap.size):=blk_lt hk;have XK0:=hide hk;have OI0:=hide hoi0;have VR0:=hide hvr0;have ND0:=hide hnd0;clear h hd hmk ho hk hoi0 hvr0 hnd0 JS HS
   go_enter Tryz.func49,Tryz.ntmps49
   go_wp2_with (go_at_call 63;refine (uh CC).mono ?_;rintro e1 u2 ⟨pw,ns,l2,r2,rfl,hoi,h2,b2,z2,n2,nb2,g2,k2⟩
                obtain ⟨q0,q1,q2,rfl⟩:=hoi.sl;have XK:=hide ((b2.block _ (blk_lt (uh XK0)) (by have:=uh HMK;omega)).trans (uh XK0));have OI1:=hide ((uh OI0).mv b2 (by have:=uh HMK;omega));have VR1:=hide (vrep_mv (uh VR0) b2 (by have:=uh HMK;omega));obtain ⟨f0,f1,f2,f3,f4,f5,f6,f7,f8,f9,fa,fb,fc,fd,fe,ff,fg⟩:=efrees (uh XK);obtain ⟨y0,y1,y2,y3,y4,y5,y6,y7,y8,y9,ya,yb,yc,yd,ye,yf,yg⟩:=ecells (uh XK);have B2:=hide b2;have H2:=hide h2;have Z2:=hide z2;have N2:=hide n2;have G2:=hide g2;have K2:=hide k2;have OI2:=hide hoi;have NB:=hide nb2
                clear CC h2 b2 z2 n2 g2 k2 hoi nb2)
   refine bodyPost_end (results_none rfl _ _ _) rfl ?_;have hup:=(Upd.setCell k 1 u2 (.slice q0 q1 q2));have ho:=uh HO;exact ⟨rfl,{e with ns:=ns.map Int.ofNat},l2,r2,⟨(.slice q0 q1 q2),[.int .i64 v0,.bool v1,.bool v2,.string v3,.int .i64 v4,.string v5,.slice v6 v7 v8,.slice v9 va vb],fp,by rw [evC_eq];exact eset4 (uh XK) (.slice q0 q1 q2),((uh OI2).base (uh HKW)).upd hup (Nat.lt_succ_self k),vrep_upd (uh VR1) hup (Nat.lt_succ_self k),uh ND0⟩,⟨ho.v,by show (ns.map Int.ofNat).length≤_;rw [List.length_map];have:=uh N2;omega,fun x hx=>by obtain ⟨y,hy,rfl⟩:=List.mem_map.1 hx;have:=uh NB y hy;exact ⟨by show _≤(y:Int);omega,by show (y:Int)≤_;omega⟩,ho.er,ho.ca,ho.ma,ho.inp⟩,(uh H2).below (Upd.below hup (Nat.le_refl _)) (uh HMK),(Mv2.of (uh B2)).trans (Mv2.upd hup),uh Z2,rfl,fun q=>⟨(uh G2 q).1,uh RDS _ (uh G2 q).2⟩,fun q=>(uh K2 q).imp id (uh RDN)⟩
 by_cases hp5:p=5
 · subst hp5
   have CC:=hide (rout_any JS E m l r w h hd);have RDS:Hid (∀ q,rdO l=some q→rdPart 5 e l=some (({e with fine:=q.1,v:=q.2.1,er:=mm.str q.2.2.1,ca:=mm.str q.2.2.2.1}:Ev),q.2.2.2.2)):=fun q hq=>by show (rdO l).map _=_;rw [hq];rfl
   have RDN:Hid (rdO l=none→rdPart 5 e l=none):=fun hq=>by show (rdO l).map _=_;rw [hq];rfl
   obtain ⟨pv,vc,fp,hk,hoi0,hvr0,hnd0⟩:=hs;obtain ⟨v0,v1,v2,v3,v4,v5,v6,v7,v8,v9,va,vb,rfl⟩:=hvr0.vr.form;obtain ⟨p0,p1,p2,rfl⟩:=hoi0.sl;rw [evC_eq] at hk;have HKW:Hid (k+1≤w.heap.size):=blk_lt hk;have XK0:=hide hk;have OI0:=hide hoi0;have VR0:=hide hvr0;have ND0:=hide hnd0;clear h hd hmk ho hk hoi0 hvr0 hnd0 JS HS
   go_enter Tryz.func49,Tryz.ntmps49
   go_wp2_with (go_at_call 64;refine (uh CC).mono ?_;rintro e1 u2 ⟨fine,v,wc,gp,er,ca,l2,r2,rfl,vp,nd,vk,h2,b2,z2,n2,nc2,g2,k2⟩
                obtain ⟨n0,n1,n2v,n3,n4,n5,n6,n7,n8,n9,na,nb,rfl⟩:=vp.vr.form;have XK:=hide ((b2.block _ (blk_lt (uh XK0)) (by have:=uh HMK;omega)).trans (uh XK0));have OI1:=hide ((uh OI0).mv b2 (by have:=uh HMK;omega));have VR1:=hide (vrep_mv (uh VR0) b2 (by have:=uh HMK;omega));obtain ⟨f0,f1,f2,f3,f4,f5,f6,f7,f8,f9,fa,fb,fc,fd,fe,ff,fg⟩:=efrees (uh XK);obtain ⟨y0,y1,y2,y3,y4,y5,y6,y7,y8,y9,ya,yb,yc,yd,ye,yf,yg⟩:=ecells (uh XK);have B2:=hide b2;have H2:=hide h2;have Z2:=hide z2;have N2:=hide n2;have G2:=hide g2;have K2:=hide k2;have VP:=hide vp;have ND:=hide nd;have VK:=hide vk;have N3:=hide nc2
                clear CC h2 b2 z2 n2 g2 k2 vp nd vk nc2)
   refine bodyPost_end (results_none rfl _ _ _) rfl ?_;have hup:=(((((((((((Upd.setCell k 3 u2 (.bool fine)).trans (Upd.setCell k 4 _ (.int .i64 n0))).trans (Upd.setCell k 5 _ (.bool n1))).trans (Upd.setCell k 6 _ (.bool n2v))).trans (Upd.setCell k 7 _ (.string n3))).trans (Upd.setCell k 8 _ (.int .i64 n4))).trans (Upd.setCell k 9 _ (.string n5))).trans (Upd.setCell k 10 _ (.slice n6 n7 n8))).trans (Upd.setCell k 11 _ (.slice n9 na nb))).trans (Upd.setCell k 12 _ (.string (mm.str er)))).trans (Upd.setCell k 13 _ (.string (mm.str ca))));have ho:=uh HO;exact ⟨rfl,{e with fine:=fine,v:=v,er:=mm.str er,ca:=mm.str ca},l2,r2,⟨(.slice p0 p1 p2),[.int .i64 n0,.bool n1,.bool n2v,.string n3,.int .i64 n4,.string n5,.slice n6 n7 n8,.slice n9 na nb],gp,by rw [evC_eq];exact eset5 (uh XK) (.bool fine) (.int .i64 n0) (.bool n1) (.bool n2v) (.string n3) (.int .i64 n4) (.string n5) (.slice n6 n7 n8) (.slice n9 na nb) (.string (mm.str er)) (.string (mm.str ca)),(uh OI1).upd hup (Nat.lt_succ_self k),vrep_upd ((uh VP).base (uh HKW)) hup (Nat.lt_succ_self k),uh ND⟩,⟨uh VK,ho.n,ho.o,by show (mm.str er).size≤_;rw [mm.str_size];have:=uh N2;omega,by show (mm.str ca).size≤_;rw [mm.str_size];have:=uh N3;omega,ho.ma,ho.inp⟩,(uh H2).below (Upd.below hup (Nat.le_refl _)) (uh HMK),(Mv2.of (uh B2)).trans (Mv2.upd hup),uh Z2,rfl,fun q=>⟨(uh G2 q).1,uh RDS _ (uh G2 q).2⟩,fun q=>(uh K2 q).imp id (uh RDN)⟩
 by_cases hp6:p=6
 · subst hp6
   have CC:=hide (rcnt_any m l r 0 1125899906842624 (by decide) (by decide) w h);have RDS:Hid (∀ q,rdN 0 1125899906842624 l=some q→rdPart 6 e l=some (({e with time:=(q.1:Int)}:Ev),q.2)):=fun q hq=>by show (rdN 0 1125899906842624 l).map _=_;rw [hq];rfl
   have RDN:Hid (rdN 0 1125899906842624 l=none→rdPart 6 e l=none):=fun hq=>by show (rdN 0 1125899906842624 l).map _=_;rw [hq];rfl
   obtain ⟨pv,vc,fp,hk,hoi0,hvr0,hnd0⟩:=hs;obtain ⟨v0,v1,v2,v3,v4,v5,v6,v7,v8,v9,va,vb,rfl⟩:=hvr0.vr.form;obtain ⟨p0,p1,p2,rfl⟩:=hoi0.sl;rw [evC_eq] at hk;have HKW:Hid (k+1≤w.heap.size):=blk_lt hk;have XK0:=hide hk;have OI0:=hide hoi0;have VR0:=hide hvr0;have ND0:=hide hnd0;clear h hd hmk ho hk hoi0 hvr0 hnd0 JS HS
   go_enter Tryz.func49,Tryz.ntmps49
   go_wp2_with (go_at_call 62;refine (uh CC).mono ?_;rintro e1 u2 ⟨n,l2,r2,rfl,h2,b2,z2,n2,g2,k2⟩
                have XK:=hide ((b2.block _ (blk_lt (uh XK0)) (by have:=uh HMK;omega)).trans (uh XK0));have OI1:=hide ((uh OI0).mv b2 (by have:=uh HMK;omega));have VR1:=hide (vrep_mv (uh VR0) b2 (by have:=uh HMK;omega));obtain ⟨f0,f1,f2,f3,f4,f5,f6,f7,f8,f9,fa,fb,fc,fd,fe,ff,fg⟩:=efrees (uh XK);obtain ⟨y0,y1,y2,y3,y4,y5,y6,y7,y8,y9,ya,yb,yc,yd,ye,yf,yg⟩:=ecells (uh XK);have B2:=hide b2;have H2:=hide h2;have Z2:=hide z2;have N2:=hide n2;have G2:=hide g2;have K2:=hide k2
                clear CC h2 b2 z2 n2 g2 k2)
   refine bodyPost_end (results_none rfl _ _ _) rfl ?_;have hup:=(Upd.setCell k 2 u2 (.int .i64 (n:Int)));have ho:=uh HO;exact ⟨rfl,{e with time:=(n:Int)},l2,r2,⟨(.slice p0 p1 p2),[.int .i64 v0,.bool v1,.bool v2,.string v3,.int .i64 v4,.string v5,.slice v6 v7 v8,.slice v9 va vb],fp,by rw [evC_eq];exact eset6 (uh XK) (.int .i64 (n:Int)),(uh OI1).upd hup (Nat.lt_succ_self k),vrep_upd (uh VR1) hup (Nat.lt_succ_self k),uh ND0⟩,⟨ho.v,ho.n,ho.o,ho.er,ho.ca,ho.ma,ho.inp⟩,(uh H2).below (Upd.below hup (Nat.le_refl _)) (uh HMK),(Mv2.of (uh B2)).trans (Mv2.upd hup),uh Z2,rfl,fun q=>⟨(uh G2 q).1,uh RDS _ (uh G2 q).2⟩,fun q=>(uh K2 q).imp id (uh RDN)⟩
 have RDS:Hid (rdPart p e l=some (e,l)):=by
  show rdPart p e l=_;unfold rdPart;rw [if_neg hp1,if_neg hp2,if_neg hp3,if_neg hp4,if_neg hp5,if_neg hp6]
 have hq1:(p == 1)=false:=by rw [beq_eq_false_iff_ne];exact hp1
 have hq2:(p == 2)=false:=by rw [beq_eq_false_iff_ne];exact hp2
 have hq3:(p == 3)=false:=by rw [beq_eq_false_iff_ne];exact hp3
 have hq4:(p == 4)=false:=by rw [beq_eq_false_iff_ne];exact hp4
 have hq5:(p == 5)=false:=by rw [beq_eq_false_iff_ne];exact hp5
 have hq6:(p == 6)=false:=by rw [beq_eq_false_iff_ne];exact hp6
 have H1:=hide h;clear h hd hmk hs ho JS hp1 hp2 hp3 hp4 hp5 hp6
 go_enter Tryz.func49,Tryz.ntmps49
 go_wp2;refine bodyPost_end (results_none rfl _ _ _) rfl ?_;exact ⟨rfl,e,l,r,uh HS,uh HO,uh H1,Mv2.refl _ _ _,Nat.le_refl _,rfl,fun q=>⟨q,uh RDS⟩,fun q=>.inl q⟩
def set17 (w:World) (m:Nat) (a0 a1 a2 a3 a4 a5 a6 a7 a8 a9 aa ab ac ad ae af ag:Value):World:=(((((((((((((((((w.setCell ⟨m,0,none⟩ a0).setCell ⟨m,1,none⟩ a1).setCell ⟨m,2,none⟩ a2).setCell ⟨m,3,none⟩ a3).setCell ⟨m,4,none⟩ a4).setCell ⟨m,5,none⟩ a5).setCell ⟨m,6,none⟩ a6).setCell ⟨m,7,none⟩ a7).setCell ⟨m,8,none⟩ a8).setCell ⟨m,9,none⟩ a9).setCell ⟨m,10,none⟩ aa).setCell ⟨m,11,none⟩ ab).setCell ⟨m,12,none⟩ ac).setCell ⟨m,13,none⟩ ad).setCell ⟨m,14,none⟩ ae).setCell ⟨m,15,none⟩ af).setCell ⟨m,16,none⟩ ag)
def hdB:List UInt8→Int
 | []=>0
 | c::_=>c.toNat
theorem next_any (m:Nat) (l:List UInt8) (r:Bool) (w:World) (h:RB w m l r) :
 Calls Tryz.prog 48 #[.pointer (some ⟨m,0,none⟩)] w fun e w'=>∃ (c:Int) (l':List UInt8) (r':Bool),e=.returned (.int .u8 c)∧RB w' m l' r'∧Mv m w w'∧((0≤c∧c < 256)∧c=hdB l)∧l'.length≤l.length∧(r'=false→r=false∧l=UInt8.ofNat c.toNat::l')∧(r'=true→r=true∨l=[]):=by
 cases l with
 | nil =>
   refine (next_nil m r w h).mono ?_;rintro e w' ⟨rfl,h1,h2⟩;exact ⟨0,[],true,rfl,h1,h2,⟨⟨by omega,by omega⟩,rfl⟩,Nat.le_refl _,fun q=>Bool.noConfusion q,fun _=>.inr rfl⟩
 | cons c t =>
   refine (next_cons m c t r w h).mono ?_;rintro e w' ⟨rfl,h1,h2⟩;have:=c.toNat_lt;exact ⟨c.toNat,t,r,rfl,h1,h2,⟨⟨by omega,by omega⟩,rfl⟩,by simp,fun q=>⟨q,by rw [Int.toNat_natCast,UInt8.ofNat_toNat]⟩,fun q=>.inl q⟩
def ev0 (c:Int):Ev:=⟨c,[],0,false,null,⟨#[]⟩,⟨#[]⟩,⟨#[]⟩,⟨#[]⟩,0⟩
def rdParts:List Int→Ev→List UInt8→Option (Ev × List UInt8)
 | [],e,l=>some (e,l)
 | p::ps,e,l=>match rdPart p e l with
   | some (e',t)=>rdParts ps e' t
   | none=>none
def rdE:List UInt8→Option (Ev × List UInt8)
 | []=>none
 | c::t=>if 1≤(c.toNat:Int)∧(c.toNat:Int)≤7 then rdParts [pk c.toNat 0,pk c.toNat 1,pk c.toNat 2] (ev0 c.toNat) t else none
theorem rdE_cons {c:Int}{t:List UInt8} (h0:0≤c) (h1:c < 256):rdE (UInt8.ofNat c.toNat::t)=if 1≤c∧c≤7 then rdParts [pk c 0,pk c 1,pk c 2] (ev0 c) t else none:=by
 have e:((UInt8.ofNat c.toNat).toNat:Int)=c:=by rw [toNat_of (by omega)];omega
 show (if 1≤((UInt8.ofNat c.toNat).toNat:Int)∧((UInt8.ofNat c.toNat).toNat:Int)≤7 then rdParts [pk ((UInt8.ofNat c.toNat).toNat:Int) 0,pk ((UInt8.ofNat c.toNat).toNat:Int) 1,pk ((UInt8.ofNat c.toNat).toNat:Int) 2] (ev0 ((UInt8.ofNat c.toNat).toNat:Int)) t else none)=_;rw [e]
def RdEv (w:World) (m:Nat) (l:List UInt8) (r:Bool) (e:Ending) (w':World):Prop :=
 ∃ (ev:Ev) (pv:Value) (vc:List Value) (fp:List Nat) (l':List UInt8) (r':Bool),e=.returned (.agg (evC ev pv vc).toArray)∧OI w' w.heap.size pv ev.ns∧VRep w' w.heap.size ev.v vc fp∧fp.Nodup∧EvOk ev∧RB w' m l' r'∧Mv m w w'∧l'.length≤l.length∧(r'=false→r=false∧rdE l=some (ev,l'))∧(r'=true→r=true∨rdE l=none)
theorem ev0_ok (c:Int):EvOk (ev0 c):=⟨vok_null,by show (0:Nat)≤_;omega,(fun n hn=>by cases hn),(by show (0:Nat)≤4000000000000000000;omega),(by show (0:Nat)≤4000000000000000000;omega),(by show (0:Nat)≤4000000000000000000;omega),(by show (0:Nat)≤4000000000000000000;omega)⟩
theorem str_id (s:List UInt8):(mm.str s).data.toList=s:=by simp [mm.str]
theorem ofNat_id (l:List Nat):(l.map Int.ofNat).map Int.toNat=l:=by
 rw [List.map_map]
 conv=>rhs;rw [← List.map_id l]
 apply List.map_congr_left;intro a _;rfl
theorem pV {l t:List UInt8}{v:JT} (h:rdV l=some (v,t)):l=txtB (prt (nrm v))++t∧VSound v:=by
 unfold rdV at h
 split at h
 · rename_i s t' hs
   split at h
   · rename_i v' hv
     split at h
     · rename_i hp
       simp only [Option.some.injEq,Prod.mk.injEq] at h;obtain ⟨rfl,rfl⟩:=h;obtain ⟨e1,e2⟩:=rdT_inv hs;obtain ⟨_,hn,_⟩:=vok_parse hv;obtain ⟨hpf,_⟩:=parseJ_good hv;refine ⟨by rw [hn,hp];exact e1,by have:=pf_dpt hpf;omega,by rw [hn,hp];exact e2⟩
     · cases h
   · cases h
 · cases h
theorem pF {l t s1 s2:List UInt8} (h:rdF l=some (s1,s2,t)):l=txtB s1++txtB s2++t∧OkOut false null (mm.str s1) (mm.str s2)∧s1.length≤1048576∧s2.length≤1048576:=by
 unfold rdF at h
 split at h
 · rename_i a u ha
   split at h
   · rename_i b w hb
     split at h
     · rename_i hc
       simp only [Option.some.injEq,Prod.mk.injEq] at h;obtain ⟨rfl,rfl,rfl⟩:=h;obtain ⟨rfl,n1⟩:=rdT_inv ha;obtain ⟨rfl,n2⟩:=rdT_inv hb;exact ⟨by rw [List.append_assoc],(ok_fail _ _).2 hc,n1,n2⟩
     · cases h
   · cases h
 · cases h
theorem pO {l t er ca:List UInt8}{fine:Bool}{v:JT} (h:rdO l=some (fine,v,er,ca,t)):l=outB fine v (mm.str er) (mm.str ca)++t∧OkOut fine v (mm.str er) (mm.str ca):=by
 cases l with
 | nil=>cases h
 | cons c l =>
   unfold rdO at h;simp only at h
   split at h
   · rename_i hc
     cases hv:rdV l with
     | none=>rw [hv] at h;cases h
     | some p =>
       obtain ⟨v',t'⟩:=p;rw [hv] at h;simp only [Option.map_some,Option.some.injEq,Prod.mk.injEq] at h;obtain ⟨rfl,rfl,rfl,rfl,rfl⟩:=h;obtain ⟨rfl,hs⟩:=pV hv;exact ⟨by rw [hc];rfl,.inl ⟨rfl,rfl,rfl,hs⟩⟩
   · split at h
     · rename_i hc
       cases hv:rdF l with
       | none=>rw [hv] at h;cases h
       | some p =>
         obtain ⟨s1,s2,t'⟩:=p;rw [hv] at h;simp only [Option.map_some,Option.some.injEq,Prod.mk.injEq] at h;obtain ⟨rfl,rfl,rfl,rfl,rfl⟩:=h;obtain ⟨rfl,ho,_⟩:=pF hv;refine ⟨?_,ho⟩;rw [hc];unfold outB;rw [if_neg (by decide),str_id,str_id];rfl
     · cases h
theorem parts_cons {p:Int}{ps:List Int}{e:Ev}{l:List UInt8}{r:Ev × List UInt8} (h:rdParts (p::ps) e l=some r):∃ e' t,rdPart p e l=some (e',t)∧rdParts ps e' t=some r:=by
 unfold rdParts at h
 split at h
 · rename_i e' t he
   exact ⟨e',t,he,h⟩
 · cases h
theorem parts_nil {e:Ev}{l:List UInt8}{r:Ev × List UInt8} (h:rdParts [] e l=some r):r=(e,l):=by
 unfold rdParts at h
 cases h
 rfl
theorem i0 {e e':Ev}{l t:List UInt8} (h:rdPart 0 e l=some (e',t)):e'=e∧t=l:=by
 have h2:some (e,l)=some (e',t):=h;simp only [Option.some.injEq,Prod.mk.injEq] at h2;exact ⟨h2.1.symm,h2.2.symm⟩
theorem i1 {e e':Ev}{l t:List UInt8} (h:rdPart 1 e l=some (e',t)):∃ s,rdT l=some (s,t)∧e'={e with mach:=mm.str s}:=by
 have h2:(rdT l).map (fun q=>(({e with mach:=mm.str q.1}:Ev),q.2))=some (e',t):=h;obtain ⟨⟨s,u⟩,hs,he⟩:=Option.map_eq_some_iff.1 h2;simp only [Prod.mk.injEq] at he;obtain ⟨rfl,rfl⟩:=he;exact ⟨s,hs,rfl⟩
theorem i2 {e e':Ev}{l t:List UInt8} (h:rdPart 2 e l=some (e',t)):∃ s,rdT l=some (s,t)∧e'={e with inp:=mm.str s}:=by
 have h2:(rdT l).map (fun q=>(({e with inp:=mm.str q.1}:Ev),q.2))=some (e',t):=h;obtain ⟨⟨s,u⟩,hs,he⟩:=Option.map_eq_some_iff.1 h2;simp only [Prod.mk.injEq] at he;obtain ⟨rfl,rfl⟩:=he;exact ⟨s,hs,rfl⟩
theorem i3 {e e':Ev}{l t:List UInt8} (h:rdPart 3 e l=some (e',t)):∃ n,rdN 1 65536 l=some (n,t)∧e'={e with fuel:=(n:Int)}:=by
 have h2:(rdN 1 65536 l).map (fun q=>(({e with fuel:=(q.1:Int)}:Ev),q.2))=some (e',t):=h;obtain ⟨⟨s,u⟩,hs,he⟩:=Option.map_eq_some_iff.1 h2;simp only [Prod.mk.injEq] at he;obtain ⟨rfl,rfl⟩:=he;exact ⟨s,hs,rfl⟩
theorem i4 {e e':Ev}{l t:List UInt8} (h:rdPart 4 e l=some (e',t)):∃ ns,rdP l=some (ns,t)∧e'={e with ns:=ns.map Int.ofNat}:=by
 have h2:(rdP l).map (fun q=>(({e with ns:=q.1.map Int.ofNat}:Ev),q.2))=some (e',t):=h;obtain ⟨⟨s,u⟩,hs,he⟩:=Option.map_eq_some_iff.1 h2;simp only [Prod.mk.injEq] at he;obtain ⟨rfl,rfl⟩:=he;exact ⟨s,hs,rfl⟩
theorem i5 {e e':Ev}{l t:List UInt8} (h:rdPart 5 e l=some (e',t)):∃ fine v er ca,rdO l=some (fine,v,er,ca,t)∧e'={e with fine:=fine,v:=v,er:=mm.str er,ca:=mm.str ca}:=by
 have h2:(rdO l).map (fun q=>(({e with fine:=q.1,v:=q.2.1,er:=mm.str q.2.2.1,ca:=mm.str q.2.2.2.1}:Ev),q.2.2.2.2))=some (e',t):=h;obtain ⟨⟨a,b,c,d,u⟩,hs,he⟩:=Option.map_eq_some_iff.1 h2;simp only [Prod.mk.injEq] at he;obtain ⟨rfl,rfl⟩:=he;exact ⟨a,b,c,d,hs,rfl⟩
theorem i6 {e e':Ev}{l t:List UInt8} (h:rdPart 6 e l=some (e',t)):∃ n,rdN 0 1125899906842624 l=some (n,t)∧e'={e with time:=(n:Int)}:=by
 have h2:(rdN 0 1125899906842624 l).map (fun q=>(({e with time:=(q.1:Int)}:Ev),q.2))=some (e',t):=h;obtain ⟨⟨s,u⟩,hs,he⟩:=Option.map_eq_some_iff.1 h2;simp only [Prod.mk.injEq] at he;obtain ⟨rfl,rfl⟩:=he;exact ⟨s,hs,rfl⟩
theorem okP_of {ns:List Nat} (h1:ns.length≤192) (h2:∀ n∈ns,n≤2147483647):OkP (ns.map Int.ofNat):=by
 refine ⟨by rw [List.length_map];exact h1,fun n hn=>?_⟩;obtain ⟨m,hm,rfl⟩:=List.mem_map.1 hn;have:=h2 m hm;exact ⟨by show (0:Int)≤(m:Int);omega,by show (m:Int)≤_;omega⟩
theorem evB_of {e:Ev}{k p0 p1 p2:Int} (hk:e.kind=k) (h0:pk k 0=p0) (h1:pk k 1=p1) (h2:pk k 2=p2):evB e=UInt8.ofNat k.toNat::(partB p0 e++(partB p1 e++(partB p2 e++[]))):=by
 unfold evB;rw [hk,h0,h1,h2];rfl
theorem evOk_of {e:Ev}{k p0 p1 p2:Int} (hk:e.kind=k) (h0:pk k 0=p0) (h1:pk k 1=p1) (h2:pk k 2=p2) (hr:1≤k∧k≤7) (a:partOk p0 e) (b:partOk p1 e) (c:partOk p2 e):evOk e:=by
 unfold evOk;rw [hk,h0,h1,h2];refine ⟨hr,fun p hp=>?_⟩;simp at hp
 rcases hp with rfl|rfl|rfl
 · exact a
 · exact b
 · exact c
theorem ok0 (e:Ev):partOk 0 e:=by simp [partOk]
theorem b0 (e:Ev):partB 0 e=[]:=rfl
theorem rdE_inv {b t:List UInt8}{d:Ev} (h:rdE b=some (d,t)):b=evB d++t∧evOk d:=by
 cases b with
 | nil=>cases h
 | cons c l =>
   have h2:(if 1≤(c.toNat:Int)∧(c.toNat:Int)≤7 then rdParts [pk c.toNat 0,pk c.toNat 1,pk c.toNat 2] (ev0 c.toNat) l else none)=some (d,t):=h
   by_cases hk:1≤(c.toNat:Int)∧(c.toNat:Int)≤7
   · rw [if_pos hk] at h2
     clear h
     have hc:c=1∨c=2∨c=3∨c=4∨c=5∨c=6∨c=7:=by
      have h1:c.toNat=1∨c.toNat=2∨c.toNat=3∨c.toNat=4∨c.toNat=5∨c.toNat=6∨c.toNat=7:=by omega
      rcases h1 with q|q|q|q|q|q|q
      · exact .inl (UInt8.toNat_inj.1 q)
      · exact .inr (.inl (UInt8.toNat_inj.1 q))
      · exact .inr (.inr (.inl (UInt8.toNat_inj.1 q)))
      · exact .inr (.inr (.inr (.inl (UInt8.toNat_inj.1 q))))
      · exact .inr (.inr (.inr (.inr (.inl (UInt8.toNat_inj.1 q)))))
      · exact .inr (.inr (.inr (.inr (.inr (.inl (UInt8.toNat_inj.1 q))))))
      · exact .inr (.inr (.inr (.inr (.inr (.inr (UInt8.toNat_inj.1 q))))))
     clear hk
     rcases hc with rfl|rfl|rfl|rfl|rfl|rfl|rfl
     · have h':rdParts [1,2,3] (ev0 1) l=some (d,t):=h2
       clear h2;obtain ⟨e1,t1,a1,h'⟩:=parts_cons h';obtain ⟨e2,t2,a2,h'⟩:=parts_cons h';obtain ⟨e3,t3,a3,h'⟩:=parts_cons h';have h'':=parts_nil h';simp only [Prod.mk.injEq] at h'';obtain ⟨rfl,rfl⟩:=h'';obtain ⟨s1,r1,rfl⟩:=i1 a1;obtain ⟨w1,y1⟩:=rdT_inv r1;obtain ⟨s2,r2,rfl⟩:=i2 a2;obtain ⟨w2,y2⟩:=rdT_inv r2;obtain ⟨n3,r3,rfl⟩:=i3 a3;obtain ⟨w3,y3,z3⟩:=rdN_inv r3;refine ⟨?_,evOk_of (k:=1) rfl (by decide) (by decide) (by decide) (by decide) ((part_ok1 _).2 (by show (mm.str s1).size≤_;rw [mm.str_size];exact y1)) ((part_ok2 _).2 (by show (mm.str s2).size≤_;rw [mm.str_size];exact y2)) ((part_ok3 _).2 ⟨by show (1:Int)≤(n3:Int);omega,by show (n3:Int)≤65536;omega⟩)⟩;rw [evB_of (k:=1) (p0:=1) (p1:=2) (p2:=3) rfl (by decide) (by decide) (by decide),part_b1,part_b2,part_b3,w1,w2,w3];dsimp only;rw [str_id,str_id,Int.toNat_natCast];simp
     · have h':rdParts [4,0,0] (ev0 2) l=some (d,t):=h2
       clear h2;obtain ⟨e1,t1,a1,h'⟩:=parts_cons h';obtain ⟨e2,t2,a2,h'⟩:=parts_cons h';obtain ⟨e3,t3,a3,h'⟩:=parts_cons h';have h'':=parts_nil h';simp only [Prod.mk.injEq] at h'';obtain ⟨rfl,rfl⟩:=h'';obtain ⟨n1,r1,rfl⟩:=i4 a1;obtain ⟨w1,y1,z1⟩:=rdP_inv r1;obtain ⟨rfl,rfl⟩:=i0 a2;obtain ⟨rfl,rfl⟩:=i0 a3;refine ⟨?_,evOk_of (k:=2) rfl (by decide) (by decide) (by decide) (by decide) ((part_ok4 _).2 (okP_of y1 z1)) (ok0 _) (ok0 _)⟩;rw [evB_of (k:=2) (p0:=4) (p1:=0) (p2:=0) rfl (by decide) (by decide) (by decide),part_b4,b0,w1];dsimp only;rw [ofNat_id];simp
     · have h':rdParts [4,0,0] (ev0 3) l=some (d,t):=h2
       clear h2;obtain ⟨e1,t1,a1,h'⟩:=parts_cons h';obtain ⟨e2,t2,a2,h'⟩:=parts_cons h';obtain ⟨e3,t3,a3,h'⟩:=parts_cons h';have h'':=parts_nil h';simp only [Prod.mk.injEq] at h'';obtain ⟨rfl,rfl⟩:=h'';obtain ⟨n1,r1,rfl⟩:=i4 a1;obtain ⟨w1,y1,z1⟩:=rdP_inv r1;obtain ⟨rfl,rfl⟩:=i0 a2;obtain ⟨rfl,rfl⟩:=i0 a3;refine ⟨?_,evOk_of (k:=3) rfl (by decide) (by decide) (by decide) (by decide) ((part_ok4 _).2 (okP_of y1 z1)) (ok0 _) (ok0 _)⟩;rw [evB_of (k:=3) (p0:=4) (p1:=0) (p2:=0) rfl (by decide) (by decide) (by decide),part_b4,b0,w1];dsimp only;rw [ofNat_id];simp
     · have h':rdParts [4,5,0] (ev0 4) l=some (d,t):=h2
       clear h2;obtain ⟨e1,t1,a1,h'⟩:=parts_cons h';obtain ⟨e2,t2,a2,h'⟩:=parts_cons h';obtain ⟨e3,t3,a3,h'⟩:=parts_cons h';have h'':=parts_nil h';simp only [Prod.mk.injEq] at h'';obtain ⟨rfl,rfl⟩:=h'';obtain ⟨n1,r1,rfl⟩:=i4 a1;obtain ⟨w1,y1,z1⟩:=rdP_inv r1;obtain ⟨fi,v,er,ca,r2,rfl⟩:=i5 a2;obtain ⟨w2,y2⟩:=pO r2;obtain ⟨rfl,rfl⟩:=i0 a3;refine ⟨?_,evOk_of (k:=4) rfl (by decide) (by decide) (by decide) (by decide) ((part_ok4 _).2 (okP_of y1 z1)) ((part_ok5 _).2 y2) (ok0 _)⟩;rw [evB_of (k:=4) (p0:=4) (p1:=5) (p2:=0) rfl (by decide) (by decide) (by decide),part_b4,part_b5,b0,w1,w2];dsimp only;rw [ofNat_id];simp
     · have h':rdParts [4,6,0] (ev0 5) l=some (d,t):=h2
       clear h2;obtain ⟨e1,t1,a1,h'⟩:=parts_cons h';obtain ⟨e2,t2,a2,h'⟩:=parts_cons h';obtain ⟨e3,t3,a3,h'⟩:=parts_cons h';have h'':=parts_nil h';simp only [Prod.mk.injEq] at h'';obtain ⟨rfl,rfl⟩:=h'';obtain ⟨n1,r1,rfl⟩:=i4 a1;obtain ⟨w1,y1,z1⟩:=rdP_inv r1;obtain ⟨n2,r2,rfl⟩:=i6 a2;obtain ⟨w2,y2,z2⟩:=rdN_inv r2;obtain ⟨rfl,rfl⟩:=i0 a3;refine ⟨?_,evOk_of (k:=5) rfl (by decide) (by decide) (by decide) (by decide) ((part_ok4 _).2 (okP_of y1 z1)) ((part_ok6 _).2 ⟨by show (0:Int)≤(n2:Int);omega,by show (n2:Int)≤1125899906842624;omega⟩) (ok0 _)⟩;rw [evB_of (k:=5) (p0:=4) (p1:=6) (p2:=0) rfl (by decide) (by decide) (by decide),part_b4,part_b6,b0,w1,w2];dsimp only;rw [ofNat_id,Int.toNat_natCast];simp
     · have h':rdParts [4,6,0] (ev0 6) l=some (d,t):=h2
       clear h2;obtain ⟨e1,t1,a1,h'⟩:=parts_cons h';obtain ⟨e2,t2,a2,h'⟩:=parts_cons h';obtain ⟨e3,t3,a3,h'⟩:=parts_cons h';have h'':=parts_nil h';simp only [Prod.mk.injEq] at h'';obtain ⟨rfl,rfl⟩:=h'';obtain ⟨n1,r1,rfl⟩:=i4 a1;obtain ⟨w1,y1,z1⟩:=rdP_inv r1;obtain ⟨n2,r2,rfl⟩:=i6 a2;obtain ⟨w2,y2,z2⟩:=rdN_inv r2;obtain ⟨rfl,rfl⟩:=i0 a3;refine ⟨?_,evOk_of (k:=6) rfl (by decide) (by decide) (by decide) (by decide) ((part_ok4 _).2 (okP_of y1 z1)) ((part_ok6 _).2 ⟨by show (0:Int)≤(n2:Int);omega,by show (n2:Int)≤1125899906842624;omega⟩) (ok0 _)⟩;rw [evB_of (k:=6) (p0:=4) (p1:=6) (p2:=0) rfl (by decide) (by decide) (by decide),part_b4,part_b6,b0,w1,w2];dsimp only;rw [ofNat_id,Int.toNat_natCast];simp
     · have h':rdParts [4,0,0] (ev0 7) l=some (d,t):=h2
       clear h2;obtain ⟨e1,t1,a1,h'⟩:=parts_cons h';obtain ⟨e2,t2,a2,h'⟩:=parts_cons h';obtain ⟨e3,t3,a3,h'⟩:=parts_cons h';have h'':=parts_nil h';simp only [Prod.mk.injEq] at h'';obtain ⟨rfl,rfl⟩:=h'';obtain ⟨n1,r1,rfl⟩:=i4 a1;obtain ⟨w1,y1,z1⟩:=rdP_inv r1;obtain ⟨rfl,rfl⟩:=i0 a2;obtain ⟨rfl,rfl⟩:=i0 a3;refine ⟨?_,evOk_of (k:=7) rfl (by decide) (by decide) (by decide) (by decide) ((part_ok4 _).2 (okP_of y1 z1)) (ok0 _) (ok0 _)⟩;rw [evB_of (k:=7) (p0:=4) (p1:=0) (p2:=0) rfl (by decide) (by decide) (by decide),part_b4,b0,w1];dsimp only;rw [ofNat_id];simp
   · rw [if_neg hk] at h2
     cases h2
end Go.Proofs.YthnhobplgmojeaaGreatDoor.ev
