/- Texts in one: RecT RecO RecE RecF RecG RecH RecEv -/
import Derived.Test.YthnhobplgmojeaaGreatDoorVvP
import Derived.Test.YthnhobplgmojeaaGreatDoorFo3P
import Derived.Test.YthnhobplgmojeaaGreatDoorSqP
import Derived.Test.YthnhobplgmojeaaGreatDoorIeP
import Derived.Shelf.Unicode.ValidAny
import Derived.Deep.RegionHeld3
import Derived.Test.YthnhobplgmojeaaGreatDoorMrP
namespace Go.Proofs.YthnhobplgmojeaaGreatDoor.ev
open Go.RowKit Go.Proofs.YthnhobplgmojeaaGreatDoor.rd
structure VOk (v:JT):Prop where
 bd:Bd v
 gd:Gd v
 bn:Bd (nrm v)
 cst:cst (nrm v)≤100000000000
 dp:dpt v≤1000000000000
def VSound (v:JT):Prop:=dpt v≤64∧(prt (nrm v)).length≤1048576
set_option maxRecDepth 100000 in
set_option maxHeartbeats 3200000 in
theorem sound_any (v:JT) (hv:VOk v) (cs:List Value) (w:World) (h:VR w v cs) (hP:Pow w) :
 Calls Tryz.prog 84 #[.agg cs.toArray] w (EQP w (VSound v)):=by
 obtain ⟨a0,a1,a2,a3,a4,a5,a6,a7,a8,a9,aa,ab,rfl⟩:=h.form;obtain ⟨x0,l0,_,z0⟩:=boxE w [.int .i64 a0,.bool a1,.bool a2,.string a3,.int .i64 a4,.string a5,.slice a6 a7 a8,.slice a9 aa ab] _ w (Below.refl _ w) (Nat.le_refl _) _ rfl;have CD:=hide (fun u (hu:Below w.heap.size w u)=>jdepth_any v hv.bd hv.gd hv.dp _ u (h.keep hu));have CP:=hide (fun u (hu:Below w.heap.size w u)=>jprint_any v hv.bd hv.gd hv.bn (by have:=hv.cst;omega) _ u (h.keep hu) (hP.keep hu));obtain ⟨sv,hsv,hsl⟩:∃ sv:ByteArray,sv=⟨(prt (nrm v)).toArray⟩∧sv.size=(prt (nrm v)).length:=⟨_,rfl,rfl⟩;rw [← hsv] at CP
 have HV:Hid (VSound v↔dpt v≤64∧sv.size≤1048576):=by
  show _↔_;unfold VSound;rw [hsl]
 generalize hgs:VSound v=good at *;generalize hgd:dpt v=d at *;clear hv h hP hsv hsl hgs hgd
 go_enter Tryz.func84,Tryz.ntmps84
 go_upto_region 1 with fail;generalize w.alloc (.cells [.int .i64 a0,.bool a1,.bool a2,.string a3,.int .i64 a4,.string a5,.slice a6 a7 a8,.slice a9 aa ab].toArray 28)=W0 at *;obtain ⟨y0,y1,y2,y3,y4,y5,y6,y7⟩:=x0.cells;have HX:=hide x0;have L0:=hide l0;have CDw:=hide (uh CD W0 l0);clear CD x0 l0
 by_cases hd:d≤64
 · have hd':(d:Int)≤64:=by omega
   have HD:=hide hd;clear hd
   go_wp2_with (first
    | (go_at_call 107;refine (uh CDw).mono ?_;rintro e u1 ⟨rfl,b1⟩
       have L1:=hide ((uh L0).trans (b1.mono (uh L0).size));obtain ⟨e0,e1,e2,e3,e4,e5,e6,e7⟩:=((uh HX).keep b1 z0).cells;have CPw:=hide (uh CP u1 (uh L1))
       clear b1 CDw)
    | (go_at_call 69;refine (uh CPw).mono ?_;rintro e u2 ⟨rfl,b2⟩
       have L2:=hide ((uh L1).trans (b2.mono (uh L1).size))
       clear b2 CPw))
   go_ret;refine ⟨_,rfl,?_,uh L2⟩;rw [uh HV];have:=uh HD;simp;omega
 · have hd':¬ (d:Int)≤64:=by omega
   have HD:=hide hd;clear hd
   go_wp2_with (go_at_call 107;refine (uh CDw).mono ?_;rintro e u1 ⟨rfl,b1⟩
                have L1:=hide ((uh L0).trans (b1.mono (uh L0).size))
                clear b1 CDw)
   go_ret;refine ⟨_,rfl,?_,uh L1⟩;rw [uh HV];have:=uh HD;simp;omega
set_option maxRecDepth 100000 in
set_option maxHeartbeats 3200000 in
theorem null_any (JS:SameC) (v:JT) (hv:VOk v) (cs:List Value) (w:World) (h:VR w v cs) :
 Calls Tryz.prog 85 #[.agg cs.toArray] w (EQP w (nrm v=null)):=by
 obtain ⟨a0,a1,a2,a3,a4,a5,a6,a7,a8,a9,aa,ab,rfl⟩:=h.form;obtain ⟨x0,l0,_,z0⟩:=boxE w [.int .i64 a0,.bool a1,.bool a2,.string a3,.int .i64 a4,.string a5,.slice a6 a7 a8,.slice a9 aa ab] _ w (Below.refl _ w) (Nat.le_refl _) _ rfl;have hnn:nrm null=null:=by unfold null;rw [nrm_mk,if_neg (by decide),if_neg (by decide),if_neg (by decide),if_neg (by decide),if_neg (by decide)];rfl
 have CS:=hide (fun u (hu:Below w.heap.size w u)=>JS v null hv.bd (wk.bdL (by decide) (by decide) (by decide) (by decide)) hv.gd (wk.gdL (by decide)) _ _ u (h.keep hu) (vrep_flat u u.heap.size 0 false zed ⟨#[]⟩).vr);rw [hnn] at CS;unfold zed at CS;clear hv h hnn JS
 go_enter Tryz.func85,Tryz.ntmps85
 go_upto_region 1 with fail;generalize w.alloc (.cells [.int .i64 a0,.bool a1,.bool a2,.string a3,.int .i64 a4,.string a5,.slice a6 a7 a8,.slice a9 aa ab].toArray 28)=W0 at *;obtain ⟨y0,y1,y2,y3,y4,y5,y6,y7⟩:=x0.cells;have L0:=hide l0;have CSw:=hide (uh CS W0 l0);clear CS x0 l0
 go_wp2_with (go_at_call 108;refine (uh CSw).mono ?_;rintro e u1 ⟨b,rfl,hb,b1⟩
              have HB:=hide hb;have L1:=hide ((uh L0).trans (b1.mono (uh L0).size))
              clear b1 CSw hb)
 go_ret;exact ⟨_,rfl,uh HB,uh L1⟩
def OuR (w:World) (fine:Bool) (v:JT) (er ca:ByteArray) (cs:List Value):Prop:=∃ vc,cs=.bool fine::(vc++[.string er,.string ca])∧VR w v vc
def OkOut (fine:Bool) (v:JT) (er ca:ByteArray):Prop :=
 (fine=true∧er.size=0∧ca.size=0∧VSound v)∨(fine=false∧nrm v=null∧Lib.validD er.data.toList=true∧Lib.validD ca.data.toList=true∧er.size+ca.size≤1048576)
theorem ba_empty {s:ByteArray} (h:s.size=0):s=⟨#[]⟩:=by
 obtain ⟨a⟩:=s;have:a=#[]:=Array.eq_empty_of_size_eq_zero h;rw [this]
theorem ba_ne {s:ByteArray} (h:s.size≠0):s≠⟨#[]⟩:=fun e=>h (by rw [e];rfl)
theorem ba_ne3 {s:ByteArray} (h:s.size≠0):¬ s.toList=[]:=fun e=>h (by
 have:s.data.toList=[]:=by rw [← ByteArray.toList_eq];exact e
 have h2:=congrArg List.length this;rw [Array.length_toList] at h2
 exact h2)
theorem ba_ne2 {s:ByteArray} (h:s.size≠0):(s.toList == [])=false:=by rw [beq_eq_false_iff_ne];exact ba_ne3 h
theorem one11 (w:World) (cs:List Value):∀ W,W=w.alloc (.cells cs.toArray 30)→W.heap[w.heap.size]?=some (.cells cs.toArray 30 (0,0))∧Below w.heap.size w W∧w.heap.size < W.heap.size:=by
 rintro W rfl;exact ⟨heap_alloc_new w _,(Below.refl _ w).alloc (Nat.le_refl _) (.cells cs.toArray 30),by rw [World.size_alloc];omega⟩
theorem tabs_keep {w w':World} (h:Lib.Utf8Tabs 2 3 w) (hb:Below w.heap.size w w'):Lib.Utf8Tabs 2 3 w' :=
 ⟨fun c hc=>kc hb (h.1 c hc),fun i hi=>⟨kc hb (h.2 i hi).1,kc hb (h.2 i hi).2⟩⟩
theorem ocells {w:World}{m:Nat}{c0 c1 c2 c3 c4 c5 c6 c7 c8 c9 ca:Value} (h:w.heap[m]?=some (.cells [c0,c1,c2,c3,c4,c5,c6,c7,c8,c9,ca].toArray 30 (0,0))) :
 w.cell? ⟨m,0,none⟩=some c0∧w.cell? ⟨m,1,none⟩=some c1∧w.cell? ⟨m,2,none⟩=some c2∧w.cell? ⟨m,3,none⟩=some c3∧w.cell? ⟨m,4,none⟩=some c4∧w.cell? ⟨m,5,none⟩=some c5∧w.cell? ⟨m,6,none⟩=some c6∧w.cell? ⟨m,7,none⟩=some c7∧w.cell? ⟨m,8,none⟩=some c8∧w.cell? ⟨m,9,none⟩=some c9∧w.cell? ⟨m,10,none⟩=some ca :=
 ⟨blk_cell h 0,blk_cell h 1,blk_cell h 2,blk_cell h 3,blk_cell h 4,blk_cell h 5,blk_cell h 6,blk_cell h 7,blk_cell h 8,blk_cell h 9,blk_cell h 10⟩
set_option maxRecDepth 100000 in
set_option maxHeartbeats 6400000 in
theorem tellable_any (JS:SameC) (fine:Bool) (v:JT) (er ca:ByteArray) (hv:VOk v) (cs:List Value) (w:World) (h:OuR w fine v er ca cs) (hP:Pow w) (hT:Lib.Utf8Tabs 2 3 w) (he:er.size≤4000000000000000000) (hc:ca.size≤4000000000000000000) :
 Calls Tryz.prog 68 #[.agg cs.toArray] w (EQP w (OkOut fine v er ca)):=by
 obtain ⟨vc,rfl,hvr⟩:=h;obtain ⟨a0,a1,a2,a3,a4,a5,a6,a7,a8,a9,aa,ab,rfl⟩:=hvr.form;obtain ⟨x0,l0,z0⟩:=one11 w [.bool fine,.int .i64 a0,.bool a1,.bool a2,.string a3,.int .i64 a4,.string a5,.slice a6 a7 a8,.slice a9 aa ab,.string er,.string ca] _ rfl;have CS:=hide (fun u (hu:Below w.heap.size w u)=>sound_any v hv _ u (hvr.keep hu) (hP.keep hu));have CN:=hide (fun u (hu:Below w.heap.size w u)=>null_any JS v hv _ u (hvr.keep hu));have CE:=hide (fun u (hu:Below w.heap.size w u)=>Any.utf8_ValidString Tryz.lays196 er u (by omega) (tabs_keep hT hu));have CC:=hide (fun u (hu:Below w.heap.size w u)=>Any.utf8_ValidString Tryz.lays196 ca u (by omega) (tabs_keep hT hu));have HOK:Hid (∀ b:Bool,(b=true↔OkOut fine v er ca)↔(b=true↔OkOut fine v er ca)):=fun _=>Iff.rfl
 obtain ⟨good,hgood⟩:∃ good,good=OkOut fine v er ca:=⟨_,rfl⟩;rw [← hgood];have HG:=hide hgood;clear hgood HOK hv hvr hP hT
 go_enter Tryz.func68,Tryz.ntmps68
 go_upto_region 1 with fail;generalize w.alloc (.cells [.bool fine,.int .i64 a0,.bool a1,.bool a2,.string a3,.int .i64 a4,.string a5,.slice a6 a7 a8,.slice a9 aa ab,.string er,.string ca].toArray 30)=W0 at *;obtain ⟨y0,y1,y2,y3,y4,y5,y6,y7,y8,y9,ya⟩:=ocells x0;have HX:=hide x0;have L0:=hide l0;have Z0:=hide z0;clear x0 l0 z0
 cases fine with
 | true =>
   have CSw:=hide (uh CS W0 (uh L0))
   by_cases h1:er.size=0
   · have e1:=ba_empty h1
     subst e1
     by_cases h2:ca.size=0
     · have e2:=ba_empty h2
       subst e2;clear h1 h2 he hc CE CC CN CS
       go_wp2_with (go_at_call 84;refine (uh CSw).mono ?_;rintro e u1 ⟨b,rfl,hb,b1⟩
                    have HB:=hide hb;have L1:=hide ((uh L0).trans (b1.mono (uh L0).size))
                    clear b1 CSw hb)
       go_ret;refine ⟨b,by cases b <;> rfl,?_,uh L1⟩;rw [uh HB,uh HG]
       exact ⟨fun q=>.inl ⟨rfl,rfl,rfl,q⟩,fun q=>by
        rcases q with ⟨_,_,_,q⟩|⟨q,_⟩
        · exact q
        · cases q⟩
     · have e2:=ba_ne h2
       have e3:=ba_ne2 h2;have e4:=ba_ne3 h2;have H2:=hide h2;clear h1 h2 he hc CE CC CN CS CSw;go_wp2;go_ret;refine ⟨false,rfl,?_,uh L0⟩;rw [uh HG]
       exact ⟨fun q=>(Bool.noConfusion q),fun q=>by
        rcases q with ⟨_,_,q,_⟩|⟨q,_⟩
        · exact absurd q (uh H2)
        · cases q⟩
   · have e1:=ba_ne h1
     have e3:=ba_ne2 h1;have e4:=ba_ne3 h1;have H1:=hide h1;clear h1 he hc CE CC CN CS CSw;go_wp2;go_ret;refine ⟨false,rfl,?_,uh L0⟩;rw [uh HG]
     exact ⟨fun q=>(Bool.noConfusion q),fun q=>by
      rcases q with ⟨_,q,_⟩|⟨q,_⟩
      · exact absurd q (uh H1)
      · cases q⟩
 | false =>
   have CNw:=hide (uh CN W0 (uh L0));have hw1:IntKind.i64.wrap ((er.size:Int)+(ca.size:Int))=(er.size:Int)+(ca.size:Int):=IntWalk.i64_in _ ⟨by omega,by omega⟩;clear CS CN he hc
   by_cases hn:nrm v=null
   · have HN:=hide hn
     cases hve:Lib.validD er.data.toList with
     | true =>
       rw [hve] at CE;have HVE:=hide hve
       cases hvc:Lib.validD ca.data.toList with
       | true =>
         rw [hvc] at CC;have HVC:=hide hvc;clear hn hve hvc
         go_wp2_with (first
          | (go_at_call 85;refine (uh CNw).mono ?_;rintro e u1 ⟨b,rfl,hb,b1⟩
             obtain rfl:b=true:=hb.2 (uh HN);have L1:=hide ((uh L0).trans (b1.mono (uh L0).size));have X1:=hide ((b1.block _ (uh Z0)).trans (uh HX));have Z1:Hid (w.heap.size < u1.heap.size):=Nat.lt_of_lt_of_le (uh Z0) b1.size;obtain ⟨y0,y1,y2,y3,y4,y5,y6,y7,y8,y9,ya⟩:=ocells (uh X1);have CEw:=hide (uh CE u1 (uh L1))
             clear b1 CNw hb)
          | (go_at_call 86;refine (uh CEw).mono ?_;rintro e u2 ⟨rfl,b2⟩
             have L2:=hide ((uh L1).trans (b2.mono (uh L1).size));have X2:=hide ((b2.block _ (uh Z1)).trans (uh X1));have Z2:Hid (w.heap.size < u2.heap.size):=Nat.lt_of_lt_of_le (uh Z1) b2.size;obtain ⟨y0,y1,y2,y3,y4,y5,y6,y7,y8,y9,ya⟩:=ocells (uh X2);have CCw:=hide (uh CC u2 (uh L2))
             clear b2 CEw)
          | (go_at_call 86;refine (uh CCw).mono ?_;rintro e u3 ⟨rfl,b3⟩
             have L3:=hide ((uh L2).trans (b3.mono (uh L2).size));have X3:=hide ((b3.block _ (uh Z2)).trans (uh X2));have Z3:Hid (w.heap.size < u3.heap.size):=Nat.lt_of_lt_of_le (uh Z2) b3.size;obtain ⟨y0,y1,y2,y3,y4,y5,y6,y7,y8,y9,ya⟩:=ocells (uh X3)
             clear b3 CCw))
         go_ret;refine ⟨_,rfl,?_,uh L3⟩;rw [uh HG,decide_eq_true_eq];refine ⟨fun q=>.inr ⟨rfl,uh HN,uh HVE,uh HVC,by omega⟩,fun q=>?_⟩
         rcases q with ⟨q,_⟩|⟨_,_,_,_,q⟩
         · cases q
         · omega
       | false =>
         rw [hvc] at CC;have HVC:=hide hvc;clear hn hve hvc
         go_wp2_with (first
          | (go_at_call 85;refine (uh CNw).mono ?_;rintro e u1 ⟨b,rfl,hb,b1⟩
             obtain rfl:b=true:=hb.2 (uh HN);have L1:=hide ((uh L0).trans (b1.mono (uh L0).size));have X1:=hide ((b1.block _ (uh Z0)).trans (uh HX));have Z1:Hid (w.heap.size < u1.heap.size):=Nat.lt_of_lt_of_le (uh Z0) b1.size;obtain ⟨y0,y1,y2,y3,y4,y5,y6,y7,y8,y9,ya⟩:=ocells (uh X1);have CEw:=hide (uh CE u1 (uh L1))
             clear b1 CNw hb)
          | (go_at_call 86;refine (uh CEw).mono ?_;rintro e u2 ⟨rfl,b2⟩
             have L2:=hide ((uh L1).trans (b2.mono (uh L1).size));have X2:=hide ((b2.block _ (uh Z1)).trans (uh X1));have Z2:Hid (w.heap.size < u2.heap.size):=Nat.lt_of_lt_of_le (uh Z1) b2.size;obtain ⟨y0,y1,y2,y3,y4,y5,y6,y7,y8,y9,ya⟩:=ocells (uh X2);have CCw:=hide (uh CC u2 (uh L2))
             clear b2 CEw)
          | (go_at_call 86;refine (uh CCw).mono ?_;rintro e u3 ⟨rfl,b3⟩
             have L3:=hide ((uh L2).trans (b3.mono (uh L2).size));have X3:=hide ((b3.block _ (uh Z2)).trans (uh X2));have Z3:Hid (w.heap.size < u3.heap.size):=Nat.lt_of_lt_of_le (uh Z2) b3.size;obtain ⟨y0,y1,y2,y3,y4,y5,y6,y7,y8,y9,ya⟩:=ocells (uh X3)
             clear b3 CCw))
         go_ret;refine ⟨false,rfl,?_,uh L3⟩;rw [uh HG]
         exact ⟨fun q=>(Bool.noConfusion q),fun q=>by
          rcases q with ⟨q,_⟩|⟨_,q1,q2,q3,_⟩
          · cases q
          · rw [uh HVC] at q3;cases q3⟩
     | false =>
       rw [hve] at CE;have HVE:=hide hve;clear hn hve
       go_wp2_with (first
        | (go_at_call 85;refine (uh CNw).mono ?_;rintro e u1 ⟨b,rfl,hb,b1⟩
           obtain rfl:b=true:=hb.2 (uh HN);have L1:=hide ((uh L0).trans (b1.mono (uh L0).size));have X1:=hide ((b1.block _ (uh Z0)).trans (uh HX));have Z1:Hid (w.heap.size < u1.heap.size):=Nat.lt_of_lt_of_le (uh Z0) b1.size;obtain ⟨y0,y1,y2,y3,y4,y5,y6,y7,y8,y9,ya⟩:=ocells (uh X1);have CEw:=hide (uh CE u1 (uh L1))
           clear b1 CNw hb)
        | (go_at_call 86;refine (uh CEw).mono ?_;rintro e u2 ⟨rfl,b2⟩
           have L2:=hide ((uh L1).trans (b2.mono (uh L1).size));have X2:=hide ((b2.block _ (uh Z1)).trans (uh X1));have Z2:Hid (w.heap.size < u2.heap.size):=Nat.lt_of_lt_of_le (uh Z1) b2.size;obtain ⟨y0,y1,y2,y3,y4,y5,y6,y7,y8,y9,ya⟩:=ocells (uh X2);have CCw:=hide (uh CC u2 (uh L2))
           clear b2 CEw))
       go_ret;refine ⟨false,rfl,?_,uh L2⟩;rw [uh HG]
       exact ⟨fun q=>(Bool.noConfusion q),fun q=>by
        rcases q with ⟨q,_⟩|⟨_,q1,q2,q3,_⟩
        · cases q
        · rw [uh HVE] at q2;cases q2⟩
   · have HN:=hide hn
     clear hn
     go_wp2_with (go_at_call 85;refine (uh CNw).mono ?_;rintro e u1 ⟨b,rfl,hb,b1⟩
                  obtain rfl:b=false:=Bool.eq_false_iff.mpr fun z=>uh HN (hb.1 z)
                  have L1:=hide ((uh L0).trans (b1.mono (uh L0).size));have X1:=hide ((b1.block _ (uh Z0)).trans (uh HX));have Z1:Hid (w.heap.size < u1.heap.size):=Nat.lt_of_lt_of_le (uh Z0) b1.size;obtain ⟨y0,y1,y2,y3,y4,y5,y6,y7,y8,y9,ya⟩:=ocells (uh X1);have CEw:=hide (uh CE u1 (uh L1))
                  clear b1 CNw hb)
     go_ret;refine ⟨false,rfl,?_,uh L1⟩;rw [uh HG]
     exact ⟨fun q=>(Bool.noConfusion q),fun q=>by
      rcases q with ⟨q,_⟩|⟨_,q1,q2,q3,_⟩
      · cases q
      · exact absurd q1 (uh HN)⟩
def outB (fine:Bool) (v:JT) (er ca:ByteArray):List UInt8:=if fine then 1::txtB (prt (nrm v)) else 0::(txtB er.data.toList++txtB ca.data.toList)
theorem wr_then {l l1 l2:List UInt8}{r r1 r2:Bool}{g1 g2:Prop}{b1 b2:List UInt8}{K1 K2:Nat}
 (a1:r1=false→r=false∧g1∧l1=l++b1) (a2:r1=true→r=true∨¬ g1) (a3:l1.length≤l.length+K1)
 (c1:r2=false→r1=false∧g2∧l2=l1++b2) (c2:r2=true→r1=true∨¬ g2) (c3:l2.length≤l1.length+K2) :
 (r2=false→r=false∧(g1∧g2)∧l2=l++(b1++b2))∧(r2=true→r=true∨¬ (g1∧g2))∧l2.length≤l.length+(K1+K2):=by
 refine ⟨fun h=>?_,fun h=>?_,by omega⟩
 · obtain ⟨x1,x2,x3⟩:=c1 h
   obtain ⟨y1,y2,y3⟩:=a1 x1;exact ⟨y1,⟨y2,x2⟩,by rw [x3,y3,List.append_assoc]⟩
 · rcases c2 h with x|x
   · rcases a2 x with y|y
     · exact .inl y
     · exact .inr fun z=>y z.1
   · exact .inr fun z=>x z.2
def BXA (u:World) (m k:Nat) (cs:List Value) (t:TypeId):Prop:=u.heap[k]?=some (.cells cs.toArray t (0,0))∧Apart u m k
theorem BXA.go {u u':World}{m k:Nat}{cs:List Value}{t:TypeId} (h:BXA u m k cs t) (hk:Keeps m u u'):BXA u' m k cs t:=by
 obtain ⟨e,a⟩:=hk.far k (blk_lt h.1) h.2;exact ⟨e.trans h.1,a⟩
set_option maxRecDepth 100000 in
set_option maxHeartbeats 6400000 in
theorem wout_any (JS:SameC) (m:Nat) (l:List UInt8) (r:Bool) (fine:Bool) (v:JT) (er ca:ByteArray) (hv:VOk v) (vc:List Value) (w:World) (hw:WB w m l r) (hz:l.length≤100000000)
 (h:∀ u,Below m w u→VR u v vc) (hP:∀ u,Below m w u→Pow u) (hT:∀ u,Below m w u→Lib.Utf8Tabs 2 3 u) (he:er.size≤4000000000000000000) (hc:ca.size≤4000000000000000000) :
 Calls Tryz.prog 54 #[.pointer (some ⟨m,0,none⟩),.agg (.bool fine::(vc++[.string er,.string ca])).toArray] w (WrP w m l r (OkOut fine v er ca) (outB fine v er ca) 4000000):=by
 obtain ⟨a0,a1,a2,a3,a4,a5,a6,a7,a8,a9,aa,ab,rfl⟩:=(h w (Below.refl _ _)).form;obtain ⟨x0,l0,z0⟩:=one11 w [.bool fine,.int .i64 a0,.bool a1,.bool a2,.string a3,.int .i64 a4,.string a5,.slice a6 a7 a8,.slice a9 aa ab,.string er,.string ca] _ rfl;have CTl:=hide (fun u (hu:Below m w u)=>tellable_any JS fine v er ca hv _ u ⟨_,rfl,h u hu⟩ (hP u hu) (hT u hu) he hc);have CP:=hide (fun u (hu:Below m w u)=>jprint_any v hv.bd hv.gd hv.bn (by have:=hv.cst;omega) _ u (h u hu) (hP u hu));have HSP:Hid ((⟨(prt (nrm v)).toArray⟩:ByteArray).data.toList=prt (nrm v)):=rfl
 have HPL:Hid (OkOut fine v er ca→fine=true→(⟨(prt (nrm v)).toArray⟩:ByteArray).size≤1048576):=fun hk hf=>by
  rcases hk with ⟨_,_,_,q⟩|⟨q,_⟩
  · exact q.2
  · rw [hf] at q;cases q
 have HSZ:Hid ((⟨(prt (nrm v)).toArray⟩:ByteArray).size≤9223372036854775807):=by
  show (prt (nrm v)).length≤_;have h1:=hv.cst;have h2:=prt_le _ (nrm v) (Nat.lt_succ_self _);omega
 have HEL:Hid (OkOut fine v er ca→fine=false→er.size≤1048576∧ca.size≤1048576):=fun hk hf=>by
  rcases hk with ⟨q,_⟩|⟨_,_,_,_,q⟩
  · rw [hf] at q;cases q
  · omega
 have HOB:Hid (outB fine v er ca=if fine then 1::txtB (prt (nrm v)) else 0::(txtB er.data.toList++txtB ca.data.toList)):=rfl;generalize outB fine v er ca=OB' at *;generalize (⟨(prt (nrm v)).toArray⟩:ByteArray)=sp at *
 have HOB2:Hid (OB'=if fine then 1::txtB sp.data.toList else 0::(txtB er.data.toList++txtB ca.data.toList)):=by
  show _=_;rw [uh HOB,uh HSP]
 generalize OkOut fine v er ca=good at *;have KP:=hide (fun u (hu:Keeps m w u)=>hu.below hw);have hmlt:=hw.lt;have AP:=hide (hw.new l0 (Nat.le_refl _));have W0B:=hide (hw.keep l0);have K0:=hide (Keeps.of_below hmlt l0);have HZ:=hide hz;clear h hP hT hv HOB HSP hw hz JS hmlt
 go_enter Tryz.func54,Tryz.ntmps54
 go_upto_region 1 with fail;generalize w.alloc (.cells [.bool fine,.int .i64 a0,.bool a1,.bool a2,.string a3,.int .i64 a4,.string a5,.slice a6 a7 a8,.slice a9 aa ab,.string er,.string ca].toArray 30)=W0 at *;have HX:Hid (BXA W0 m w.heap.size [.bool fine,.int .i64 a0,.bool a1,.bool a2,.string a3,.int .i64 a4,.string a5,.slice a6 a7 a8,.slice a9 aa ab,.string er,.string ca] 30):=⟨x0,uh AP⟩;obtain ⟨y0,y1,y2,y3,y4,y5,y6,y7,y8,y9,ya⟩:=ocells x0;have CTw:=hide (uh CTl W0 (uh KP W0 (uh K0)));clear x0 l0 z0 AP CTl
 by_cases hg:good
 · cases fine with
   | true =>
     have HPS:=hide (uh HPL hg rfl);have HO3:Hid (OB'=1::txtB sp.data.toList):=uh HOB2;clear HOB2;have HGD:=hide hg;clear HEL HPL hg
     go_wp2_with (first
      | (go_at_call 68;refine (uh CTw).mono ?_;rintro e u1 ⟨b,rfl,hb,b1⟩
         obtain rfl:b=true:=hb.2 (uh HGD);have W1:=hide ((uh W0B).keep b1);have kk:=Keeps.of_below (uh W0B).lt b1;have K1:=hide ((uh K0).trans kk);have X1:=hide ((uh HX).go kk);obtain ⟨y0,y1,y2,y3,y4,y5,y6,y7,y8,y9,ya⟩:=ocells (uh X1).1;have CA:=hide (add_int m l r 1 (by decide) (by decide) u1 (uh W1) (by have:=uh HZ;omega))
         clear b1 kk hb CTw)
      | (go_at_call 40;refine (uh CA).mono ?_;rintro e u2 ⟨rfl,kk,w2⟩
         have W2:=hide w2;have K2:=hide ((uh K1).trans kk);have X2:=hide ((uh X1).go kk);obtain ⟨y0,y1,y2,y3,y4,y5,y6,y7,y8,y9,ya⟩:=ocells (uh X2).1;have CPw:=hide (uh CP u2 (uh KP u2 (uh K2)))
         clear kk w2 CA)
      | (go_at_call 69;refine (uh CPw).mono ?_;rintro e u3 ⟨rfl,b3⟩
         have W3:=hide ((uh W2).keep b3);have K3:=hide ((uh K2).trans (Keeps.of_below (uh W2).lt b3));have CTx:=hide (wtext_any m _ r sp u3 (uh W3) (by rw [List.length_append];have:=uh HZ;simp;omega) (uh HSZ))
         clear b3 CPw)
      | (go_at_call 51;refine (uh CTx).mono ?_;rintro e u4 ⟨rfl,kk,l4,r4,w4,p4,q4,z4⟩
         have W4:=hide w4;have K4:=hide ((uh K3).trans kk);have P4:=hide p4;have Q4:=hide q4;have Z4:=hide z4
         clear kk w4 p4 q4 z4 CTx))
     refine bodyPost_end (results_none rfl _ _ _) rfl ?_;refine ⟨rfl,uh K4,l4,r4,uh W4,fun q=>?_,fun q=>?_,?_⟩
     · obtain ⟨q1,q2,q3⟩:=uh P4 q
       refine ⟨q1,uh HGD,?_⟩;rw [q3,uh HO3,List.append_assoc];rfl
     · rcases uh Q4 q with q1|q1
       · exact .inl q1
       · exact absurd (uh HPS) q1
     · have:=uh Z4
       rw [List.length_append] at this;simp at this;omega
   | false =>
     obtain ⟨hes,hcs⟩:=uh HEL hg rfl;have HES:=hide hes;have HO3:Hid (OB'=0::(txtB er.data.toList++txtB ca.data.toList)):=uh HOB2;clear HOB2;have HCS:=hide hcs;have HGD:=hide hg;clear HEL HPL hg hes hcs
     go_wp2_with (first
      | (go_at_call 68;refine (uh CTw).mono ?_;rintro e u1 ⟨b,rfl,hb,b1⟩
         obtain rfl:b=true:=hb.2 (uh HGD);have W1:=hide ((uh W0B).keep b1);have kk:=Keeps.of_below (uh W0B).lt b1;have K1:=hide ((uh K0).trans kk);have X1:=hide ((uh HX).go kk);obtain ⟨y0,y1,y2,y3,y4,y5,y6,y7,y8,y9,ya⟩:=ocells (uh X1).1;have CA:=hide (add_int m l r 0 (by decide) (by decide) u1 (uh W1) (by have:=uh HZ;omega))
         clear b1 kk hb CTw)
      | (go_at_call 40;refine (uh CA).mono ?_;rintro e u2 ⟨rfl,kk,w2⟩
         have W2:=hide w2;have K2:=hide ((uh K1).trans kk);have X2:=hide ((uh X1).go kk);obtain ⟨y0,y1,y2,y3,y4,y5,y6,y7,y8,y9,ya⟩:=ocells (uh X2).1;have CTx:=hide (wtext_any m _ r er u2 (uh W2) (by rw [List.length_append];have:=uh HZ;simp;omega) (by have:=uh HES;omega))
         clear kk w2 CA)
      | (go_at_call 51;refine (uh CTx).mono ?_;rintro e u3 ⟨rfl,kk,l3,r3,w3,p3,q3,z3⟩
         have W3:=hide w3;have K3:=hide ((uh K2).trans kk);have X3:=hide ((uh X2).go kk);obtain ⟨y0,y1,y2,y3,y4,y5,y6,y7,y8,y9,ya⟩:=ocells (uh X3).1;have P3:=hide p3;have Q3:=hide q3;have Z3:=hide z3;have CTy:=hide (wtext_any m l3 r3 ca u3 (uh W3) (by have:=uh HZ;rw [List.length_append] at z3;simp at z3;omega) (by have:=uh HCS;omega))
         clear kk w3 p3 q3 z3 CTx)
      | (go_at_call 51;refine (uh CTy).mono ?_;rintro e u4 ⟨rfl,kk,l4,r4,w4,p4,q4,z4⟩
         have W4:=hide w4;have K4:=hide ((uh K3).trans kk);have P4:=hide p4;have Q4:=hide q4;have Z4:=hide z4
         clear kk w4 p4 q4 z4 CTy))
     refine bodyPost_end (results_none rfl _ _ _) rfl ?_;obtain ⟨s1,s2,s3⟩:=wr_then (uh P3) (uh Q3) (uh Z3) (uh P4) (uh Q4) (uh Z4);refine ⟨rfl,uh K4,l4,r4,uh W4,fun q=>?_,fun q=>?_,?_⟩
     · obtain ⟨q1,q2,q3⟩:=s1 q
       refine ⟨q1,uh HGD,?_⟩;rw [q3,uh HO3,List.append_assoc];rfl
     · rcases s2 q with q1|q1
       · exact .inl q1
       · exact absurd ⟨uh HES,uh HCS⟩ q1
     · rw [List.length_append] at s3
       simp at s3;omega
 · have HGD:=hide hg
   clear HEL HPL hg
   go_wp2_with (go_at_call 68;refine (uh CTw).mono ?_;rintro e u1 ⟨b,rfl,hb,b1⟩
                obtain rfl:b=false:=Bool.eq_false_iff.mpr fun z=>uh HGD (hb.1 z)
                have w1:=(uh W0B).keep b1;have K1:=hide ((uh K0).trans (Keeps.of_below (uh W0B).lt b1));obtain ⟨tv,hc,ho⟩:=w1;have c1:=blk_cell hc 1;have f1:=blk_free hc 1;have K2:=hide ((uh K1).trans (Keeps.mark hc (.bool true)));have W2:Hid (WB (u1.setCell ⟨m,1,none⟩ (.bool true)) m l true):=⟨tv,blk_set hc 1 _,OB.upd ho fun k hk=>(Upd.setCell m 1 u1 _).block k hk⟩
                clear b1 hb CTw hc ho)
   refine bodyPost_end (results_none rfl _ _ _) rfl ?_;exact ⟨rfl,uh K2,l,true,uh W2,fun q=>Bool.noConfusion q,fun _=>.inr (uh HGD),by omega⟩
structure Ev where
 kind:Int
 ns:List Int
 time:Int
 fine:Bool
 v:JT
 er:ByteArray
 ca:ByteArray
 mach:ByteArray
 inp:ByteArray
 fuel:Int
def evC (e:Ev) (pv:Value) (vc:List Value):List Value:=[.int .i64 e.kind,pv,.int .i64 e.time,.bool e.fine]++vc++[.string e.er,.string e.ca,.string e.mach,.string e.inp,.int .i64 e.fuel]
def partOk (p:Int) (e:Ev):Prop:=(p=1→e.mach.size≤1048576)∧(p=2→e.inp.size≤1048576)∧(p=3→1≤e.fuel∧e.fuel≤65536)∧(p=4→OkP e.ns)∧(p=5→OkOut e.fine e.v e.er e.ca)∧(p=6→0≤e.time∧e.time≤1125899906842624)
def partB (p:Int) (e:Ev):List UInt8:=if p=1 then txtB e.mach.data.toList else if p=2 then txtB e.inp.data.toList else if p=3 then cntB e.fuel.toNat else if p=4 then plcB (e.ns.map Int.toNat) else if p=5 then outB e.fine e.v e.er e.ca else if p=6 then cntB e.time.toNat else []
theorem part_ok1 (e:Ev):partOk 1 e↔e.mach.size≤1048576:=by simp [partOk]
theorem part_ok2 (e:Ev):partOk 2 e↔e.inp.size≤1048576:=by simp [partOk]
theorem part_ok3 (e:Ev):partOk 3 e↔1≤e.fuel∧e.fuel≤65536:=by simp [partOk]
theorem part_ok4 (e:Ev):partOk 4 e↔OkP e.ns:=by simp [partOk]
theorem part_ok5 (e:Ev):partOk 5 e↔OkOut e.fine e.v e.er e.ca:=by simp [partOk]
theorem part_ok6 (e:Ev):partOk 6 e↔0≤e.time∧e.time≤1125899906842624:=by simp [partOk]
theorem part_b1 (e:Ev):partB 1 e=txtB e.mach.data.toList:=rfl
theorem part_b2 (e:Ev):partB 2 e=txtB e.inp.data.toList:=rfl
theorem part_b3 (e:Ev):partB 3 e=cntB e.fuel.toNat:=rfl
theorem part_b4 (e:Ev):partB 4 e=plcB (e.ns.map Int.toNat):=rfl
theorem part_b5 (e:Ev):partB 5 e=outB e.fine e.v e.er e.ca:=rfl
theorem part_b6 (e:Ev):partB 6 e=cntB e.time.toNat:=rfl
structure EvOk (e:Ev):Prop where
 v:VOk e.v
 n:e.ns.length≤1048576
 o:∀ n∈e.ns,rt.Oki n
 er:e.er.size≤4000000000000000000
 ca:e.ca.size≤4000000000000000000
 ma:e.mach.size≤4000000000000000000
 inp:e.inp.size≤4000000000000000000
structure EvM (w:World) (m:Nat) (e:Ev) (pv:Value) (vc:List Value):Prop where
 v:∀ u,Below m w u→VR u e.v vc
 n:∀ u,Below m w u→rt.IS u pv e.ns
 pw:∀ u,Below m w u→Pow u
 tb:∀ u,Below m w u→Lib.Utf8Tabs 2 3 u
theorem EvM.go {w w':World}{m:Nat}{e:Ev}{pv:Value}{vc:List Value} (h:EvM w m e pv vc) (hb:Below m w w'):EvM w' m e pv vc :=
 ⟨fun u hu=>h.v u (hb.trans hu),fun u hu=>h.n u (hb.trans hu),fun u hu=>h.pw u (hb.trans hu),fun u hu=>h.tb u (hb.trans hu)⟩
theorem ecells {w:World}{m:Nat}{c0 c1 c2 c3 c4 c5 c6 c7 c8 c9 ca cb cc cd ce cf cg:Value} (h:w.heap[m]?=some (.cells [c0,c1,c2,c3,c4,c5,c6,c7,c8,c9,ca,cb,cc,cd,ce,cf,cg].toArray 32 (0,0))) :
 w.cell? ⟨m,0,none⟩=some c0∧w.cell? ⟨m,1,none⟩=some c1∧w.cell? ⟨m,2,none⟩=some c2∧w.cell? ⟨m,3,none⟩=some c3∧w.cell? ⟨m,4,none⟩=some c4∧w.cell? ⟨m,5,none⟩=some c5∧w.cell? ⟨m,6,none⟩=some c6∧w.cell? ⟨m,7,none⟩=some c7∧w.cell? ⟨m,8,none⟩=some c8∧w.cell? ⟨m,9,none⟩=some c9∧w.cell? ⟨m,10,none⟩=some ca∧w.cell? ⟨m,11,none⟩=some cb∧w.cell? ⟨m,12,none⟩=some cc∧w.cell? ⟨m,13,none⟩=some cd∧w.cell? ⟨m,14,none⟩=some ce∧w.cell? ⟨m,15,none⟩=some cf∧w.cell? ⟨m,16,none⟩=some cg :=
 ⟨blk_cell h 0,blk_cell h 1,blk_cell h 2,blk_cell h 3,blk_cell h 4,blk_cell h 5,blk_cell h 6,blk_cell h 7,blk_cell h 8,blk_cell h 9,blk_cell h 10,blk_cell h 11,blk_cell h 12,blk_cell h 13,blk_cell h 14,blk_cell h 15,blk_cell h 16⟩
theorem evC_eq (e:Ev) (pv:Value) (a0:Int) (a1 a2:Bool) (a3:ByteArray) (a4:Int) (a5:ByteArray) (a6:Option Addr) (a7 a8:Nat) (a9:Option Addr) (aa ab:Nat) :
 evC e pv [.int .i64 a0,.bool a1,.bool a2,.string a3,.int .i64 a4,.string a5,.slice a6 a7 a8,.slice a9 aa ab]=[.int .i64 e.kind,pv,.int .i64 e.time,.bool e.fine,.int .i64 a0,.bool a1,.bool a2,.string a3,.int .i64 a4,.string a5,.slice a6 a7 a8,.slice a9 aa ab,.string e.er,.string e.ca,.string e.mach,.string e.inp,.int .i64 e.fuel]:=rfl
theorem one17 (w:World) (cs:List Value):∀ W,W=w.alloc (.cells cs.toArray 32)→W.heap[w.heap.size]?=some (.cells cs.toArray 32 (0,0))∧Below w.heap.size w W∧w.heap.size < W.heap.size:=by
 rintro W rfl;exact ⟨heap_alloc_new w _,(Below.refl _ w).alloc (Nat.le_refl _) (.cells cs.toArray 32),by rw [World.size_alloc];omega⟩
theorem WrP.weak {w w0 w':World}{m:Nat}{l:List UInt8}{r:Bool}{g g':Prop}{b b':List UInt8}{K K':Nat}{e:Ending} (h:WrP w m l r g b K e w') (h0:Keeps m w0 w) (hg:g↔g') (hb:b=b') (hK:K≤K'):WrP w0 m l r g' b' K' e w':=by
 subst hb;obtain ⟨x1,x2,l',r',x3,x4,x5,x6⟩:=h;exact ⟨x1,h0.trans x2,l',r',x3,fun q=>by obtain ⟨y1,y2,y3⟩:=x4 q;exact ⟨y1,hg.1 y2,y3⟩,fun q=>(x5 q).imp id fun y z=>y (hg.2 z),by omega⟩
set_option maxRecDepth 100000 in
set_option maxHeartbeats 12800000 in
theorem wpart_any (JS:SameC) (m:Nat) (l:List UInt8) (r:Bool) (p:Int) (e:Ev) (pv:Value) (vc:List Value) (w:World) (hw:WB w m l r) (hz:l.length≤90000000) (ho:EvOk e) (hm:EvM w m e pv vc) :
 Calls Tryz.prog 41 #[.pointer (some ⟨m,0,none⟩),.int .i64 p,.agg (evC e pv vc).toArray] w (WrP w m l r (partOk p e) (partB p e) 12000000):=by
 obtain ⟨a0,a1,a2,a3,a4,a5,a6,a7,a8,a9,aa,ab,rfl⟩:=(hm.v w (Below.refl _ _)).form;obtain ⟨oa,cap,rfl,_,_⟩:=(hm.n w (Below.refl _ _)).form;generalize hnl:e.ns.length=nl at *;rw [evC_eq];obtain ⟨x0,l0,z0⟩:=one17 w [.int .i64 e.kind,.slice oa nl cap,.int .i64 e.time,.bool e.fine,.int .i64 a0,.bool a1,.bool a2,.string a3,.int .i64 a4,.string a5,.slice a6 a7 a8,.slice a9 aa ab,.string e.er,.string e.ca,.string e.mach,.string e.inp,.int .i64 e.fuel] _ rfl;have hlt:=hw.lt;have W1:=hide (hw.keep l0);have K1:=hide (Keeps.of_below hlt l0);have M1:=hide (hm.go ((uh K1).below hw));have HZ:=hide hz;have HO:=hide ho;have HNL:=hide hnl
 by_cases hp1:p=1
 · subst hp1
   have CC:=hide (wtext_any m l r e.mach _ (uh W1) (by omega) (by have:=ho.ma;omega));have G:=hide (part_ok1 e);have B:=hide (part_b1 e);generalize partOk 1 e=good at *;generalize partB 1 e=bs at *;clear hw hz ho hm hlt hnl JS
   go_enter Tryz.func41,Tryz.ntmps41
   go_upto_region 1 with fail;generalize w.alloc (.cells [.int .i64 e.kind,.slice oa nl cap,.int .i64 e.time,.bool e.fine,.int .i64 a0,.bool a1,.bool a2,.string a3,.int .i64 a4,.string a5,.slice a6 a7 a8,.slice a9 aa ab,.string e.er,.string e.ca,.string e.mach,.string e.inp,.int .i64 e.fuel].toArray 32)=W0 at *;obtain ⟨y0,y1,y2,y3,y4,y5,y6,y7,y8,y9,ya,yb,yc,yd,ye,yf,yg⟩:=ecells x0;clear x0 l0 z0
   go_wp2_with (go_at_call 51;refine (uh CC).mono ?_;rintro e1 w1 hh
                obtain rfl:=hh.1;have HH:=hide hh
                clear hh CC)
   refine bodyPost_end (results_none rfl _ _ _) rfl ?_;exact (uh HH).weak (uh K1) (uh G).symm (uh B).symm (by decide)
 by_cases hp2:p=2
 · subst hp2
   have CC:=hide (wtext_any m l r e.inp _ (uh W1) (by omega) (by have:=ho.inp;omega));have G:=hide (part_ok2 e);have B:=hide (part_b2 e);generalize partOk 2 e=good at *;generalize partB 2 e=bs at *;clear hw hz ho hm hlt hnl JS
   go_enter Tryz.func41,Tryz.ntmps41
   go_upto_region 1 with fail;generalize w.alloc (.cells [.int .i64 e.kind,.slice oa nl cap,.int .i64 e.time,.bool e.fine,.int .i64 a0,.bool a1,.bool a2,.string a3,.int .i64 a4,.string a5,.slice a6 a7 a8,.slice a9 aa ab,.string e.er,.string e.ca,.string e.mach,.string e.inp,.int .i64 e.fuel].toArray 32)=W0 at *;obtain ⟨y0,y1,y2,y3,y4,y5,y6,y7,y8,y9,ya,yb,yc,yd,ye,yf,yg⟩:=ecells x0;clear x0 l0 z0
   go_wp2_with (go_at_call 51;refine (uh CC).mono ?_;rintro e1 w1 hh
                obtain rfl:=hh.1;have HH:=hide hh
                clear hh CC)
   refine bodyPost_end (results_none rfl _ _ _) rfl ?_;exact (uh HH).weak (uh K1) (uh G).symm (uh B).symm (by decide)
 by_cases hp3:p=3
 · subst hp3
   have CC:=hide (count_any m l r e.fuel 1 65536 _ (uh W1) (by omega) (by decide) (by decide));have G:=hide (part_ok3 e);have B:=hide (part_b3 e);generalize partOk 3 e=good at *;generalize partB 3 e=bs at *;clear hw hz ho hm hlt hnl JS
   go_enter Tryz.func41,Tryz.ntmps41
   go_upto_region 1 with fail;generalize w.alloc (.cells [.int .i64 e.kind,.slice oa nl cap,.int .i64 e.time,.bool e.fine,.int .i64 a0,.bool a1,.bool a2,.string a3,.int .i64 a4,.string a5,.slice a6 a7 a8,.slice a9 aa ab,.string e.er,.string e.ca,.string e.mach,.string e.inp,.int .i64 e.fuel].toArray 32)=W0 at *;obtain ⟨y0,y1,y2,y3,y4,y5,y6,y7,y8,y9,ya,yb,yc,yd,ye,yf,yg⟩:=ecells x0;clear x0 l0 z0
   go_wp2_with (go_at_call 52;refine (uh CC).mono ?_;rintro e1 w1 hh
                obtain rfl:=hh.1;have HH:=hide hh
                clear hh CC)
   refine bodyPost_end (results_none rfl _ _ _) rfl ?_;exact (uh HH).weak (uh K1) (uh G).symm (uh B).symm (by decide)
 by_cases hp4:p=4
 · subst hp4
   have CC:=hide (wplace_any m l r (.slice oa nl cap) e.ns _ (uh W1) (by omega) (by have:=ho.n;omega) (uh M1).n ho.o);have hK:10+10*e.ns.length≤12000000:=by have:=ho.n;omega
   have HK:=hide hK;clear hK;have G:=hide (part_ok4 e);have B:=hide (part_b4 e);generalize partOk 4 e=good at *;generalize partB 4 e=bs at *;clear hw hz ho hm hlt hnl JS
   go_enter Tryz.func41,Tryz.ntmps41
   go_upto_region 1 with fail;generalize w.alloc (.cells [.int .i64 e.kind,.slice oa nl cap,.int .i64 e.time,.bool e.fine,.int .i64 a0,.bool a1,.bool a2,.string a3,.int .i64 a4,.string a5,.slice a6 a7 a8,.slice a9 aa ab,.string e.er,.string e.ca,.string e.mach,.string e.inp,.int .i64 e.fuel].toArray 32)=W0 at *;obtain ⟨y0,y1,y2,y3,y4,y5,y6,y7,y8,y9,ya,yb,yc,yd,ye,yf,yg⟩:=ecells x0;clear x0 l0 z0
   go_wp2_with (go_at_call 53;refine (uh CC).mono ?_;rintro e1 w1 hh
                obtain rfl:=hh.1;have HH:=hide hh
                clear hh CC)
   refine bodyPost_end (results_none rfl _ _ _) rfl ?_;exact (uh HH).weak (uh K1) (uh G).symm (uh B).symm (by have:=uh HK;omega)
 by_cases hp5:p=5
 · subst hp5
   have CC:=hide (wout_any JS m l r e.fine e.v e.er e.ca ho.v _ _ (uh W1) (by omega) (uh M1).v (uh M1).pw (uh M1).tb ho.er ho.ca);have G:=hide (part_ok5 e);have B:=hide (part_b5 e);generalize partOk 5 e=good at *;generalize partB 5 e=bs at *;clear hw hz ho hm hlt hnl JS
   go_enter Tryz.func41,Tryz.ntmps41
   go_upto_region 1 with fail;generalize w.alloc (.cells [.int .i64 e.kind,.slice oa nl cap,.int .i64 e.time,.bool e.fine,.int .i64 a0,.bool a1,.bool a2,.string a3,.int .i64 a4,.string a5,.slice a6 a7 a8,.slice a9 aa ab,.string e.er,.string e.ca,.string e.mach,.string e.inp,.int .i64 e.fuel].toArray 32)=W0 at *;obtain ⟨y0,y1,y2,y3,y4,y5,y6,y7,y8,y9,ya,yb,yc,yd,ye,yf,yg⟩:=ecells x0;clear x0 l0 z0
   go_wp2_with (go_at_call 54;refine (uh CC).mono ?_;rintro e1 w1 hh
                obtain rfl:=hh.1;have HH:=hide hh
                clear hh CC)
   refine bodyPost_end (results_none rfl _ _ _) rfl ?_;exact (uh HH).weak (uh K1) (uh G).symm (uh B).symm (by decide)
 by_cases hp6:p=6
 · subst hp6
   have CC:=hide (count_any m l r e.time 0 1125899906842624 _ (uh W1) (by omega) (by decide) (by decide));have G:=hide (part_ok6 e);have B:=hide (part_b6 e);generalize partOk 6 e=good at *;generalize partB 6 e=bs at *;clear hw hz ho hm hlt hnl JS
   go_enter Tryz.func41,Tryz.ntmps41
   go_upto_region 1 with fail;generalize w.alloc (.cells [.int .i64 e.kind,.slice oa nl cap,.int .i64 e.time,.bool e.fine,.int .i64 a0,.bool a1,.bool a2,.string a3,.int .i64 a4,.string a5,.slice a6 a7 a8,.slice a9 aa ab,.string e.er,.string e.ca,.string e.mach,.string e.inp,.int .i64 e.fuel].toArray 32)=W0 at *;obtain ⟨y0,y1,y2,y3,y4,y5,y6,y7,y8,y9,ya,yb,yc,yd,ye,yf,yg⟩:=ecells x0;clear x0 l0 z0
   go_wp2_with (go_at_call 52;refine (uh CC).mono ?_;rintro e1 w1 hh
                obtain rfl:=hh.1;have HH:=hide hh
                clear hh CC)
   refine bodyPost_end (results_none rfl _ _ _) rfl ?_;exact (uh HH).weak (uh K1) (uh G).symm (uh B).symm (by decide)
 have G:Hid (partOk p e↔True):=⟨fun _=>trivial,fun _=>⟨fun q=>absurd q hp1,fun q=>absurd q hp2,fun q=>absurd q hp3,fun q=>absurd q hp4,fun q=>absurd q hp5,fun q=>absurd q hp6⟩⟩
 have B:Hid (partB p e=[]):=by
  show _=_;unfold partB;rw [if_neg hp1,if_neg hp2,if_neg hp3,if_neg hp4,if_neg hp5,if_neg hp6]
 generalize partOk p e=good at *;generalize partB p e=bs at *;have hq1:(p == 1)=false:=by rw [beq_eq_false_iff_ne];exact hp1
 have hq2:(p == 2)=false:=by rw [beq_eq_false_iff_ne];exact hp2
 have hq3:(p == 3)=false:=by rw [beq_eq_false_iff_ne];exact hp3
 have hq4:(p == 4)=false:=by rw [beq_eq_false_iff_ne];exact hp4
 have hq5:(p == 5)=false:=by rw [beq_eq_false_iff_ne];exact hp5
 have hq6:(p == 6)=false:=by rw [beq_eq_false_iff_ne];exact hp6
 clear hw hz ho hm hlt hnl JS hp1 hp2 hp3 hp4 hp5 hp6
 go_enter Tryz.func41,Tryz.ntmps41
 go_upto_region 1 with fail;generalize w.alloc (.cells [.int .i64 e.kind,.slice oa nl cap,.int .i64 e.time,.bool e.fine,.int .i64 a0,.bool a1,.bool a2,.string a3,.int .i64 a4,.string a5,.slice a6 a7 a8,.slice a9 aa ab,.string e.er,.string e.ca,.string e.mach,.string e.inp,.int .i64 e.fuel].toArray 32)=W0 at *;clear x0 l0 z0;go_wp2;refine bodyPost_end (results_none rfl _ _ _) rfl ?_;exact ⟨rfl,uh K1,l,r,uh W1,fun q=>⟨q,(uh G).2 trivial,by rw [uh B,List.append_nil]⟩,fun q=>.inl q,by omega⟩
def tabP:List Int:=[0,0,0,1,2,3,4,0,0,4,0,0,4,5,0,4,6,0,4,6,0,4,0,0]
def TBl (w:World):Prop:=∀ (j:Nat) (x:Int),tabP[j]?=some x→w.cell? ⟨1,j,none⟩=some (.int .i64 x)
theorem TBl.keep {w w':World} (h:TBl w) (hb:Below w.heap.size w w'):TBl w':=fun j x hx=>kc hb (h j x hx)
def pk (k:Int) (j:Nat):Int:=if 1≤k∧k≤7 then tabP.getD (3*k.toNat+j) 0 else 0
theorem put3 {w:World}{m:Nat}{b0 b1 b2:Value}{t:TypeId} (h:w.heap[m]?=some (.cells #[b0,b1,b2] t (0,0))) (a0 a1 a2:Value):(((w.setCell ⟨m,0,none⟩ a0).setCell ⟨m,1,none⟩ a1).setCell ⟨m,2,none⟩ a2).heap[m]?=some (.cells #[a0,a1,a2] t (0,0)):=by
 simpa using blk_set (blk_set (blk_set h 0 a0) 1 a1) 2 a2
theorem put3_below (w:World) (m:Nat) (a0 a1 a2:Value):Below m w (((w.setCell ⟨m,0,none⟩ a0).setCell ⟨m,1,none⟩ a1).setCell ⟨m,2,none⟩ a2) :=
 Upd.below (((Upd.setCell m 0 w a0).trans (Upd.setCell m 1 _ a1)).trans (Upd.setCell m 2 _ a2)) (Nat.le_refl m)
theorem ret_parts {m:Nat} (w:World) (a b c:Int) (ok:Bool) (h:w.heap[m]?=some (.cells #[.int .i64 a,.int .i64 b,.int .i64 c] 88 (0,0))) (tmps:Array Value) (ht:tmps[2]?.getD undef=.pointer (some ⟨m,0,none⟩)) (hb:tmps[3]?.getD undef=.bool ok) :
 (results Tryz.f39 tmps).run Tryz.prog w=.ok (.tuple #[.agg #[.int .i64 a,.int .i64 b,.int .i64 c],.bool ok]) w:=by
 have h0:w.cell? ⟨m,0,none⟩=some (.int .i64 a):=blk_cell h 0;have h1:w.cell? ⟨m,1,none⟩=some (.int .i64 b):=blk_cell h 1;have h2:w.cell? ⟨m,2,none⟩=some (.int .i64 c):=blk_cell h 2;simp [results,Tryz.results39,ht,hb,go_sem,h0,h1,h2]
set_option maxRecDepth 100000 in
set_option maxHeartbeats 3200000 in
theorem partsOf_any (k:Int) (w:World) (h:TBl w):Calls Tryz.prog 39 #[.int .i64 k] w fun e w'=>e=.returned (.tuple #[.agg #[.int .i64 (pk k 0),.int .i64 (pk k 1),.int .i64 (pk k 2)],.bool (decide (1≤k∧k≤7))])∧Below w.heap.size w w':=by
 have hlt:0 < w.heap.size:=Nat.lt_of_le_of_lt (Nat.zero_le _) (mm.cell_lt (h 0 0 rfl));have x0:=heap_alloc_new w (.cells #[.int .i64 0,.int .i64 0,.int .i64 0] 88);have HB:=hide ((Below.refl w.heap.size w).alloc (Nat.le_refl _) (.cells #[.int .i64 0,.int .i64 0,.int .i64 0] 88))
 by_cases hk:1≤k∧k≤7
 · have hd:decide (1≤k∧k≤7)=true:=decide_eq_true hk
   rw [hd];clear hd;have hc:k=1∨k=2∨k=3∨k=4∨k=5∨k=6∨k=7:=by omega
   rcases hc with rfl|rfl|rfl|rfl|rfl|rfl|rfl
   · have t0:=(h.keep (uh HB)) 3 1 rfl
     have t1:=(h.keep (uh HB)) 4 2 rfl;have t2:=(h.keep (uh HB)) 5 3 rfl;have e0:pk 1 0=1:=rfl;have e1:pk 1 1=2:=rfl;have e2:pk 1 2=3:=rfl;rw [e0,e1,e2];clear e0 e1 e2 h hk hlt
     go_enter Tryz.func39,Tryz.ntmps39
     go_upto_region 1 with fail;generalize w.alloc (.cells #[.int .i64 0,.int .i64 0,.int .i64 0] 88)=W0 at *;have f0:=blk_free x0 0;have f1:=blk_free x0 1;have f2:=blk_free x0 2;have k0:=blk_cell x0 0;have k1:=blk_cell x0 1;have k2:=blk_cell x0 2;have HX:=hide x0;clear x0;go_wp2;refine bodyPost_ret (ret_parts (m:=w.heap.size) _ _ _ _ _ (put3 (uh HX) _ _ _) _ rfl rfl) rfl ?_;exact ⟨rfl,(uh HB).trans (put3_below _ _ _ _ _)⟩
   · have t0:=(h.keep (uh HB)) 6 4 rfl
     have t1:=(h.keep (uh HB)) 7 0 rfl;have t2:=(h.keep (uh HB)) 8 0 rfl;have e0:pk 2 0=4:=rfl;have e1:pk 2 1=0:=rfl;have e2:pk 2 2=0:=rfl;rw [e0,e1,e2];clear e0 e1 e2 h hk hlt
     go_enter Tryz.func39,Tryz.ntmps39
     go_upto_region 1 with fail;generalize w.alloc (.cells #[.int .i64 0,.int .i64 0,.int .i64 0] 88)=W0 at *;have f0:=blk_free x0 0;have f1:=blk_free x0 1;have f2:=blk_free x0 2;have k0:=blk_cell x0 0;have k1:=blk_cell x0 1;have k2:=blk_cell x0 2;have HX:=hide x0;clear x0;go_wp2;refine bodyPost_ret (ret_parts (m:=w.heap.size) _ _ _ _ _ (put3 (uh HX) _ _ _) _ rfl rfl) rfl ?_;exact ⟨rfl,(uh HB).trans (put3_below _ _ _ _ _)⟩
   · have t0:=(h.keep (uh HB)) 9 4 rfl
     have t1:=(h.keep (uh HB)) 10 0 rfl;have t2:=(h.keep (uh HB)) 11 0 rfl;have e0:pk 3 0=4:=rfl;have e1:pk 3 1=0:=rfl;have e2:pk 3 2=0:=rfl;rw [e0,e1,e2];clear e0 e1 e2 h hk hlt
     go_enter Tryz.func39,Tryz.ntmps39
     go_upto_region 1 with fail;generalize w.alloc (.cells #[.int .i64 0,.int .i64 0,.int .i64 0] 88)=W0 at *;have f0:=blk_free x0 0;have f1:=blk_free x0 1;have f2:=blk_free x0 2;have k0:=blk_cell x0 0;have k1:=blk_cell x0 1;have k2:=blk_cell x0 2;have HX:=hide x0;clear x0;go_wp2;refine bodyPost_ret (ret_parts (m:=w.heap.size) _ _ _ _ _ (put3 (uh HX) _ _ _) _ rfl rfl) rfl ?_;exact ⟨rfl,(uh HB).trans (put3_below _ _ _ _ _)⟩
   · have t0:=(h.keep (uh HB)) 12 4 rfl
     have t1:=(h.keep (uh HB)) 13 5 rfl;have t2:=(h.keep (uh HB)) 14 0 rfl;have e0:pk 4 0=4:=rfl;have e1:pk 4 1=5:=rfl;have e2:pk 4 2=0:=rfl;rw [e0,e1,e2];clear e0 e1 e2 h hk hlt
     go_enter Tryz.func39,Tryz.ntmps39
     go_upto_region 1 with fail;generalize w.alloc (.cells #[.int .i64 0,.int .i64 0,.int .i64 0] 88)=W0 at *;have f0:=blk_free x0 0;have f1:=blk_free x0 1;have f2:=blk_free x0 2;have k0:=blk_cell x0 0;have k1:=blk_cell x0 1;have k2:=blk_cell x0 2;have HX:=hide x0;clear x0;go_wp2;refine bodyPost_ret (ret_parts (m:=w.heap.size) _ _ _ _ _ (put3 (uh HX) _ _ _) _ rfl rfl) rfl ?_;exact ⟨rfl,(uh HB).trans (put3_below _ _ _ _ _)⟩
   · have t0:=(h.keep (uh HB)) 15 4 rfl
     have t1:=(h.keep (uh HB)) 16 6 rfl;have t2:=(h.keep (uh HB)) 17 0 rfl;have e0:pk 5 0=4:=rfl;have e1:pk 5 1=6:=rfl;have e2:pk 5 2=0:=rfl;rw [e0,e1,e2];clear e0 e1 e2 h hk hlt
     go_enter Tryz.func39,Tryz.ntmps39
     go_upto_region 1 with fail;generalize w.alloc (.cells #[.int .i64 0,.int .i64 0,.int .i64 0] 88)=W0 at *;have f0:=blk_free x0 0;have f1:=blk_free x0 1;have f2:=blk_free x0 2;have k0:=blk_cell x0 0;have k1:=blk_cell x0 1;have k2:=blk_cell x0 2;have HX:=hide x0;clear x0;go_wp2;refine bodyPost_ret (ret_parts (m:=w.heap.size) _ _ _ _ _ (put3 (uh HX) _ _ _) _ rfl rfl) rfl ?_;exact ⟨rfl,(uh HB).trans (put3_below _ _ _ _ _)⟩
   · have t0:=(h.keep (uh HB)) 18 4 rfl
     have t1:=(h.keep (uh HB)) 19 6 rfl;have t2:=(h.keep (uh HB)) 20 0 rfl;have e0:pk 6 0=4:=rfl;have e1:pk 6 1=6:=rfl;have e2:pk 6 2=0:=rfl;rw [e0,e1,e2];clear e0 e1 e2 h hk hlt
     go_enter Tryz.func39,Tryz.ntmps39
     go_upto_region 1 with fail;generalize w.alloc (.cells #[.int .i64 0,.int .i64 0,.int .i64 0] 88)=W0 at *;have f0:=blk_free x0 0;have f1:=blk_free x0 1;have f2:=blk_free x0 2;have k0:=blk_cell x0 0;have k1:=blk_cell x0 1;have k2:=blk_cell x0 2;have HX:=hide x0;clear x0;go_wp2;refine bodyPost_ret (ret_parts (m:=w.heap.size) _ _ _ _ _ (put3 (uh HX) _ _ _) _ rfl rfl) rfl ?_;exact ⟨rfl,(uh HB).trans (put3_below _ _ _ _ _)⟩
   · have t0:=(h.keep (uh HB)) 21 4 rfl
     have t1:=(h.keep (uh HB)) 22 0 rfl;have t2:=(h.keep (uh HB)) 23 0 rfl;have e0:pk 7 0=4:=rfl;have e1:pk 7 1=0:=rfl;have e2:pk 7 2=0:=rfl;rw [e0,e1,e2];clear e0 e1 e2 h hk hlt
     go_enter Tryz.func39,Tryz.ntmps39
     go_upto_region 1 with fail;generalize w.alloc (.cells #[.int .i64 0,.int .i64 0,.int .i64 0] 88)=W0 at *;have f0:=blk_free x0 0;have f1:=blk_free x0 1;have f2:=blk_free x0 2;have k0:=blk_cell x0 0;have k1:=blk_cell x0 1;have k2:=blk_cell x0 2;have HX:=hide x0;clear x0;go_wp2;refine bodyPost_ret (ret_parts (m:=w.heap.size) _ _ _ _ _ (put3 (uh HX) _ _ _) _ rfl rfl) rfl ?_;exact ⟨rfl,(uh HB).trans (put3_below _ _ _ _ _)⟩
 · have hd:decide (1≤k∧k≤7)=false:=decide_eq_false hk
   have e0:∀ j,pk k j=0:=fun j=>if_neg hk
   rw [hd,e0,e0,e0];have hc:k < 1∨(¬ k < 1∧8≤k):=by omega
   clear hd e0 h hk hlt
   rcases hc with hk1|⟨hk1,hk2⟩
   · skip
     go_enter Tryz.func39,Tryz.ntmps39
     go_upto_region 1 with fail;generalize w.alloc (.cells #[.int .i64 0,.int .i64 0,.int .i64 0] 88)=W0 at *;have f0:=blk_free x0 0;have f1:=blk_free x0 1;have f2:=blk_free x0 2;have k0:=blk_cell x0 0;have k1:=blk_cell x0 1;have k2:=blk_cell x0 2;have HX:=hide x0;clear x0;go_wp2;refine bodyPost_ret (ret_parts (m:=w.heap.size) _ _ _ _ _ (put3 (uh HX) _ _ _) _ rfl rfl) rfl ?_;exact ⟨rfl,(uh HB).trans (put3_below _ _ _ _ _)⟩
   · skip
     go_enter Tryz.func39,Tryz.ntmps39
     go_upto_region 1 with fail;generalize w.alloc (.cells #[.int .i64 0,.int .i64 0,.int .i64 0] 88)=W0 at *;have f0:=blk_free x0 0;have f1:=blk_free x0 1;have f2:=blk_free x0 2;have k0:=blk_cell x0 0;have k1:=blk_cell x0 1;have k2:=blk_cell x0 2;have HX:=hide x0;clear x0;go_wp2;refine bodyPost_ret (ret_parts (m:=w.heap.size) _ _ _ _ _ (put3 (uh HX) _ _ _) _ rfl rfl) rfl ?_;exact ⟨rfl,(uh HB).trans (put3_below _ _ _ _ _)⟩
def evOk (e:Ev):Prop:=(1≤e.kind∧e.kind≤7)∧∀ p∈[pk e.kind 0,pk e.kind 1,pk e.kind 2],partOk p e
def evB (e:Ev):List UInt8:=UInt8.ofNat e.kind.toNat::[pk e.kind 0,pk e.kind 1,pk e.kind 2].flatMap fun p=>partB p e
set_option maxRecDepth 100000 in
set_option maxHeartbeats 12800000 in
theorem wevent_any (JS:SameC) (m:Nat) (l:List UInt8) (r:Bool) (e:Ev) (pv:Value) (vc:List Value) (w:World) (hw:WB w m l r) (hz:l.length≤1000) (ho:EvOk e) (hm:EvM w m e pv vc) (hT:∀ u,Below m w u→TBl u) :
 Calls Tryz.prog 23 #[.pointer (some ⟨m,0,none⟩),.agg (evC e pv vc).toArray] w (WrP w m l r (evOk e) (evB e) 40000000):=by
 obtain ⟨a0,a1,a2,a3,a4,a5,a6,a7,a8,a9,aa,ab,rfl⟩:=(hm.v w (Below.refl _ _)).form;obtain ⟨oa,cap,rfl,_,_⟩:=(hm.n w (Below.refl _ _)).form;generalize hnl:e.ns.length=nl at *;rw [evC_eq];obtain ⟨x0,l0,z0⟩:=one17 w [.int .i64 e.kind,.slice oa nl cap,.int .i64 e.time,.bool e.fine,.int .i64 a0,.bool a1,.bool a2,.string a3,.int .i64 a4,.string a5,.slice a6 a7 a8,.slice a9 aa ab,.string e.er,.string e.ca,.string e.mach,.string e.inp,.int .i64 e.fuel] _ rfl;have hlt:=hw.lt;have W0B:=hide (hw.keep l0);have K0:=hide (Keeps.of_below hlt l0);have X0:Hid (BXA _ m w.heap.size [.int .i64 e.kind,.slice oa nl cap,.int .i64 e.time,.bool e.fine,.int .i64 a0,.bool a1,.bool a2,.string a3,.int .i64 a4,.string a5,.slice a6 a7 a8,.slice a9 aa ab,.string e.er,.string e.ca,.string e.mach,.string e.inp,.int .i64 e.fuel] 32):=⟨x0,hw.new l0 (Nat.le_refl _)⟩;have MM:=hide (fun u (hu:Keeps m w u)=>hm.go (hu.below hw));have TT:=hide (fun u (hu:Keeps m w u)=>hT u (hu.below hw));have CT:=hide (partsOf_any e.kind _ (uh TT _ (uh K0)));have HZ:=hide hz;have HO:=hide ho;have HOK:Hid (evOk e↔(1≤e.kind∧e.kind≤7)∧∀ p∈[pk e.kind 0,pk e.kind 1,pk e.kind 2],partOk p e):=Iff.rfl;have HEB:Hid (evB e=UInt8.ofNat e.kind.toNat::[pk e.kind 0,pk e.kind 1,pk e.kind 2].flatMap fun p=>partB p e):=rfl;generalize evOk e=good at *;generalize evB e=bs at *;generalize pk e.kind 0=p0 at *;generalize pk e.kind 1=p1 at *;generalize pk e.kind 2=p2 at *;clear hz ho hm hlt hnl hw hT
 go_enter Tryz.func23,Tryz.ntmps23
 go_upto_region 1 with fail;generalize w.alloc (.cells [.int .i64 e.kind,.slice oa nl cap,.int .i64 e.time,.bool e.fine,.int .i64 a0,.bool a1,.bool a2,.string a3,.int .i64 a4,.string a5,.slice a6 a7 a8,.slice a9 aa ab,.string e.er,.string e.ca,.string e.mach,.string e.inp,.int .i64 e.fuel].toArray 32)=W0 at *;obtain ⟨y0,y1,y2,y3,y4,y5,y6,y7,y8,y9,ya,yb,yc,yd,ye,yf,yg⟩:=ecells x0;clear x0 l0 z0
 by_cases hk:1≤e.kind∧e.kind≤7
 · have hd:decide (1≤e.kind∧e.kind≤7)=true:=decide_eq_true hk
   rw [hd] at CT;have hwk:IntKind.u8.wrap e.kind=e.kind:=IntWalk.u8_in _ ⟨by omega,by omega⟩;have HKD:=hide hk;clear hd
   go_upto_region 2 with (go_at_call 39;refine (uh CT).mono ?_;rintro e1 u1 ⟨rfl,b1⟩
                          clear CT)
   have hA:=heap_alloc_new u1 (.cells #[.int .i64 p0,.int .i64 p1,.int .i64 p2] 88);have hb2:=(Below.refl u1.heap.size u1).alloc (Nat.le_refl _) (.cells #[.int .i64 p0,.int .i64 p1,.int .i64 p2] 88);have w1:=(uh W0B).keep b1;have W2:=hide (w1.keep hb2);have XA:Hid (BXA _ m u1.heap.size [.int .i64 p0,.int .i64 p1,.int .i64 p2] 88):=⟨hA,w1.new hb2 (Nat.le_refl _)⟩;have kk:=(Keeps.of_below (uh W0B).lt b1).trans (Keeps.of_below w1.lt hb2);have K2:=hide ((uh K0).trans kk);have X2:=hide ((uh X0).go kk);generalize u1.alloc (.cells #[.int .i64 p0,.int .i64 p1,.int .i64 p2] 88)=U2 at *;generalize u1.heap.size=mA at *;clear b1 hA hb2 w1 kk K0 X0 W0B y0 y1 y2 y3 y4 y5 y6 y7 y8 y9 ya yb yc yd ye yf yg;obtain ⟨y0,y1,y2,y3,y4,y5,y6,y7,y8,y9,ya,yb,yc,yd,ye,yf,yg⟩:=ecells (uh X2).1;have CA:=hide (add_int m l r e.kind (by omega) (by omega) U2 (uh W2) (by have:=uh HZ;omega));clear hk
   go_upto_region 6 with (go_at_call 40;refine (uh CA).mono ?_;rintro e2 u3 ⟨rfl,kk,w3⟩
                          have W3:=hide w3;have K3:=hide ((uh K2).trans kk);have X3:=hide ((uh X2).go kk);have XB:=hide ((uh XA).go kk);have q0:=blk_cell (uh XB).1 0;have q1:=blk_cell (uh XB).1 1;have q2:=blk_cell (uh XB).1 2
                          clear kk w3 CA)
   clear y0 y1 y2 y3 y4 y5 y6 y7 y8 y9 ya yb yc yd ye yf yg q0 q1 q2 XB XA X2 K2 W2
   go_loopw [25] (fun iv wr=>∃ i:Nat,iv=.int .i64 (i:Int)∧i≤3∧Hid (Keeps m w wr)∧Hid (BXA wr m w.heap.size [.int .i64 e.kind,.slice oa nl cap,.int .i64 e.time,.bool e.fine,.int .i64 a0,.bool a1,.bool a2,.string a3,.int .i64 a4,.string a5,.slice a6 a7 a8,.slice a9 aa ab,.string e.er,.string e.ca,.string e.mach,.string e.inp,.int .i64 e.fuel] 32)∧Hid (∃ l' r',WB wr m l' r'∧(r'=false→r=false∧(∀ p∈[p0,p1,p2].take i,partOk p e)∧l'=l++[UInt8.ofNat e.kind.toNat]++([p0,p1,p2].take i).flatMap fun p=>partB p e)∧(r'=true→r=true∨¬ ∀ p∈[p0,p1,p2],partOk p e)∧l'.length≤l.length+1+12000000*i)) (fun iv _=>3 - (intOf iv).toNat)
   case atStart=>exact ⟨0,rfl,by omega,uh K3,uh X3,_,r,uh W3,fun q=>⟨q,fun p hp=>by simp at hp,by simp⟩,fun q=>.inl q,by simp⟩
   case round =>
    have hi0:∀ u:World,(Instr.index 88 (.agg #[.int .i64 p0,.int .i64 p1,.int .i64 p2]) (.int .i64 0)).run Tryz.prog u=.ok (.int .i64 p0) u:=fun u=>by kernel_rfl
    have hi1:∀ u:World,(Instr.index 88 (.agg #[.int .i64 p0,.int .i64 p1,.int .i64 p2]) (.int .i64 1)).run Tryz.prog u=.ok (.int .i64 p1) u:=fun u=>by kernel_rfl
    have hi2:∀ u:World,(Instr.index 88 (.agg #[.int .i64 p0,.int .i64 p1,.int .i64 p2]) (.int .i64 2)).run Tryz.prog u=.ok (.int .i64 p2) u:=fun u=>by kernel_rfl
    obtain ⟨i,rfl,hi3,hk,hx,l',r',hw',hg,hbd,hol⟩:=hrel;have M1:=hide (uh MM _ (uh hk));obtain ⟨y0,y1,y2,y3,y4,y5,y6,y7,y8,y9,ya,yb,yc,yd,ye,yf,yg⟩:=ecells (uh hx).1;have hc:i=0∨i=1∨i=2∨i=3:=by omega
    rcases hc with rfl|rfl|rfl|rfl
    · skip
      rw [show ((0:Nat):Int)=0 from rfl];have PC:=hide (wpart_any JS m l' r' p0 e _ _ _ hw' (by have:=uh HZ;omega) (uh HO) (uh M1));have HG:=hide hg;have HBD:=hide hbd;have HOL:=hide hol;clear hg hbd hol hw'
      go_wp2_with (go_at_call 41;refine (uh PC).mono ?_;rintro e1 w2 ⟨rfl,kk,l2,r2,h2,hg2,hb2,hz2⟩
                   have KK:=hide kk;have H2:=hide h2;have HG2:=hide hg2;have HB2:=hide hb2;have HZ2:=hide hz2
                   clear kk h2 hg2 hb2 hz2 PC)
      refine ⟨⟨1,rfl,by omega,(uh hk).trans (uh KK),(uh hx).go (uh KK),l2,r2,uh H2,fun q=>?_,fun q=>?_,by have:=uh HOL;have:=uh HZ2;omega⟩,by simp [intOf]⟩
      · obtain ⟨z1,z2,z3⟩:=uh HG2 q
        obtain ⟨q1,q2,q3⟩:=uh HG z1;refine ⟨q1,fun p hp=>?_,?_⟩
        · have hp':p∈[p0,p1,p2].take 0∨p=p0:=by
           simp at hp ⊢;exact hp
          rcases hp' with hp|rfl
          · exact q2 p hp
          · exact z2
        · rw [z3,q3]
          simp
      · rcases uh HB2 q with z|z
        · exact uh HBD z
        · exact .inr fun y=>z (y p0 (by simp))
    · skip
      rw [show ((1:Nat):Int)=1 from rfl];have PC:=hide (wpart_any JS m l' r' p1 e _ _ _ hw' (by have:=uh HZ;omega) (uh HO) (uh M1));have HG:=hide hg;have HBD:=hide hbd;have HOL:=hide hol;clear hg hbd hol hw'
      go_wp2_with (go_at_call 41;refine (uh PC).mono ?_;rintro e1 w2 ⟨rfl,kk,l2,r2,h2,hg2,hb2,hz2⟩
                   have KK:=hide kk;have H2:=hide h2;have HG2:=hide hg2;have HB2:=hide hb2;have HZ2:=hide hz2
                   clear kk h2 hg2 hb2 hz2 PC)
      refine ⟨⟨2,rfl,by omega,(uh hk).trans (uh KK),(uh hx).go (uh KK),l2,r2,uh H2,fun q=>?_,fun q=>?_,by have:=uh HOL;have:=uh HZ2;omega⟩,by simp [intOf]⟩
      · obtain ⟨z1,z2,z3⟩:=uh HG2 q
        obtain ⟨q1,q2,q3⟩:=uh HG z1;refine ⟨q1,fun p hp=>?_,?_⟩
        · have hp':p∈[p0,p1,p2].take 1∨p=p1:=by
           simp at hp ⊢
           rcases hp with hp|hp <;> simp [hp]
          rcases hp' with hp|rfl
          · exact q2 p hp
          · exact z2
        · rw [z3,q3]
          simp
      · rcases uh HB2 q with z|z
        · exact uh HBD z
        · exact .inr fun y=>z (y p1 (by simp))
    · skip
      rw [show ((2:Nat):Int)=2 from rfl];have PC:=hide (wpart_any JS m l' r' p2 e _ _ _ hw' (by have:=uh HZ;omega) (uh HO) (uh M1));have HG:=hide hg;have HBD:=hide hbd;have HOL:=hide hol;clear hg hbd hol hw'
      go_wp2_with (go_at_call 41;refine (uh PC).mono ?_;rintro e1 w2 ⟨rfl,kk,l2,r2,h2,hg2,hb2,hz2⟩
                   have KK:=hide kk;have H2:=hide h2;have HG2:=hide hg2;have HB2:=hide hb2;have HZ2:=hide hz2
                   clear kk h2 hg2 hb2 hz2 PC)
      refine ⟨⟨3,rfl,by omega,(uh hk).trans (uh KK),(uh hx).go (uh KK),l2,r2,uh H2,fun q=>?_,fun q=>?_,by have:=uh HOL;have:=uh HZ2;omega⟩,by simp [intOf]⟩
      · obtain ⟨z1,z2,z3⟩:=uh HG2 q
        obtain ⟨q1,q2,q3⟩:=uh HG z1;refine ⟨q1,fun p hp=>?_,?_⟩
        · have hp':p∈[p0,p1,p2].take 2∨p=p2:=by
           simp at hp ⊢
           rcases hp with hp|hp|hp <;> simp [hp]
          rcases hp' with hp|rfl
          · exact q2 p hp
          · exact z2
        · rw [z3,q3]
          simp
      · rcases uh HB2 q with z|z
        · exact uh HBD z
        · exact .inr fun y=>z (y p2 (by simp))
    · have HW:=hide hw'
      have HG:=hide hg;have HBD:=hide hbd;have HOL:=hide hol;clear hg hbd hol hw';go_wp2;refine bodyPost_end (results_none rfl _ _ _) rfl ?_;refine ⟨rfl,uh hk,l',r',uh HW,fun q=>?_,fun q=>?_,by have:=uh HOL;omega⟩
      · obtain ⟨q1,q2,q3⟩:=uh HG q
        refine ⟨q1,(uh HOK).2 ⟨uh HKD,fun p hp=>q2 p (by simpa using hp)⟩,?_⟩;rw [q3,uh HEB];simp
      · rcases uh HBD q with z|z
        · exact .inl z
        · exact .inr fun y=>z ((uh HOK).1 y).2
 · have hd:decide (1≤e.kind∧e.kind≤7)=false:=decide_eq_false hk
   rw [hd] at CT;have HKD:=hide hk;clear hd hk
   go_upto_region 2 with (go_at_call 39;refine (uh CT).mono ?_;rintro e1 u1 ⟨rfl,b1⟩
                          clear CT)
   have hb2:=(Below.refl u1.heap.size u1).alloc (Nat.le_refl _) (.cells #[.int .i64 p0,.int .i64 p1,.int .i64 p2] 88);have w1:=(uh W0B).keep b1;have w2:=w1.keep hb2;have K2:=hide ((uh K0).trans ((Keeps.of_below (uh W0B).lt b1).trans (Keeps.of_below w1.lt hb2)));generalize u1.alloc (.cells #[.int .i64 p0,.int .i64 p1,.int .i64 p2] 88)=U2 at *;clear b1 hb2 w1 K0 X0 W0B y0 y1 y2 y3 y4 y5 y6 y7 y8 y9 ya yb yc yd ye yf yg;obtain ⟨tv,hc,ho⟩:=w2;have c1:=blk_cell hc 1;have f1:=blk_free hc 1;have K3:=hide ((uh K2).trans (Keeps.mark hc (.bool true)));have W3:Hid (WB (U2.setCell ⟨m,1,none⟩ (.bool true)) m l true):=⟨tv,blk_set hc 1 _,OB.upd ho fun k hk=>(Upd.setCell m 1 U2 _).block k hk⟩;clear hc ho;go_wp2;refine bodyPost_end (results_none rfl _ _ _) rfl ?_;exact ⟨rfl,uh K3,l,true,uh W3,fun q=>Bool.noConfusion q,fun _=>.inr fun z=>uh HKD ((uh HOK).1 z).1,by omega⟩
structure RE (ev:Value) (w:World):Prop where
 pw:Pow w
 tb:Lib.Utf8Tabs 2 3 w
 tl:TBl w
 er:w.cell? ⟨0,0,none⟩=some (.iface 264 ev)
theorem RE.keep {ev:Value}{w w':World} (h:RE ev w) (hb:Below w.heap.size w w'):RE ev w':=⟨h.pw.keep hb,tabs_keep h.tb hb,h.tl.keep hb,kc hb h.er⟩
def EncP (ev:Value) (w:World) (e:Ev) (en:Ending) (w':World):Prop :=
 Below w.heap.size w w'∧((evOk e∧∃ tv,en=.returned (.tuple #[tv,.nilIface])∧OB w' w.heap.size tv (evB e))∨(¬ evOk e∧en=.returned (.tuple #[.slice none 0 0,.iface 264 ev])))
theorem enc_start (JS:SameC) (ev:Value) (e:Ev) (pv:Value) (vc:List Value) (w:World) (hE:RE ev w) (ho:EvOk e) (hv:VR w e.v vc) (hn:rt.IS w pv e.ns) :
 ∀ W0,w.alloc (.cells (evC e pv vc).toArray 32)=W0→∀ W1,W0.alloc (.cells #[.slice none 0 0,.bool false] 63)=W1 →
 (Calls Tryz.prog 23 #[.pointer (some ⟨w.heap.size+1,0,none⟩),.agg (evC e pv vc).toArray] W1 (WrP W1 (w.heap.size+1) [] false (evOk e) (evB e) 40000000))∧WB W1 (w.heap.size+1) [] false∧W1.heap[w.heap.size]?=some (.cells (evC e pv vc).toArray 32 (0,0))∧Below w.heap.size w W1∧w.heap.size≤w.heap.size+1:=by
 rintro W0 h0 W1 h1;obtain ⟨x0,l0,z0⟩:=one17 w (evC e pv vc) W0 h0.symm;have hW:=heap_alloc_new W0 (.cells #[.slice none 0 0,.bool false] 63);have bW:=(Below.refl _ W0).alloc (Nat.le_refl _) (.cells #[.slice none 0 0,.bool false] 63);rw [h1] at hW bW;have bw:Below w.heap.size w W1:=l0.trans (bW.mono l0.size);have hwb:WB W1 W0.heap.size [] false:=⟨_,hW,OB.nil _ _⟩;have hm:EvM W1 W0.heap.size e pv vc:=⟨fun u hu=>hv.keep (bw.trans (hu.mono l0.size)),fun u hu=>hn.keep (bw.trans (hu.mono l0.size)),fun u hu=>hE.pw.keep (bw.trans (hu.mono l0.size)),fun u hu=>tabs_keep hE.tb (bw.trans (hu.mono l0.size))⟩;have hs:W0.heap.size=w.heap.size+1:=by rw [← h0,World.size_alloc]
 rw [← hs];exact ⟨wevent_any JS _ [] false e _ _ _ hwb (by simp) ho hm (fun u hu=>hE.tl.keep (bw.trans (hu.mono l0.size))),hwb,(bW.block _ z0).trans x0,bw,l0.size⟩
set_option maxRecDepth 100000 in
set_option maxHeartbeats 6400000 in
theorem encode_any (JS:SameC) (ev:Value) (e:Ev) (pv:Value) (vc:List Value) (w:World) (hE:RE ev w) (ho:EvOk e) (hv:VR w e.v vc) (hn:rt.IS w pv e.ns) :
 Calls Tryz.prog 11 #[.agg (evC e pv vc).toArray] w (EncP ev w e):=by
 have ST:=hide (enc_start JS ev e pv vc w hE ho hv hn);obtain ⟨a0,a1,a2,a3,a4,a5,a6,a7,a8,a9,aa,ab,rfl⟩:=hv.form;obtain ⟨oa,cap,rfl,_,_⟩:=hn.form;generalize hnl:e.ns.length=nl at *;rw [evC_eq] at ST ⊢;have HE:=hide (fun u (hu:Below w.heap.size w u)=>hE.keep hu);have HEN:Hid (∀ en w',EncP ev w e en w'↔Below w.heap.size w w'∧((evOk e∧∃ tv,en=.returned (.tuple #[tv,.nilIface])∧OB w' w.heap.size tv (evB e))∨(¬ evOk e∧en=.returned (.tuple #[.slice none 0 0,.iface 264 ev])))):=fun _ _=>Iff.rfl
 clear hE ho hv hn hnl JS;generalize evOk e=good at *;generalize evB e=bs at *
 go_enter Tryz.func11,Tryz.ntmps11
 go_upto_region 2 with fail;generalize h0:w.alloc (.cells [.int .i64 e.kind,.slice oa nl cap,.int .i64 e.time,.bool e.fine,.int .i64 a0,.bool a1,.bool a2,.string a3,.int .i64 a4,.string a5,.slice a6 a7 a8,.slice a9 aa ab,.string e.er,.string e.ca,.string e.mach,.string e.inp,.int .i64 e.fuel].toArray 32)=W0;generalize h1:W0.alloc (.cells #[.slice none 0 0,.bool false] 63)=W1;obtain ⟨s1,s2,s3,s4,s5⟩:=uh ST W0 h0 W1 h1;have CE:=hide s1;have HWB:=hide s2;have S4:=hide s4;have S5:=hide s5;obtain ⟨y0,y1,y2,y3,y4,y5,y6,y7,y8,y9,ya,yb,yc,yd,ye,yf,yg⟩:=ecells s3;clear h0 h1 ST s1 s2 s3 s4 s5
 go_upto_region 3 with (go_at_call 23;refine (uh CE).mono ?_;rintro e1 u1 ⟨rfl,kk,l2,r2,⟨tv,hc,ho⟩,hg2,hb2,hz2⟩
                        have B1:=hide ((uh S4).trans ((kk.below (uh HWB)).mono (uh S5)));have c0:=blk_cell hc 0;have c1:=blk_cell hc 1;have HO:=hide ho;have HG2:=hide hg2;have HB2:=hide hb2
                        clear kk hz2 CE hg2 hb2 hc)
 obtain ⟨ob,nb,cb,rfl⟩:=ho.sl;have er:=(uh HE u1 (uh B1)).er;clear ho y0 y1 y2 y3 y4 y5 y6 y7 y8 y9 ya yb yc yd ye yf yg
 cases r2 with
 | true =>
   have HQ:=hide (uh HB2 rfl);clear HG2 HB2;go_upto_region 4 with fail;have er2:=(uh HE u1.drew ((uh B1).trans ⟨rfl,rfl,rfl,Nat.le_refl _,fun _ _=>rfl⟩)).er
   go_region
   all_goals go_wp2
   all_goals refine bodyPost_ret (results_tmp2 rfl _ _ _) rfl ?_
   all_goals refine (uh HEN _ _).2 ⟨(uh B1).trans ⟨rfl,rfl,rfl,Nat.le_refl _,fun _ _=>rfl⟩,.inr ⟨?_,rfl⟩⟩
   all_goals exact (uh HQ).resolve_left (by decide)
 | false =>
   obtain ⟨q1,q2,q3⟩:=uh HG2 rfl;have HGD:=hide q2;have HOO:=hide q3;clear HG2 HB2 q1 q2 q3
   have HOW:Hid (OB u1 w.heap.size (.slice ob nb cb) bs):=by
    have h1:=uh HO;rw [uh HOO,List.nil_append] at h1;exact h1.base (by omega)
   go_wp2;refine bodyPost_ret (results_tmp2 rfl _ _ _) rfl ?_;exact (uh HEN _ _).2 ⟨uh B1,.inl ⟨uh HGD,_,rfl,uh HOW⟩⟩
end Go.Proofs.YthnhobplgmojeaaGreatDoor.ev
namespace Go.Proofs.YthnhobplgmojeaaGreatDoor.ev
open Go.RowKit Go.Joins mm Go.Proofs.YthnhobplgmojeaaGreatDoor.rd
theorem vvI64:Tryz.prog.cellsOf 2=1:=by kernel_rfl
theorem vvInts:Tryz.prog.cellsOf 22=1:=by kernel_rfl
theorem vvOut:Tryz.prog.cellsOf 30=11:=by kernel_rfl
theorem vvEv:Tryz.prog.cellsOf 32=17:=by kernel_rfl
theorem len4' {α:Type}:∀ (l:List α),l.length=4→∃ a b c d,l=[a,b,c,d]
 | [a,b,c,d],_=>⟨a,b,c,d,rfl⟩
theorem len7' {α:Type}:∀ (l:List α),l.length=7→∃ a b c d e f g,l=[a,b,c,d,e,f,g]
 | [a,b,c,d,e,f,g],_=>⟨a,b,c,d,e,f,g,rfl⟩
theorem len17' {α:Type}:∀ (l:List α),l.length=17→∃ cl0 cl1 cl2 cl3 cl4 cl5 cl6 cl7 cl8 cl9 cla clb clc cld cle clf clg,l=[cl0,cl1,cl2,cl3,cl4,cl5,cl6,cl7,cl8,cl9,cla,clb,clc,cld,cle,clf,clg]
 | [cl0,cl1,cl2,cl3,cl4,cl5,cl6,cl7,cl8,cl9,cla,clb,clc,cld,cle,clf,clg],_=>⟨cl0,cl1,cl2,cl3,cl4,cl5,cl6,cl7,cl8,cl9,cla,clb,clc,cld,cle,clf,clg,rfl⟩
structure EvA (e:Ev):Prop where
 v:Bd e.v
 n:e.ns.length≤1048576
 o:∀ n∈e.ns,rt.Oki n
 er:e.er.size≤1048576
 ca:e.ca.size≤1048576
 ma:e.mach.size≤1048576
 inp:e.inp.size≤1048576
section
variable {H:Type}{enc:TypeId × Value→H}{W:World}{fuel:Nat}{cs:List Value}{x:DataW H × List MemPlace}
theorem ev_of (h:DataW.trod enc Tryz.prog W 0 (fun _=>true) true fuel 32 cs=some x) (hN:Rows.uptoBulk x.1≤1048576):∃ e pv vc,cs=evC e pv vc∧VR W e.v vc∧rt.IS W pv e.ns∧EvA e:=by
 obtain ⟨xs,n,_,rfl,hl,hlen,hf⟩:=DataW.trod_struct Tryz.underlying32 h;rw [vvEv] at hl;obtain ⟨cl0,cl1,cl2,cl3,cl4,cl5,cl6,cl7,cl8,cl9,cla,clb,clc,cld,cle,clf,clg,rfl⟩:=len17' cs hl;obtain ⟨y0,y1,y2,y3,y4,y5,y6,rfl⟩:=len7' xs hlen;have ag:=agg_lt [y0.1,y1.1,y2.1,y3.1,y4.1,y5.1,y6.1];simp only [List.map_cons,List.map_nil] at hN;have p0:DataW.trod enc Tryz.prog W 0 (fun _=>true) true n 3 (([cl0,cl1,cl2,cl3,cl4,cl5,cl6,cl7,cl8,cl9,cla,clb,clc,cld,cle,clf,clg].drop 0).take (Tryz.prog.cellsOf 3))=some y0:=hf 0 _ rfl;rw [vvInt] at p0;have g0:DataW.trod enc Tryz.prog W 0 (fun _=>true) true n 3 [cl0]=some y0:=p0;have p1:DataW.trod enc Tryz.prog W 0 (fun _=>true) true n 22 (([cl0,cl1,cl2,cl3,cl4,cl5,cl6,cl7,cl8,cl9,cla,clb,clc,cld,cle,clf,clg].drop 1).take (Tryz.prog.cellsOf 22))=some y1:=hf 1 _ rfl;rw [vvInts] at p1;have g1:DataW.trod enc Tryz.prog W 0 (fun _=>true) true n 22 [cl1]=some y1:=p1;have p2:DataW.trod enc Tryz.prog W 0 (fun _=>true) true n 2 (([cl0,cl1,cl2,cl3,cl4,cl5,cl6,cl7,cl8,cl9,cla,clb,clc,cld,cle,clf,clg].drop 2).take (Tryz.prog.cellsOf 2))=some y2:=hf 2 _ rfl;rw [vvI64] at p2;have g2:DataW.trod enc Tryz.prog W 0 (fun _=>true) true n 2 [cl2]=some y2:=p2;have p3:DataW.trod enc Tryz.prog W 0 (fun _=>true) true n 30 (([cl0,cl1,cl2,cl3,cl4,cl5,cl6,cl7,cl8,cl9,cla,clb,clc,cld,cle,clf,clg].drop 3).take (Tryz.prog.cellsOf 30))=some y3:=hf 3 _ rfl;rw [vvOut] at p3;have g3:DataW.trod enc Tryz.prog W 0 (fun _=>true) true n 30 [cl3,cl4,cl5,cl6,cl7,cl8,cl9,cla,clb,clc,cld]=some y3:=p3;have p4:DataW.trod enc Tryz.prog W 0 (fun _=>true) true n 9 (([cl0,cl1,cl2,cl3,cl4,cl5,cl6,cl7,cl8,cl9,cla,clb,clc,cld,cle,clf,clg].drop 14).take (Tryz.prog.cellsOf 9))=some y4:=hf 4 _ rfl;rw [vvStr] at p4;have g4:DataW.trod enc Tryz.prog W 0 (fun _=>true) true n 9 [cle]=some y4:=p4;have p5:DataW.trod enc Tryz.prog W 0 (fun _=>true) true n 9 (([cl0,cl1,cl2,cl3,cl4,cl5,cl6,cl7,cl8,cl9,cla,clb,clc,cld,cle,clf,clg].drop 15).take (Tryz.prog.cellsOf 9))=some y5:=hf 5 _ rfl;rw [vvStr] at p5;have g5:DataW.trod enc Tryz.prog W 0 (fun _=>true) true n 9 [clf]=some y5:=p5;have p6:DataW.trod enc Tryz.prog W 0 (fun _=>true) true n 3 (([cl0,cl1,cl2,cl3,cl4,cl5,cl6,cl7,cl8,cl9,cla,clb,clc,cld,cle,clf,clg].drop 16).take (Tryz.prog.cellsOf 3))=some y6:=hf 6 _ rfl;rw [vvInt] at p6;have g6:DataW.trod enc Tryz.prog W 0 (fun _=>true) true n 3 [clg]=some y6:=p6;have b1:=ag y1.1 (by simp);have b3:=ag y3.1 (by simp);have b4:=ag y4.1 (by simp);have b5:=ag y5.1 (by simp);obtain ⟨k,e0,_,w0⟩:=DataW.trod_int Tryz.underlying3 g0;obtain ⟨pv,ns,e1,s1,m1,o1⟩:=mm.ints_of Tryz.underlying22 Tryz.underlying3 (by kernel_rfl) g1;obtain ⟨tm,e2,_,w2⟩:=DataW.trod_int Tryz.underlying2 g2;obtain ⟨ma,e4,e4',_⟩:=DataW.trod_string Tryz.underlying9 g4;obtain ⟨ip,e5,e5',_⟩:=DataW.trod_string Tryz.underlying9 g5;obtain ⟨fu,e6,_,w6⟩:=DataW.trod_int Tryz.underlying3 g6;obtain ⟨zs,m,_,hx3,_,hlen3,hf3⟩:=DataW.trod_struct Tryz.underlying30 g3;obtain ⟨z0,z1,z2,z3,rfl⟩:=len4' zs hlen3;have ag3:=agg_lt [z0.1,z1.1,z2.1,z3.1];have hy3:y3.1=.agg [z0.1,z1.1,z2.1,z3.1]:=by rw [hx3];simp
 rw [← hy3] at ag3;have q0:DataW.trod enc Tryz.prog W 0 (fun _=>true) true m 4 (([cl3,cl4,cl5,cl6,cl7,cl8,cl9,cla,clb,clc,cld].drop 0).take (Tryz.prog.cellsOf 4))=some z0:=hf3 0 _ rfl;rw [vvBool] at q0;have r0:DataW.trod enc Tryz.prog W 0 (fun _=>true) true m 4 [cl3]=some z0:=q0;have q1:DataW.trod enc Tryz.prog W 0 (fun _=>true) true m 28 (([cl3,cl4,cl5,cl6,cl7,cl8,cl9,cla,clb,clc,cld].drop 1).take (Tryz.prog.cellsOf 28))=some z1:=hf3 1 _ rfl;rw [vvVal] at q1;have r1:DataW.trod enc Tryz.prog W 0 (fun _=>true) true m 28 [cl4,cl5,cl6,cl7,cl8,cl9,cla,clb]=some z1:=q1;have q2:DataW.trod enc Tryz.prog W 0 (fun _=>true) true m 9 (([cl3,cl4,cl5,cl6,cl7,cl8,cl9,cla,clb,clc,cld].drop 9).take (Tryz.prog.cellsOf 9))=some z2:=hf3 2 _ rfl;rw [vvStr] at q2;have r2:DataW.trod enc Tryz.prog W 0 (fun _=>true) true m 9 [clc]=some z2:=q2;have q3:DataW.trod enc Tryz.prog W 0 (fun _=>true) true m 9 (([cl3,cl4,cl5,cl6,cl7,cl8,cl9,cla,clb,clc,cld].drop 10).take (Tryz.prog.cellsOf 9))=some z3:=hf3 3 _ rfl;rw [vvStr] at q3;have r3:DataW.trod enc Tryz.prog W 0 (fun _=>true) true m 9 [cld]=some z3:=q3;have d1:=ag3 z1.1 (by simp);have d2:=ag3 z2.1 (by simp);have d3:=ag3 z3.1 (by simp);obtain ⟨fi,u0,_⟩:=DataW.trod_bool Tryz.underlying4 r0;obtain ⟨v,hv,hb⟩:=val_of 1048576 m _ z1 r1 (by omega) (Nat.le_refl _);obtain ⟨er,u2,u2',_⟩:=DataW.trod_string Tryz.underlying9 r2;obtain ⟨ca,u3,u3',_⟩:=DataW.trod_string Tryz.underlying9 r3;simp only [List.cons.injEq,and_true] at e0 e1 e2 e4 e5 e6 u0 u2 u3;subst e0 e1 e2 e4 e5 e6 u0 u2 u3;have hma:ma.size≤Rows.uptoBulk y4.1:=by rw [e4'];exact bulk_str ma
 have hip:ip.size≤Rows.uptoBulk y5.1:=by rw [e5'];exact bulk_str ip
 have her:er.size≤Rows.uptoBulk z2.1:=by rw [u2'];exact bulk_str er
 have hca:ca.size≤Rows.uptoBulk z3.1:=by rw [u3'];exact bulk_str ca
 have h17:[cl4,cl5,cl6,cl7,cl8,cl9,cla,clb].length=8:=rfl;exact ⟨⟨k,ns,tm,fi,v,er,ca,ma,ip,fu⟩,_,[cl4,cl5,cl6,cl7,cl8,cl9,cla,clb],rfl,hv,s1,⟨hb,by simp only;omega,o1,by simp only;omega,by simp only;omega,by simp only;omega,by simp only;omega⟩⟩
end
end Go.Proofs.YthnhobplgmojeaaGreatDoor.ev
