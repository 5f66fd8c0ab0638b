/- Texts in one: Hw Hw2 -/
import Derived.Test.YthnhobplgmojeaaGreatDoorFo5P
import Derived.Test.YthnhobplgmojeaaGreatDoorVvP
namespace Go.Proofs.YthnhobplgmojeaaGreatDoor.rd
open Go.RowKit
set_option maxRecDepth 1000000 in
set_option maxHeartbeats 6400000 in
theorem rmany_any (N:Nat):∀ (v:JT),SizeOf.sizeOf v < N→Bd v→∀ (n ar:Nat) (cs:List Value) (w:World),n≤36000000000000→ar≤4097→VR w v cs→Calls Tryz.prog 38 #[.agg cs.toArray,.int .i64 (n:Int),.int .i64 (ar:Int)] w (MP n (cntV v) w):=by
 induction N with
 | zero=>intro v h;omega
 | succ N IH =>
   intro v hN hbd n ar cs w hn har h
   cases v with
   | mk k t d x l f =>
     obtain ⟨oa,ca,ob,cb,rfl⟩:=h.parts;obtain ⟨dn,dg,dx⟩:=d
     cases hbd with
     | mk hk h0 h1 h2 h3 h4 hl hnm hf =>
       obtain ⟨x2,l2,_,z2⟩:=boxE w [.int .i64 k,.bool t,.bool dn,.string dg,.int .i64 dx,.string x,.slice oa l.length ca,.slice ob f.length cb] _ w (Below.refl _ w) (Nat.le_refl _) _ rfl;have hcv:=cntV_mk k t ⟨dn,dg,dx⟩ x l f;have I1:=hide (fun v (hv:v∈l) (n ar:Nat) (cs:List Value) (w:World)=>IH v (by have:=sz_l (k:=k) (t:=t) (d:=⟨dn,dg,dx⟩) (x:=x) (f:=f) hv;omega) (hl v hv) n ar cs w);have I2:=hide (fun p (hp:p∈f) (n ar:Nat) (cs:List Value) (w:World)=>IH p.2 (by have:=sz_f (k:=k) (t:=t) (d:=⟨dn,dg,dx⟩) (x:=x) (l:=l) hp;omega) (hf p hp) n ar cs w);generalize cntV (JT.mk k t ⟨dn,dg,dx⟩ x l f)=C at *;have HCV:=hide hcv;have HNM:=hide hnm;have HV:=hide h;clear h hcv hnm hl hf IH hN
       by_cases ha:4096 < ar
       · have haz:(4096:Int) < (ar:Int):=by omega
         clear I1 I2 x2 z2 HCV HNM HV h0 h1 h2 h3 h4 hk
         go_enter Tryz.func38,Tryz.ntmps38
         go_wp2;go_ret;exact ⟨4194305,rfl,fun q=>by omega,by omega,l2⟩
       · have haz:¬ (4096:Int) < (ar:Int):=by omega
         obtain ⟨y0,y1,y2,y3,y4,y5,y6,y7⟩:=x2.cells;have V2:=hide ((uh HV).keep l2);have X2:=hide x2;have Z2:=hide z2;have L2:=hide l2;clear x2 z2 l2 HV;obtain ⟨b0,hb0⟩:∃ b0,b0=n+1+x.size+dg.size+l.length+f.length:=⟨_,rfl⟩;have HB0:=hide hb0;have hbz:(b0:Int)=(n:Int)+1+(x.size:Int)+(dg.size:Int)+(l.length:Int)+(f.length:Int):=by omega
         have h0':dg.size≤1099511627776:=h0;have hbb:b0≤80000000000000:=by omega
         have HBZ:=hide hbz;clear hb0 hbz
         go_enter Tryz.func38,Tryz.ntmps38
         go_upto_region 4 with fail;clear y0 y1 y2 y3 y4 y5 y6 y7;generalize w.alloc (.cells [.int .i64 k,.bool t,.bool dn,.string dg,.int .i64 dx,.string x,.slice oa l.length ca,.slice ob f.length cb].toArray 28)=W2 at *;go_wp2
         go_loopw [1,7] (fun mv iv wr=>∃ (m i:Nat),mv=.int .i64 (m:Int)∧iv=.int .i64 (i:Int)∧i≤l.length∧m≤100000000000000∧Hid (m≤4194304→m=b0+((l.take i).map cntV).sum)∧Hid (Below W2.heap.size W2 wr)) (fun _ iv _=>l.length - (intOf iv).toNat)
         case atStart=>exact ⟨b0,0,by rw [uh HBZ],rfl,Nat.zero_le _,by omega,fun _=>by simp,Below.refl _ _⟩
         case round =>
          obtain ⟨m,i,rfl,rfl,hi,hm2,HM,HB⟩:=hrel;obtain ⟨y0,y1,y2,y3,y4,y5,y6,y7⟩:=((uh X2).keep (uh HB) (uh Z2)).cells
          by_cases hc:i < l.length
          · have hi1:(i:Int) < (l.length:Int):=by omega
            by_cases hm:m≤4194304
            · have hmz:(m:Int)≤4194304:=by omega
              obtain ⟨ad,e,q0,q1,q2,q3,q4,q5,q6,q7,rfl,hev,hvr,hat⟩:=((uh V2).keep (uh HB)).el i hc;obtain ⟨x0,x1,x2,x3,x4,x5,x6,x7⟩:=cells8 hat;have hem:=List.mem_of_getElem? hev;have CI:=hide (uh I1 e hem m (ar+1) _ wr (by omega) (by omega) hvr);have HSN:=hide (sum_snoc cntV l i e hev);generalize cntV e=ce at CI HSN;clear hat hvr hev hem
              go_wp2_with (go_at_call 38;refine (uh CI).mono ?_;rintro e1 u2 ⟨r,rfl,hr1,hr2,b2⟩)
              have HB2:=hide ((uh HB).trans (b2.mono (uh HB).size));refine ⟨⟨r,i+1,rfl,by go_num,by omega,hr2,fun q9=>?_,HB2⟩,by simp [intOf];omega⟩;have h5:=hr1 q9;have h6:=uh HM (by omega);rw [uh HSN];omega
            · have hmz:¬ (m:Int)≤4194304:=by omega
              have E1:=hide (show m≤4194304→m=b0+(l.map cntV).sum from fun q9=>absurd q9 hm);have hmb:=hm2;have HB1:=HB;clear HM HB hm2 I1;go_upto_region 8 with fail;clear y0 y1 y2 y3 y4 y5 y6 y7;go_wp2
              go_loopw [1,8] (fun mv iv wr'=>∃ (q i:Nat),mv=.int .i64 (q:Int)∧iv=.int .i64 (i:Int)∧i≤f.length∧q≤100000000000000∧Hid (q≤4194304→q=b0+(l.map cntV).sum+((f.take i).map fun p=>p.1.size+cntV p.2).sum)∧Hid (Below W2.heap.size W2 wr')) (fun _ iv _=>f.length - (intOf iv).toNat)
              case atStart=>exact ⟨m,0,rfl,rfl,Nat.zero_le _,hmb,fun q=>by simpa using uh E1 q,HB1⟩
              case round =>
               obtain ⟨q,i,rfl,rfl,hi,hq2,HQ,HB⟩:=hrel;obtain ⟨y0,y1,y2,y3,y4,y5,y6,y7⟩:=((uh X2).keep (uh HB) (uh Z2)).cells;clear E1 HB1
               by_cases hc:i < f.length
               · have hi1:(i:Int) < (f.length:Int):=by omega
                 by_cases hm:q≤4194304
                 · have hmz:(q:Int)≤4194304:=by omega
                   obtain ⟨ad,nm,e,q0,q1,q2,q3,q4,q5,q6,q7,rfl,hev,hvr,hat⟩:=((uh V2).keep (uh HB)).fl i hc;obtain ⟨x8,x0,x1,x2,x3,x4,x5,x6,x7⟩:=cells9 hat;have hem:=List.mem_of_getElem? hev;have hns:=uh HNM _ hem;simp only at hns;have HSN:=hide (sum_snoc (fun p:ByteArray × JT=>p.1.size+cntV p.2) f i _ hev);have CI:=hide (fun u (hu:Below wr.heap.size wr u)=>uh I2 _ hem (q+nm.size) (ar+1) _ u (by omega) (by omega) (hvr.keep hu));simp only at CI HSN;generalize cntV e=ce at CI HSN;have hw0:Below wr.heap.size wr wr.drew:=⟨rfl,rfl,rfl,Nat.le_refl _,fun _ _=>rfl⟩;have HmkS:∀ u,Below wr.heap.size wr u→Below wr.heap.size wr u∧u.cell? ⟨w.heap.size,7,none⟩=some (.slice (some ad) f.length cb)∧u.cell? (ad.add (i*9))=some (.string nm)∧u.cell? ⟨(ad.add (i*9)).block,(ad.add (i*9)).off+1,none⟩=some q0∧u.cell? ⟨(ad.add (i*9)).block,(ad.add (i*9)).off+2,none⟩=some q1∧u.cell? ⟨(ad.add (i*9)).block,(ad.add (i*9)).off+3,none⟩=some q2∧u.cell? ⟨(ad.add (i*9)).block,(ad.add (i*9)).off+4,none⟩=some q3∧u.cell? ⟨(ad.add (i*9)).block,(ad.add (i*9)).off+5,none⟩=some q4∧u.cell? ⟨(ad.add (i*9)).block,(ad.add (i*9)).off+6,none⟩=some q5∧u.cell? ⟨(ad.add (i*9)).block,(ad.add (i*9)).off+7,none⟩=some q6∧u.cell? ⟨(ad.add (i*9)).block,(ad.add (i*9)).off+8,none⟩=some q7:=fun u hu=>⟨hu,kc hu y7,kc hu x8,kc hu x0,kc hu x1,kc hu x2,kc hu x3,kc hu x4,kc hu x5,kc hu x6,kc hu x7⟩
                   have wa:IntKind.i64.wrap ((q:Int)+(nm.size:Int))=((q+nm.size:Nat):Int):=by rw [IntKind.wrap_i64];omega
                   have wb:IntKind.i64.wrap ((ar:Int)+1)=((ar+1:Nat):Int):=by rw [IntKind.wrap_i64];omega
                   clear hat hvr hev hem
                   go_wp2_with fail
                   go_region_held3 (fun u=>Below wr.heap.size wr u∧u.cell? ⟨w.heap.size,7,none⟩=some (.slice (some ad) f.length cb)∧u.cell? (ad.add (i*9))=some (.string nm)∧u.cell? ⟨(ad.add (i*9)).block,(ad.add (i*9)).off+1,none⟩=some q0∧u.cell? ⟨(ad.add (i*9)).block,(ad.add (i*9)).off+2,none⟩=some q1∧u.cell? ⟨(ad.add (i*9)).block,(ad.add (i*9)).off+3,none⟩=some q2∧u.cell? ⟨(ad.add (i*9)).block,(ad.add (i*9)).off+4,none⟩=some q3∧u.cell? ⟨(ad.add (i*9)).block,(ad.add (i*9)).off+5,none⟩=some q4∧u.cell? ⟨(ad.add (i*9)).block,(ad.add (i*9)).off+6,none⟩=some q5∧u.cell? ⟨(ad.add (i*9)).block,(ad.add (i*9)).off+7,none⟩=some q6∧u.cell? ⟨(ad.add (i*9)).block,(ad.add (i*9)).off+8,none⟩=some q7) (with_reducible refine HmkS _ ?_;with_reducible first|assumption|exact Below.refl _ _) (first
                    | (go_at_call 38;refine (uh CI _ (by with_reducible assumption)).mono ?_;rintro e1 u5 ⟨r,rfl,hr1,hr2,b5⟩
                       have hB5:Below wr.heap.size wr u5:=hw0.trans (b5.mono (Nat.le_refl _))))
                   have HR1:=hide hr1;have HB5:=hide ((uh HB).trans (hB5.mono (uh HB).size));clear HmkS hw0 b5 hB5 hr1 CI x0 x1 x2 x3 x4 x5 x6 x7 x8 y0 y1 y2 y3 y4 y5 y6 y7;go_wp2;refine ⟨⟨r,i+1,rfl,by go_num,by omega,hr2,fun q9=>?_,HB5⟩,by simp [intOf];omega⟩;have h5:=uh HR1 q9;have h6:=uh HQ (by omega);rw [uh HSN];omega
                 · have hmz:¬ (q:Int)≤4194304:=by omega
                   go_wp2;go_ret;exact ⟨q,rfl,fun q9=>absurd q9 hm,hq2,(uh L2).trans ((uh HB).mono (uh L2).size)⟩
               · obtain rfl:i=f.length:=by omega
                 have hno:¬ (f.length:Int) < (f.length:Int):=by omega
                 rw [List.take_of_length_le (Nat.le_refl _)] at HQ;go_wp2;go_ret;refine ⟨q,rfl,fun q9=>?_,hq2,(uh L2).trans ((uh HB).mono (uh L2).size)⟩;have h6:=uh HQ q9;have h7:=uh HCV;have h8:=uh HB0;omega
          · obtain rfl:i=l.length:=by omega
            have hno:¬ (l.length:Int) < (l.length:Int):=by omega
            rw [List.take_of_length_le (Nat.le_refl _)] at HM;have E1:=hide (show m≤4194304→m=b0+(l.map cntV).sum from uh HM);have hmb:=hm2;have HB1:=HB;clear HM HB hm2 I1;go_upto_region 8 with fail;clear y0 y1 y2 y3 y4 y5 y6 y7;go_wp2
            go_loopw [1,8] (fun mv iv wr'=>∃ (q i:Nat),mv=.int .i64 (q:Int)∧iv=.int .i64 (i:Int)∧i≤f.length∧q≤100000000000000∧Hid (q≤4194304→q=b0+(l.map cntV).sum+((f.take i).map fun p=>p.1.size+cntV p.2).sum)∧Hid (Below W2.heap.size W2 wr')) (fun _ iv _=>f.length - (intOf iv).toNat)
            case atStart=>exact ⟨m,0,rfl,rfl,Nat.zero_le _,hmb,fun q=>by simpa using uh E1 q,HB1⟩
            case round =>
             obtain ⟨q,i,rfl,rfl,hi,hq2,HQ,HB⟩:=hrel;obtain ⟨y0,y1,y2,y3,y4,y5,y6,y7⟩:=((uh X2).keep (uh HB) (uh Z2)).cells;clear E1 HB1
             by_cases hc:i < f.length
             · have hi1:(i:Int) < (f.length:Int):=by omega
               by_cases hm:q≤4194304
               · have hmz:(q:Int)≤4194304:=by omega
                 obtain ⟨ad,nm,e,q0,q1,q2,q3,q4,q5,q6,q7,rfl,hev,hvr,hat⟩:=((uh V2).keep (uh HB)).fl i hc;obtain ⟨x8,x0,x1,x2,x3,x4,x5,x6,x7⟩:=cells9 hat;have hem:=List.mem_of_getElem? hev;have hns:=uh HNM _ hem;simp only at hns;have HSN:=hide (sum_snoc (fun p:ByteArray × JT=>p.1.size+cntV p.2) f i _ hev);have CI:=hide (fun u (hu:Below wr.heap.size wr u)=>uh I2 _ hem (q+nm.size) (ar+1) _ u (by omega) (by omega) (hvr.keep hu));simp only at CI HSN;generalize cntV e=ce at CI HSN;have hw0:Below wr.heap.size wr wr.drew:=⟨rfl,rfl,rfl,Nat.le_refl _,fun _ _=>rfl⟩;have HmkS:∀ u,Below wr.heap.size wr u→Below wr.heap.size wr u∧u.cell? ⟨w.heap.size,7,none⟩=some (.slice (some ad) f.length cb)∧u.cell? (ad.add (i*9))=some (.string nm)∧u.cell? ⟨(ad.add (i*9)).block,(ad.add (i*9)).off+1,none⟩=some q0∧u.cell? ⟨(ad.add (i*9)).block,(ad.add (i*9)).off+2,none⟩=some q1∧u.cell? ⟨(ad.add (i*9)).block,(ad.add (i*9)).off+3,none⟩=some q2∧u.cell? ⟨(ad.add (i*9)).block,(ad.add (i*9)).off+4,none⟩=some q3∧u.cell? ⟨(ad.add (i*9)).block,(ad.add (i*9)).off+5,none⟩=some q4∧u.cell? ⟨(ad.add (i*9)).block,(ad.add (i*9)).off+6,none⟩=some q5∧u.cell? ⟨(ad.add (i*9)).block,(ad.add (i*9)).off+7,none⟩=some q6∧u.cell? ⟨(ad.add (i*9)).block,(ad.add (i*9)).off+8,none⟩=some q7:=fun u hu=>⟨hu,kc hu y7,kc hu x8,kc hu x0,kc hu x1,kc hu x2,kc hu x3,kc hu x4,kc hu x5,kc hu x6,kc hu x7⟩
                 have wa:IntKind.i64.wrap ((q:Int)+(nm.size:Int))=((q+nm.size:Nat):Int):=by rw [IntKind.wrap_i64];omega
                 have wb:IntKind.i64.wrap ((ar:Int)+1)=((ar+1:Nat):Int):=by rw [IntKind.wrap_i64];omega
                 clear hat hvr hev hem
                 go_wp2_with fail
                 go_region_held3 (fun u=>Below wr.heap.size wr u∧u.cell? ⟨w.heap.size,7,none⟩=some (.slice (some ad) f.length cb)∧u.cell? (ad.add (i*9))=some (.string nm)∧u.cell? ⟨(ad.add (i*9)).block,(ad.add (i*9)).off+1,none⟩=some q0∧u.cell? ⟨(ad.add (i*9)).block,(ad.add (i*9)).off+2,none⟩=some q1∧u.cell? ⟨(ad.add (i*9)).block,(ad.add (i*9)).off+3,none⟩=some q2∧u.cell? ⟨(ad.add (i*9)).block,(ad.add (i*9)).off+4,none⟩=some q3∧u.cell? ⟨(ad.add (i*9)).block,(ad.add (i*9)).off+5,none⟩=some q4∧u.cell? ⟨(ad.add (i*9)).block,(ad.add (i*9)).off+6,none⟩=some q5∧u.cell? ⟨(ad.add (i*9)).block,(ad.add (i*9)).off+7,none⟩=some q6∧u.cell? ⟨(ad.add (i*9)).block,(ad.add (i*9)).off+8,none⟩=some q7) (with_reducible refine HmkS _ ?_;with_reducible first|assumption|exact Below.refl _ _) (first
                  | (go_at_call 38;refine (uh CI _ (by with_reducible assumption)).mono ?_;rintro e1 u5 ⟨r,rfl,hr1,hr2,b5⟩
                     have hB5:Below wr.heap.size wr u5:=hw0.trans (b5.mono (Nat.le_refl _))))
                 have HR1:=hide hr1;have HB5:=hide ((uh HB).trans (hB5.mono (uh HB).size));clear HmkS hw0 b5 hB5 hr1 CI x0 x1 x2 x3 x4 x5 x6 x7 x8 y0 y1 y2 y3 y4 y5 y6 y7;go_wp2;refine ⟨⟨r,i+1,rfl,by go_num,by omega,hr2,fun q9=>?_,HB5⟩,by simp [intOf];omega⟩;have h5:=uh HR1 q9;have h6:=uh HQ (by omega);rw [uh HSN];omega
               · have hmz:¬ (q:Int)≤4194304:=by omega
                 go_wp2;go_ret;exact ⟨q,rfl,fun q9=>absurd q9 hm,hq2,(uh L2).trans ((uh HB).mono (uh L2).size)⟩
             · obtain rfl:i=f.length:=by omega
               have hno:¬ (f.length:Int) < (f.length:Int):=by omega
               rw [List.take_of_length_le (Nat.le_refl _)] at HQ;go_wp2;go_ret;refine ⟨q,rfl,fun q9=>?_,hq2,(uh L2).trans ((uh HB).mono (uh L2).size)⟩;have h6:=uh HQ q9;have h7:=uh HCV;have h8:=uh HB0;omega
def BeP (C:Nat) (w:World) (e:Ending) (w':World):Prop:=∃ b:Bool,e=.returned (.bool b)∧(b=false→C≤4194304)∧Below w.heap.size w w'
set_option maxRecDepth 100000 in
set_option maxHeartbeats 1600000 in
theorem rbeyond_any (v:JT) (hb:Bd v) (a0 a1 a2 a3 a4 a5 a6 a7:Value) (k:Nat) (w:World) (hx:BX w k [a0,a1,a2,a3,a4,a5,a6,a7]) (h:VR w v [a0,a1,a2,a3,a4,a5,a6,a7]) :
 Calls Tryz.prog 20 #[.slice (some ⟨k,0,none⟩) 1 1] w (BeP (cntV v) w):=by
 have CI:=hide (fun u (hu:Below w.heap.size w u)=>rmany_any _ v (Nat.lt_succ_self _) hb 0 0 _ u (by omega) (by omega) (h.keep hu));have hk:k < w.heap.size:=mm.cell_lt hx.cells.1;have HX:=hide (fun u (hu:Below w.heap.size w u)=>(hx.keep hu hk).cells);generalize cntV v=C at *;clear h hb hx
 go_enter Tryz.func20,Tryz.ntmps20
 go_wp2
 go_loopw [3,4] (fun mv iv wr=>∃ (m i:Nat),mv=.int .i64 (m:Int)∧iv=.int .i64 (i:Int)∧((i=0∧m=0)∨i=1)∧m≤100000000000000∧Hid (i=1→m≤4194304→m=C)∧Hid (Below w.heap.size w wr)) (fun _ iv _=>1 - (intOf iv).toNat)
 case atStart=>exact ⟨0,0,rfl,rfl,.inl ⟨rfl,rfl⟩,by omega,fun q=>by omega,Below.refl _ _⟩
 case round =>
  obtain ⟨m,i,rfl,rfl,hi,hm2,HM,HB⟩:=hrel
  rcases hi with ⟨rfl,rfl⟩|rfl
  · obtain ⟨y0,y1,y2,y3,y4,y5,y6,y7⟩:=uh HX wr (uh HB)
    have CW:=hide (uh CI wr (uh HB));clear CI HX HM
    go_wp2_with (go_at_call 38;refine (uh CW).mono ?_;rintro e1 u2 ⟨r,rfl,hr1,hr2,b2⟩)
    exact ⟨⟨r,1,rfl,by go_num,.inr rfl,hr2,fun _ q=>by simpa using hr1 q,(uh HB).trans (b2.mono (uh HB).size)⟩,by simp [intOf]⟩
  · clear CI HX
    go_wp2;go_ret;refine ⟨_,rfl,fun q=>?_,uh HB⟩;have hq:¬ (4194304:Int) < (m:Int):=by simpa using q
    have h2:=uh HM (by first|trivial|rfl) (by omega);omega
set_option maxRecDepth 100000 in
set_option maxHeartbeats 1600000 in
theorem beyond_any (v:JT) (hb:Bd v) (cs:List Value) (w:World) (h:VR w v cs):Calls Tryz.prog 7 #[.agg cs.toArray] w (BeP (cntV v) w):=by
 obtain ⟨a0,a1,a2,a3,a4,a5,a6,a7,rfl⟩:=h.eight;obtain ⟨x2,l2,_,z2⟩:=boxE w [a0,a1,a2,a3,a4,a5,a6,a7] _ w (Below.refl _ w) (Nat.le_refl _) _ rfl;have HV:=hide (fun u (hu:Below w.heap.size w u)=>h.keep hu);have HBD:=hide hb;have X2:=hide x2;have L2:=hide l2;have Z2:=hide z2;clear h hb x2 l2 z2
 go_enter Tryz.func7,Tryz.ntmps7
 go_upto_region 1 with fail;generalize w.alloc (.cells [a0,a1,a2,a3,a4,a5,a6,a7].toArray 28)=W0 at *;obtain ⟨y0,y1,y2,y3,y4,y5,y6,y7⟩:=(uh X2).cells;obtain ⟨x3,l3,_,z3⟩:=boxE W0 [a0,a1,a2,a3,a4,a5,a6,a7] _ w (uh L2) (Nat.le_of_lt (uh Z2)) _ rfl;have CI:=hide (rbeyond_any v (uh HBD) a0 a1 a2 a3 a4 a5 a6 a7 _ _ x3 ((uh HV W0 (uh L2)).keep l3));have L3:=hide ((uh L2).trans (l3.mono (Nat.le_of_lt (uh Z2))));have Z3:=hide z3;clear x3 l3 z3 HV HBD X2
 go_wp2_with (go_at_call 20;refine (uh CI).mono ?_;rintro e1 u2 ⟨b,rfl,hr1,b2⟩)
 go_ret;exact ⟨_,rfl,hr1,(uh L3).trans (b2.mono (Nat.le_of_lt (Nat.lt_trans (uh Z2) (uh Z3))))⟩
end Go.Proofs.YthnhobplgmojeaaGreatDoor.rd
