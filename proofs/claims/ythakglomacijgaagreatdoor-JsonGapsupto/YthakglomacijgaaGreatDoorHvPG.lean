/- Texts in one: Hv One Jg1 Jg2 -/
import Derived.Test.YthakglomacijgaaGreatDoorLgPG
import Derived.Test.YthakglomacijgaaGreatDoorSqPG
import Derived.Test.YthakglomacijgaaGreatDoorIePG
import Derived.Test.YthakglomacijgaaGreatDoorFo5PG
import Derived.Test.YthakglomacijgaaGreatDoorWlPG
import Derived.Deep.RegionHeld3
import Derived.Deep.RegionLaw
import Derived.Test.YthakglomacijgaaGreatDoorFo3PG
import Derived.Test.YthakglomacijgaaGreatDoorByaPG
namespace Go.Proofs.YthakglomacijgaaGreatDoor.rd
open Go.RowKit
theorem sum_snoc {α:Type} (g:α→Nat) (l:List α) (i:Nat) (v:α) (h:l[i]?=some v):((l.take (i+1)).map g).sum=((l.take i).map g).sum+g v:=by
 rw [take_succ' h,List.map_append,List.sum_append_nat]
 simp
def MP (n c:Nat) (w:World) (e:Ending) (w':World):Prop:=∃ r:Nat,e=.returned (.int .i64 (r:Int))∧(r≤4194304→r=n+c)∧r≤100000000000000∧Below w.heap.size w w'
set_option maxRecDepth 1000000 in
set_option maxHeartbeats 6400000 in
theorem many_any (N:Nat):∀ (v:JT),SizeOf.sizeOf v < N→Bd v→∀ (n ar:Nat) (cs:List Value) (w:World),n≤36000000000000→ar≤65537→VR w v cs→Calls Tryz.prog 31 #[.agg cs.toArray,.int .i64 (n:Int),.int .i64 (ar:Int)] w (MP n (cntV v) w):=by
 induction N with
 | zero=>intro v h;omega
 | succ N IH =>
   intro v hN hbd n ar cs w hn har h
   cases v with
   | mk k t d x l f =>
     obtain ⟨oa,ca,ob,cb,rfl⟩:=h.parts
     obtain ⟨dn,dg,dx⟩:=d
     cases hbd with
     | mk hk h0 h1 h2 h3 h4 hl hnm hf =>
       obtain ⟨x2,l2,_,z2⟩:=boxE w [.int .i64 k,.bool t,.bool dn,.string dg,.int .i64 dx,.string x,.slice oa l.length ca,.slice ob f.length cb] _ w (Below.refl _ w) (Nat.le_refl _) _ rfl
       have hcv:=cntV_mk k t ⟨dn,dg,dx⟩ x l f
       have I1:=hide (fun v (hv:v∈l) (n ar:Nat) (cs:List Value) (w:World)=>IH v (by have:=sz_l (k:=k) (t:=t) (d:=⟨dn,dg,dx⟩) (x:=x) (f:=f) hv;omega) (hl v hv) n ar cs w)
       have I2:=hide (fun p (hp:p∈f) (n ar:Nat) (cs:List Value) (w:World)=>IH p.2 (by have:=sz_f (k:=k) (t:=t) (d:=⟨dn,dg,dx⟩) (x:=x) (l:=l) hp;omega) (hf p hp) n ar cs w)
       generalize cntV (JT.mk k t ⟨dn,dg,dx⟩ x l f)=C at *
       have HCV:=hide hcv
       have HNM:=hide hnm
       have HV:=hide h
       clear h hcv hnm hl hf IH hN
       by_cases ha:65536 < ar
       · have haz:(65536:Int) < (ar:Int):=by omega
         clear I1 I2 x2 z2 HCV HNM HV h0 h1 h2 h3 h4 hk
         go_enter Tryz.func31,Tryz.ntmps31
         go_wp2
         go_ret
         exact ⟨4194305,rfl,fun q=>by omega,by omega,l2⟩
       · have haz:¬ (65536:Int) < (ar:Int):=by omega
         obtain ⟨y0,y1,y2,y3,y4,y5,y6,y7⟩:=x2.cells
         have V2:=hide ((uh HV).keep l2)
         have X2:=hide x2
         have Z2:=hide z2
         have L2:=hide l2
         clear x2 z2 l2 HV
         obtain ⟨b0,hb0⟩:∃ b0,b0=n+1+x.size+dg.size+l.length+f.length:=⟨_,rfl⟩
         have HB0:=hide hb0
         have hbz:(b0:Int)=(n:Int)+1+(x.size:Int)+(dg.size:Int)+(l.length:Int)+(f.length:Int):=by omega
         have h0':dg.size≤1099511627776:=h0
         have hbb:b0≤80000000000000:=by omega
         have HBZ:=hide hbz
         clear hb0 hbz
         go_enter Tryz.func31,Tryz.ntmps31
         go_upto_region 4 with fail
         clear y0 y1 y2 y3 y4 y5 y6 y7
         generalize w.alloc (.cells [.int .i64 k,.bool t,.bool dn,.string dg,.int .i64 dx,.string x,.slice oa l.length ca,.slice ob f.length cb].toArray 27)=W2 at *
         go_wp2
         go_loopw [1,7] (fun mv iv wr=>∃ (m i:Nat),mv=.int .i64 (m:Int)∧iv=.int .i64 (i:Int)∧i≤l.length∧m≤100000000000000∧Hid (m≤4194304→m=b0+((l.take i).map cntV).sum)∧Hid (Below W2.heap.size W2 wr)) (fun _ iv _=>l.length - (intOf iv).toNat)
         case atStart=>exact ⟨b0,0,by rw [uh HBZ],rfl,Nat.zero_le _,by omega,fun _=>by simp,Below.refl _ _⟩
         case round =>
          obtain ⟨m,i,rfl,rfl,hi,hm2,HM,HB⟩:=hrel
          obtain ⟨y0,y1,y2,y3,y4,y5,y6,y7⟩:=((uh X2).keep (uh HB) (uh Z2)).cells
          by_cases hc:i < l.length
          · have hi1:(i:Int) < (l.length:Int):=by omega
            by_cases hm:m≤4194304
            · have hmz:(m:Int)≤4194304:=by omega
              obtain ⟨ad,e,q0,q1,q2,q3,q4,q5,q6,q7,rfl,hev,hvr,hat⟩:=((uh V2).keep (uh HB)).el i hc
              obtain ⟨x0,x1,x2,x3,x4,x5,x6,x7⟩:=cells8 hat
              have hem:=List.mem_of_getElem? hev
              have CI:=hide (uh I1 e hem m (ar+1) _ wr (by omega) (by omega) hvr)
              have HSN:=hide (sum_snoc cntV l i e hev)
              generalize cntV e=ce at CI HSN
              clear hat hvr hev hem
              go_wp2_with (go_at_call 31;refine (uh CI).mono ?_;rintro e1 u2 ⟨r,rfl,hr1,hr2,b2⟩)
              have HB2:=hide ((uh HB).trans (b2.mono (uh HB).size))
              refine ⟨⟨r,i+1,rfl,by go_num,by omega,hr2,fun q9=>?_,HB2⟩,by simp [intOf];omega⟩
              have h5:=hr1 q9
              have h6:=uh HM (by omega)
              rw [uh HSN]
              omega
            · have hmz:¬ (m:Int)≤4194304:=by omega
              have E1:=hide (show m≤4194304→m=b0+(l.map cntV).sum from fun q9=>absurd q9 hm)
              have hmb:=hm2
              have HB1:=HB
              clear HM HB hm2 I1
              go_upto_region 8 with fail
              clear y0 y1 y2 y3 y4 y5 y6 y7
              go_wp2
              go_loopw [1,8] (fun mv iv wr'=>∃ (q i:Nat),mv=.int .i64 (q:Int)∧iv=.int .i64 (i:Int)∧i≤f.length∧q≤100000000000000∧Hid (q≤4194304→q=b0+(l.map cntV).sum+((f.take i).map fun p=>p.1.size+cntV p.2).sum)∧Hid (Below W2.heap.size W2 wr')) (fun _ iv _=>f.length - (intOf iv).toNat)
              case atStart=>exact ⟨m,0,rfl,rfl,Nat.zero_le _,hmb,fun q=>by simpa using uh E1 q,HB1⟩
              case round =>
               obtain ⟨q,i,rfl,rfl,hi,hq2,HQ,HB⟩:=hrel
               obtain ⟨y0,y1,y2,y3,y4,y5,y6,y7⟩:=((uh X2).keep (uh HB) (uh Z2)).cells
               clear E1 HB1
               by_cases hc:i < f.length
               · have hi1:(i:Int) < (f.length:Int):=by omega
                 by_cases hm:q≤4194304
                 · have hmz:(q:Int)≤4194304:=by omega
                   obtain ⟨ad,nm,e,q0,q1,q2,q3,q4,q5,q6,q7,rfl,hev,hvr,hat⟩:=((uh V2).keep (uh HB)).fl i hc
                   obtain ⟨x8,x0,x1,x2,x3,x4,x5,x6,x7⟩:=cells9 hat
                   have hem:=List.mem_of_getElem? hev
                   have hns:=uh HNM _ hem
                   simp only at hns
                   have HSN:=hide (sum_snoc (fun p:ByteArray × JT=>p.1.size+cntV p.2) f i _ hev)
                   have CI:=hide (fun u (hu:Below wr.heap.size wr u)=>uh I2 _ hem (q+nm.size) (ar+1) _ u (by omega) (by omega) (hvr.keep hu))
                   simp only at CI HSN
                   generalize cntV e=ce at CI HSN
                   have hw0:Below wr.heap.size wr wr.drew:=⟨rfl,rfl,rfl,Nat.le_refl _,fun _ _=>rfl⟩
                   have HmkS:∀ u,Below wr.heap.size wr u→Below wr.heap.size wr u∧u.cell? ⟨w.heap.size,7,none⟩=some (.slice (some ad) f.length cb)∧u.cell? (ad.add (i*9))=some (.string nm)∧u.cell? ⟨(ad.add (i*9)).block,(ad.add (i*9)).off+1,none⟩=some q0∧u.cell? ⟨(ad.add (i*9)).block,(ad.add (i*9)).off+2,none⟩=some q1∧u.cell? ⟨(ad.add (i*9)).block,(ad.add (i*9)).off+3,none⟩=some q2∧u.cell? ⟨(ad.add (i*9)).block,(ad.add (i*9)).off+4,none⟩=some q3∧u.cell? ⟨(ad.add (i*9)).block,(ad.add (i*9)).off+5,none⟩=some q4∧u.cell? ⟨(ad.add (i*9)).block,(ad.add (i*9)).off+6,none⟩=some q5∧u.cell? ⟨(ad.add (i*9)).block,(ad.add (i*9)).off+7,none⟩=some q6∧u.cell? ⟨(ad.add (i*9)).block,(ad.add (i*9)).off+8,none⟩=some q7:=fun u hu=>⟨hu,kc hu y7,kc hu x8,kc hu x0,kc hu x1,kc hu x2,kc hu x3,kc hu x4,kc hu x5,kc hu x6,kc hu x7⟩
                   have wa:IntKind.i64.wrap ((q:Int)+(nm.size:Int))=((q+nm.size:Nat):Int):=by rw [IntKind.wrap_i64];omega
                   have wb:IntKind.i64.wrap ((ar:Int)+1)=((ar+1:Nat):Int):=by rw [IntKind.wrap_i64];omega
                   clear hat hvr hev hem
                   go_wp2_with fail
                   go_region_held3 (fun u=>Below wr.heap.size wr u∧u.cell? ⟨w.heap.size,7,none⟩=some (.slice (some ad) f.length cb)∧u.cell? (ad.add (i*9))=some (.string nm)∧u.cell? ⟨(ad.add (i*9)).block,(ad.add (i*9)).off+1,none⟩=some q0∧u.cell? ⟨(ad.add (i*9)).block,(ad.add (i*9)).off+2,none⟩=some q1∧u.cell? ⟨(ad.add (i*9)).block,(ad.add (i*9)).off+3,none⟩=some q2∧u.cell? ⟨(ad.add (i*9)).block,(ad.add (i*9)).off+4,none⟩=some q3∧u.cell? ⟨(ad.add (i*9)).block,(ad.add (i*9)).off+5,none⟩=some q4∧u.cell? ⟨(ad.add (i*9)).block,(ad.add (i*9)).off+6,none⟩=some q5∧u.cell? ⟨(ad.add (i*9)).block,(ad.add (i*9)).off+7,none⟩=some q6∧u.cell? ⟨(ad.add (i*9)).block,(ad.add (i*9)).off+8,none⟩=some q7) (with_reducible refine HmkS _ ?_;with_reducible first|assumption|exact Below.refl _ _) (first
                    | (go_at_call 31;refine (uh CI _ (by with_reducible assumption)).mono ?_;rintro e1 u5 ⟨r,rfl,hr1,hr2,b5⟩
                       have hB5:Below wr.heap.size wr u5:=hw0.trans (b5.mono (Nat.le_refl _))))
                   have HR1:=hide hr1
                   have HB5:=hide ((uh HB).trans (hB5.mono (uh HB).size))
                   clear HmkS hw0 b5 hB5 hr1 CI x0 x1 x2 x3 x4 x5 x6 x7 x8 y0 y1 y2 y3 y4 y5 y6 y7
                   go_wp2
                   refine ⟨⟨r,i+1,rfl,by go_num,by omega,hr2,fun q9=>?_,HB5⟩,by simp [intOf];omega⟩
                   have h5:=uh HR1 q9
                   have h6:=uh HQ (by omega)
                   rw [uh HSN]
                   omega
                 · have hmz:¬ (q:Int)≤4194304:=by omega
                   go_wp2
                   go_ret
                   exact ⟨q,rfl,fun q9=>absurd q9 hm,hq2,(uh L2).trans ((uh HB).mono (uh L2).size)⟩
               · obtain rfl:i=f.length:=by omega
                 have hno:¬ (f.length:Int) < (f.length:Int):=by omega
                 rw [List.take_of_length_le (Nat.le_refl _)] at HQ
                 go_wp2
                 go_ret
                 refine ⟨q,rfl,fun q9=>?_,hq2,(uh L2).trans ((uh HB).mono (uh L2).size)⟩
                 have h6:=uh HQ q9
                 have h7:=uh HCV
                 have h8:=uh HB0
                 omega
          · obtain rfl:i=l.length:=by omega
            have hno:¬ (l.length:Int) < (l.length:Int):=by omega
            rw [List.take_of_length_le (Nat.le_refl _)] at HM
            have E1:=hide (show m≤4194304→m=b0+(l.map cntV).sum from uh HM)
            have hmb:=hm2
            have HB1:=HB
            clear HM HB hm2 I1
            go_upto_region 8 with fail
            clear y0 y1 y2 y3 y4 y5 y6 y7
            go_wp2
            go_loopw [1,8] (fun mv iv wr'=>∃ (q i:Nat),mv=.int .i64 (q:Int)∧iv=.int .i64 (i:Int)∧i≤f.length∧q≤100000000000000∧Hid (q≤4194304→q=b0+(l.map cntV).sum+((f.take i).map fun p=>p.1.size+cntV p.2).sum)∧Hid (Below W2.heap.size W2 wr')) (fun _ iv _=>f.length - (intOf iv).toNat)
            case atStart=>exact ⟨m,0,rfl,rfl,Nat.zero_le _,hmb,fun q=>by simpa using uh E1 q,HB1⟩
            case round =>
             obtain ⟨q,i,rfl,rfl,hi,hq2,HQ,HB⟩:=hrel
             obtain ⟨y0,y1,y2,y3,y4,y5,y6,y7⟩:=((uh X2).keep (uh HB) (uh Z2)).cells
             clear E1 HB1
             by_cases hc:i < f.length
             · have hi1:(i:Int) < (f.length:Int):=by omega
               by_cases hm:q≤4194304
               · have hmz:(q:Int)≤4194304:=by omega
                 obtain ⟨ad,nm,e,q0,q1,q2,q3,q4,q5,q6,q7,rfl,hev,hvr,hat⟩:=((uh V2).keep (uh HB)).fl i hc
                 obtain ⟨x8,x0,x1,x2,x3,x4,x5,x6,x7⟩:=cells9 hat
                 have hem:=List.mem_of_getElem? hev
                 have hns:=uh HNM _ hem
                 simp only at hns
                 have HSN:=hide (sum_snoc (fun p:ByteArray × JT=>p.1.size+cntV p.2) f i _ hev)
                 have CI:=hide (fun u (hu:Below wr.heap.size wr u)=>uh I2 _ hem (q+nm.size) (ar+1) _ u (by omega) (by omega) (hvr.keep hu))
                 simp only at CI HSN
                 generalize cntV e=ce at CI HSN
                 have hw0:Below wr.heap.size wr wr.drew:=⟨rfl,rfl,rfl,Nat.le_refl _,fun _ _=>rfl⟩
                 have HmkS:∀ u,Below wr.heap.size wr u→Below wr.heap.size wr u∧u.cell? ⟨w.heap.size,7,none⟩=some (.slice (some ad) f.length cb)∧u.cell? (ad.add (i*9))=some (.string nm)∧u.cell? ⟨(ad.add (i*9)).block,(ad.add (i*9)).off+1,none⟩=some q0∧u.cell? ⟨(ad.add (i*9)).block,(ad.add (i*9)).off+2,none⟩=some q1∧u.cell? ⟨(ad.add (i*9)).block,(ad.add (i*9)).off+3,none⟩=some q2∧u.cell? ⟨(ad.add (i*9)).block,(ad.add (i*9)).off+4,none⟩=some q3∧u.cell? ⟨(ad.add (i*9)).block,(ad.add (i*9)).off+5,none⟩=some q4∧u.cell? ⟨(ad.add (i*9)).block,(ad.add (i*9)).off+6,none⟩=some q5∧u.cell? ⟨(ad.add (i*9)).block,(ad.add (i*9)).off+7,none⟩=some q6∧u.cell? ⟨(ad.add (i*9)).block,(ad.add (i*9)).off+8,none⟩=some q7:=fun u hu=>⟨hu,kc hu y7,kc hu x8,kc hu x0,kc hu x1,kc hu x2,kc hu x3,kc hu x4,kc hu x5,kc hu x6,kc hu x7⟩
                 have wa:IntKind.i64.wrap ((q:Int)+(nm.size:Int))=((q+nm.size:Nat):Int):=by rw [IntKind.wrap_i64];omega
                 have wb:IntKind.i64.wrap ((ar:Int)+1)=((ar+1:Nat):Int):=by rw [IntKind.wrap_i64];omega
                 clear hat hvr hev hem
                 go_wp2_with fail
                 go_region_held3 (fun u=>Below wr.heap.size wr u∧u.cell? ⟨w.heap.size,7,none⟩=some (.slice (some ad) f.length cb)∧u.cell? (ad.add (i*9))=some (.string nm)∧u.cell? ⟨(ad.add (i*9)).block,(ad.add (i*9)).off+1,none⟩=some q0∧u.cell? ⟨(ad.add (i*9)).block,(ad.add (i*9)).off+2,none⟩=some q1∧u.cell? ⟨(ad.add (i*9)).block,(ad.add (i*9)).off+3,none⟩=some q2∧u.cell? ⟨(ad.add (i*9)).block,(ad.add (i*9)).off+4,none⟩=some q3∧u.cell? ⟨(ad.add (i*9)).block,(ad.add (i*9)).off+5,none⟩=some q4∧u.cell? ⟨(ad.add (i*9)).block,(ad.add (i*9)).off+6,none⟩=some q5∧u.cell? ⟨(ad.add (i*9)).block,(ad.add (i*9)).off+7,none⟩=some q6∧u.cell? ⟨(ad.add (i*9)).block,(ad.add (i*9)).off+8,none⟩=some q7) (with_reducible refine HmkS _ ?_;with_reducible first|assumption|exact Below.refl _ _) (first
                  | (go_at_call 31;refine (uh CI _ (by with_reducible assumption)).mono ?_;rintro e1 u5 ⟨r,rfl,hr1,hr2,b5⟩
                     have hB5:Below wr.heap.size wr u5:=hw0.trans (b5.mono (Nat.le_refl _))))
                 have HR1:=hide hr1
                 have HB5:=hide ((uh HB).trans (hB5.mono (uh HB).size))
                 clear HmkS hw0 b5 hB5 hr1 CI x0 x1 x2 x3 x4 x5 x6 x7 x8 y0 y1 y2 y3 y4 y5 y6 y7
                 go_wp2
                 refine ⟨⟨r,i+1,rfl,by go_num,by omega,hr2,fun q9=>?_,HB5⟩,by simp [intOf];omega⟩
                 have h5:=uh HR1 q9
                 have h6:=uh HQ (by omega)
                 rw [uh HSN]
                 omega
               · have hmz:¬ (q:Int)≤4194304:=by omega
                 go_wp2
                 go_ret
                 exact ⟨q,rfl,fun q9=>absurd q9 hm,hq2,(uh L2).trans ((uh HB).mono (uh L2).size)⟩
             · obtain rfl:i=f.length:=by omega
               have hno:¬ (f.length:Int) < (f.length:Int):=by omega
               rw [List.take_of_length_le (Nat.le_refl _)] at HQ
               go_wp2
               go_ret
               refine ⟨q,rfl,fun q9=>?_,hq2,(uh L2).trans ((uh HB).mono (uh L2).size)⟩
               have h6:=uh HQ q9
               have h7:=uh HCV
               have h8:=uh HB0
               omega
set_option maxHeartbeats 1600000 in
theorem heavy_any (v:JT) (hb:Bd v) (cs:List Value) (w:World) (h:VR w v cs):Calls Tryz.prog 9 #[.agg cs.toArray] w fun e w'=>∃ b:Bool,e=.returned (.bool b)∧(b=false→cntV v≤4194304)∧Below w.heap.size w w':=by
 obtain ⟨a0,a1,a2,a3,a4,a5,a6,a7,rfl⟩:=h.eight
 obtain ⟨x2,l2,_,z2⟩:=boxE w [a0,a1,a2,a3,a4,a5,a6,a7] _ w (Below.refl _ w) (Nat.le_refl _) _ rfl
 have CI:=hide (many_any _ v (Nat.lt_succ_self _) hb 0 0 _ _ (by omega) (by omega) (h.keep l2))
 have L2:=hide l2
 have Z2:=hide z2
 obtain ⟨y0,y1,y2,y3,y4,y5,y6,y7⟩:=x2.cells
 generalize cntV v=C at *
 clear h hb l2 x2 z2
 go_enter Tryz.func9,Tryz.ntmps9
 go_wp2_with (go_at_call 31;refine (uh CI).mono ?_;rintro e1 u2 ⟨r,rfl,hr1,hr2,b2⟩)
 go_ret
 refine ⟨_,rfl,fun q=>?_,(uh L2).trans (b2.mono (Nat.le_of_lt (uh Z2)))⟩
 have hq:¬ (4194304:Int) < (r:Int):=by simpa using q
 have:=hr1 (by omega)
 omega
structure Lit (v:JT):Prop where
 gd:Gd v
 pf:Pf (cntV v) (nrm v)
 bn:Bd (nrm v)
 cst:cst (nrm v)≤2000000000
 len:(prt (nrm v)).length≤2000000000
theorem lit_of {v:JT} (hb:Bd v) (hc:cntV v≤4194304):Lit v:=by
 obtain ⟨h1,h2⟩:=light_few _ v (Nat.lt_succ_self _) (by omega)
 have h3:=prt_le _ (nrm v) (Nat.lt_succ_self _)
 exact ⟨light_gd _ v (Nat.lt_succ_self _) hb (by omega),h1,pf_bd h1,by omega,by omega⟩
theorem lprint {v:JT} (hb:Bd v) (hl:Lit v) (cs:List Value) (w:World) (h:VR w v cs) (hP:Pow w) :
 Calls Tryz.prog 12 #[.agg cs.toArray] w fun e w'=>e=.returned (.string ⟨(prt (nrm v)).toArray⟩)∧Below w.heap.size w w' :=
 jprint_any v hb hl.gd hl.bn (by have:=hl.cst;omega) cs w h hP
def pk (c n:Int):Int:=if c < 0 then (-(c+1)) % n else c % n
theorem pick_any (c n:Int) (w:World) (h0:-9223372036854775808≤c) (h1:c≤9223372036854775807) (h2:0 < n) (h3:n≤9223372036854775807) :
 Calls Tryz.prog 30 #[.int .i64 c,.int .i64 n] w fun e w'=>e=.returned (.int .i64 (pk c n))∧w'=w:=by
 have hn:(n == 0)=false:=by rw [beq_eq_false_iff_ne];omega
 have hn0:n≠0:=by omega
 by_cases hc:c < 0
 · have HP:Hid (pk c n=(-(c+1)) % n):=by show _=_;unfold pk;rw [if_pos hc]
   have w1:IntKind.i64.wrap (c+1)=c+1:=IntWalk.i64_in _ ⟨by omega,by omega⟩
   have w2:IntKind.i64.wrap (-(c+1))=-(c+1):=IntWalk.i64_in _ ⟨by omega,by omega⟩
   have p1:0≤-(c+1):=by omega
   have hr:Int.tmod (-(c+1)) n=(-(c+1)) % n:=Int.tmod_eq_emod_of_nonneg p1
   have hb:=Int.emod_lt_of_pos (-(c+1)) h2
   have hb0:=Int.emod_nonneg (-(c+1)) hn0
   generalize pk c n=r at *
   go_enter Tryz.func30,Tryz.ntmps30
   go_wp2
   go_ret
   refine ⟨?_,rfl⟩
   rw [uh HP]
   rfl
 · have HP:Hid (pk c n=c % n):=by show _=_;unfold pk;rw [if_neg hc]
   have p1:0≤c:=by omega
   have hc':decide (c < 0)=false:=decide_eq_false hc
   have hr:Int.tmod c n=c % n:=Int.tmod_eq_emod_of_nonneg p1
   have hb:=Int.emod_lt_of_pos c h2
   have hb0:=Int.emod_nonneg c hn0
   generalize pk c n=r at *
   go_enter Tryz.func30,Tryz.ntmps30
   go_wp2
   go_ret
   refine ⟨?_,rfl⟩
   rw [uh HP]
   rfl
theorem pk_in (c:Int) (n:Nat) (hn:0 < n):0≤pk c n∧pk c n < n:=by
 unfold pk
 split
 · exact ⟨Int.emod_nonneg _ (by omega),Int.emod_lt_of_pos _ (by omega)⟩
 · exact ⟨Int.emod_nonneg _ (by omega),Int.emod_lt_of_pos _ (by omega)⟩
def gapT (n:Int):ByteArray:=if n=0 then ⟨#[]⟩ else if n=1 then ⟨#[32]⟩ else if n=2 then ⟨#[10,9]⟩ else ⟨#[13,32]⟩
theorem gapT_ag (n:Int):AG (gapT n).data.toList:=by
 unfold gapT
 split
 · exact ag_nil
 · split
   · intro c hc;simp at hc;subst hc;decide
   · split
     · intro c hc;simp at hc;rcases hc with rfl|rfl <;> decide
     · intro c hc;simp at hc;rcases hc with rfl|rfl <;> decide
def GG (l:List Int) (i:Nat):Option (List UInt8 × List UInt8):=(l[i]?).map fun c=>((gapT (pk c 4)).data.toList,(gapT (pk (c.tdiv 4) 4)).data.toList)
theorem GG_ag (l:List Int):∀ i a b,GG l i=some (a,b)→AG a∧AG b:=by
 intro i a b h
 unfold GG at h
 cases hl:l[i]? with
 | none=>rw [hl] at h;simp at h
 | some c =>
   rw [hl] at h
   simp only [Option.map_some,Option.some.injEq,Prod.mk.injEq] at h
   obtain ⟨rfl,rfl⟩:=h
   exact ⟨gapT_ag _,gapT_ag _⟩
def GI (G:Nat→Option (List UInt8 × List UInt8)) (S R:List UInt8) (o:List UInt8) (w:Bool) (from_ i:Nat):Prop:=from_≤i∧from_≤S.length∧o++(S.drop from_).take (i - from_)++scan G i w (S.drop i)=R
section
variable {G:Nat→Option (List UInt8 × List UInt8)}{S R o:List UInt8}{w:Bool}{f i:Nat}
theorem GI.start (G:Nat→Option (List UInt8 × List UInt8)) (S:List UInt8):GI G S (scan G 0 false S) [] false 0 0:=⟨by omega,by omega,by simp⟩
theorem dropAt {c:UInt8} (hc:S[i]?=some c):S.drop i=c::S.drop (i+1):=by
 obtain ⟨h,rfl⟩:=List.getElem?_eq_some_iff.1 hc
 exact List.drop_eq_getElem_cons h
theorem takeAt {c:UInt8} (hc:S[i]?=some c) (hf:f≤i):(S.drop f).take (i+1 - f)=(S.drop f).take (i - f)++[c]:=by
 rw [show i+1 - f=(i - f)+1 by omega,List.take_add_one,List.getElem?_drop,show f+(i - f)=i by omega,hc]
 rfl
theorem GI.esc (h:GI G S R o true f i) (hc:S[i]?=some 92):GI G S R o true f (i+2):=by
 obtain ⟨h1,h2,h3⟩:=h
 refine ⟨by omega,h2,?_⟩
 rw [← h3]
 have t1:=takeAt hc h1
 cases hd:S[i+1]? with
 | none =>
   have hl:S.length≤i+1:=List.getElem?_eq_none_iff.1 hd
   have e1:S.drop (i+2)=[]:=List.drop_of_length_le (by omega)
   have e2:S.drop (i+1)=[]:=List.drop_of_length_le (by omega)
   rw [dropAt hc,e1,e2,scan_cons,if_pos ⟨rfl,rfl⟩]
   have e3:(S.drop f).take (i+2 - f)=(S.drop f).take (i+1 - f):=by
    rw [List.take_of_length_le (by rw [List.length_drop];omega),List.take_of_length_le (by rw [List.length_drop];omega)]
   rw [e3,t1]
   simp [scan.eq_def]
 | some d =>
   have t2:=takeAt hd (f:=f) (by omega)
   rw [dropAt hc,dropAt hd,scan_esc,show i+2 - f=i+1+1 - f by omega,t2,t1]
   simp
theorem GI.next (h:GI G S R o w f i) {c:UInt8} (hc:S[i]?=some c) (h1:¬ (w=true∧c=92)) (h2:¬ ((if c=34 then !w else w)=false∧stB c=true)):GI G S R o (if c=34 then !w else w) f (i+1):=by
 obtain ⟨a1,a2,a3⟩:=h
 refine ⟨by omega,a2,?_⟩
 rw [← a3,dropAt hc,scan_cons,if_neg h1,if_neg h2,takeAt hc a1]
 simp
theorem GI.lay (h:GI G S R o w f i) {c:UInt8} (hc:S[i]?=some c) (h1:¬ (w=true∧c=92)) (h2:(if c=34 then !w else w)=false∧stB c=true) {a b:List UInt8} (hg:G i=some (a,b)) :
 GI G S R (o++((S.drop f).take (i - f)++a++[c]++b)) false (i+1) (i+1):=by
 obtain ⟨a1,a2,a3⟩:=h
 have hl:=(List.getElem?_eq_some_iff.1 hc).1
 refine ⟨by omega,by omega,?_⟩
 rw [← a3,dropAt hc,scan_cons,if_neg h1,if_pos h2,hg,h2.1]
 simp [gp]
theorem GI.bare (h:GI G S R o w f i) {c:UInt8} (hc:S[i]?=some c) (h1:¬ (w=true∧c=92)) (hg:G i=none):GI G S R o (if c=34 then !w else w) f (i+1):=by
 by_cases h2:(if c=34 then !w else w)=false∧stB c=true
 · obtain ⟨a1,a2,a3⟩:=h
   refine ⟨by omega,a2,?_⟩
   rw [← a3,dropAt hc,scan_cons,if_neg h1,if_pos h2,hg,takeAt hc a1,h2.1]
   simp [gp]
 · exact h.next hc h1 h2
theorem GI.done (h:GI G S R o w f i) (hi:S.length≤i):o++S.drop f=R:=by
 obtain ⟨a1,a2,a3⟩:=h
 rw [← a3,List.drop_of_length_le hi,List.take_of_length_le (by rw [List.length_drop];omega)]
 simp [scan.eq_def]
end
theorem gaps_read {n:Nat}{N:JT} (hp:Pf n N) (l:List Int) (h1:(prt N).length≤524288) (h2:(scan (GG l) 0 false (prt N)).length≤1048576) :
 (parseJ ⟨(prt N).toArray⟩=.inl N∧parseJ ⟨(scan (GG l) 0 false (prt N)).toArray⟩=.inl N)∨((∃ e,parseJ ⟨(prt N).toArray⟩=.inr e)∧∃ e,parseJ ⟨(scan (GG l) 0 false (prt N)).toArray⟩=.inr e):=by
 obtain ⟨g0,x,g1,a0,a1,hx,e⟩:=scan_val (GG_ag l) hp 0 []
 have ew:scan (GG l) 0 false (prt N)=g0++x++g1:=by
  rw [List.append_nil] at e
  rw [e]
  simp [scan.eq_def]
 by_cases hd:dpt N≤64
 · left
   have h64:Pf 64 N:=pf_deep hp 64 hd
   refine ⟨parse_prt h64 (by omega),?_⟩
   obtain ⟨g0,x,g1,a0,a1,hx,e⟩:=scan_val (GG_ag l) h64 0 []
   have ew:scan (GG l) 0 false (prt N)=g0++x++g1:=by
    rw [List.append_nil] at e
    rw [e]
    simp [scan.eq_def]
   rw [ew] at h2 ⊢
   exact gparse h64 hx a0 a1 h2
 · right
   refine ⟨parse_deep hp (by omega),?_⟩
   rw [ew]
   exact gparse_deep hp hx a0 a1 (by omega)
theorem gaps_cut {n:Nat}{N:JT} (hp:Pf n N) (hn:¬ isNum N) (h1:(prt N).length≤524288) {k:Nat} (hk:k < (prt N).length):∃ r,parseJ ⟨((prt N).take k).toArray⟩=.inr r:=by
 refine parse_cut hp hn (y:=(prt N).take k) (z:=(prt N).drop k) (List.take_append_drop k _).symm (fun e=>?_) (by rw [List.length_take];omega)
 have:=congrArg List.length e
 rw [List.length_drop,List.length_nil] at this
 omega
theorem num_kind (v:JT) (h:isNum (nrm v)):kindOf v=2:=by
 cases v with
 | mk k t d x l f =>
   rw [nrm_mk] at h
   show k=2
   split at h
   · exact absurd (show (1:Int)=2 from h) (by decide)
   · split at h
     · assumption
     · split at h
       · exact absurd (show (3:Int)=2 from h) (by decide)
       · split at h
         · exact absurd (show (4:Int)=2 from h) (by decide)
         · split at h
           · exact absurd (show (5:Int)=2 from h) (by decide)
           · exact absurd (show (0:Int)=2 from h) (by decide)
section
variable {ops:Array Oper}{a:Act}{Q:Exit→Act→World→Prop}
theorem step_apS {op:Oper}{K:Act→World→Prop}{E0:Prop} (s:ByteArray) (w:World) (B:Nat) (v:Value) (l:List UInt8) (hgd:op.guard=none) (sl x:Operand) (ho:op.op=.call { callee:=.builtin .append,args:=#[sl,x],argTypes:=#[51,9] })
 (hv:a.eval sl=v) (hx:a.eval x=.string s) (hown:Hid (OB w B v l)) (hB:Hid (B≤w.heap.size)) (hz:Hid (l.length+s.size≤140000000000000))
 (h:∀ v' w',Hid (OB w' B v' (l++s.data.toList))→Hid (Below B w w')→Hid (Ext w w' v v')→K (a.put op.dst v') w'):if Region.wanted op (yielded ops a.tmps)=true then Oper.wp Tryz.prog op a w K Q else E0:=by
 have hw:Region.wanted op (yielded ops a.tmps)=true:=by simp [Region.wanted,hgd]
 rw [if_pos hw]
 obtain ⟨v',w',hr,h1,h2⟩:=run_apS2 (ty:=op.type) (uh hown) s (uh hz) (uh hB)
 unfold Oper.wp execOp
 simp only [ho,resolve,invoke,builtin,Sem.run_bind,Sem.run_pure,Result.andThen_ok,List.map_toArray,List.map_cons,List.map_nil,hv,hx,hr]
 exact h _ _ h1 (h2.below (uh hown) (uh hB)) h2
end
def G4 (w:World) (m:Nat):Prop:=w.heap[m]?=some (.cells #[.string ⟨#[]⟩,.string ⟨#[32]⟩,.string ⟨#[10,9]⟩,.string ⟨#[13,32]⟩] 9 (0,0))
theorem G4.keep {w w':World}{m:Nat} (h:G4 w m) (hb:Below w.heap.size w w'):G4 w' m:=(hb.block m (blk_lt h)).trans h
theorem G4.at {w:World}{m:Nat} (h:G4 w m) {k:Int} (h0:0≤k) (h1:k < 4):w.cell? ⟨m,k.toNat,none⟩=some (.string (gapT k)):=by
 have hk:k=0∨k=1∨k=2∨k=3:=by omega
 rcases hk with rfl|rfl|rfl|rfl
 · exact blk_cell h 0
 · exact blk_cell h 1
 · exact blk_cell h 2
 · exact blk_cell h 3
end Go.Proofs.YthakglomacijgaaGreatDoor.rd
