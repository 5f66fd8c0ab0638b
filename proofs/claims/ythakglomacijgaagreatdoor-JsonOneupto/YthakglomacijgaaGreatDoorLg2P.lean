/- Texts in one: Lg2 Hv One -/
import Derived.Test.YthakglomacijgaaGreatDoorLgP
import Derived.Lib.ItoaLen
import Derived.Test.YthakglomacijgaaGreatDoorSqP
import Derived.Test.YthakglomacijgaaGreatDoorIeP
import Derived.Test.YthakglomacijgaaGreatDoorFo5P
import Derived.Test.YthakglomacijgaaGreatDoorWlP
import Derived.Deep.RegionHeld3
import Derived.Deep.RegionLaw
namespace Go.Proofs.YthakglomacijgaaGreatDoor.rd
open Go.RowKit
theorem itoaB_few (n:Int) (h0:-9999≤n) (h1:n≤9999):(itoaB n).size≤21:=by
 have e:(itoaB n).size=(Lib.itoa n).length:=by unfold itoaB;exact List.size_toArray
 rw [e]
 exact Lib.itoa_length_le n (by omega) (by omega)
theorem txt_few (n:Dn) (h:Whole1 n):(textOf n).size≤n.dg.size+30:=by
 have hx:-9999≤n.ex∧n.ex≤9999:=by
  rcases h with rfl|h
  · exact ⟨by decide,by decide⟩
  · exact ⟨h.e0,h.e1⟩
 have:=itoaB_few n.ex hx.1 hx.2
 have e1:(⟨#[45]⟩:ByteArray).size=1:=rfl
 have e2:(⟨#[101]⟩:ByteArray).size=1:=rfl
 unfold textOf
 split
 · have:(⟨#[48]⟩:ByteArray).size=1:=rfl
   omega
 · split
   · split
     · rw [ByteArray.size_append];omega
     · omega
   · split
     · rw [ByteArray.size_append,ByteArray.size_append,ByteArray.size_append];omega
     · rw [ByteArray.size_append,ByteArray.size_append];omega
theorem light_few (n:Nat):∀ v,SizeOf.sizeOf v < n→cntV v≤100000000→Pf (cntV v) (nrm v)∧cst (nrm v)+100≤400*cntV v:=by
 induction n with
 | zero=>intro v h;omega
 | succ n IH =>
   intro v hn hc
   cases v with
   | mk k t d x l f =>
     have e0:(⟨#[]⟩:ByteArray).size=0:=rfl
     have hlf:∀ v∈l,Pf (cntV v) (nrm v)∧cst (nrm v)+100≤400*cntV v:=fun v hv=>IH v (by have:=sz_l (k:=k) (t:=t) (d:=d) (x:=x) (f:=f) hv;omega) (by have:=cnt_l (k:=k) (t:=t) (d:=d) (x:=x) (f:=f) hv;omega)
     have hff:∀ p∈f,Pf (cntV p.2) (nrm p.2)∧cst (nrm p.2)+100≤400*cntV p.2:=fun p hp=>IH p.2 (by have:=sz_f (k:=k) (t:=t) (d:=d) (x:=x) (l:=l) hp;omega) (by have:=cnt_f (k:=k) (t:=t) (d:=d) (x:=x) (l:=l) hp;omega)
     have hcl:∀ v∈l,cntV v+1≤cntV (.mk k t d x l f):=fun v hv=>cnt_l hv
     have hcf:∀ p∈f,cntV p.2+p.1.size+1≤cntV (.mk k t d x l f):=fun p hp=>cnt_f hp
     have hmk:=cntV_mk k t d x l f
     generalize cntV (.mk k t d x l f)=C at *
     rw [nrm_mk]
     by_cases e1:k=1
     · rw [if_pos e1]
       refine ⟨.truth C t,?_⟩
       show cst (leaf 1 t zed ⟨#[]⟩)+100≤_
       rw [cst_leaf,txt_zed]
       omega
     rw [if_neg e1]
     by_cases e2:k=2
     · rw [if_pos e2]
       obtain ⟨w1,w2⟩:=norm_ok d
       refine ⟨.num C w1 (by omega),?_⟩
       show cst (leaf 2 false (norm d) ⟨#[]⟩)+100≤_
       have:=txt_few _ w1
       rw [cst_leaf,wh.whole_id w1]
       omega
     rw [if_neg e2]
     by_cases e3:k=3
     · rw [if_pos e3]
       obtain ⟨w1,w2⟩:=clean_ltc x
       refine ⟨.text C w1 (by omega),?_⟩
       show cst (leaf 3 false zed (pt.clean x))+100≤_
       rw [cst_leaf,txt_zed]
       omega
     rw [if_neg e3]
     by_cases e4:k=4
     · rw [if_pos e4]
       refine ⟨?_,?_⟩
       · obtain ⟨C,rfl⟩:∃ q,C=q+1:=⟨C - 1,by omega⟩
         refine .list (fun v hv=>?_) (by rw [List.length_map];omega)
         obtain ⟨u,hu,rfl⟩:=List.mem_map.1 hv
         exact pf_mono (hlf u hu).1 C (by have:=hcl u hu;omega)
       · rw [cst_mk,txt_zed]
         simp only [List.map_nil,List.sum_nil,List.length_nil,List.length_map,List.map_map]
         have h1:(l.map (cst ∘ nrm)).sum≤(l.map fun v=>400*cntV v).sum:=sum_le fun v hv=>by have:=(hlf v hv).2;simp only [Function.comp_def];omega
         rw [sum_mul] at h1
         omega
     rw [if_neg e4]
     by_cases e5:k=5
     · rw [if_pos e5]
       obtain ⟨p1,p2⟩:=ss.puts_fst (f.map fun p=>(pt.clean p.1,nrm p.2))
       have hmem:∀ p∈jn.puts (f.map fun p=>(pt.clean p.1,nrm p.2)),∃ q∈f,p=(pt.clean q.1,nrm q.2):=fun p hp=>by
        obtain ⟨q,hq,e⟩:=List.mem_map.1 (mem_puts _ p hp)
        exact ⟨q,hq,e.symm⟩
       obtain ⟨s1,s2⟩:=puts_sum (fun p:ByteArray × JT=>cst p.2+6*p.1.size+30) (f.map fun p=>(pt.clean p.1,nrm p.2))
       rw [List.length_map] at s2
       refine ⟨?_,?_⟩
       · obtain ⟨C,rfl⟩:∃ q,C=q+1:=⟨C - 1,by omega⟩
         refine .obj (fun p hp=>?_) p2 (fun p hp=>?_) (by omega)
         · obtain ⟨q,hq,rfl⟩:=hmem p hp
           obtain ⟨w1,w2⟩:=clean_ltc q.1
           exact ⟨w1,by have:=hcf q hq;simp only;omega⟩
         · obtain ⟨q,hq,rfl⟩:=hmem p hp
           exact pf_mono (hff q hq).1 C (by have:=hcf q hq;omega)
       · rw [cst_mk,txt_zed]
         simp only [List.map_nil,List.sum_nil,List.length_nil]
         rw [List.map_map] at s1
         have h1:(f.map ((fun p:ByteArray × JT=>cst p.2+6*p.1.size+30) ∘ fun p=>(pt.clean p.1,nrm p.2))).sum≤(f.map fun p=>400*(p.1.size+cntV p.2)).sum:=sum_le fun p hp=>by
          have h3:=(hff p hp).2
          have h4:=(clean_ltc p.1).2
          simp only [Function.comp_def]
          omega
         rw [sum_mul] at h1
         omega
     rw [if_neg e5]
     refine ⟨.null C,?_⟩
     show cst (leaf 0 false zed ⟨#[]⟩)+100≤_
     rw [cst_leaf,txt_zed]
     omega
theorem sum_snoc {α:Type} (g:α→Nat) (l:List α) (i:Nat) (v:α) (h:l[i]?=some v):((l.take (i+1)).map g).sum=((l.take i).map g).sum+g v:=by
 rw [take_succ' h,List.map_append,List.sum_append_nat]
 simp
def MP (n c:Nat) (w:World) (e:Ending) (w':World):Prop:=∃ r:Nat,e=.returned (.int .i64 (r:Int))∧(r≤4194304→r=n+c)∧r≤100000000000000∧Below w.heap.size w w'
set_option maxRecDepth 1000000 in
set_option maxHeartbeats 6400000 in
theorem many_any (N:Nat):∀ (v:JT),SizeOf.sizeOf v < N→Bd v→∀ (n ar:Nat) (cs:List Value) (w:World),n≤36000000000000→ar≤65537→VR w v cs→Calls Tryz.prog 31 #[.agg cs.toArray,.int .i64 (n:Int),.int .i64 (ar:Int)] w (MP n (cntV v) w):=by
 induction N with
 | zero=>intro v h;omega
 | succ N IH =>
   intro v hN hbd n ar cs w hn har h
   cases v with
   | mk k t d x l f =>
     obtain ⟨oa,ca,ob,cb,rfl⟩:=h.parts
     obtain ⟨dn,dg,dx⟩:=d
     cases hbd with
     | mk hk h0 h1 h2 h3 h4 hl hnm hf =>
       obtain ⟨x2,l2,_,z2⟩:=boxE w [.int .i64 k,.bool t,.bool dn,.string dg,.int .i64 dx,.string x,.slice oa l.length ca,.slice ob f.length cb] _ w (Below.refl _ w) (Nat.le_refl _) _ rfl
       have hcv:=cntV_mk k t ⟨dn,dg,dx⟩ x l f
       have I1:=hide (fun v (hv:v∈l) (n ar:Nat) (cs:List Value) (w:World)=>IH v (by have:=sz_l (k:=k) (t:=t) (d:=⟨dn,dg,dx⟩) (x:=x) (f:=f) hv;omega) (hl v hv) n ar cs w)
       have I2:=hide (fun p (hp:p∈f) (n ar:Nat) (cs:List Value) (w:World)=>IH p.2 (by have:=sz_f (k:=k) (t:=t) (d:=⟨dn,dg,dx⟩) (x:=x) (l:=l) hp;omega) (hf p hp) n ar cs w)
       generalize cntV (JT.mk k t ⟨dn,dg,dx⟩ x l f)=C at *
       have HCV:=hide hcv
       have HNM:=hide hnm
       have HV:=hide h
       clear h hcv hnm hl hf IH hN
       by_cases ha:65536 < ar
       · have haz:(65536:Int) < (ar:Int):=by omega
         clear I1 I2 x2 z2 HCV HNM HV h0 h1 h2 h3 h4 hk
         go_enter Tryz.func31,Tryz.ntmps31
         go_wp2
         go_ret
         exact ⟨4194305,rfl,fun q=>by omega,by omega,l2⟩
       · have haz:¬ (65536:Int) < (ar:Int):=by omega
         obtain ⟨y0,y1,y2,y3,y4,y5,y6,y7⟩:=x2.cells
         have V2:=hide ((uh HV).keep l2)
         have X2:=hide x2
         have Z2:=hide z2
         have L2:=hide l2
         clear x2 z2 l2 HV
         obtain ⟨b0,hb0⟩:∃ b0,b0=n+1+x.size+dg.size+l.length+f.length:=⟨_,rfl⟩
         have HB0:=hide hb0
         have hbz:(b0:Int)=(n:Int)+1+(x.size:Int)+(dg.size:Int)+(l.length:Int)+(f.length:Int):=by omega
         have h0':dg.size≤1099511627776:=h0
         have hbb:b0≤80000000000000:=by omega
         have HBZ:=hide hbz
         clear hb0 hbz
         go_enter Tryz.func31,Tryz.ntmps31
         go_upto_region 4 with fail
         clear y0 y1 y2 y3 y4 y5 y6 y7
         generalize w.alloc (.cells [.int .i64 k,.bool t,.bool dn,.string dg,.int .i64 dx,.string x,.slice oa l.length ca,.slice ob f.length cb].toArray 27)=W2 at *
         go_wp2
         go_loopw [1,7] (fun mv iv wr=>∃ (m i:Nat),mv=.int .i64 (m:Int)∧iv=.int .i64 (i:Int)∧i≤l.length∧m≤100000000000000∧Hid (m≤4194304→m=b0+((l.take i).map cntV).sum)∧Hid (Below W2.heap.size W2 wr)) (fun _ iv _=>l.length - (intOf iv).toNat)
         case atStart=>exact ⟨b0,0,by rw [uh HBZ],rfl,Nat.zero_le _,by omega,fun _=>by simp,Below.refl _ _⟩
         case round =>
          obtain ⟨m,i,rfl,rfl,hi,hm2,HM,HB⟩:=hrel
          obtain ⟨y0,y1,y2,y3,y4,y5,y6,y7⟩:=((uh X2).keep (uh HB) (uh Z2)).cells
          by_cases hc:i < l.length
          · have hi1:(i:Int) < (l.length:Int):=by omega
            by_cases hm:m≤4194304
            · have hmz:(m:Int)≤4194304:=by omega
              obtain ⟨ad,e,q0,q1,q2,q3,q4,q5,q6,q7,rfl,hev,hvr,hat⟩:=((uh V2).keep (uh HB)).el i hc
              obtain ⟨x0,x1,x2,x3,x4,x5,x6,x7⟩:=cells8 hat
              have hem:=List.mem_of_getElem? hev
              have CI:=hide (uh I1 e hem m (ar+1) _ wr (by omega) (by omega) hvr)
              have HSN:=hide (sum_snoc cntV l i e hev)
              generalize cntV e=ce at CI HSN
              clear hat hvr hev hem
              go_wp2_with (go_at_call 31;refine (uh CI).mono ?_;rintro e1 u2 ⟨r,rfl,hr1,hr2,b2⟩)
              have HB2:=hide ((uh HB).trans (b2.mono (uh HB).size))
              refine ⟨⟨r,i+1,rfl,by go_num,by omega,hr2,fun q9=>?_,HB2⟩,by simp [intOf];omega⟩
              have h5:=hr1 q9
              have h6:=uh HM (by omega)
              rw [uh HSN]
              omega
            · have hmz:¬ (m:Int)≤4194304:=by omega
              have E1:=hide (show m≤4194304→m=b0+(l.map cntV).sum from fun q9=>absurd q9 hm)
              have hmb:=hm2
              have HB1:=HB
              clear HM HB hm2 I1
              go_upto_region 8 with fail
              clear y0 y1 y2 y3 y4 y5 y6 y7
              go_wp2
              go_loopw [1,8] (fun mv iv wr'=>∃ (q i:Nat),mv=.int .i64 (q:Int)∧iv=.int .i64 (i:Int)∧i≤f.length∧q≤100000000000000∧Hid (q≤4194304→q=b0+(l.map cntV).sum+((f.take i).map fun p=>p.1.size+cntV p.2).sum)∧Hid (Below W2.heap.size W2 wr')) (fun _ iv _=>f.length - (intOf iv).toNat)
              case atStart=>exact ⟨m,0,rfl,rfl,Nat.zero_le _,hmb,fun q=>by simpa using uh E1 q,HB1⟩
              case round =>
               obtain ⟨q,i,rfl,rfl,hi,hq2,HQ,HB⟩:=hrel
               obtain ⟨y0,y1,y2,y3,y4,y5,y6,y7⟩:=((uh X2).keep (uh HB) (uh Z2)).cells
               clear E1 HB1
               by_cases hc:i < f.length
               · have hi1:(i:Int) < (f.length:Int):=by omega
                 by_cases hm:q≤4194304
                 · have hmz:(q:Int)≤4194304:=by omega
                   obtain ⟨ad,nm,e,q0,q1,q2,q3,q4,q5,q6,q7,rfl,hev,hvr,hat⟩:=((uh V2).keep (uh HB)).fl i hc
                   obtain ⟨x8,x0,x1,x2,x3,x4,x5,x6,x7⟩:=cells9 hat
                   have hem:=List.mem_of_getElem? hev
                   have hns:=uh HNM _ hem
                   simp only at hns
                   have HSN:=hide (sum_snoc (fun p:ByteArray × JT=>p.1.size+cntV p.2) f i _ hev)
                   have CI:=hide (fun u (hu:Below wr.heap.size wr u)=>uh I2 _ hem (q+nm.size) (ar+1) _ u (by omega) (by omega) (hvr.keep hu))
                   simp only at CI HSN
                   generalize cntV e=ce at CI HSN
                   have hw0:Below wr.heap.size wr wr.drew:=⟨rfl,rfl,rfl,Nat.le_refl _,fun _ _=>rfl⟩
                   have HmkS:∀ u,Below wr.heap.size wr u→Below wr.heap.size wr u∧u.cell? ⟨w.heap.size,7,none⟩=some (.slice (some ad) f.length cb)∧u.cell? (ad.add (i*9))=some (.string nm)∧u.cell? ⟨(ad.add (i*9)).block,(ad.add (i*9)).off+1,none⟩=some q0∧u.cell? ⟨(ad.add (i*9)).block,(ad.add (i*9)).off+2,none⟩=some q1∧u.cell? ⟨(ad.add (i*9)).block,(ad.add (i*9)).off+3,none⟩=some q2∧u.cell? ⟨(ad.add (i*9)).block,(ad.add (i*9)).off+4,none⟩=some q3∧u.cell? ⟨(ad.add (i*9)).block,(ad.add (i*9)).off+5,none⟩=some q4∧u.cell? ⟨(ad.add (i*9)).block,(ad.add (i*9)).off+6,none⟩=some q5∧u.cell? ⟨(ad.add (i*9)).block,(ad.add (i*9)).off+7,none⟩=some q6∧u.cell? ⟨(ad.add (i*9)).block,(ad.add (i*9)).off+8,none⟩=some q7:=fun u hu=>⟨hu,kc hu y7,kc hu x8,kc hu x0,kc hu x1,kc hu x2,kc hu x3,kc hu x4,kc hu x5,kc hu x6,kc hu x7⟩
                   have wa:IntKind.i64.wrap ((q:Int)+(nm.size:Int))=((q+nm.size:Nat):Int):=by rw [IntKind.wrap_i64];omega
                   have wb:IntKind.i64.wrap ((ar:Int)+1)=((ar+1:Nat):Int):=by rw [IntKind.wrap_i64];omega
                   clear hat hvr hev hem
                   go_wp2_with fail
                   go_region_held3 (fun u=>Below wr.heap.size wr u∧u.cell? ⟨w.heap.size,7,none⟩=some (.slice (some ad) f.length cb)∧u.cell? (ad.add (i*9))=some (.string nm)∧u.cell? ⟨(ad.add (i*9)).block,(ad.add (i*9)).off+1,none⟩=some q0∧u.cell? ⟨(ad.add (i*9)).block,(ad.add (i*9)).off+2,none⟩=some q1∧u.cell? ⟨(ad.add (i*9)).block,(ad.add (i*9)).off+3,none⟩=some q2∧u.cell? ⟨(ad.add (i*9)).block,(ad.add (i*9)).off+4,none⟩=some q3∧u.cell? ⟨(ad.add (i*9)).block,(ad.add (i*9)).off+5,none⟩=some q4∧u.cell? ⟨(ad.add (i*9)).block,(ad.add (i*9)).off+6,none⟩=some q5∧u.cell? ⟨(ad.add (i*9)).block,(ad.add (i*9)).off+7,none⟩=some q6∧u.cell? ⟨(ad.add (i*9)).block,(ad.add (i*9)).off+8,none⟩=some q7) (with_reducible refine HmkS _ ?_;with_reducible first|assumption|exact Below.refl _ _) (first
                    | (go_at_call 31;refine (uh CI _ (by with_reducible assumption)).mono ?_;rintro e1 u5 ⟨r,rfl,hr1,hr2,b5⟩
                       have hB5:Below wr.heap.size wr u5:=hw0.trans (b5.mono (Nat.le_refl _))))
                   have HR1:=hide hr1
                   have HB5:=hide ((uh HB).trans (hB5.mono (uh HB).size))
                   clear HmkS hw0 b5 hB5 hr1 CI x0 x1 x2 x3 x4 x5 x6 x7 x8 y0 y1 y2 y3 y4 y5 y6 y7
                   go_wp2
                   refine ⟨⟨r,i+1,rfl,by go_num,by omega,hr2,fun q9=>?_,HB5⟩,by simp [intOf];omega⟩
                   have h5:=uh HR1 q9
                   have h6:=uh HQ (by omega)
                   rw [uh HSN]
                   omega
                 · have hmz:¬ (q:Int)≤4194304:=by omega
                   go_wp2
                   go_ret
                   exact ⟨q,rfl,fun q9=>absurd q9 hm,hq2,(uh L2).trans ((uh HB).mono (uh L2).size)⟩
               · obtain rfl:i=f.length:=by omega
                 have hno:¬ (f.length:Int) < (f.length:Int):=by omega
                 rw [List.take_of_length_le (Nat.le_refl _)] at HQ
                 go_wp2
                 go_ret
                 refine ⟨q,rfl,fun q9=>?_,hq2,(uh L2).trans ((uh HB).mono (uh L2).size)⟩
                 have h6:=uh HQ q9
                 have h7:=uh HCV
                 have h8:=uh HB0
                 omega
          · obtain rfl:i=l.length:=by omega
            have hno:¬ (l.length:Int) < (l.length:Int):=by omega
            rw [List.take_of_length_le (Nat.le_refl _)] at HM
            have E1:=hide (show m≤4194304→m=b0+(l.map cntV).sum from uh HM)
            have hmb:=hm2
            have HB1:=HB
            clear HM HB hm2 I1
            go_upto_region 8 with fail
            clear y0 y1 y2 y3 y4 y5 y6 y7
            go_wp2
            go_loopw [1,8] (fun mv iv wr'=>∃ (q i:Nat),mv=.int .i64 (q:Int)∧iv=.int .i64 (i:Int)∧i≤f.length∧q≤100000000000000∧Hid (q≤4194304→q=b0+(l.map cntV).sum+((f.take i).map fun p=>p.1.size+cntV p.2).sum)∧Hid (Below W2.heap.size W2 wr')) (fun _ iv _=>f.length - (intOf iv).toNat)
            case atStart=>exact ⟨m,0,rfl,rfl,Nat.zero_le _,hmb,fun q=>by simpa using uh E1 q,HB1⟩
            case round =>
             obtain ⟨q,i,rfl,rfl,hi,hq2,HQ,HB⟩:=hrel
             obtain ⟨y0,y1,y2,y3,y4,y5,y6,y7⟩:=((uh X2).keep (uh HB) (uh Z2)).cells
             clear E1 HB1
             by_cases hc:i < f.length
             · have hi1:(i:Int) < (f.length:Int):=by omega
               by_cases hm:q≤4194304
               · have hmz:(q:Int)≤4194304:=by omega
                 obtain ⟨ad,nm,e,q0,q1,q2,q3,q4,q5,q6,q7,rfl,hev,hvr,hat⟩:=((uh V2).keep (uh HB)).fl i hc
                 obtain ⟨x8,x0,x1,x2,x3,x4,x5,x6,x7⟩:=cells9 hat
                 have hem:=List.mem_of_getElem? hev
                 have hns:=uh HNM _ hem
                 simp only at hns
                 have HSN:=hide (sum_snoc (fun p:ByteArray × JT=>p.1.size+cntV p.2) f i _ hev)
                 have CI:=hide (fun u (hu:Below wr.heap.size wr u)=>uh I2 _ hem (q+nm.size) (ar+1) _ u (by omega) (by omega) (hvr.keep hu))
                 simp only at CI HSN
                 generalize cntV e=ce at CI HSN
                 have hw0:Below wr.heap.size wr wr.drew:=⟨rfl,rfl,rfl,Nat.le_refl _,fun _ _=>rfl⟩
                 have HmkS:∀ u,Below wr.heap.size wr u→Below wr.heap.size wr u∧u.cell? ⟨w.heap.size,7,none⟩=some (.slice (some ad) f.length cb)∧u.cell? (ad.add (i*9))=some (.string nm)∧u.cell? ⟨(ad.add (i*9)).block,(ad.add (i*9)).off+1,none⟩=some q0∧u.cell? ⟨(ad.add (i*9)).block,(ad.add (i*9)).off+2,none⟩=some q1∧u.cell? ⟨(ad.add (i*9)).block,(ad.add (i*9)).off+3,none⟩=some q2∧u.cell? ⟨(ad.add (i*9)).block,(ad.add (i*9)).off+4,none⟩=some q3∧u.cell? ⟨(ad.add (i*9)).block,(ad.add (i*9)).off+5,none⟩=some q4∧u.cell? ⟨(ad.add (i*9)).block,(ad.add (i*9)).off+6,none⟩=some q5∧u.cell? ⟨(ad.add (i*9)).block,(ad.add (i*9)).off+7,none⟩=some q6∧u.cell? ⟨(ad.add (i*9)).block,(ad.add (i*9)).off+8,none⟩=some q7:=fun u hu=>⟨hu,kc hu y7,kc hu x8,kc hu x0,kc hu x1,kc hu x2,kc hu x3,kc hu x4,kc hu x5,kc hu x6,kc hu x7⟩
                 have wa:IntKind.i64.wrap ((q:Int)+(nm.size:Int))=((q+nm.size:Nat):Int):=by rw [IntKind.wrap_i64];omega
                 have wb:IntKind.i64.wrap ((ar:Int)+1)=((ar+1:Nat):Int):=by rw [IntKind.wrap_i64];omega
                 clear hat hvr hev hem
                 go_wp2_with fail
                 go_region_held3 (fun u=>Below wr.heap.size wr u∧u.cell? ⟨w.heap.size,7,none⟩=some (.slice (some ad) f.length cb)∧u.cell? (ad.add (i*9))=some (.string nm)∧u.cell? ⟨(ad.add (i*9)).block,(ad.add (i*9)).off+1,none⟩=some q0∧u.cell? ⟨(ad.add (i*9)).block,(ad.add (i*9)).off+2,none⟩=some q1∧u.cell? ⟨(ad.add (i*9)).block,(ad.add (i*9)).off+3,none⟩=some q2∧u.cell? ⟨(ad.add (i*9)).block,(ad.add (i*9)).off+4,none⟩=some q3∧u.cell? ⟨(ad.add (i*9)).block,(ad.add (i*9)).off+5,none⟩=some q4∧u.cell? ⟨(ad.add (i*9)).block,(ad.add (i*9)).off+6,none⟩=some q5∧u.cell? ⟨(ad.add (i*9)).block,(ad.add (i*9)).off+7,none⟩=some q6∧u.cell? ⟨(ad.add (i*9)).block,(ad.add (i*9)).off+8,none⟩=some q7) (with_reducible refine HmkS _ ?_;with_reducible first|assumption|exact Below.refl _ _) (first
                  | (go_at_call 31;refine (uh CI _ (by with_reducible assumption)).mono ?_;rintro e1 u5 ⟨r,rfl,hr1,hr2,b5⟩
                     have hB5:Below wr.heap.size wr u5:=hw0.trans (b5.mono (Nat.le_refl _))))
                 have HR1:=hide hr1
                 have HB5:=hide ((uh HB).trans (hB5.mono (uh HB).size))
                 clear HmkS hw0 b5 hB5 hr1 CI x0 x1 x2 x3 x4 x5 x6 x7 x8 y0 y1 y2 y3 y4 y5 y6 y7
                 go_wp2
                 refine ⟨⟨r,i+1,rfl,by go_num,by omega,hr2,fun q9=>?_,HB5⟩,by simp [intOf];omega⟩
                 have h5:=uh HR1 q9
                 have h6:=uh HQ (by omega)
                 rw [uh HSN]
                 omega
               · have hmz:¬ (q:Int)≤4194304:=by omega
                 go_wp2
                 go_ret
                 exact ⟨q,rfl,fun q9=>absurd q9 hm,hq2,(uh L2).trans ((uh HB).mono (uh L2).size)⟩
             · obtain rfl:i=f.length:=by omega
               have hno:¬ (f.length:Int) < (f.length:Int):=by omega
               rw [List.take_of_length_le (Nat.le_refl _)] at HQ
               go_wp2
               go_ret
               refine ⟨q,rfl,fun q9=>?_,hq2,(uh L2).trans ((uh HB).mono (uh L2).size)⟩
               have h6:=uh HQ q9
               have h7:=uh HCV
               have h8:=uh HB0
               omega
set_option maxHeartbeats 1600000 in
theorem heavy_any (v:JT) (hb:Bd v) (cs:List Value) (w:World) (h:VR w v cs):Calls Tryz.prog 9 #[.agg cs.toArray] w fun e w'=>∃ b:Bool,e=.returned (.bool b)∧(b=false→cntV v≤4194304)∧Below w.heap.size w w':=by
 obtain ⟨a0,a1,a2,a3,a4,a5,a6,a7,rfl⟩:=h.eight
 obtain ⟨x2,l2,_,z2⟩:=boxE w [a0,a1,a2,a3,a4,a5,a6,a7] _ w (Below.refl _ w) (Nat.le_refl _) _ rfl
 have CI:=hide (many_any _ v (Nat.lt_succ_self _) hb 0 0 _ _ (by omega) (by omega) (h.keep l2))
 have L2:=hide l2
 have Z2:=hide z2
 obtain ⟨y0,y1,y2,y3,y4,y5,y6,y7⟩:=x2.cells
 generalize cntV v=C at *
 clear h hb l2 x2 z2
 go_enter Tryz.func9,Tryz.ntmps9
 go_wp2_with (go_at_call 31;refine (uh CI).mono ?_;rintro e1 u2 ⟨r,rfl,hr1,hr2,b2⟩)
 go_ret
 refine ⟨_,rfl,fun q=>?_,(uh L2).trans (b2.mono (Nat.le_of_lt (uh Z2)))⟩
 have hq:¬ (4194304:Int) < (r:Int):=by simpa using q
 have:=hr1 (by omega)
 omega
structure Lit (v:JT):Prop where
 gd:Gd v
 pf:Pf (cntV v) (nrm v)
 bn:Bd (nrm v)
 cst:cst (nrm v)≤2000000000
 len:(prt (nrm v)).length≤2000000000
theorem lit_of {v:JT} (hb:Bd v) (hc:cntV v≤4194304):Lit v:=by
 obtain ⟨h1,h2⟩:=light_few _ v (Nat.lt_succ_self _) (by omega)
 have h3:=prt_le _ (nrm v) (Nat.lt_succ_self _)
 exact ⟨light_gd _ v (Nat.lt_succ_self _) hb (by omega),h1,pf_bd h1,by omega,by omega⟩
theorem lprint {v:JT} (hb:Bd v) (hl:Lit v) (cs:List Value) (w:World) (h:VR w v cs) (hP:Pow w) :
 Calls Tryz.prog 12 #[.agg cs.toArray] w fun e w'=>e=.returned (.string ⟨(prt (nrm v)).toArray⟩)∧Below w.heap.size w w' :=
 jprint_any v hb hl.gd hl.bn (by have:=hl.cst;omega) cs w h hP
theorem prt_iff {v w:JT} (hv:Lit v) (hw:Lit w):nrm v=nrm w↔prt (nrm v)=prt (nrm w) :=
 ⟨fun h=>by rw [h],fun h=>prt_inj hv.pf hw.pf h (by have:=hv.len;omega)⟩
theorem str_iff (a b:List UInt8):(⟨a.toArray⟩:ByteArray)=⟨b.toArray⟩↔a=b:=by
 constructor
 · intro h
   simpa using congrArg (fun x:ByteArray=>x.data.toList) h
 · rintro rfl;rfl
set_option maxHeartbeats 12800000 in
set_option maxRecDepth 1000000 in
theorem one_law (JS:SameC) (E:Nat→Value) (A:Nat→Addr) (hEA:E 0=.pointer (some (A 0))) (v v':JT) (bv:Bd v) (bv':Bd v') (c c':List Value) (w:World) (h:AE E A w) (hv:VR w v c) (hv':VR w v' c') :
 Calls Tryz.prog 7 #[.agg c.toArray,.agg c'.toArray] w fun e w'=>e=.returned (.bool true)∧Below w.heap.size w w':=by
 obtain ⟨a0,a1,a2,a3,a4,a5,a6,a7,a8,a9,aa,ab,rfl⟩:=hv.form
 obtain ⟨b0,b1,b2,b3,b4,b5,b6,b7,b8,b9,ba,bb,rfl⟩:=hv'.form
 have HJS:=hide JS
 clear JS
 have B2:=hide (box_two w [.int .i64 a0,.bool a1,.bool a2,.string a3,.int .i64 a4,.string a5,.slice a6 a7 a8,.slice a9 aa ab] [.int .i64 b0,.bool b1,.bool b2,.string b3,.int .i64 b4,.string b5,.slice b6 b7 b8,.slice b9 ba bb])
 have V1:=hide hv
 have V2:=hide hv'
 have CH1:=hide (fun u (hu:Below w.heap.size w u)=>heavy_any v bv _ u (hv.keep hu))
 have CH2:=hide (fun u (hu:Below w.heap.size w u)=>heavy_any v' bv' _ u (hv'.keep hu))
 have BV:=hide bv
 have BV':=hide bv'
 have HAE:=hide h
 have CA:=hide (fun u (hu:Below w.heap.size w u)=>jawake E A hEA u (h.keep hu))
 clear hv hv' h hEA bv bv'
 go_enter Tryz.func7,Tryz.ntmps7
 go_upto_region 1 with fail
 obtain ⟨q0,q1,q2⟩:=uh B2
 generalize (w.alloc (.cells [.int .i64 a0,.bool a1,.bool a2,.string a3,.int .i64 a4,.string a5,.slice a6 a7 a8,.slice a9 aa ab].toArray 27)).alloc (.cells [.int .i64 b0,.bool b1,.bool b2,.string b3,.int .i64 b4,.string b5,.slice b6 b7 b8,.slice b9 ba bb].toArray 27)=W at *
 obtain ⟨y0,y1,y2,y3,y4,y5,y6,y7⟩:=q0.cells
 obtain ⟨z0,z1,z2,z3,z4,z5,z6,z7⟩:=q1.cells
 have HB:=hide q2
 have X0:=hide q0
 have X1:=hide q1
 have CW1:=hide (uh CH1 W q2)
 clear q0 q1 q2 B2 CH1
 go_upto_region 2 with (go_at_call 9;refine (uh CW1).mono ?_;rintro e1 u1 ⟨h1,rfl,hh1,l1⟩
                        clear CW1)
 have HH1:=hide hh1
 have L1:=hide ((uh HB).trans (l1.mono (uh HB).size))
 have CW2:=hide (uh CH2 u1 (uh L1))
 have z:=((uh X1).keep l1 (blk_lt (uh X1))).cells
 obtain ⟨z0,z1,z2,z3,z4,z5,z6,z7⟩:=z
 have Y1:=hide l1
 clear l1 hh1 CH2 y0 y1 y2 y3 y4 y5 y6 y7
 go_upto_region 3 with (go_at_call 9;refine (uh CW2).mono ?_;rintro e2 u2 ⟨h2,rfl,hh2,l2⟩
                        clear CW2)
 have HH2:=hide hh2
 have Y2:=hide ((uh Y1).trans (l2.mono (uh Y1).size))
 have L2:=hide ((uh L1).trans (l2.mono (uh L1).size))
 clear l2 hh2 Y1 L1 z0 z1 z2 z3 z4 z5 z6 z7
 cases h1 with
 | true =>
   go_wp2
   go_ret
   exact ⟨rfl,uh L2⟩
 | false =>
   cases h2 with
   | true =>
     go_wp2
     go_ret
     exact ⟨rfl,uh L2⟩
   | false =>
     have l1:=lit_of (uh BV) (uh HH1 rfl)
     have l2:=lit_of (uh BV') (uh HH2 rfl)
     have CAw:=hide (uh CA u2 (uh L2))
     have PI:=hide (prt_iff l1 l2)
     have G1:=hide l1
     have G2:=hide l2
     clear l1 l2 HH1 HH2 CA
     go_upto_region 6 with (go_at_call 10;refine (uh CAw).mono ?_;rintro e3 u3 ⟨rfl,l3⟩
                            clear CAw)
     have L3:=hide ((uh L2).trans (l3.mono (uh L2).size))
     have Y3:=hide ((uh Y2).trans (l3.mono (uh Y2).size))
     obtain ⟨y0,y1,y2,y3,y4,y5,y6,y7⟩:=((uh X0).keep (uh Y3) (blk_lt (uh X0))).cells
     obtain ⟨z0,z1,z2,z3,z4,z5,z6,z7⟩:=((uh X1).keep (uh Y3) (blk_lt (uh X1))).cells
     have hw0:Below u3.heap.size u3 u3.drew:=⟨rfl,rfl,rfl,Nat.le_refl _,fun _ _=>rfl⟩
     obtain ⟨bz,hbz⟩:∃ bz:Bool,bz=true↔nrm v=nrm v':=⟨decide (prt (nrm v)=prt (nrm v')),by rw [decide_eq_true_iff];exact (uh PI).symm⟩
     have CS:=hide (fun u (hu:Below u3.heap.size u3 u)=>(uh HJS v v' (uh BV) (uh BV') (uh G1).gd (uh G2).gd _ _ u ((uh V1).keep ((uh L3).trans (hu.mono (uh L3).size))) ((uh V2).keep ((uh L3).trans (hu.mono (uh L3).size)))).mono (R':=fun e u'=>e=.returned (.bool bz)∧Below u3.heap.size u3 u') (fun e u' he=>by
      obtain ⟨b,rfl,hb,hl⟩:=he
      have:b=bz:=by cases b <;> cases bz <;> simp_all
      subst this
      exact ⟨rfl,hu.trans (hl.mono hu.size)⟩))
     have CP1:=hide (fun u (hu:Below u3.heap.size u3 u)=>(lprint (uh BV) (uh G1) _ u ((uh V1).keep ((uh L3).trans (hu.mono (uh L3).size))) ((uh HAE).keep ((uh L3).trans (hu.mono (uh L3).size))).pw).mono (R':=fun e u'=>e=.returned (.string ⟨(prt (nrm v)).toArray⟩)∧Below u3.heap.size u3 u') (fun e u' he=>⟨he.1,hu.trans (he.2.mono hu.size)⟩))
     have CP2:=hide (fun u (hu:Below u3.heap.size u3 u)=>(lprint (uh BV') (uh G2) _ u ((uh V2).keep ((uh L3).trans (hu.mono (uh L3).size))) ((uh HAE).keep ((uh L3).trans (hu.mono (uh L3).size))).pw).mono (R':=fun e u'=>e=.returned (.string ⟨(prt (nrm v')).toArray⟩)∧Below u3.heap.size u3 u') (fun e u' he=>⟨he.1,hu.trans (he.2.mono hu.size)⟩))
     have hs:=str_iff (prt (nrm v)) (prt (nrm v'))
     have hbs:bz=true↔(⟨(prt (nrm v)).toArray⟩:ByteArray)=⟨(prt (nrm v')).toArray⟩:=by rw [hbz,uh PI,hs]
     generalize (⟨(prt (nrm v)).toArray⟩:ByteArray)=s1 at *
     generalize (⟨(prt (nrm v')).toArray⟩:ByteArray)=s2 at *
     have Z0:=hide (show ∀ u,Below u3.heap.size u3 u→Below w.heap.size w u from fun u hu=>(uh L3).trans (hu.mono (uh L3).size))
     have HmkS:∀ u,Below u3.heap.size u3 u→Below u3.heap.size u3 u∧u.cell? ⟨w.heap.size,0,none⟩=some (.int .i64 a0)∧u.cell? ⟨w.heap.size,1,none⟩=some (.bool a1)∧u.cell? ⟨w.heap.size,2,none⟩=some (.bool a2)∧u.cell? ⟨w.heap.size,3,none⟩=some (.string a3)∧u.cell? ⟨w.heap.size,4,none⟩=some (.int .i64 a4)∧u.cell? ⟨w.heap.size,5,none⟩=some (.string a5)∧u.cell? ⟨w.heap.size,6,none⟩=some (.slice a6 a7 a8)∧u.cell? ⟨w.heap.size,7,none⟩=some (.slice a9 aa ab)∧u.cell? ⟨w.heap.size+1,0,none⟩=some (.int .i64 b0)∧u.cell? ⟨w.heap.size+1,1,none⟩=some (.bool b1)∧u.cell? ⟨w.heap.size+1,2,none⟩=some (.bool b2)∧u.cell? ⟨w.heap.size+1,3,none⟩=some (.string b3)∧u.cell? ⟨w.heap.size+1,4,none⟩=some (.int .i64 b4)∧u.cell? ⟨w.heap.size+1,5,none⟩=some (.string b5)∧u.cell? ⟨w.heap.size+1,6,none⟩=some (.slice b6 b7 b8)∧u.cell? ⟨w.heap.size+1,7,none⟩=some (.slice b9 ba bb):=fun u hu=>⟨hu,kc hu y0,kc hu y1,kc hu y2,kc hu y3,kc hu y4,kc hu y5,kc hu y6,kc hu y7,kc hu z0,kc hu z1,kc hu z2,kc hu z3,kc hu z4,kc hu z5,kc hu z6,kc hu z7⟩
     clear hs hbz PI G1 G2 HAE BV BV' V1 V2 L2 Y2 X0 X1 Y3 l3
     cases bz with
     | true =>
       obtain rfl:=hbs.1 rfl
       clear hbs y0 y1 y2 y3 y4 y5 y6 y7 z0 z1 z2 z3 z4 z5 z6 z7
       go_region_held3 (fun u=>Below u3.heap.size u3 u∧u.cell? ⟨w.heap.size,0,none⟩=some (.int .i64 a0)∧u.cell? ⟨w.heap.size,1,none⟩=some (.bool a1)∧u.cell? ⟨w.heap.size,2,none⟩=some (.bool a2)∧u.cell? ⟨w.heap.size,3,none⟩=some (.string a3)∧u.cell? ⟨w.heap.size,4,none⟩=some (.int .i64 a4)∧u.cell? ⟨w.heap.size,5,none⟩=some (.string a5)∧u.cell? ⟨w.heap.size,6,none⟩=some (.slice a6 a7 a8)∧u.cell? ⟨w.heap.size,7,none⟩=some (.slice a9 aa ab)∧u.cell? ⟨w.heap.size+1,0,none⟩=some (.int .i64 b0)∧u.cell? ⟨w.heap.size+1,1,none⟩=some (.bool b1)∧u.cell? ⟨w.heap.size+1,2,none⟩=some (.bool b2)∧u.cell? ⟨w.heap.size+1,3,none⟩=some (.string b3)∧u.cell? ⟨w.heap.size+1,4,none⟩=some (.int .i64 b4)∧u.cell? ⟨w.heap.size+1,5,none⟩=some (.string b5)∧u.cell? ⟨w.heap.size+1,6,none⟩=some (.slice b6 b7 b8)∧u.cell? ⟨w.heap.size+1,7,none⟩=some (.slice b9 ba bb)) (with_reducible refine HmkS _ ?_;with_reducible first|assumption|exact Below.refl _ _) (first
        | (go_at_call 26;with_reducible refine (uh CS _ (by with_reducible assumption)).mono ?_;rintro e5 u5 ⟨rfl,hb5⟩)
        | (go_at_call 12;with_reducible refine (uh CP2 _ (by with_reducible assumption)).mono ?_;rintro e7 u7 ⟨rfl,hb7⟩)
        | (go_at_call 12;with_reducible refine (uh CP1 _ (by with_reducible assumption)).mono ?_;rintro e6 u6 ⟨rfl,hb6⟩))
       all_goals go_wp2
       all_goals go_ret
       all_goals exact ⟨rfl,by first|exact uh Z0 _ hb5|exact uh Z0 _ hb6|exact uh Z0 _ hb7⟩
     | false =>
       have hne:¬ s1.toList=s2.toList:=fun q=>by have:=hbs.2 (ba_inj q);cases this
       clear hbs y0 y1 y2 y3 y4 y5 y6 y7 z0 z1 z2 z3 z4 z5 z6 z7
       go_region_held3 (fun u=>Below u3.heap.size u3 u∧u.cell? ⟨w.heap.size,0,none⟩=some (.int .i64 a0)∧u.cell? ⟨w.heap.size,1,none⟩=some (.bool a1)∧u.cell? ⟨w.heap.size,2,none⟩=some (.bool a2)∧u.cell? ⟨w.heap.size,3,none⟩=some (.string a3)∧u.cell? ⟨w.heap.size,4,none⟩=some (.int .i64 a4)∧u.cell? ⟨w.heap.size,5,none⟩=some (.string a5)∧u.cell? ⟨w.heap.size,6,none⟩=some (.slice a6 a7 a8)∧u.cell? ⟨w.heap.size,7,none⟩=some (.slice a9 aa ab)∧u.cell? ⟨w.heap.size+1,0,none⟩=some (.int .i64 b0)∧u.cell? ⟨w.heap.size+1,1,none⟩=some (.bool b1)∧u.cell? ⟨w.heap.size+1,2,none⟩=some (.bool b2)∧u.cell? ⟨w.heap.size+1,3,none⟩=some (.string b3)∧u.cell? ⟨w.heap.size+1,4,none⟩=some (.int .i64 b4)∧u.cell? ⟨w.heap.size+1,5,none⟩=some (.string b5)∧u.cell? ⟨w.heap.size+1,6,none⟩=some (.slice b6 b7 b8)∧u.cell? ⟨w.heap.size+1,7,none⟩=some (.slice b9 ba bb)) (with_reducible refine HmkS _ ?_;with_reducible first|assumption|exact Below.refl _ _) (first
        | (go_at_call 26;with_reducible refine (uh CS _ (by with_reducible assumption)).mono ?_;rintro e5 u5 ⟨rfl,hb5⟩)
        | (go_at_call 12;with_reducible refine (uh CP2 _ (by with_reducible assumption)).mono ?_;rintro e7 u7 ⟨rfl,hb7⟩)
        | (go_at_call 12;with_reducible refine (uh CP1 _ (by with_reducible assumption)).mono ?_;rintro e6 u6 ⟨rfl,hb6⟩))
       all_goals go_wp2
       all_goals go_ret
       all_goals exact ⟨by simp [hne],by first|exact uh Z0 _ hb5|exact uh Z0 _ hb6|exact uh Z0 _ hb7⟩
end Go.Proofs.YthakglomacijgaaGreatDoor.rd
