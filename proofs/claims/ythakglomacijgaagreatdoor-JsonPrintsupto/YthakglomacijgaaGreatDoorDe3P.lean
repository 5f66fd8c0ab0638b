/- Texts in one: De3 Lg2 Hv Prd Prd2 One Prl -/
import Derived.Test.YthakglomacijgaaGreatDoorFo3P
import Derived.Test.YthakglomacijgaaGreatDoorWlP
import Derived.Test.YthakglomacijgaaGreatDoorIiP
import Derived.Test.YthakglomacijgaaGreatDoorIeP
import Derived.Test.YthakglomacijgaaGreatDoorLgP
import Derived.Lib.ItoaLen
import Derived.Test.YthakglomacijgaaGreatDoorTxP
import Derived.Test.YthakglomacijgaaGreatDoorSqP
import Derived.Deep.RegionHeld3
import Derived.Deep.RegionLaw
import Derived.Test.YthakglomacijgaaGreatDoorShP
namespace Go.Proofs.YthakglomacijgaaGreatDoor.rd
open Go.RowKit
def dpL (l:List JT) (f:List (ByteArray × JT)):Nat:=((f.map Prod.snd).map dpt).foldl max ((l.map dpt).foldl max 0)
theorem itoaB_few (n:Int) (h0:-9999≤n) (h1:n≤9999):(itoaB n).size≤21:=by
 have e:(itoaB n).size=(Lib.itoa n).length:=by unfold itoaB;exact List.size_toArray
 rw [e]
 exact Lib.itoa_length_le n (by omega) (by omega)
theorem txt_few (n:Dn) (h:Whole1 n):(textOf n).size≤n.dg.size+30:=by
 have hx:-9999≤n.ex∧n.ex≤9999:=by
  rcases h with rfl|h
  · exact ⟨by decide,by decide⟩
  · exact ⟨h.e0,h.e1⟩
 have:=itoaB_few n.ex hx.1 hx.2
 have e1:(⟨#[45]⟩:ByteArray).size=1:=rfl
 have e2:(⟨#[101]⟩:ByteArray).size=1:=rfl
 unfold textOf
 split
 · have:(⟨#[48]⟩:ByteArray).size=1:=rfl
   omega
 · split
   · split
     · rw [ByteArray.size_append];omega
     · omega
   · split
     · rw [ByteArray.size_append,ByteArray.size_append,ByteArray.size_append];omega
     · rw [ByteArray.size_append,ByteArray.size_append];omega
theorem light_few (n:Nat):∀ v,SizeOf.sizeOf v < n→cntV v≤100000000→Pf (cntV v) (nrm v)∧cst (nrm v)+100≤400*cntV v:=by
 induction n with
 | zero=>intro v h;omega
 | succ n IH =>
   intro v hn hc
   cases v with
   | mk k t d x l f =>
     have e0:(⟨#[]⟩:ByteArray).size=0:=rfl
     have hlf:∀ v∈l,Pf (cntV v) (nrm v)∧cst (nrm v)+100≤400*cntV v:=fun v hv=>IH v (by have:=sz_l (k:=k) (t:=t) (d:=d) (x:=x) (f:=f) hv;omega) (by have:=cnt_l (k:=k) (t:=t) (d:=d) (x:=x) (f:=f) hv;omega)
     have hff:∀ p∈f,Pf (cntV p.2) (nrm p.2)∧cst (nrm p.2)+100≤400*cntV p.2:=fun p hp=>IH p.2 (by have:=sz_f (k:=k) (t:=t) (d:=d) (x:=x) (l:=l) hp;omega) (by have:=cnt_f (k:=k) (t:=t) (d:=d) (x:=x) (l:=l) hp;omega)
     have hcl:∀ v∈l,cntV v+1≤cntV (.mk k t d x l f):=fun v hv=>cnt_l hv
     have hcf:∀ p∈f,cntV p.2+p.1.size+1≤cntV (.mk k t d x l f):=fun p hp=>cnt_f hp
     have hmk:=cntV_mk k t d x l f
     generalize cntV (.mk k t d x l f)=C at *
     rw [nrm_mk]
     by_cases e1:k=1
     · rw [if_pos e1]
       refine ⟨.truth C t,?_⟩
       show cst (leaf 1 t zed ⟨#[]⟩)+100≤_
       rw [cst_leaf,txt_zed]
       omega
     rw [if_neg e1]
     by_cases e2:k=2
     · rw [if_pos e2]
       obtain ⟨w1,w2⟩:=norm_ok d
       refine ⟨.num C w1 (by omega),?_⟩
       show cst (leaf 2 false (norm d) ⟨#[]⟩)+100≤_
       have:=txt_few _ w1
       rw [cst_leaf,wh.whole_id w1]
       omega
     rw [if_neg e2]
     by_cases e3:k=3
     · rw [if_pos e3]
       obtain ⟨w1,w2⟩:=clean_ltc x
       refine ⟨.text C w1 (by omega),?_⟩
       show cst (leaf 3 false zed (pt.clean x))+100≤_
       rw [cst_leaf,txt_zed]
       omega
     rw [if_neg e3]
     by_cases e4:k=4
     · rw [if_pos e4]
       refine ⟨?_,?_⟩
       · obtain ⟨C,rfl⟩:∃ q,C=q+1:=⟨C - 1,by omega⟩
         refine .list (fun v hv=>?_) (by rw [List.length_map];omega)
         obtain ⟨u,hu,rfl⟩:=List.mem_map.1 hv
         exact pf_mono (hlf u hu).1 C (by have:=hcl u hu;omega)
       · rw [cst_mk,txt_zed]
         simp only [List.map_nil,List.sum_nil,List.length_nil,List.length_map,List.map_map]
         have h1:(l.map (cst ∘ nrm)).sum≤(l.map fun v=>400*cntV v).sum:=sum_le fun v hv=>by have:=(hlf v hv).2;simp only [Function.comp_def];omega
         rw [sum_mul] at h1
         omega
     rw [if_neg e4]
     by_cases e5:k=5
     · rw [if_pos e5]
       obtain ⟨p1,p2⟩:=ss.puts_fst (f.map fun p=>(pt.clean p.1,nrm p.2))
       have hmem:∀ p∈jn.puts (f.map fun p=>(pt.clean p.1,nrm p.2)),∃ q∈f,p=(pt.clean q.1,nrm q.2):=fun p hp=>by
        obtain ⟨q,hq,e⟩:=List.mem_map.1 (mem_puts _ p hp)
        exact ⟨q,hq,e.symm⟩
       obtain ⟨s1,s2⟩:=puts_sum (fun p:ByteArray × JT=>cst p.2+6*p.1.size+30) (f.map fun p=>(pt.clean p.1,nrm p.2))
       rw [List.length_map] at s2
       refine ⟨?_,?_⟩
       · obtain ⟨C,rfl⟩:∃ q,C=q+1:=⟨C - 1,by omega⟩
         refine .obj (fun p hp=>?_) p2 (fun p hp=>?_) (by omega)
         · obtain ⟨q,hq,rfl⟩:=hmem p hp
           obtain ⟨w1,w2⟩:=clean_ltc q.1
           exact ⟨w1,by have:=hcf q hq;simp only;omega⟩
         · obtain ⟨q,hq,rfl⟩:=hmem p hp
           exact pf_mono (hff q hq).1 C (by have:=hcf q hq;omega)
       · rw [cst_mk,txt_zed]
         simp only [List.map_nil,List.sum_nil,List.length_nil]
         rw [List.map_map] at s1
         have h1:(f.map ((fun p:ByteArray × JT=>cst p.2+6*p.1.size+30) ∘ fun p=>(pt.clean p.1,nrm p.2))).sum≤(f.map fun p=>400*(p.1.size+cntV p.2)).sum:=sum_le fun p hp=>by
          have h3:=(hff p hp).2
          have h4:=(clean_ltc p.1).2
          simp only [Function.comp_def]
          omega
         rw [sum_mul] at h1
         omega
     rw [if_neg e5]
     refine ⟨.null C,?_⟩
     show cst (leaf 0 false zed ⟨#[]⟩)+100≤_
     rw [cst_leaf,txt_zed]
     omega
theorem sum_snoc {α:Type} (g:α→Nat) (l:List α) (i:Nat) (v:α) (h:l[i]?=some v):((l.take (i+1)).map g).sum=((l.take i).map g).sum+g v:=by
 rw [take_succ' h,List.map_append,List.sum_append_nat]
 simp
def MP (n c:Nat) (w:World) (e:Ending) (w':World):Prop:=∃ r:Nat,e=.returned (.int .i64 (r:Int))∧(r≤4194304→r=n+c)∧r≤100000000000000∧Below w.heap.size w w'
set_option maxRecDepth 1000000 in
set_option maxHeartbeats 6400000 in
theorem many_any (N:Nat):∀ (v:JT),SizeOf.sizeOf v < N→Bd v→∀ (n ar:Nat) (cs:List Value) (w:World),n≤36000000000000→ar≤65537→VR w v cs→Calls Tryz.prog 31 #[.agg cs.toArray,.int .i64 (n:Int),.int .i64 (ar:Int)] w (MP n (cntV v) w):=by
 induction N with
 | zero=>intro v h;omega
 | succ N IH =>
   intro v hN hbd n ar cs w hn har h
   cases v with
   | mk k t d x l f =>
     obtain ⟨oa,ca,ob,cb,rfl⟩:=h.parts
     obtain ⟨dn,dg,dx⟩:=d
     cases hbd with
     | mk hk h0 h1 h2 h3 h4 hl hnm hf =>
       obtain ⟨x2,l2,_,z2⟩:=boxE w [.int .i64 k,.bool t,.bool dn,.string dg,.int .i64 dx,.string x,.slice oa l.length ca,.slice ob f.length cb] _ w (Below.refl _ w) (Nat.le_refl _) _ rfl
       have hcv:=cntV_mk k t ⟨dn,dg,dx⟩ x l f
       have I1:=hide (fun v (hv:v∈l) (n ar:Nat) (cs:List Value) (w:World)=>IH v (by have:=sz_l (k:=k) (t:=t) (d:=⟨dn,dg,dx⟩) (x:=x) (f:=f) hv;omega) (hl v hv) n ar cs w)
       have I2:=hide (fun p (hp:p∈f) (n ar:Nat) (cs:List Value) (w:World)=>IH p.2 (by have:=sz_f (k:=k) (t:=t) (d:=⟨dn,dg,dx⟩) (x:=x) (l:=l) hp;omega) (hf p hp) n ar cs w)
       generalize cntV (JT.mk k t ⟨dn,dg,dx⟩ x l f)=C at *
       have HCV:=hide hcv
       have HNM:=hide hnm
       have HV:=hide h
       clear h hcv hnm hl hf IH hN
       by_cases ha:65536 < ar
       · have haz:(65536:Int) < (ar:Int):=by omega
         clear I1 I2 x2 z2 HCV HNM HV h0 h1 h2 h3 h4 hk
         go_enter Tryz.func31,Tryz.ntmps31
         go_wp2
         go_ret
         exact ⟨4194305,rfl,fun q=>by omega,by omega,l2⟩
       · have haz:¬ (65536:Int) < (ar:Int):=by omega
         obtain ⟨y0,y1,y2,y3,y4,y5,y6,y7⟩:=x2.cells
         have V2:=hide ((uh HV).keep l2)
         have X2:=hide x2
         have Z2:=hide z2
         have L2:=hide l2
         clear x2 z2 l2 HV
         obtain ⟨b0,hb0⟩:∃ b0,b0=n+1+x.size+dg.size+l.length+f.length:=⟨_,rfl⟩
         have HB0:=hide hb0
         have hbz:(b0:Int)=(n:Int)+1+(x.size:Int)+(dg.size:Int)+(l.length:Int)+(f.length:Int):=by omega
         have h0':dg.size≤1099511627776:=h0
         have hbb:b0≤80000000000000:=by omega
         have HBZ:=hide hbz
         clear hb0 hbz
         go_enter Tryz.func31,Tryz.ntmps31
         go_upto_region 4 with fail
         clear y0 y1 y2 y3 y4 y5 y6 y7
         generalize w.alloc (.cells [.int .i64 k,.bool t,.bool dn,.string dg,.int .i64 dx,.string x,.slice oa l.length ca,.slice ob f.length cb].toArray 27)=W2 at *
         go_wp2
         go_loopw [1,7] (fun mv iv wr=>∃ (m i:Nat),mv=.int .i64 (m:Int)∧iv=.int .i64 (i:Int)∧i≤l.length∧m≤100000000000000∧Hid (m≤4194304→m=b0+((l.take i).map cntV).sum)∧Hid (Below W2.heap.size W2 wr)) (fun _ iv _=>l.length - (intOf iv).toNat)
         case atStart=>exact ⟨b0,0,by rw [uh HBZ],rfl,Nat.zero_le _,by omega,fun _=>by simp,Below.refl _ _⟩
         case round =>
          obtain ⟨m,i,rfl,rfl,hi,hm2,HM,HB⟩:=hrel
          obtain ⟨y0,y1,y2,y3,y4,y5,y6,y7⟩:=((uh X2).keep (uh HB) (uh Z2)).cells
          by_cases hc:i < l.length
          · have hi1:(i:Int) < (l.length:Int):=by omega
            by_cases hm:m≤4194304
            · have hmz:(m:Int)≤4194304:=by omega
              obtain ⟨ad,e,q0,q1,q2,q3,q4,q5,q6,q7,rfl,hev,hvr,hat⟩:=((uh V2).keep (uh HB)).el i hc
              obtain ⟨x0,x1,x2,x3,x4,x5,x6,x7⟩:=cells8 hat
              have hem:=List.mem_of_getElem? hev
              have CI:=hide (uh I1 e hem m (ar+1) _ wr (by omega) (by omega) hvr)
              have HSN:=hide (sum_snoc cntV l i e hev)
              generalize cntV e=ce at CI HSN
              clear hat hvr hev hem
              go_wp2_with (go_at_call 31;refine (uh CI).mono ?_;rintro e1 u2 ⟨r,rfl,hr1,hr2,b2⟩)
              have HB2:=hide ((uh HB).trans (b2.mono (uh HB).size))
              refine ⟨⟨r,i+1,rfl,by go_num,by omega,hr2,fun q9=>?_,HB2⟩,by simp [intOf];omega⟩
              have h5:=hr1 q9
              have h6:=uh HM (by omega)
              rw [uh HSN]
              omega
            · have hmz:¬ (m:Int)≤4194304:=by omega
              have E1:=hide (show m≤4194304→m=b0+(l.map cntV).sum from fun q9=>absurd q9 hm)
              have hmb:=hm2
              have HB1:=HB
              clear HM HB hm2 I1
              go_upto_region 8 with fail
              clear y0 y1 y2 y3 y4 y5 y6 y7
              go_wp2
              go_loopw [1,8] (fun mv iv wr'=>∃ (q i:Nat),mv=.int .i64 (q:Int)∧iv=.int .i64 (i:Int)∧i≤f.length∧q≤100000000000000∧Hid (q≤4194304→q=b0+(l.map cntV).sum+((f.take i).map fun p=>p.1.size+cntV p.2).sum)∧Hid (Below W2.heap.size W2 wr')) (fun _ iv _=>f.length - (intOf iv).toNat)
              case atStart=>exact ⟨m,0,rfl,rfl,Nat.zero_le _,hmb,fun q=>by simpa using uh E1 q,HB1⟩
              case round =>
               obtain ⟨q,i,rfl,rfl,hi,hq2,HQ,HB⟩:=hrel
               obtain ⟨y0,y1,y2,y3,y4,y5,y6,y7⟩:=((uh X2).keep (uh HB) (uh Z2)).cells
               clear E1 HB1
               by_cases hc:i < f.length
               · have hi1:(i:Int) < (f.length:Int):=by omega
                 by_cases hm:q≤4194304
                 · have hmz:(q:Int)≤4194304:=by omega
                   obtain ⟨ad,nm,e,q0,q1,q2,q3,q4,q5,q6,q7,rfl,hev,hvr,hat⟩:=((uh V2).keep (uh HB)).fl i hc
                   obtain ⟨x8,x0,x1,x2,x3,x4,x5,x6,x7⟩:=cells9 hat
                   have hem:=List.mem_of_getElem? hev
                   have hns:=uh HNM _ hem
                   simp only at hns
                   have HSN:=hide (sum_snoc (fun p:ByteArray × JT=>p.1.size+cntV p.2) f i _ hev)
                   have CI:=hide (fun u (hu:Below wr.heap.size wr u)=>uh I2 _ hem (q+nm.size) (ar+1) _ u (by omega) (by omega) (hvr.keep hu))
                   simp only at CI HSN
                   generalize cntV e=ce at CI HSN
                   have hw0:Below wr.heap.size wr wr.drew:=⟨rfl,rfl,rfl,Nat.le_refl _,fun _ _=>rfl⟩
                   have HmkS:∀ u,Below wr.heap.size wr u→Below wr.heap.size wr u∧u.cell? ⟨w.heap.size,7,none⟩=some (.slice (some ad) f.length cb)∧u.cell? (ad.add (i*9))=some (.string nm)∧u.cell? ⟨(ad.add (i*9)).block,(ad.add (i*9)).off+1,none⟩=some q0∧u.cell? ⟨(ad.add (i*9)).block,(ad.add (i*9)).off+2,none⟩=some q1∧u.cell? ⟨(ad.add (i*9)).block,(ad.add (i*9)).off+3,none⟩=some q2∧u.cell? ⟨(ad.add (i*9)).block,(ad.add (i*9)).off+4,none⟩=some q3∧u.cell? ⟨(ad.add (i*9)).block,(ad.add (i*9)).off+5,none⟩=some q4∧u.cell? ⟨(ad.add (i*9)).block,(ad.add (i*9)).off+6,none⟩=some q5∧u.cell? ⟨(ad.add (i*9)).block,(ad.add (i*9)).off+7,none⟩=some q6∧u.cell? ⟨(ad.add (i*9)).block,(ad.add (i*9)).off+8,none⟩=some q7:=fun u hu=>⟨hu,kc hu y7,kc hu x8,kc hu x0,kc hu x1,kc hu x2,kc hu x3,kc hu x4,kc hu x5,kc hu x6,kc hu x7⟩
                   have wa:IntKind.i64.wrap ((q:Int)+(nm.size:Int))=((q+nm.size:Nat):Int):=by rw [IntKind.wrap_i64];omega
                   have wb:IntKind.i64.wrap ((ar:Int)+1)=((ar+1:Nat):Int):=by rw [IntKind.wrap_i64];omega
                   clear hat hvr hev hem
                   go_wp2_with fail
                   go_region_held3 (fun u=>Below wr.heap.size wr u∧u.cell? ⟨w.heap.size,7,none⟩=some (.slice (some ad) f.length cb)∧u.cell? (ad.add (i*9))=some (.string nm)∧u.cell? ⟨(ad.add (i*9)).block,(ad.add (i*9)).off+1,none⟩=some q0∧u.cell? ⟨(ad.add (i*9)).block,(ad.add (i*9)).off+2,none⟩=some q1∧u.cell? ⟨(ad.add (i*9)).block,(ad.add (i*9)).off+3,none⟩=some q2∧u.cell? ⟨(ad.add (i*9)).block,(ad.add (i*9)).off+4,none⟩=some q3∧u.cell? ⟨(ad.add (i*9)).block,(ad.add (i*9)).off+5,none⟩=some q4∧u.cell? ⟨(ad.add (i*9)).block,(ad.add (i*9)).off+6,none⟩=some q5∧u.cell? ⟨(ad.add (i*9)).block,(ad.add (i*9)).off+7,none⟩=some q6∧u.cell? ⟨(ad.add (i*9)).block,(ad.add (i*9)).off+8,none⟩=some q7) (with_reducible refine HmkS _ ?_;with_reducible first|assumption|exact Below.refl _ _) (first
                    | (go_at_call 31;refine (uh CI _ (by with_reducible assumption)).mono ?_;rintro e1 u5 ⟨r,rfl,hr1,hr2,b5⟩
                       have hB5:Below wr.heap.size wr u5:=hw0.trans (b5.mono (Nat.le_refl _))))
                   have HR1:=hide hr1
                   have HB5:=hide ((uh HB).trans (hB5.mono (uh HB).size))
                   clear HmkS hw0 b5 hB5 hr1 CI x0 x1 x2 x3 x4 x5 x6 x7 x8 y0 y1 y2 y3 y4 y5 y6 y7
                   go_wp2
                   refine ⟨⟨r,i+1,rfl,by go_num,by omega,hr2,fun q9=>?_,HB5⟩,by simp [intOf];omega⟩
                   have h5:=uh HR1 q9
                   have h6:=uh HQ (by omega)
                   rw [uh HSN]
                   omega
                 · have hmz:¬ (q:Int)≤4194304:=by omega
                   go_wp2
                   go_ret
                   exact ⟨q,rfl,fun q9=>absurd q9 hm,hq2,(uh L2).trans ((uh HB).mono (uh L2).size)⟩
               · obtain rfl:i=f.length:=by omega
                 have hno:¬ (f.length:Int) < (f.length:Int):=by omega
                 rw [List.take_of_length_le (Nat.le_refl _)] at HQ
                 go_wp2
                 go_ret
                 refine ⟨q,rfl,fun q9=>?_,hq2,(uh L2).trans ((uh HB).mono (uh L2).size)⟩
                 have h6:=uh HQ q9
                 have h7:=uh HCV
                 have h8:=uh HB0
                 omega
          · obtain rfl:i=l.length:=by omega
            have hno:¬ (l.length:Int) < (l.length:Int):=by omega
            rw [List.take_of_length_le (Nat.le_refl _)] at HM
            have E1:=hide (show m≤4194304→m=b0+(l.map cntV).sum from uh HM)
            have hmb:=hm2
            have HB1:=HB
            clear HM HB hm2 I1
            go_upto_region 8 with fail
            clear y0 y1 y2 y3 y4 y5 y6 y7
            go_wp2
            go_loopw [1,8] (fun mv iv wr'=>∃ (q i:Nat),mv=.int .i64 (q:Int)∧iv=.int .i64 (i:Int)∧i≤f.length∧q≤100000000000000∧Hid (q≤4194304→q=b0+(l.map cntV).sum+((f.take i).map fun p=>p.1.size+cntV p.2).sum)∧Hid (Below W2.heap.size W2 wr')) (fun _ iv _=>f.length - (intOf iv).toNat)
            case atStart=>exact ⟨m,0,rfl,rfl,Nat.zero_le _,hmb,fun q=>by simpa using uh E1 q,HB1⟩
            case round =>
             obtain ⟨q,i,rfl,rfl,hi,hq2,HQ,HB⟩:=hrel
             obtain ⟨y0,y1,y2,y3,y4,y5,y6,y7⟩:=((uh X2).keep (uh HB) (uh Z2)).cells
             clear E1 HB1
             by_cases hc:i < f.length
             · have hi1:(i:Int) < (f.length:Int):=by omega
               by_cases hm:q≤4194304
               · have hmz:(q:Int)≤4194304:=by omega
                 obtain ⟨ad,nm,e,q0,q1,q2,q3,q4,q5,q6,q7,rfl,hev,hvr,hat⟩:=((uh V2).keep (uh HB)).fl i hc
                 obtain ⟨x8,x0,x1,x2,x3,x4,x5,x6,x7⟩:=cells9 hat
                 have hem:=List.mem_of_getElem? hev
                 have hns:=uh HNM _ hem
                 simp only at hns
                 have HSN:=hide (sum_snoc (fun p:ByteArray × JT=>p.1.size+cntV p.2) f i _ hev)
                 have CI:=hide (fun u (hu:Below wr.heap.size wr u)=>uh I2 _ hem (q+nm.size) (ar+1) _ u (by omega) (by omega) (hvr.keep hu))
                 simp only at CI HSN
                 generalize cntV e=ce at CI HSN
                 have hw0:Below wr.heap.size wr wr.drew:=⟨rfl,rfl,rfl,Nat.le_refl _,fun _ _=>rfl⟩
                 have HmkS:∀ u,Below wr.heap.size wr u→Below wr.heap.size wr u∧u.cell? ⟨w.heap.size,7,none⟩=some (.slice (some ad) f.length cb)∧u.cell? (ad.add (i*9))=some (.string nm)∧u.cell? ⟨(ad.add (i*9)).block,(ad.add (i*9)).off+1,none⟩=some q0∧u.cell? ⟨(ad.add (i*9)).block,(ad.add (i*9)).off+2,none⟩=some q1∧u.cell? ⟨(ad.add (i*9)).block,(ad.add (i*9)).off+3,none⟩=some q2∧u.cell? ⟨(ad.add (i*9)).block,(ad.add (i*9)).off+4,none⟩=some q3∧u.cell? ⟨(ad.add (i*9)).block,(ad.add (i*9)).off+5,none⟩=some q4∧u.cell? ⟨(ad.add (i*9)).block,(ad.add (i*9)).off+6,none⟩=some q5∧u.cell? ⟨(ad.add (i*9)).block,(ad.add (i*9)).off+7,none⟩=some q6∧u.cell? ⟨(ad.add (i*9)).block,(ad.add (i*9)).off+8,none⟩=some q7:=fun u hu=>⟨hu,kc hu y7,kc hu x8,kc hu x0,kc hu x1,kc hu x2,kc hu x3,kc hu x4,kc hu x5,kc hu x6,kc hu x7⟩
                 have wa:IntKind.i64.wrap ((q:Int)+(nm.size:Int))=((q+nm.size:Nat):Int):=by rw [IntKind.wrap_i64];omega
                 have wb:IntKind.i64.wrap ((ar:Int)+1)=((ar+1:Nat):Int):=by rw [IntKind.wrap_i64];omega
                 clear hat hvr hev hem
                 go_wp2_with fail
                 go_region_held3 (fun u=>Below wr.heap.size wr u∧u.cell? ⟨w.heap.size,7,none⟩=some (.slice (some ad) f.length cb)∧u.cell? (ad.add (i*9))=some (.string nm)∧u.cell? ⟨(ad.add (i*9)).block,(ad.add (i*9)).off+1,none⟩=some q0∧u.cell? ⟨(ad.add (i*9)).block,(ad.add (i*9)).off+2,none⟩=some q1∧u.cell? ⟨(ad.add (i*9)).block,(ad.add (i*9)).off+3,none⟩=some q2∧u.cell? ⟨(ad.add (i*9)).block,(ad.add (i*9)).off+4,none⟩=some q3∧u.cell? ⟨(ad.add (i*9)).block,(ad.add (i*9)).off+5,none⟩=some q4∧u.cell? ⟨(ad.add (i*9)).block,(ad.add (i*9)).off+6,none⟩=some q5∧u.cell? ⟨(ad.add (i*9)).block,(ad.add (i*9)).off+7,none⟩=some q6∧u.cell? ⟨(ad.add (i*9)).block,(ad.add (i*9)).off+8,none⟩=some q7) (with_reducible refine HmkS _ ?_;with_reducible first|assumption|exact Below.refl _ _) (first
                  | (go_at_call 31;refine (uh CI _ (by with_reducible assumption)).mono ?_;rintro e1 u5 ⟨r,rfl,hr1,hr2,b5⟩
                     have hB5:Below wr.heap.size wr u5:=hw0.trans (b5.mono (Nat.le_refl _))))
                 have HR1:=hide hr1
                 have HB5:=hide ((uh HB).trans (hB5.mono (uh HB).size))
                 clear HmkS hw0 b5 hB5 hr1 CI x0 x1 x2 x3 x4 x5 x6 x7 x8 y0 y1 y2 y3 y4 y5 y6 y7
                 go_wp2
                 refine ⟨⟨r,i+1,rfl,by go_num,by omega,hr2,fun q9=>?_,HB5⟩,by simp [intOf];omega⟩
                 have h5:=uh HR1 q9
                 have h6:=uh HQ (by omega)
                 rw [uh HSN]
                 omega
               · have hmz:¬ (q:Int)≤4194304:=by omega
                 go_wp2
                 go_ret
                 exact ⟨q,rfl,fun q9=>absurd q9 hm,hq2,(uh L2).trans ((uh HB).mono (uh L2).size)⟩
             · obtain rfl:i=f.length:=by omega
               have hno:¬ (f.length:Int) < (f.length:Int):=by omega
               rw [List.take_of_length_le (Nat.le_refl _)] at HQ
               go_wp2
               go_ret
               refine ⟨q,rfl,fun q9=>?_,hq2,(uh L2).trans ((uh HB).mono (uh L2).size)⟩
               have h6:=uh HQ q9
               have h7:=uh HCV
               have h8:=uh HB0
               omega
set_option maxHeartbeats 1600000 in
theorem heavy_any (v:JT) (hb:Bd v) (cs:List Value) (w:World) (h:VR w v cs):Calls Tryz.prog 9 #[.agg cs.toArray] w fun e w'=>∃ b:Bool,e=.returned (.bool b)∧(b=false→cntV v≤4194304)∧Below w.heap.size w w':=by
 obtain ⟨a0,a1,a2,a3,a4,a5,a6,a7,rfl⟩:=h.eight
 obtain ⟨x2,l2,_,z2⟩:=boxE w [a0,a1,a2,a3,a4,a5,a6,a7] _ w (Below.refl _ w) (Nat.le_refl _) _ rfl
 have CI:=hide (many_any _ v (Nat.lt_succ_self _) hb 0 0 _ _ (by omega) (by omega) (h.keep l2))
 have L2:=hide l2
 have Z2:=hide z2
 obtain ⟨y0,y1,y2,y3,y4,y5,y6,y7⟩:=x2.cells
 generalize cntV v=C at *
 clear h hb l2 x2 z2
 go_enter Tryz.func9,Tryz.ntmps9
 go_wp2_with (go_at_call 31;refine (uh CI).mono ?_;rintro e1 u2 ⟨r,rfl,hr1,hr2,b2⟩)
 go_ret
 refine ⟨_,rfl,fun q=>?_,(uh L2).trans (b2.mono (Nat.le_of_lt (uh Z2)))⟩
 have hq:¬ (4194304:Int) < (r:Int):=by simpa using q
 have:=hr1 (by omega)
 omega
theorem comma_pre:∀ (l:List (List UInt8)) (i:Nat),∃ r,comma l=comma (l.take i)++r
 | [],i=>⟨[],by simp [comma]⟩
 | x::l,0=>⟨comma (x::l),by simp [comma]⟩
 | x::l,i+1=>⟨((l.drop i).map fun y=>44::y).flatten,by
   rw [List.take_succ_cons]
   simp only [comma]
   rw [List.append_assoc,← List.flatten_append,← List.map_append,List.take_append_drop]⟩
theorem comma_next {l:List (List UInt8)}{i:Nat}{x:List UInt8} (h:l[i]?=some x):comma (l.take (i+1))=comma (l.take i)++(if i=0 then x else 44::x):=by
 rw [take_succ' h]
 by_cases h0:i=0
 · subst h0
   simp [comma]
 · rw [if_neg h0,comma_snoc]
   intro q
   have:(l.take i).length=0:=by rw [q];rfl
   rw [List.length_take] at this
   obtain ⟨hl,_⟩:=List.getElem?_eq_some_iff.1 h
   omega
theorem comma_fit {l:List (List UInt8)}{i:Nat}{x:List UInt8} (h:l[i]?=some x):(comma (l.take i)).length+1+x.length≤(comma l).length+1:=by
 obtain ⟨r,hr⟩:=comma_pre l (i+1)
 rw [comma_next h] at hr
 rw [hr]
 split <;> simp <;> omega
def PRP (w0 u:World) (sv:Value) (ys:List UInt8) (e:Ending) (u':World):Prop:=∃ sv',e=.returned sv'∧OB u' w0.heap.size sv' ys∧Ext u u' sv sv'
def PRC (w0:World) (v:JT):Prop:=∀ (cs:List Value) (u:World) (sv:Value) (xs:List UInt8),VR w0 v cs→Below w0.heap.size w0 u→OB u w0.heap.size sv xs→xs.length+(prt v).length≤100000000000000 →
 Calls Tryz.prog 45 #[sv,.agg cs.toArray] u (PRP w0 u sv (xs++prt v))
theorem OB.apart {u:World}{B:Nat}{sv:Value}{xs:List UInt8} (h:OB u B sv xs) {m:Nat} (hm:u.heap.size≤m):sv.ownBlock≠some m:=fun q=>by
 have:=(mm.row_lt h m q).2
 omega
structure PB (w0 u W:World) (sv:Value) (xs:List UInt8) (cs:List Value):Prop where
 box:BX W u.heap.size cs
 low:Below u.heap.size u W
 base:Below w0.heap.size w0 W
 row:OB W w0.heap.size sv xs
 far:sv.ownBlock≠some u.heap.size
 size:u.heap.size < W.heap.size
theorem PB.of {w0 u:World}{sv:Value}{xs:List UInt8} (cs:List Value) (hb:Below w0.heap.size w0 u) (ho:OB u w0.heap.size sv xs):∀ W,W=u.alloc (.cells cs.toArray 27)→PB w0 u W sv xs cs:=by
 intro W hW
 obtain ⟨h1,h2,h3,h4⟩:=boxE u cs _ _ hb hb.size W hW
 exact ⟨h1,h2,h3,ho.keep h2,ho.apart (Nat.le_refl _),h4⟩
theorem PB.le {w0 u W:World}{sv:Value}{xs:List UInt8}{cs:List Value} (h:PB w0 u W sv xs cs):w0.heap.size≤W.heap.size:=h.base.size
set_option maxHeartbeats 3200000 in
set_option maxRecDepth 1000000 in
theorem rpr_null (w0:World):PRC w0 (leaf 0 false zed ⟨#[]⟩):=by
 intro cs u sv xs h hb ho hl
 obtain ⟨oa,ca,ob,cb,rfl⟩:=VR.parts h
 have hp:prt (leaf 0 false zed ⟨#[]⟩)=[110,117,108,108]:=by rw [prt_leaf];rfl
 rw [hp] at hl ⊢
 have P:=hide (PB.of [.int .i64 0,.bool false,.bool zed.neg,.string zed.dg,.int .i64 zed.ex,.string ⟨#[]⟩,.slice oa ([]:List JT).length ca,.slice ob ([]:List (ByteArray × JT)).length cb] hb ho)
 have HL:Hid (xs.length+(⟨#[110,117,108,108]⟩:ByteArray).size≤140000000000000):=by show _+4≤_;simp only [List.length_cons,List.length_nil] at hl;omega
 clear h hb ho hp hl
 go_enter Tryz.func45,Tryz.ntmps45
 go_upto_region 1 with fail
 have PW:=hide (uh P _ rfl)
 generalize u.alloc _=W at *
 obtain ⟨y0,y1,y2,y3,y4,y5,y6,y7⟩:=(uh PW).box.cells
 have HO:=hide (uh PW).row
 have HB:=hide (uh PW).le
 go_wp2_with (at_builtin;refine wpl_apS ⟨#[110,117,108,108]⟩ W w0.heap.size sv xs rfl _ _ rfl rfl rfl HO HB HL ?_)
 intro v' w1 HO1 _ HX
 go_wp2
 go_ret
 exact ⟨v',rfl,uh HO1,Ext.of_below (uh PW).low (uh HX)⟩
set_option maxHeartbeats 3200000 in
set_option maxRecDepth 1000000 in
theorem rpr_truth (w0:World) (b:Bool):PRC w0 (leaf 1 b zed ⟨#[]⟩):=by
 intro cs u sv xs h hb ho hl
 obtain ⟨oa,ca,ob,cb,rfl⟩:=VR.parts h
 have P:=hide (PB.of [.int .i64 1,.bool b,.bool zed.neg,.string zed.dg,.int .i64 zed.ex,.string ⟨#[]⟩,.slice oa ([]:List JT).length ca,.slice ob ([]:List (ByteArray × JT)).length cb] hb ho)
 cases b with
 | true =>
   have hp:prt (leaf 1 true zed ⟨#[]⟩)=[116,114,117,101]:=by rw [prt_leaf];rfl
   rw [hp] at hl ⊢
   have HL:Hid (xs.length+(⟨#[116,114,117,101]⟩:ByteArray).size≤140000000000000):=by show _+4≤_;simp only [List.length_cons,List.length_nil] at hl;omega
   clear h hb ho hp hl
   go_enter Tryz.func45,Tryz.ntmps45
   go_upto_region 1 with fail
   have PW:=hide (uh P _ rfl)
   generalize u.alloc _=W at *
   obtain ⟨y0,y1,y2,y3,y4,y5,y6,y7⟩:=(uh PW).box.cells
   have HO:=hide (uh PW).row
   have HB:=hide (uh PW).le
   go_wp2_with (at_builtin;refine wpl_apS ⟨#[116,114,117,101]⟩ W w0.heap.size sv xs rfl _ _ rfl rfl rfl HO HB HL ?_)
   intro v' w1 HO1 _ HX
   go_wp2
   go_ret
   exact ⟨v',rfl,uh HO1,Ext.of_below (uh PW).low (uh HX)⟩
 | false =>
   have hp:prt (leaf 1 false zed ⟨#[]⟩)=[102,97,108,115,101]:=by rw [prt_leaf];rfl
   rw [hp] at hl ⊢
   have HL:Hid (xs.length+(⟨#[102,97,108,115,101]⟩:ByteArray).size≤140000000000000):=by show _+5≤_;simp only [List.length_cons,List.length_nil] at hl;omega
   clear h hb ho hp hl
   go_enter Tryz.func45,Tryz.ntmps45
   go_upto_region 1 with fail
   have PW:=hide (uh P _ rfl)
   generalize u.alloc _=W at *
   obtain ⟨y0,y1,y2,y3,y4,y5,y6,y7⟩:=(uh PW).box.cells
   have HO:=hide (uh PW).row
   have HB:=hide (uh PW).le
   go_wp2_with (at_builtin;refine wpl_apS ⟨#[102,97,108,115,101]⟩ W w0.heap.size sv xs rfl _ _ rfl rfl rfl HO HB HL ?_)
   intro v' w1 HO1 _ HX
   go_wp2
   go_ret
   exact ⟨v',rfl,uh HO1,Ext.of_below (uh PW).low (uh HX)⟩
set_option maxHeartbeats 3200000 in
set_option maxRecDepth 1000000 in
theorem rpr_num (w0:World) (hP:Pow w0) (d:Dn) (hw:Whole1 d) (hz:d.dg.size≤1000000000):PRC w0 (leaf 2 false d ⟨#[]⟩):=by
 intro cs u sv xs h hb ho hl
 obtain ⟨oa,ca,ob,cb,rfl⟩:=VR.parts h
 have hp:prt (leaf 2 false d ⟨#[]⟩)=(textOf (norm d)).data.toList:=by rw [prt_leaf];rfl
 rw [hp] at hl ⊢
 have hx:-9223372036854775808≤d.ex∧d.ex≤9223372036854775807:=by
  rcases hw with rfl|hw
  · exact ⟨by decide,by decide⟩
  · have:=hw.e0;have:=hw.e1;omega
 have P:=hide (PB.of [.int .i64 2,.bool false,.bool d.neg,.string d.dg,.int .i64 d.ex,.string ⟨#[]⟩,.slice oa ([]:List JT).length ca,.slice ob ([]:List (ByteArray × JT)).length cb] hb ho)
 have CT:=hide (fun (W:World) (q:Pow W)=>rtext_any d W (by omega) hx.1 hx.2 q)
 have hsz:(textOf (norm d)).data.toList.length=(textOf (norm d)).size:=Array.length_toList
 have HL:Hid (xs.length+(textOf (norm d)).size≤140000000000000):=by show _≤_;omega
 have HP0:=hide hP
 obtain ⟨dn,dg,dx⟩:=d
 unfold dv at CT
 simp only at CT P
 generalize textOf (norm ⟨dn,dg,dx⟩)=tx at *
 clear h hb ho hp hl hx hsz hw hz hP
 go_enter Tryz.func45,Tryz.ntmps45
 go_upto_region 1 with fail
 have PW:=hide (uh P _ rfl)
 generalize u.alloc _=W at *
 obtain ⟨y0,y1,y2,y3,y4,y5,y6,y7⟩:=(uh PW).box.cells
 have CTW:=hide (uh CT W ((uh HP0).keep (uh PW).base))
 go_wp2_with (first
  | (go_at_call 72;refine (uh CTW).mono ?_;rintro e w1 ⟨rfl,hb1⟩
     have HO:=hide ((uh PW).row.keep hb1)
     have HB:=hide (Nat.le_trans (uh PW).le hb1.size)
     clear CTW)
  | (at_builtin;refine wpl_apS tx w1 w0.heap.size sv xs rfl _ _ rfl rfl rfl HO HB HL ?_
     intro v' w2 HO1 _ HX))
 go_ret
 exact ⟨v',rfl,uh HO1,Ext.of_below ((uh PW).low.trans (hb1.mono (uh PW).low.size)) (uh HX)⟩
set_option maxHeartbeats 3200000 in
set_option maxRecDepth 1000000 in
theorem rpr_text (w0:World) (x:ByteArray) (hx:Ltc x.data.toList) (hz:x.size≤1000000000):PRC w0 (leaf 3 false zed x):=by
 intro cs u sv xs h hb ho hl
 obtain ⟨oa,ca,ob,cb,rfl⟩:=VR.parts h
 have hp:prt (leaf 3 false zed x)=txtJ x:=by rw [prt_leaf];rfl
 rw [hp] at hl ⊢
 have P:=hide (PB.of [.int .i64 3,.bool false,.bool zed.neg,.string zed.dg,.int .i64 zed.ex,.string x,.slice oa ([]:List JT).length ca,.slice ob ([]:List (ByteArray × JT)).length cb] hb ho)
 have CT:=hide (fun (W:World)=>rtold_any x W (by omega) hx)
 have HS:Hid ((⟨(txtJ x).toArray⟩:ByteArray).data.toList=txtJ x):=rfl
 have HL:Hid (xs.length+(⟨(txtJ x).toArray⟩:ByteArray).size≤140000000000000):=by show _+(txtJ x).length≤_;omega
 generalize (⟨(txtJ x).toArray⟩:ByteArray)=tx at *
 clear h hb ho hp hl hx hz
 go_enter Tryz.func45,Tryz.ntmps45
 go_upto_region 1 with fail
 have PW:=hide (uh P _ rfl)
 generalize u.alloc _=W at *
 obtain ⟨y0,y1,y2,y3,y4,y5,y6,y7⟩:=(uh PW).box.cells
 have CTW:=hide (uh CT W)
 go_wp2_with (first
  | (go_at_call 73;refine (uh CTW).mono ?_;rintro e w1 ⟨rfl,hb1⟩
     have HO:=hide ((uh PW).row.keep hb1)
     have HB:=hide (Nat.le_trans (uh PW).le hb1.size)
     clear CTW)
  | (at_builtin;refine wpl_apS tx w1 w0.heap.size sv xs rfl _ _ rfl rfl rfl HO HB HL ?_
     intro v' w2 HO1 _ HX))
 go_ret
 rw [← uh HS]
 exact ⟨v',rfl,uh HO1,Ext.of_below ((uh PW).low.trans (hb1.mono (uh PW).low.size)) (uh HX)⟩
structure PL (w0 u W:World) (sv:Value) (cs:List Value) (wr:World) (ov:Value) (ys:List UInt8):Prop where
 row:OB wr w0.heap.size ov ys
 ext:Ext W wr sv ov
 box:BX wr u.heap.size cs
 base:Below w0.heap.size w0 wr
 far:ov.ownBlock≠some u.heap.size
theorem PL.step {w0 u W wr w1:World}{sv ov v':Value}{cs:List Value}{ys zs:List UInt8} (h:PL w0 u W sv cs wr ov ys) (ho:OB w1 w0.heap.size v' zs) (hx:Ext wr w1 ov v'):PL w0 u W sv cs w1 v' zs :=
 ⟨ho,h.ext.trans hx,hx.box h.far h.box,h.base.trans (hx.below h.row h.base.size),hx.new (blk_lt h.box) h.far⟩
theorem PL.call {w0 u W wr w1:World}{sv ov:Value}{cs:List Value}{ys:List UInt8} (h:PL w0 u W sv cs wr ov ys) (hb:Below wr.heap.size wr w1):PL w0 u W sv cs w1 ov ys :=
 ⟨h.row.keep hb,⟨⟨hb.os.trans h.ext.grow.os,hb.tape.trans h.ext.grow.tape,hb.output.trans h.ext.grow.output,Nat.le_trans h.ext.grow.size hb.size,fun k hk ha=>(hb.block k (Nat.lt_of_lt_of_le hk h.ext.grow.size)).trans (h.ext.grow.block k hk ha)⟩,h.ext.blk⟩,h.box.keep hb (blk_lt h.box),h.base.trans (hb.mono h.base.size),h.far⟩
theorem PB.start {w0 u W:World}{sv:Value}{xs:List UInt8}{cs:List Value} (h:PB w0 u W sv xs cs):PL w0 u W sv cs W sv xs:=⟨h.row,Ext.refl _ _,h.box,h.base,h.far⟩
set_option maxHeartbeats 12800000 in
set_option maxRecDepth 1000000 in
theorem rpr_list (w0:World) (l:List JT) (IH:∀ v∈l,PRC w0 v) (hz:l.length≤1000000000):PRC w0 (JT.mk 4 false zed ⟨#[]⟩ l []):=by
 intro cs u sv xs h hb ho hl
 obtain ⟨oa,ca,ob,cb,rfl⟩:=VR.parts h
 have hp:prt (JT.mk 4 false zed ⟨#[]⟩ l [])=91::(comma (l.map prt)++[93]):=by rw [prt_mk];rfl
 rw [hp] at hl ⊢
 have P:=hide (PB.of [.int .i64 4,.bool false,.bool zed.neg,.string zed.dg,.int .i64 zed.ex,.string ⟨#[]⟩,.slice oa l.length ca,.slice ob ([]:List (ByteArray × JT)).length cb] hb ho)
 have H0:=hide h
 have HTOT:Hid (xs.length+(comma (l.map prt)).length+2≤100000000000000):=by show _≤_;simp only [List.length_cons,List.length_append,List.length_nil] at hl;omega
 have HL1:Hid (xs.length+[(91:UInt8)].length≤140000000000000):=by have:=uh HTOT;show _+1≤_;omega
 have HI:=hide IH
 clear h hb ho hp hl IH
 obtain ⟨ps,hps⟩:∃ ps,ps=l.map prt:=⟨_,rfl⟩
 have HPS:=hide hps
 rw [← hps] at HTOT ⊢
 clear hps
 go_enter Tryz.func45,Tryz.ntmps45
 go_upto_region 1 with fail
 have PW:=hide (uh P _ rfl)
 generalize u.alloc _=W at *
 clear P
 obtain ⟨y0,y1,y2,y3,y4,y5,y6,y7⟩:=(uh PW).box.cells
 have HO:=hide (uh PW).row
 have HB:=hide (uh PW).le
 go_upto_region 12 with (at_builtin;refine wpl_apB [91] W _ w0.heap.size sv xs rfl _ _ rfl rfl rfl rfl HO HB HL1 ?_
                         intro v1 w1 HO1 _ HX1)
 have HP1:=hide ((uh PW).start.step (uh HO1) (uh HX1))
 clear y0 y1 y2 y3 y4 y5 y6 y7 HO HB HO1 HX1 HL1
 go_wp2
 go_loopw [0,5] (fun ov iv wr=>∃ i:Nat,i≤l.length∧iv=.int .i64 (i:Int)∧Hid (PL w0 u W sv [.int .i64 4,.bool false,.bool zed.neg,.string zed.dg,.int .i64 zed.ex,.string ⟨#[]⟩,.slice oa l.length ca,.slice ob ([]:List (ByteArray × JT)).length cb] wr ov (xs++[91]++comma (ps.take i)))) (fun _ iv _=>l.length - (intOf iv).toNat)
 case atStart=>exact ⟨0,by omega,rfl,by simpa [comma] using HP1⟩
 case round =>
  obtain ⟨i,hi,rfl,HP⟩:=hrel
  clear HP1
  obtain ⟨y0,y1,y2,y3,y4,y5,y6,y7⟩:=(uh HP).box.cells
  by_cases hc:i < l.length
  · have hi1:(i:Int) < (l.length:Int):=by omega
    obtain ⟨ad,e,q0,q1,q2,q3,q4,q5,q6,q7,rfl,hev,hvr,hat⟩:=(uh H0).el i hc
    have hat':=fun (j:Nat) (u':Value) hu=>kc (uh HP).base (hat j u' hu)
    obtain ⟨x0,x1,x2,x3,x4,x5,x6,x7⟩:=cells8 hat'
    have hem:=List.mem_of_getElem? hev
    have hpx:ps[i]?=some (prt e):=by rw [uh HPS,List.getElem?_map,hev];rfl
    have hft:=comma_fit hpx
    have HNX:=hide (comma_next hpx)
    have HFT:=hide hft
    have CI:=hide (uh HI _ hem)
    have HVR:=hide hvr
    have HAT:=hide hat
    clear hft hem hat hat' hvr hpx
    by_cases h0:i=0
    · have h0n:¬ (0:Int) < (i:Int):=by omega
      have H0i:=hide h0
      clear h0
      have CIW:=hide (uh CI _ wr _ _ (uh HVR) (uh HP).base (uh HP).row (by
       have:=uh HFT
       have:=uh HTOT
       simp only [List.length_append,List.length_cons,List.length_nil]
       omega))
      go_wp2_with (go_at_call 45;refine (uh CIW).mono ?_;rintro e6 w6 ⟨v6,rfl,ho6,hx6⟩
                   have HP6:=hide ((uh HP).step ho6 hx6)
                   clear ho6 hx6 CIW)
      refine ⟨⟨i+1,by omega,by go_num,?_⟩,by simp [intOf];omega⟩
      refine hide ?_
      rw [uh HNX,if_pos (uh H0i)]
      have:=uh HP6
      simpa using this
    · have HO:=hide (uh HP).row
      have HB:=hide (uh HP).base.size
      have h0n:(0:Int) < (i:Int):=by omega
      have H0i:=hide h0
      clear h0
      have HLc:Hid ((xs++[91]++comma (ps.take i)).length+[(44:UInt8)].length≤140000000000000):=by
       have:=uh HFT
       have:=uh HTOT
       show _+1≤_
       simp only [List.length_append,List.length_cons,List.length_nil]
       omega
      go_upto_region 17 with (at_builtin;refine wpl_apB [44] wr _ w0.heap.size _ (xs++[91]++comma (ps.take i)) rfl _ _ rfl rfl rfl rfl HO HB HLc ?_
                              intro v2 w2 HO2 _ HX2)
      have HP2:=hide ((uh HP).step (uh HO2) (uh HX2))
      clear HO2 HX2 HO HB HLc y0 y1 y2 y3 y4 y5 y6 y7 x0 x1 x2 x3 x4 x5 x6 x7
      obtain ⟨y0,y1,y2,y3,y4,y5,y6,y7⟩:=(uh HP2).box.cells
      have hat2:=fun (j:Nat) (u':Value) hu=>kc (uh HP2).base (uh HAT j u' hu)
      obtain ⟨x0,x1,x2,x3,x4,x5,x6,x7⟩:=cells8 hat2
      have CIW:=hide (uh CI _ w2 v2 _ (uh HVR) (uh HP2).base (uh HP2).row (by
       have:=uh HFT
       have:=uh HTOT
       simp only [List.length_append,List.length_cons,List.length_nil]
       omega))
      clear hat2
      go_wp2_with (go_at_call 45;refine (uh CIW).mono ?_;rintro e6 w6 ⟨v6,rfl,ho6,hx6⟩
                   have HP6:=hide ((uh HP2).step ho6 hx6)
                   clear ho6 hx6 CIW)
      refine ⟨⟨i+1,by omega,by go_num,?_⟩,by simp [intOf];omega⟩
      refine hide ?_
      rw [uh HNX,if_neg (uh H0i)]
      have:=uh HP6
      simpa using this
  · obtain rfl:i=l.length:=by omega
    have hno:¬ (l.length:Int) < (l.length:Int):=by omega
    have hpl:l.length=ps.length:=by rw [uh HPS,List.length_map]
    rw [hpl,List.take_length] at HP
    have HO:=hide (uh HP).row
    have HB:=hide (uh HP).base.size
    have HLc:Hid ((xs++[91]++comma ps).length+[(93:UInt8)].length≤140000000000000):=by
     have:=uh HTOT
     show _+1≤_
     simp only [List.length_append,List.length_cons,List.length_nil]
     omega
    clear hpl
    go_wp2_with (at_builtin;refine wpl_apB [93] wr _ w0.heap.size _ (xs++[91]++comma ps) rfl _ _ rfl rfl rfl rfl HO HB HLc ?_
                 intro v2 w2 HO2 _ HX2)
    go_ret
    have HP2:=(uh HP).step (uh HO2) (uh HX2)
    refine ⟨v2,rfl,?_,Ext.of_below (uh PW).low HP2.ext⟩
    have:=HP2.row
    simpa using this
set_option maxHeartbeats 12800000 in
set_option maxRecDepth 1000000 in
theorem rpr_obj (w0:World) (f:List (ByteArray × JT)) (hn:∀ p∈f,Ltc p.1.data.toList∧p.1.size≤1000000000) (IH:∀ p∈f,PRC w0 p.2) (hz:f.length≤1000000000):PRC w0 (JT.mk 5 false zed ⟨#[]⟩ [] f):=by
 intro cs u sv xs h hb ho hl
 obtain ⟨oa,ca,ob,cb,rfl⟩:=VR.parts h
 have hp:prt (JT.mk 5 false zed ⟨#[]⟩ [] f)=123::(comma (f.map (fun p:ByteArray × JT=>txtJ p.1++[58]++prt p.2))++[125]):=by rw [prt_mk];rfl
 rw [hp] at hl ⊢
 have P:=hide (PB.of [.int .i64 5,.bool false,.bool zed.neg,.string zed.dg,.int .i64 zed.ex,.string ⟨#[]⟩,.slice oa ([]:List JT).length ca,.slice ob f.length cb] hb ho)
 have H0:=hide h
 have HTOT:Hid (xs.length+(comma (f.map (fun p:ByteArray × JT=>txtJ p.1++[58]++prt p.2))).length+2≤100000000000000):=by show _≤_;simp only [List.length_cons,List.length_append,List.length_nil] at hl;omega
 have HL1:Hid (xs.length+[(123:UInt8)].length≤140000000000000):=by have:=uh HTOT;show _+1≤_;omega
 have HI:=hide IH
 have HN:=hide hn
 clear h hb ho hp hl IH hn
 obtain ⟨ps,hps⟩:∃ ps,ps=f.map (fun p:ByteArray × JT=>txtJ p.1++[58]++prt p.2):=⟨_,rfl⟩
 have HPS:=hide hps
 rw [← hps] at HTOT ⊢
 clear hps
 go_enter Tryz.func45,Tryz.ntmps45
 go_upto_region 1 with fail
 have PW:=hide (uh P _ rfl)
 generalize u.alloc _=W at *
 clear P
 obtain ⟨y0,y1,y2,y3,y4,y5,y6,y7⟩:=(uh PW).box.cells
 have HO:=hide (uh PW).row
 have HB:=hide (uh PW).le
 go_upto_region 21 with (at_builtin;refine wpl_apB [123] W _ w0.heap.size sv xs rfl _ _ rfl rfl rfl rfl HO HB HL1 ?_
                         intro v1 w1 HO1 _ HX1)
 have HP1:=hide ((uh PW).start.step (uh HO1) (uh HX1))
 clear y0 y1 y2 y3 y4 y5 y6 y7 HO HB HO1 HX1 HL1
 go_wp2
 go_loopw [0,6] (fun ov iv wr=>∃ i:Nat,i≤f.length∧iv=.int .i64 (i:Int)∧Hid (PL w0 u W sv [.int .i64 5,.bool false,.bool zed.neg,.string zed.dg,.int .i64 zed.ex,.string ⟨#[]⟩,.slice oa ([]:List JT).length ca,.slice ob f.length cb] wr ov (xs++[123]++comma (ps.take i)))) (fun _ iv _=>f.length - (intOf iv).toNat)
 case atStart=>exact ⟨0,by omega,rfl,by simpa [comma] using HP1⟩
 case round =>
  obtain ⟨i,hi,rfl,HP⟩:=hrel
  clear HP1
  obtain ⟨y0,y1,y2,y3,y4,y5,y6,y7⟩:=(uh HP).box.cells
  by_cases hc:i < f.length
  · have hi1:(i:Int) < (f.length:Int):=by omega
    obtain ⟨ad,nm,e,q0,q1,q2,q3,q4,q5,q6,q7,rfl,hev,hvr,hat⟩:=(uh H0).fl i hc
    have hat':=fun (j:Nat) (u':Value) hu=>kc (uh HP).base (hat j u' hu)
    obtain ⟨x8,x0,x1,x2,x3,x4,x5,x6,x7⟩:=cells9 hat'
    have hem:=List.mem_of_getElem? hev
    have hpx:ps[i]?=some (txtJ nm++[58]++prt e):=by rw [uh HPS,List.getElem?_map,hev];rfl
    have hft:=comma_fit hpx
    have HNX:=hide (comma_next hpx)
    have hnm:=uh HN _ hem
    simp only at hnm
    have CT:=hide (fun (W:World)=>rtold_any nm W (by omega) hnm.1)
    have HS:Hid ((⟨(txtJ nm).toArray⟩:ByteArray).data.toList=txtJ nm):=rfl
    have HSZ:Hid ((⟨(txtJ nm).toArray⟩:ByteArray).size=(txtJ nm).length):=rfl
    have hff:(txtJ nm++[58]++prt e).length=(txtJ nm).length+1+(prt e).length:=by simp only [List.length_append,List.length_cons,List.length_nil]
    rw [hff] at hft
    generalize (⟨(txtJ nm).toArray⟩:ByteArray)=tx at *
    have HFT:=hide hft
    have CI:=hide (uh HI _ hem)
    have HVR:=hide hvr
    simp only at CI
    have HAT:=hide hat
    clear hft hff hnm hem hat hat' hvr hpx
    by_cases h0:i=0
    · have HO:=hide (uh HP).row
      have h0n:¬ (0:Int) < (i:Int):=by omega
      have H0i:=hide h0
      clear h0
      go_wp2_with (first
       | (go_at_call 73;refine (uh CT _).mono ?_;rintro e3 w3 ⟨rfl,hb3⟩
          have HP3:=hide ((uh HP).call hb3)
          have HO3:=hide (uh HP3).row
          have HB3:=hide (uh HP3).base.size
          have HL3:Hid ((xs++[123]++comma (ps.take i)).length+tx.size≤140000000000000):=by
           have:=uh HFT
           have:=uh HTOT
           have:=uh HSZ
           show _≤_
           simp only [List.length_append,List.length_cons,List.length_nil]
           omega
          clear hb3 CT)
       | (at_builtin;refine wpl_apS tx w3 w0.heap.size _ (xs++[123]++comma (ps.take i)) rfl _ _ rfl rfl rfl HO3 HB3 HL3 ?_
          intro v4 w4 HO4 _ HX4
          have HP4:=hide ((uh HP3).step (uh HO4) (uh HX4))
          have HB4:=hide (uh HP4).base.size
          have HL4:Hid ((xs++[123]++comma (ps.take i)++tx.data.toList).length+[(58:UInt8)].length≤140000000000000):=by
           have:=uh HFT
           have:=uh HTOT
           rw [uh HS]
           show _+1≤_
           simp only [List.length_append,List.length_cons,List.length_nil]
           omega
          clear HX4 HP3 HO3 HB3 HL3)
       | (at_builtin;refine wpl_apB [58] w4 _ w0.heap.size v4 (xs++[123]++comma (ps.take i)++tx.data.toList) rfl _ _ rfl rfl rfl rfl HO4 HB4 HL4 ?_
          intro v5 w5 HO5 _ HX5
          have HP5:=hide ((uh HP4).step (uh HO5) (uh HX5))
          obtain ⟨y0,y1,y2,y3,y4,y5,y6,y7⟩:=(uh HP5).box.cells
          have hat5:=fun (j:Nat) (u':Value) hu=>kc (uh HP5).base (uh HAT j u' hu)
          obtain ⟨x8,x0,x1,x2,x3,x4,x5,x6,x7⟩:=cells9 hat5
          have CIW:=hide (uh CI _ w5 v5 _ (uh HVR) (uh HP5).base (uh HP5).row (by
           have:=uh HFT
           have:=uh HTOT
           rw [uh HS]
           simp only [List.length_append,List.length_cons,List.length_nil]
           omega))
          clear hat5 HX5 HP4 HB4 HL4 HO4)
       | (go_at_call 45;refine (uh CIW).mono ?_;rintro e6 w6 ⟨v6,rfl,ho6,hx6⟩
          have HP6:=hide ((uh HP5).step ho6 hx6)
          clear ho6 hx6 CIW))
      refine ⟨⟨i+1,by omega,by go_num,?_⟩,by simp [intOf];omega⟩
      refine hide ?_
      rw [uh HNX,if_pos (uh H0i)]
      have:=uh HP6
      rw [uh HS] at this
      simpa using this
    · have HO:=hide (uh HP).row
      have HB:=hide (uh HP).base.size
      have h0n:(0:Int) < (i:Int):=by omega
      have H0i:=hide h0
      clear h0
      have HLc:Hid ((xs++[123]++comma (ps.take i)).length+[(44:UInt8)].length≤140000000000000):=by
       have:=uh HFT
       have:=uh HTOT
       show _+1≤_
       simp only [List.length_append,List.length_cons,List.length_nil]
       omega
      go_upto_region 26 with (at_builtin;refine wpl_apB [44] wr _ w0.heap.size _ (xs++[123]++comma (ps.take i)) rfl _ _ rfl rfl rfl rfl HO HB HLc ?_
                              intro v2 w2 HO2 _ HX2)
      have HP2:=hide ((uh HP).step (uh HO2) (uh HX2))
      clear HO2 HX2 HO HB HLc y0 y1 y2 y3 y4 y5 y6 y7 x0 x1 x2 x3 x4 x5 x6 x7 x8
      obtain ⟨y0,y1,y2,y3,y4,y5,y6,y7⟩:=(uh HP2).box.cells
      have hat2:=fun (j:Nat) (u':Value) hu=>kc (uh HP2).base (uh HAT j u' hu)
      obtain ⟨x8,x0,x1,x2,x3,x4,x5,x6,x7⟩:=cells9 hat2
      clear hat2
      go_wp2_with (first
       | (go_at_call 73;refine (uh CT _).mono ?_;rintro e3 w3 ⟨rfl,hb3⟩
          have HP3:=hide ((uh HP2).call hb3)
          have HO3:=hide (uh HP3).row
          have HB3:=hide (uh HP3).base.size
          have HL3:Hid ((xs++[123]++comma (ps.take i)++[44]).length+tx.size≤140000000000000):=by
           have:=uh HFT
           have:=uh HTOT
           have:=uh HSZ
           show _≤_
           simp only [List.length_append,List.length_cons,List.length_nil]
           omega
          clear hb3 CT)
       | (at_builtin;refine wpl_apS tx w3 w0.heap.size v2 (xs++[123]++comma (ps.take i)++[44]) rfl _ _ rfl rfl rfl HO3 HB3 HL3 ?_
          intro v4 w4 HO4 _ HX4
          have HP4:=hide ((uh HP3).step (uh HO4) (uh HX4))
          have HB4:=hide (uh HP4).base.size
          have HL4:Hid ((xs++[123]++comma (ps.take i)++[44]++tx.data.toList).length+[(58:UInt8)].length≤140000000000000):=by
           have:=uh HFT
           have:=uh HTOT
           rw [uh HS]
           show _+1≤_
           simp only [List.length_append,List.length_cons,List.length_nil]
           omega
          clear HX4 HP3 HO3 HB3 HL3)
       | (at_builtin;refine wpl_apB [58] w4 _ w0.heap.size v4 (xs++[123]++comma (ps.take i)++[44]++tx.data.toList) rfl _ _ rfl rfl rfl rfl HO4 HB4 HL4 ?_
          intro v5 w5 HO5 _ HX5
          have HP5:=hide ((uh HP4).step (uh HO5) (uh HX5))
          obtain ⟨y0,y1,y2,y3,y4,y5,y6,y7⟩:=(uh HP5).box.cells
          have hat5:=fun (j:Nat) (u':Value) hu=>kc (uh HP5).base (uh HAT j u' hu)
          obtain ⟨x8,x0,x1,x2,x3,x4,x5,x6,x7⟩:=cells9 hat5
          have CIW:=hide (uh CI _ w5 v5 _ (uh HVR) (uh HP5).base (uh HP5).row (by
           have:=uh HFT
           have:=uh HTOT
           rw [uh HS]
           simp only [List.length_append,List.length_cons,List.length_nil]
           omega))
          clear hat5 HX5 HP4 HB4 HL4 HO4)
       | (go_at_call 45;refine (uh CIW).mono ?_;rintro e6 w6 ⟨v6,rfl,ho6,hx6⟩
          have HP6:=hide ((uh HP5).step ho6 hx6)
          clear ho6 hx6 CIW))
      refine ⟨⟨i+1,by omega,by go_num,?_⟩,by simp [intOf];omega⟩
      refine hide ?_
      rw [uh HNX,if_neg (uh H0i)]
      have:=uh HP6
      rw [uh HS] at this
      simpa using this
  · obtain rfl:i=f.length:=by omega
    have hno:¬ (f.length:Int) < (f.length:Int):=by omega
    have hpl:f.length=ps.length:=by rw [uh HPS,List.length_map]
    rw [hpl,List.take_length] at HP
    have HO:=hide (uh HP).row
    have HB:=hide (uh HP).base.size
    have HLc:Hid ((xs++[123]++comma ps).length+[(125:UInt8)].length≤140000000000000):=by
     have:=uh HTOT
     show _+1≤_
     simp only [List.length_append,List.length_cons,List.length_nil]
     omega
    clear hpl
    go_wp2_with (at_builtin;refine wpl_apB [125] wr _ w0.heap.size _ (xs++[123]++comma ps) rfl _ _ rfl rfl rfl rfl HO HB HLc ?_
                 intro v2 w2 HO2 _ HX2)
    go_ret
    have HP2:=(uh HP).step (uh HO2) (uh HX2)
    refine ⟨v2,rfl,?_,Ext.of_below (uh PW).low HP2.ext⟩
    have:=HP2.row
    simpa using this
theorem rprinted_any (w0:World) (hP:Pow w0) {n:Nat}{v:JT} (h:Pf n v):PRC w0 v:=by
 induction h with
 | null n=>exact rpr_null w0
 | truth n b=>exact rpr_truth w0 b
 | num n h hz=>exact rpr_num w0 hP _ h hz
 | text n h hz=>exact rpr_text w0 _ h hz
 | list h hz ih=>exact rpr_list w0 _ ih hz
 | obj hn hr h hz ih=>exact rpr_obj w0 _ hn ih hz
set_option maxHeartbeats 3200000 in
set_option maxRecDepth 1000000 in
theorem rprint_any (v:JT) (hb:Bd v) {n:Nat} (hp:Pf n (nrm v)) (hl:(prt (nrm v)).length≤100000000000000) (cs:List Value) (w:World) (h:VR w v cs) (hP:Pow w) :
 Calls Tryz.prog 14 #[.agg cs.toArray] w fun e w'=>e=.returned (.string ⟨(prt (nrm v)).toArray⟩)∧Below w.heap.size w w':=by
 obtain ⟨a0,a1,a2,a3,a4,a5,a6,a7,a8,a9,aa,ab,rfl⟩:=h.form
 obtain ⟨x2,l2,_,z2⟩:=boxE w [.int .i64 a0,.bool a1,.bool a2,.string a3,.int .i64 a4,.string a5,.slice a6 a7 a8,.slice a9 aa ab] _ w (Below.refl _ w) (Nat.le_refl _) _ rfl
 have CN:=hide (rnrm_any _ v _ _ (Nat.lt_succ_self _) hb (h.keep l2))
 have CP:=hide (fun (w0:World) (q:Pow w0)=>rprinted_any w0 q hp)
 have HPW:=hide (hP.keep l2)
 have L2:=hide l2
 have Z2:=hide z2
 have HLN:=hide hl
 clear hl
 generalize nrm v=nv at *
 obtain ⟨y0,y1,y2,y3,y4,y5,y6,y7⟩:=x2.cells
 clear h hb hp l2 x2 z2 hP
 go_enter Tryz.func14,Tryz.ntmps14
 go_upto_region 2 with (go_at_call 23;refine (uh CN).mono ?_;rintro e u1 ⟨cs,pp,rfl,hr,hpn,hbl⟩
                        obtain ⟨c0,c1,c2,c3,c4,c5,c6,c7,c8,c9,ca,cb,rfl⟩:=hr.vr.form)
 obtain ⟨x3,l3,_,z3⟩:=boxE u1 [.int .i64 c0,.bool c1,.bool c2,.string c3,.int .i64 c4,.string c5,.slice c6 c7 c8,.slice c9 ca cb] _ u1 (Below.refl _ u1) (Nat.le_refl _) _ rfl
 have VN:=hr.vr.keep l3
 have HL3:=hide ((uh L2).trans ((hbl.trans (l3.mono hbl.size)).mono (Nat.le_of_lt (uh Z2))))
 have PW3:=((uh HPW).keep hbl).keep l3
 generalize u1.alloc (.cells [.int .i64 c0,.bool c1,.bool c2,.string c3,.int .i64 c4,.string c5,.slice c6 c7 c8,.slice c9 ca cb].toArray 27)=W3 at *
 obtain ⟨y0,y1,y2,y3,y4,y5,y6,y7⟩:=x3.cells
 have CPW:=hide (uh CP W3 PW3 _ W3 (.slice none 0 0) [] VN (Below.refl _ _) (OB.nil _ _) (by simpa using uh HLN))
 have HW3:=hide (show ∀ (w4:World) (sv':Value),Ext W3 w4 (.slice none 0 0) sv'→Below w.heap.size w w4 from fun w4 sv' hx=>(uh HL3).trans ((hx.below (OB.nil W3 W3.heap.size) (Nat.le_refl _)).mono (uh HL3).size))
 clear hr hpn hbl l3 z3 x3 VN PW3 CP CN
 go_wp2_with (go_at_call 45;refine (uh CPW).mono ?_;rintro e w4 ⟨sv',rfl,ho4,hx4⟩
              have hcv:=ho4.str
              have HX4:=hide hx4
              clear ho4 hx4 CPW)
 go_ret
 exact ⟨by simp,uh HW3 _ _ (uh HX4)⟩
structure Lit (v:JT):Prop where
 gd:Gd v
 pf:Pf (cntV v) (nrm v)
 bn:Bd (nrm v)
 cst:cst (nrm v)≤2000000000
 len:(prt (nrm v)).length≤2000000000
theorem lit_of {v:JT} (hb:Bd v) (hc:cntV v≤4194304):Lit v:=by
 obtain ⟨h1,h2⟩:=light_few _ v (Nat.lt_succ_self _) (by omega)
 have h3:=prt_le _ (nrm v) (Nat.lt_succ_self _)
 exact ⟨light_gd _ v (Nat.lt_succ_self _) hb (by omega),h1,pf_bd h1,by omega,by omega⟩
theorem lprint {v:JT} (hb:Bd v) (hl:Lit v) (cs:List Value) (w:World) (h:VR w v cs) (hP:Pow w) :
 Calls Tryz.prog 12 #[.agg cs.toArray] w fun e w'=>e=.returned (.string ⟨(prt (nrm v)).toArray⟩)∧Below w.heap.size w w' :=
 jprint_any v hb hl.gd hl.bn (by have:=hl.cst;omega) cs w h hP
set_option maxHeartbeats 12800000 in
set_option maxRecDepth 1000000 in
theorem prints_law (RC:CopyC) (E:Nat→Value) (A:Nat→Addr) (hEA:E 0=.pointer (some (A 0))) (v:JT) (bv:Bd v) (c:List Value) (w:World) (h:AE E A w) (hv:VR w v c) :
 Calls Tryz.prog 3 #[.agg c.toArray] w fun e w'=>e=.returned (.bool true)∧Below w.heap.size w w':=by
 obtain ⟨a0,a1,a2,a3,a4,a5,a6,a7,a8,a9,aa,ab,rfl⟩:=hv.form
 have B1:=hide (ss.one_box w [.int .i64 a0,.bool a1,.bool a2,.string a3,.int .i64 a4,.string a5,.slice a6 a7 a8,.slice a9 aa ab])
 have HV:=hide (fun u (hu:Below w.heap.size w u)=>hv.keep hu)
 have CH:=hide (fun u (hu:Below w.heap.size w u)=>heavy_any v bv _ u (hv.keep hu))
 have BV:=hide bv
 have CA:=hide (fun u (hu:Below w.heap.size w u)=>jawake E A hEA u (h.keep hu))
 have PW:=hide (fun u (hu:Below w.heap.size w u)=>(h.keep hu).pw)
 clear hv h hEA bv
 go_enter Tryz.func3,Tryz.ntmps3
 go_upto_region 1 with fail
 obtain ⟨q0,q1,q2⟩:=uh B1 _ rfl
 generalize w.alloc (.cells [.int .i64 a0,.bool a1,.bool a2,.string a3,.int .i64 a4,.string a5,.slice a6 a7 a8,.slice a9 aa ab].toArray 27)=W at *
 obtain ⟨y0,y1,y2,y3,y4,y5,y6,y7⟩:=q0.cells
 have HX:=hide q0
 have L0:Hid (Below w.heap.size w W):=q1.mono (Nat.le_refl _)
 have Y0:=hide (Below.refl W.heap.size W)
 have CW:=hide (uh CH W (uh L0))
 clear q0 q1 q2 B1 CH
 go_upto_region 2 with (go_at_call 9;refine (uh CW).mono ?_;rintro e1 u1 ⟨h1,rfl,hh1,l1⟩)
 have HH:=hide hh1
 have Y1:=hide ((uh Y0).trans (l1.mono (Nat.le_refl _)))
 have L1:=hide ((uh L0).trans (l1.mono (uh L0).size))
 clear l1 hh1 CW L0 Y0 y0 y1 y2 y3 y4 y5 y6 y7
 cases h1 with
 | true =>
   go_wp2
   go_ret
   exact ⟨rfl,uh L1⟩
 | false =>
   have hcn:=uh HH rfl
   have G:=hide (lit_of (uh BV) hcn)
   have CAw:=hide (uh CA u1 (uh L1))
   have CLn:=hide (fun u (hu:Below w.heap.size w u)=>rlend_any RC v (uh BV) (by omega) _ u (uh HV u hu))
   clear hcn HH CA
   go_upto_region 5 with (go_at_call 10;refine (uh CAw).mono ?_;rintro e2 u2 ⟨rfl,l2⟩)
   have Y2:=hide ((uh Y1).trans (l2.mono (uh Y1).size))
   have L2:=hide ((uh L1).trans (l2.mono (uh L1).size))
   obtain ⟨y0,y1,y2,y3,y4,y5,y6,y7⟩:=((uh HX).keep (uh Y2) (blk_lt (uh HX))).cells
   have CL2:=hide (uh CLn u2 (uh L2))
   clear l2 CAw CLn Y1 L1
   go_upto_region 6 with (go_at_call 11;refine (uh CL2).mono ?_;rintro e3 u3 ⟨T,csV,csW,ls,fs,LS,FS,rfl,hT,hld,l3⟩)
   obtain ⟨d0,d1,d2,d3,d4,d5,d6,d7,d8,d9,da,db,rfl⟩:=hld.v1.form
   obtain ⟨f0,f1,f2,f3,f4,f5,f6,f7,f8,f9,fa,fb,rfl⟩:=hld.v2.form
   have hbk:=hld.bk
   have k0:u3.cell? ⟨T,0,none⟩=some (.int .i64 d0):=blk_cell hbk 0
   have k1:u3.cell? ⟨T,1,none⟩=some (.bool d1):=blk_cell hbk 1
   have k2:u3.cell? ⟨T,2,none⟩=some (.bool d2):=blk_cell hbk 2
   have k3:u3.cell? ⟨T,3,none⟩=some (.string d3):=blk_cell hbk 3
   have k4:u3.cell? ⟨T,4,none⟩=some (.int .i64 d4):=blk_cell hbk 4
   have k5:u3.cell? ⟨T,5,none⟩=some (.string d5):=blk_cell hbk 5
   have k6:u3.cell? ⟨T,6,none⟩=some (.slice d6 d7 d8):=blk_cell hbk 6
   have k7:u3.cell? ⟨T,7,none⟩=some (.slice d9 da db):=blk_cell hbk 7
   have HLD:=hide hld
   have Y3:=hide ((uh Y2).trans (l3.mono (uh Y2).size))
   have L3:=hide ((uh L2).trans (l3.mono (uh L2).size))
   have CP3:=hide (lprint (uh BV) (uh G) _ u3 hld.v1 (uh PW u3 (uh L3)))
   clear l3 hld hbk CL2 Y2 L2 hT y0 y1 y2 y3 y4 y5 y6 y7
   go_upto_region 7 with (go_at_call 12;refine (uh CP3).mono ?_;rintro e4 u4 ⟨rfl,l4⟩)
   have HLD4:=hide ((uh HLD).keep l4)
   have Y4:=hide ((uh Y3).trans (l4.mono (uh Y3).size))
   have L4:=hide ((uh L3).trans (l4.mono (uh L3).size))
   have hbk:=(uh HLD4).bk
   clear k0 k1 k2 k3 k4 k5 k6 k7
   have k0:u4.cell? ⟨T,0,none⟩=some (.int .i64 d0):=blk_cell hbk 0
   have k1:u4.cell? ⟨T,1,none⟩=some (.bool d1):=blk_cell hbk 1
   have k2:u4.cell? ⟨T,2,none⟩=some (.bool d2):=blk_cell hbk 2
   have k3:u4.cell? ⟨T,3,none⟩=some (.string d3):=blk_cell hbk 3
   have k4:u4.cell? ⟨T,4,none⟩=some (.int .i64 d4):=blk_cell hbk 4
   have k5:u4.cell? ⟨T,5,none⟩=some (.string d5):=blk_cell hbk 5
   have k6:u4.cell? ⟨T,6,none⟩=some (.slice d6 d7 d8):=blk_cell hbk 6
   have k7:u4.cell? ⟨T,7,none⟩=some (.slice d9 da db):=blk_cell hbk 7
   have CP4:=hide (lprint (uh BV) (uh G) _ u4 (uh HLD4).v1 (uh PW u4 (uh L4)))
   clear l4 hbk HLD CP3 Y3 L3
   go_upto_region 8 with (go_at_call 12;refine (uh CP4).mono ?_;rintro e5 u5 ⟨rfl,l5⟩)
   have HLD5:=hide ((uh HLD4).keep l5)
   have Y5:=hide ((uh Y4).trans (l5.mono (uh Y4).size))
   have L5:=hide ((uh L4).trans (l5.mono (uh L4).size))
   have CK:=hide (rkept_any (uh HLD5))
   clear l5 HLD4 CP4 Y4 L4 k0 k1 k2 k3 k4 k5 k6 k7
   go_upto_region 9 with (go_at_call 13;refine (uh CK).mono ?_;rintro e6 u6 ⟨rfl,l6⟩)
   have Y6:=hide ((uh Y5).trans (l6.mono (uh Y5).size))
   have L6:=hide ((uh L5).trans (l6.mono (uh L5).size))
   obtain ⟨y0,y1,y2,y3,y4,y5,y6,y7⟩:=((uh HX).keep (uh Y6) (blk_lt (uh HX))).cells
   have CR:=hide (rprint_any v (uh BV) (uh G).pf (by have:=(uh G).len;omega) _ u6 (uh HV u6 (uh L6)) (uh PW u6 (uh L6)))
   clear l6 HLD5 CK Y5 L5 HX HV PW BV G
   generalize (⟨(prt (nrm v)).toArray⟩:ByteArray)=s1 at *
   go_wp2_with (go_at_call 14;refine (uh CR).mono ?_;rintro e7 u7 ⟨rfl,l7⟩)
   go_ret
   exact ⟨by simp,(uh L6).trans (l7.mono (uh L6).size)⟩
end Go.Proofs.YthakglomacijgaaGreatDoor.rd
