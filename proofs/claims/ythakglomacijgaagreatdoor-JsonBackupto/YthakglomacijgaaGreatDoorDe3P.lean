/- Texts in one: De3 Smg -/
import Derived.Test.YthakglomacijgaaGreatDoorFo3P
import Derived.Test.YthakglomacijgaaGreatDoorWlP
import Derived.Test.YthakglomacijgaaGreatDoorIiP
import Derived.Test.YthakglomacijgaaGreatDoorIeP
import Derived.Test.YthakglomacijgaaGreatDoorSqP
import Derived.Deep.RegionLaw
namespace Go.Proofs.YthakglomacijgaaGreatDoor.rd
open Go.RowKit
theorem fold_snoc (l:List JT) (i:Nat) (v:JT) (m:Nat) (h:l[i]?=some v):((l.take (i+1)).map dpt).foldl max m=max (((l.take i).map dpt).foldl max m) (dpt v):=by
 rw [take_succ' h,List.map_append,List.foldl_append]
 rfl
theorem fold_take {n:Nat} (l:List JT) (i m:Nat) (hm:m≤n) (h:∀ v∈l,dpt v≤n):((l.take i).map dpt).foldl max m≤n :=
 fold_le _ m hm fun x hx=>by
  obtain ⟨v,hv,rfl⟩:=List.mem_map.1 hx
  exact h v (List.mem_of_mem_take hv)
theorem VR.parts {w:World}{k:Int}{t:Bool}{d:Dn}{x:ByteArray}{l:List JT}{f:List (ByteArray × JT)}{cs:List Value} (h:VR w (JT.mk k t d x l f) cs):∃ oa ca ob cb,cs=[.int .i64 k,.bool t,.bool d.neg,.string d.dg,.int .i64 d.ex,.string x,.slice oa l.length ca,.slice ob f.length cb]:=by
 cases h with
 | @mk k t d x l f lv fv css gss hl hf h1 h3 hle hfe =>
   obtain ⟨oa,c,rfl,_⟩:=mm.SV.form hl
   obtain ⟨ob,c',rfl,_⟩:=mm.SV.form hf
   exact ⟨oa,c,ob,c',rfl⟩
def dpL (l:List JT) (f:List (ByteArray × JT)):Nat:=((f.map Prod.snd).map dpt).foldl max ((l.map dpt).foldl max 0)
set_option maxRecDepth 1000000 in
set_option maxHeartbeats 3200000 in
theorem rdepth_step (v:JT) (k:Int) (t:Bool) (d:Dn) (xx:ByteArray) (l:List JT) (f:List (ByteArray × JT)) (hx:nrm v=JT.mk k t d xx l f) (hbv:Bd v) (hnl:l.length≤1000000000) (hnf:f.length≤1000000000)
 (hdl:∀ e∈l,dpt e≤1000000000) (hdf:∀ e∈f.map Prod.snd,dpt e≤1000000000) (cs:List Value) (w:World) (h:VR w v cs) (res:Nat) (hres:res=if k=4∨k=5 then 1+dpL l f else 0)
 (IHl:∀ e∈l,∀ (cs:List Value) (u:World),VR u e cs→Calls Tryz.prog 24 #[.agg cs.toArray] u (fun r w'=>r=.returned (.int .i64 (dpt e:Int))∧Below u.heap.size u w'))
 (IHf:∀ e∈f.map Prod.snd,∀ (cs:List Value) (u:World),VR u e cs→Calls Tryz.prog 24 #[.agg cs.toArray] u (fun r w'=>r=.returned (.int .i64 (dpt e:Int))∧Below u.heap.size u w')) :
 Calls Tryz.prog 24 #[.agg cs.toArray] w (fun r w'=>r=.returned (.int .i64 (res:Int))∧Below w.heap.size w w'):=by
 obtain ⟨a0,a1,a2,a3,a4,a5,a6,a7,rfl⟩:=h.eight
 obtain ⟨x0,l0,_,z0⟩:=boxE w [a0,a1,a2,a3,a4,a5,a6,a7] _ w (Below.refl _ w) (Nat.le_refl _) _ rfl
 have C1:=hide (rnrm_any _ v [a0,a1,a2,a3,a4,a5,a6,a7] _ (Nat.lt_succ_self _) hbv (h.keep l0))
 have HL0:=hide l0
 have HRES:=hide hres
 have HDL:=hide hdl
 have HDF:=hide hdf
 have I1:=hide IHl
 have I2:=hide IHf
 rw [hx] at C1
 clear h hbv hx l0 hres hdl hdf IHl IHf
 have hW0:=World.size_alloc w (.cells [a0,a1,a2,a3,a4,a5,a6,a7].toArray 27)
 obtain ⟨c0,c1,c2,c3,c4,c5,c6,c7⟩:=x0.cells
 have HW0:=hide hW0
 clear hW0
 go_enter Tryz.func24,Tryz.ntmps24
 go_upto_region 2 with (go_at_call 23;refine (uh C1).mono ?_;rintro e u1 ⟨cs1,p1,rfl,v1,n1,b1⟩
                        obtain ⟨oa,ca,ob,cb,rfl⟩:=v1.vr.parts
                        clear C1)
 clear c0 c1 c2 c3 c4 c5 c6 c7 n1
 have bw1:Below w.heap.size w u1:=(uh HL0).trans (b1.mono (Nat.le_of_lt z0))
 obtain ⟨dn,dg,dx⟩:=d
 obtain ⟨x2,l2,bW2,z2⟩:=boxE u1 [.int .i64 k,.bool t,.bool dn,.string dg,.int .i64 dx,.string xx,.slice oa l.length ca,.slice ob f.length cb] _ _ bw1 bw1.size _ rfl
 generalize u1.alloc (.cells [.int .i64 k,.bool t,.bool dn,.string dg,.int .i64 dx,.string xx,.slice oa l.length ca,.slice ob f.length cb].toArray 27)=W2 at *
 have V2:=hide (v1.vr.keep l2)
 have X2:=hide x2
 have Z2:=hide z2
 have BW2:=hide bW2
 generalize u1.heap.size=m at *
 clear v1 b1 bw1 l2 bW2 HL0 HW0 z0 x0
 obtain ⟨y0,y1,y2,y3,y4,y5,y6,y7⟩:=x2.cells
 clear x2 z2
 by_cases hk:k=4∨k=5
 · have hr:res=1+dpL l f:=by rw [uh HRES,if_pos hk]
   have HR:=hide hr
   clear hr HRES
   rcases hk with rfl|rfl
   · go_upto_region 5 with fail
     clear y0 y1 y2 y3 y4 y5 y6 y7
     go_wp2
     go_loopw [4,5] (fun mv iv wr=>∃ (i:Nat),iv=.int .i64 (i:Int)∧i≤l.length∧mv=.int .i64 ((((l.take i).map dpt).foldl max 0:Nat):Int)∧Hid (Below W2.heap.size W2 wr)) (fun _ iv _=>l.length - (intOf iv).toNat)
     case atStart=>exact ⟨0,rfl,by omega,rfl,Below.refl _ _⟩
     case round =>
      obtain ⟨i,rfl,hi,rfl,HB⟩:=hrel
      obtain ⟨y0,y1,y2,y3,y4,y5,y6,y7⟩:=((uh X2).keep (uh HB) (uh Z2)).cells
      by_cases hc:i < l.length
      · have hi1:(i:Int) < (l.length:Int):=by omega
        have hi0:(0:Int)≤(i:Int):=by omega
        obtain ⟨ad,e,q0,q1,q2,q3,q4,q5,q6,q7,rfl,hev,hvr,hat⟩:=((uh V2).keep (uh HB)).el i hc
        obtain ⟨x0,x1,x2,x3,x4,x5,x6,x7⟩:=cells8 hat
        have hem:=List.mem_of_getElem? hev
        have CI:=hide (uh I1 e hem _ wr hvr)
        have HM:=hide (fold_snoc l i e 0 hev)
        have hd1:=uh HDL e hem
        have hd2:=fold_take l i 0 (Nat.zero_le _) (uh HDL)
        generalize hgm:((l.take i).map dpt).foldl max 0=mo at hd2 HM ⊢
        generalize dpt e=de at hd1 HM CI ⊢
        clear hat hvr hev hem hgm
        go_upto_region 9 with (go_at_call 24;refine (uh CI).mono ?_;rintro r u2 ⟨rfl,b2⟩)
        clear CI x0 x1 x2 x3 x4 x5 x6 x7
        have HB2:=hide ((uh HB).trans (b2.mono (uh HB).size))
        clear b2
        by_cases hgt:mo < de
        · have hgz:(mo:Int) < (de:Int):=by omega
          have hmx:max mo de=de:=by omega
          go_wp2
          refine ⟨⟨i+1,by go_num,by omega,?_,HB2⟩,by simp [intOf];omega⟩
          rw [uh HM,hmx]
        · have hgz:¬ (mo:Int) < (de:Int):=by omega
          have hmx:max mo de=mo:=by omega
          go_wp2
          refine ⟨⟨i+1,by go_num,by omega,?_,HB2⟩,by simp [intOf];omega⟩
          rw [uh HM,hmx]
      · obtain rfl:i=l.length:=by omega
        have hno:¬ (l.length:Int) < (l.length:Int):=by omega
        rw [List.take_of_length_le (Nat.le_refl _)]
        have hd2:=fold_le (n:=1000000000) (l.map dpt) 0 (Nat.zero_le _) (fun x hx=>by obtain ⟨v,hv,rfl⟩:=List.mem_map.1 hx;exact uh HDL v hv)
        have HR2:Hid (res=1+((f.map Prod.snd).map dpt).foldl max ((l.map dpt).foldl max 0)):=uh HR
        generalize (l.map dpt).foldl max 0=m0 at hd2 HR2 ⊢
        have HB1:=HB
        clear HB I1 HDL
        go_upto_region 11 with fail
        clear y0 y1 y2 y3 y4 y5 y6 y7
        go_wp2
        go_loopw [4,7] (fun mv iv wr'=>∃ (i:Nat),iv=.int .i64 (i:Int)∧i≤f.length∧mv=.int .i64 (((((f.map Prod.snd).take i).map dpt).foldl max m0:Nat):Int)∧Hid (Below W2.heap.size W2 wr')) (fun _ iv _=>f.length - (intOf iv).toNat)
        case atStart=>exact ⟨0,rfl,by omega,rfl,HB1⟩
        case round =>
         obtain ⟨i,rfl,hi,rfl,HB⟩:=hrel
         obtain ⟨y0,y1,y2,y3,y4,y5,y6,y7⟩:=((uh X2).keep (uh HB) (uh Z2)).cells
         by_cases hc:i < f.length
         · have hi1:(i:Int) < (f.length:Int):=by omega
           have hi0:(0:Int)≤(i:Int):=by omega
           obtain ⟨ad,nm,e,q0,q1,q2,q3,q4,q5,q6,q7,rfl,hev,hvr,hat⟩:=((uh V2).keep (uh HB)).fl i hc
           obtain ⟨x8,x0,x1,x2,x3,x4,x5,x6,x7⟩:=cells9 hat
           have hev2:(f.map Prod.snd)[i]?=some e:=by rw [List.getElem?_map,hev];rfl
           have hem:=List.mem_of_getElem? hev2
           have CI:=hide (uh I2 e hem _ wr hvr)
           have HM:=hide (fold_snoc (f.map Prod.snd) i e m0 hev2)
           have hd1:=uh HDF e hem
           have hd3:=fold_take (f.map Prod.snd) i m0 hd2 (uh HDF)
           generalize hgm:(((f.map Prod.snd).take i).map dpt).foldl max m0=mo at hd3 HM ⊢
           generalize dpt e=de at hd1 HM CI ⊢
           clear hat hvr hev hev2 hem hgm
           go_upto_region 15 with (go_at_call 24;refine (uh CI).mono ?_;rintro r u2 ⟨rfl,b2⟩)
           clear CI x0 x1 x2 x3 x4 x5 x6 x7 x8
           have HB2:=hide ((uh HB).trans (b2.mono (uh HB).size))
           clear b2
           by_cases hgt:mo < de
           · have hgz:(mo:Int) < (de:Int):=by omega
             have hmx:max mo de=de:=by omega
             go_wp2
             refine ⟨⟨i+1,by go_num,by omega,?_,HB2⟩,by simp [intOf];omega⟩
             rw [uh HM,hmx]
           · have hgz:¬ (mo:Int) < (de:Int):=by omega
             have hmx:max mo de=mo:=by omega
             go_wp2
             refine ⟨⟨i+1,by go_num,by omega,?_,HB2⟩,by simp [intOf];omega⟩
             rw [uh HM,hmx]
         · obtain rfl:i=f.length:=by omega
           have hno:¬ (f.length:Int) < (f.length:Int):=by omega
           rw [List.take_of_length_le (by rw [List.length_map];exact Nat.le_refl _)]
           have hd3:=fold_le (n:=1000000000) ((f.map Prod.snd).map dpt) m0 hd2 (fun x hx=>by obtain ⟨v,hv,rfl⟩:=List.mem_map.1 hx;exact uh HDF v hv)
           generalize ((f.map Prod.snd).map dpt).foldl max m0=m1 at hd3 HR2 ⊢
           go_wp2
           go_ret
           refine ⟨?_,(uh BW2).trans ((uh HB).mono (uh BW2).size)⟩
           rw [uh HR2]
           first|rfl|(congr 2;omega)|go_num
   · go_upto_region 5 with fail
     clear y0 y1 y2 y3 y4 y5 y6 y7
     go_wp2
     go_loopw [4,5] (fun mv iv wr=>∃ (i:Nat),iv=.int .i64 (i:Int)∧i≤l.length∧mv=.int .i64 ((((l.take i).map dpt).foldl max 0:Nat):Int)∧Hid (Below W2.heap.size W2 wr)) (fun _ iv _=>l.length - (intOf iv).toNat)
     case atStart=>exact ⟨0,rfl,by omega,rfl,Below.refl _ _⟩
     case round =>
      obtain ⟨i,rfl,hi,rfl,HB⟩:=hrel
      obtain ⟨y0,y1,y2,y3,y4,y5,y6,y7⟩:=((uh X2).keep (uh HB) (uh Z2)).cells
      by_cases hc:i < l.length
      · have hi1:(i:Int) < (l.length:Int):=by omega
        have hi0:(0:Int)≤(i:Int):=by omega
        obtain ⟨ad,e,q0,q1,q2,q3,q4,q5,q6,q7,rfl,hev,hvr,hat⟩:=((uh V2).keep (uh HB)).el i hc
        obtain ⟨x0,x1,x2,x3,x4,x5,x6,x7⟩:=cells8 hat
        have hem:=List.mem_of_getElem? hev
        have CI:=hide (uh I1 e hem _ wr hvr)
        have HM:=hide (fold_snoc l i e 0 hev)
        have hd1:=uh HDL e hem
        have hd2:=fold_take l i 0 (Nat.zero_le _) (uh HDL)
        generalize hgm:((l.take i).map dpt).foldl max 0=mo at hd2 HM ⊢
        generalize dpt e=de at hd1 HM CI ⊢
        clear hat hvr hev hem hgm
        go_upto_region 9 with (go_at_call 24;refine (uh CI).mono ?_;rintro r u2 ⟨rfl,b2⟩)
        clear CI x0 x1 x2 x3 x4 x5 x6 x7
        have HB2:=hide ((uh HB).trans (b2.mono (uh HB).size))
        clear b2
        by_cases hgt:mo < de
        · have hgz:(mo:Int) < (de:Int):=by omega
          have hmx:max mo de=de:=by omega
          go_wp2
          refine ⟨⟨i+1,by go_num,by omega,?_,HB2⟩,by simp [intOf];omega⟩
          rw [uh HM,hmx]
        · have hgz:¬ (mo:Int) < (de:Int):=by omega
          have hmx:max mo de=mo:=by omega
          go_wp2
          refine ⟨⟨i+1,by go_num,by omega,?_,HB2⟩,by simp [intOf];omega⟩
          rw [uh HM,hmx]
      · obtain rfl:i=l.length:=by omega
        have hno:¬ (l.length:Int) < (l.length:Int):=by omega
        rw [List.take_of_length_le (Nat.le_refl _)]
        have hd2:=fold_le (n:=1000000000) (l.map dpt) 0 (Nat.zero_le _) (fun x hx=>by obtain ⟨v,hv,rfl⟩:=List.mem_map.1 hx;exact uh HDL v hv)
        have HR2:Hid (res=1+((f.map Prod.snd).map dpt).foldl max ((l.map dpt).foldl max 0)):=uh HR
        generalize (l.map dpt).foldl max 0=m0 at hd2 HR2 ⊢
        have HB1:=HB
        clear HB I1 HDL
        go_upto_region 11 with fail
        clear y0 y1 y2 y3 y4 y5 y6 y7
        go_wp2
        go_loopw [4,7] (fun mv iv wr'=>∃ (i:Nat),iv=.int .i64 (i:Int)∧i≤f.length∧mv=.int .i64 (((((f.map Prod.snd).take i).map dpt).foldl max m0:Nat):Int)∧Hid (Below W2.heap.size W2 wr')) (fun _ iv _=>f.length - (intOf iv).toNat)
        case atStart=>exact ⟨0,rfl,by omega,rfl,HB1⟩
        case round =>
         obtain ⟨i,rfl,hi,rfl,HB⟩:=hrel
         obtain ⟨y0,y1,y2,y3,y4,y5,y6,y7⟩:=((uh X2).keep (uh HB) (uh Z2)).cells
         by_cases hc:i < f.length
         · have hi1:(i:Int) < (f.length:Int):=by omega
           have hi0:(0:Int)≤(i:Int):=by omega
           obtain ⟨ad,nm,e,q0,q1,q2,q3,q4,q5,q6,q7,rfl,hev,hvr,hat⟩:=((uh V2).keep (uh HB)).fl i hc
           obtain ⟨x8,x0,x1,x2,x3,x4,x5,x6,x7⟩:=cells9 hat
           have hev2:(f.map Prod.snd)[i]?=some e:=by rw [List.getElem?_map,hev];rfl
           have hem:=List.mem_of_getElem? hev2
           have CI:=hide (uh I2 e hem _ wr hvr)
           have HM:=hide (fold_snoc (f.map Prod.snd) i e m0 hev2)
           have hd1:=uh HDF e hem
           have hd3:=fold_take (f.map Prod.snd) i m0 hd2 (uh HDF)
           generalize hgm:(((f.map Prod.snd).take i).map dpt).foldl max m0=mo at hd3 HM ⊢
           generalize dpt e=de at hd1 HM CI ⊢
           clear hat hvr hev hev2 hem hgm
           go_upto_region 15 with (go_at_call 24;refine (uh CI).mono ?_;rintro r u2 ⟨rfl,b2⟩)
           clear CI x0 x1 x2 x3 x4 x5 x6 x7 x8
           have HB2:=hide ((uh HB).trans (b2.mono (uh HB).size))
           clear b2
           by_cases hgt:mo < de
           · have hgz:(mo:Int) < (de:Int):=by omega
             have hmx:max mo de=de:=by omega
             go_wp2
             refine ⟨⟨i+1,by go_num,by omega,?_,HB2⟩,by simp [intOf];omega⟩
             rw [uh HM,hmx]
           · have hgz:¬ (mo:Int) < (de:Int):=by omega
             have hmx:max mo de=mo:=by omega
             go_wp2
             refine ⟨⟨i+1,by go_num,by omega,?_,HB2⟩,by simp [intOf];omega⟩
             rw [uh HM,hmx]
         · obtain rfl:i=f.length:=by omega
           have hno:¬ (f.length:Int) < (f.length:Int):=by omega
           rw [List.take_of_length_le (by rw [List.length_map];exact Nat.le_refl _)]
           have hd3:=fold_le (n:=1000000000) ((f.map Prod.snd).map dpt) m0 hd2 (fun x hx=>by obtain ⟨v,hv,rfl⟩:=List.mem_map.1 hx;exact uh HDF v hv)
           generalize ((f.map Prod.snd).map dpt).foldl max m0=m1 at hd3 HR2 ⊢
           go_wp2
           go_ret
           refine ⟨?_,(uh BW2).trans ((uh HB).mono (uh BW2).size)⟩
           rw [uh HR2]
           first|rfl|(congr 2;omega)|go_num
 · have hr:res=0:=by rw [uh HRES,if_neg hk]
   subst hr
   have k4:(k != 4)=true:=by simp;omega
   have k5:(k != 5)=true:=by simp;omega
   clear hk
   go_wp2
   go_ret
   exact ⟨rfl,uh BW2⟩
theorem rdepth_any:∀ (n:Nat),n≤1000000000→∀ (v:JT),Bd v→Pf n (nrm v)→∀ (cs:List Value) (w:World),VR w v cs→Calls Tryz.prog 24 #[.agg cs.toArray] w (fun r w'=>r=.returned (.int .i64 (dpt (nrm v):Int))∧Below w.heap.size w w'):=by
 intro n
 induction n with
 | zero =>
   intro _ v hb hp cs w h
   generalize hx:nrm v=x at hp ⊢
   cases hp with
   | null=>exact rdepth_step v 0 _ _ _ [] [] hx hb (by simp) (by simp) (by simp) (by simp) cs w h _ (by unfold leaf;rw [dpt_mk];rfl) (by simp) (by simp)
   | truth=>exact rdepth_step v 1 _ _ _ [] [] hx hb (by simp) (by simp) (by simp) (by simp) cs w h _ (by unfold leaf;rw [dpt_mk];rfl) (by simp) (by simp)
   | num=>exact rdepth_step v 2 _ _ _ [] [] hx hb (by simp) (by simp) (by simp) (by simp) cs w h _ (by unfold leaf;rw [dpt_mk];rfl) (by simp) (by simp)
   | text=>exact rdepth_step v 3 _ _ _ [] [] hx hb (by simp) (by simp) (by simp) (by simp) cs w h _ (by unfold leaf;rw [dpt_mk];rfl) (by simp) (by simp)
 | succ n ih =>
   intro hn v hb hp cs w h
   have step:∀ e,Pf n e→∀ (cs:List Value) (u:World),VR u e cs→Calls Tryz.prog 24 #[.agg cs.toArray] u (fun r w'=>r=.returned (.int .i64 (dpt e:Int))∧Below u.heap.size u w'):=fun e he cs u hu=>by
    have:=ih (by omega) e (pf_bd he) (by rw [pf_nrm he];exact he) cs u hu
    rw [pf_nrm he] at this
    exact this
   have dle:∀ e,Pf n e→dpt e≤1000000000:=fun e he=>by have:=pf_dpt he;omega
   generalize hx:nrm v=x at hp ⊢
   cases hp with
   | null=>exact rdepth_step v 0 _ _ _ [] [] hx hb (by simp) (by simp) (by simp) (by simp) cs w h _ (by unfold leaf;rw [dpt_mk];rfl) (by simp) (by simp)
   | truth=>exact rdepth_step v 1 _ _ _ [] [] hx hb (by simp) (by simp) (by simp) (by simp) cs w h _ (by unfold leaf;rw [dpt_mk];rfl) (by simp) (by simp)
   | num=>exact rdepth_step v 2 _ _ _ [] [] hx hb (by simp) (by simp) (by simp) (by simp) cs w h _ (by unfold leaf;rw [dpt_mk];rfl) (by simp) (by simp)
   | text=>exact rdepth_step v 3 _ _ _ [] [] hx hb (by simp) (by simp) (by simp) (by simp) cs w h _ (by unfold leaf;rw [dpt_mk];rfl) (by simp) (by simp)
   | @list _ l hl hz=>exact rdepth_step v 4 _ _ _ l [] hx hb (by omega) (by simp) (fun e he=>dle e (hl e he)) (by simp) cs w h _ (by rw [dpt_mk];rfl) (fun e he=>step e (hl e he)) (by simp)
   | @obj _ f hnm hr hf hz =>
     have ec:cnt f=f:=by unfold cnt;rw [pf_cl hnm,jn.puts_ris f hr]
     have hf2:∀ e∈f.map Prod.snd,Pf n e:=fun e he=>by obtain ⟨p,hp,rfl⟩:=List.mem_map.1 he;exact hf p hp
     exact rdepth_step v 5 _ _ _ [] f hx hb (by simp) (by omega) (by simp) (fun e he=>dle e (hf2 e he)) cs w h _ (by rw [dpt_mk,ec];rfl) (by simp) (fun e he=>step e (hf2 e he))
theorem boxF_two (w:World) (ca cb:List Value):FX ((w.alloc (.cells ca.toArray 62)).alloc (.cells cb.toArray 62)) w.heap.size ca∧FX ((w.alloc (.cells ca.toArray 62)).alloc (.cells cb.toArray 62)) (w.heap.size+1) cb ∧
 Below w.heap.size w ((w.alloc (.cells ca.toArray 62)).alloc (.cells cb.toArray 62)):=by
 refine ⟨?_,?_,((Below.refl w.heap.size w).alloc (Nat.le_refl _) _).alloc (by simp) _⟩
 · unfold FX
   rw [Below.heap_alloc _ _ _ (by simp)];exact heap_alloc_new w _
 · have:=heap_alloc_new (w.alloc (.cells ca.toArray 62)) (.cells cb.toArray 62)
   rwa [World.size_alloc] at this
theorem vr_lens {w:World}{k:Int}{t:Bool}{d:Dn}{x:ByteArray}{l:List JT}{f:List (ByteArray × JT)}{cs:List Value} (h:VR w (JT.mk k t d x l f) cs):l.length≤maxLen∧f.length≤maxLen:=by
 cases h with
 | mk hl hf _ _ _ _ =>
   obtain ⟨_,_,_,q1,q2⟩:=mm.SV.form hl
   obtain ⟨_,_,_,q3,q4⟩:=mm.SV.form hf
   exact ⟨by omega,by omega⟩
set_option maxHeartbeats 6400000 in
set_option maxRecDepth 1000000 in
theorem same1_any (nb fb:Nat) (nm:ByteArray) (v:JT) (nm':ByteArray) (v':JT) (H:SmC nb fb v v'):SfC nb fb nm v nm' v':=by
 intro c c' w ha hb h1 h2
 obtain ⟨a0,a1,a2,a3,a4,a5,a6,a7,a8,a9,aa,ab,rfl⟩:=ha.form
 obtain ⟨b0,b1,b2,b3,b4,b5,b6,b7,b8,b9,ba,bb,rfl⟩:=hb.form
 have CL:=hide (fun u (hu:Below w.heap.size w u)=>H _ _ u (ha.keep hu) (hb.keep hu) (kc hu h1) (kc hu h2))
 have B2:=hide (boxF_two w [.string nm,.int .i64 a0,.bool a1,.bool a2,.string a3,.int .i64 a4,.string a5,.slice a6 a7 a8,.slice a9 aa ab] [.string nm',.int .i64 b0,.bool b1,.bool b2,.string b3,.int .i64 b4,.string b5,.slice b6 b7 b8,.slice b9 ba bb])
 have H1:=hide h1
 clear ha hb h1 h2 H
 go_enter Tryz.func59,Tryz.ntmps59
 go_upto_region 1 with fail
 obtain ⟨q0,q1,q2⟩:=uh B2
 generalize (w.alloc (.cells [.string nm,.int .i64 a0,.bool a1,.bool a2,.string a3,.int .i64 a4,.string a5,.slice a6 a7 a8,.slice a9 aa ab].toArray 62)).alloc (.cells [.string nm',.int .i64 b0,.bool b1,.bool b2,.string b3,.int .i64 b4,.string b5,.slice b6 b7 b8,.slice b9 ba bb].toArray 62)=W at *
 obtain ⟨y0,y1,y2,y3,y4,y5,y6,y7,y8⟩:=q0.cells
 obtain ⟨z0,z1,z2,z3,z4,z5,z6,z7,z8⟩:=q1.cells
 have n1:=kc q2 (uh H1)
 unfold smV at n1
 have CW:=hide (uh CL W q2)
 have HB:=hide q2
 clear q0 q1 q2 B2 CL
 have eg:=enter_same2
 by_cases e:nm=nm'
 · subst e
   go_wp2_with (go_at_call 60;refine (uh CW).mono ?_;rintro e u4 ⟨bb,rfl,hbb,hb5⟩)
   go_ret
   exact ⟨bb,rfl,by simpa using hbb,(uh HB).trans (hb5.mono (uh HB).size)⟩
 · have e':¬ nm.toList=nm'.toList:=fun q=>e (ba_inj q)
   go_wp2
   go_ret
   exact ⟨false,rfl,by simp [e],uh HB⟩
set_option maxHeartbeats 25600000 in
set_option maxRecDepth 1000000 in
theorem same2_any (nb fb:Nat) (n:Nat):∀ v v',SizeOf.sizeOf v < n→SmC nb fb v v':=by
 induction n with
 | zero=>intro v v' h;omega
 | succ n IH =>
   intro v v' hn c c' w ha hb h1 h2
   cases v with
   | mk k t d x l f =>
     cases v' with
     | mk k' t' d' x' l' f' =>
       obtain ⟨oa,ca,of,cf,rfl⟩:=ha.parts
       obtain ⟨ob,cb,og,cg,rfl⟩:=hb.parts
       obtain ⟨hml,hmf⟩:=vr_lens ha
       obtain ⟨dn,dg,dx⟩:=d
       obtain ⟨dn',dg',dx'⟩:=d'
       have C1:=hide (fun u (hu:Below w.heap.size w u)=>eqV_any (ha.keep hu) (hb.keep hu) (kc hu h1) (kc hu h2) hml (fun v hv v'=>IH v v' (by have:=sz_l (k:=k) (t:=t) (d:=⟨dn,dg,dx⟩) (x:=x) (f:=f) hv;omega)))
       have C2:=hide (fun u (hu:Below w.heap.size w u)=>eqF_any (ha.keep hu) (hb.keep hu) (kc hu h1) (kc hu h2) hmf (fun nm v hv nm' v'=>same1_any nb fb nm v nm' v' (IH v v' (by have:=sz_f (k:=k) (t:=t) (d:=⟨dn,dg,dx⟩) (x:=x) (l:=l) hv;simp only at this;omega))))
       have B2:=hide (box_two w [.int .i64 k,.bool t,.bool dn,.string dg,.int .i64 dx,.string x,.slice oa l.length ca,.slice of f.length cf] [.int .i64 k',.bool t',.bool dn',.string dg',.int .i64 dx',.string x',.slice ob l'.length cb,.slice og f'.length cg])
       have H1:=hide h1
       have H2:=hide h2
       unfold smV at C1
       unfold smFV at C2
       clear ha hb h1 h2 IH hn hml hmf
       go_enter Tryz.func60,Tryz.ntmps60
       go_upto_region 1 with fail
       obtain ⟨q0,q1,q2⟩:=uh B2
       generalize (w.alloc (.cells [.int .i64 k,.bool t,.bool dn,.string dg,.int .i64 dx,.string x,.slice oa l.length ca,.slice of f.length cf].toArray 27)).alloc (.cells [.int .i64 k',.bool t',.bool dn',.string dg',.int .i64 dx',.string x',.slice ob l'.length cb,.slice og f'.length cg].toArray 27)=W at *
       obtain ⟨y0,y1,y2,y3,y4,y5,y6,y7⟩:=q0.cells
       obtain ⟨z0,z1,z2,z3,z4,z5,z6,z7⟩:=q1.cells
       have n1:=kc q2 (uh H1)
       have n2:=kc q2 (uh H2)
       unfold smV at n1
       unfold smFV at n2
       have CW:=hide (uh C1 W q2)
       have HB:=hide q2
       have X0:=hide q0
       have X1:=hide q1
       clear q0 q1 q2 B2 C1
       by_cases e1:k=k'
       · subst e1
         by_cases e2:t=t'
         · subst e2
           by_cases e3:dn=dn'
           · subst e3
             by_cases e4:dg=dg'
             · subst e4
               by_cases e5:dx=dx'
               · subst e5
                 by_cases e6:x=x'
                 · subst e6
                   go_wp2_with (first
                    | (go_at_call 61;refine (uh CW).mono ?_;rintro e u1 ⟨b1,rfl,hb1,hl1⟩
                       have HB1:=hide hb1
                       have HL1:=hide ((uh HB).trans (hl1.mono (uh HB).size))
                       have CF:=hide (uh C2 u1 (uh HL1))
                       obtain ⟨y0,y1,y2,y3,y4,y5,y6,y7⟩:=((uh X0).keep hl1 (blk_lt (uh X0))).cells
                       obtain ⟨z0,z1,z2,z3,z4,z5,z6,z7⟩:=((uh X1).keep hl1 (blk_lt (uh X1))).cells
                       have n2:=kc (uh HL1) (uh H2)
                       unfold smFV at n2
                       clear hb1 hl1 CW
                       cases b1)
                    | (go_at_call 62;refine (uh CF).mono ?_;rintro e u2 ⟨b2,rfl,hb2,hl2⟩
                       have HB2:=hide hb2
                       have HL2:=hide ((uh HL1).trans (hl2.mono (uh HL1).size))
                       clear hb2 hl2 CF))
                   · go_ret
                     refine ⟨false,rfl,?_,uh HL1⟩
                     simp only [Bool.false_eq_true,false_iff,JT.mk.injEq]
                     rintro ⟨_,_,_,_,q,_⟩
                     have:=(uh HB1).2 q
                     cases this
                   · go_ret
                     refine ⟨b2,rfl,?_,uh HL2⟩
                     rw [uh HB2]
                     simp only [JT.mk.injEq,true_and]
                     exact ⟨fun q=>⟨(uh HB1).1 (by simp),q⟩,fun q=>q.2⟩
                 · have e6':¬ x.toList=x'.toList:=fun q=>e6 (ba_inj q)
                   go_wp2
                   go_ret
                   exact ⟨false,rfl,by simp [e6],uh HB⟩
               · go_wp2
                 go_ret
                 exact ⟨false,rfl,by simp [e5],uh HB⟩
             · have e4':¬ dg.toList=dg'.toList:=fun q=>e4 (ba_inj q)
               go_wp2
               go_ret
               exact ⟨false,rfl,by simp [e4],uh HB⟩
           · go_wp2
             go_ret
             exact ⟨false,rfl,by simp [e3],uh HB⟩
         · go_wp2
           go_ret
           exact ⟨false,rfl,by simp [e2],uh HB⟩
       · go_wp2
         go_ret
         exact ⟨false,rfl,by simp [e1],uh HB⟩
set_option maxHeartbeats 6400000 in
set_option maxRecDepth 1000000 in
theorem jsame_any (va vb:JT) (ba:Bd va) (bb:Bd vb) (ga:Gd va) (gb:Gd vb) (ca cb:List Value) (w:World) (ha:VR w va ca) (hb:VR w vb cb) :
 Calls Tryz.prog 26 #[.agg ca.toArray,.agg cb.toArray] w (EQP w (nrm va=nrm vb)):=by
 obtain ⟨a0,a1,a2,a3,a4,a5,a6,a7,a8,a9,aa,ab,rfl⟩:=ha.form
 obtain ⟨b0,b1,b2,b3,b4,b5,b6,b7,b8,b9,ba',bb',rfl⟩:=hb.form
 have HA:=hide (fun u (hu:Below w.heap.size w u)=>jnorm_any va ba ga _ u (ha.keep hu))
 have HB:=hide (fun u (hu:Below w.heap.size w u)=>jnorm_any vb bb gb _ u (hb.keep hu))
 generalize nrm va=na at *
 generalize nrm vb=nb at *
 have SW:=hide (same_world w [.int .i64 a0,.bool a1,.bool a2,.string a3,.int .i64 a4,.string a5,.slice a6 a7 a8,.slice a9 aa ab] [.int .i64 b0,.bool b1,.bool b2,.string b3,.int .i64 b4,.string b5,.slice b6 b7 b8,.slice b9 ba' bb'] 42 83)
 have CZ:=hide (fun (n:Nat) (c c':List Value) (u:World) (h1:VR u na c) (h2:VR u nb c') h3 h4=>same2_any n (n+1) _ na nb (Nat.lt_succ_self _) c c' u h1 h2 h3 h4)
 unfold smV smFV at SW
 clear ba bb ga gb ha hb
 go_enter Tryz.func26,Tryz.ntmps26
 go_upto_region 4 with fail
 obtain ⟨r1,r2,r3,r4,r5,r6⟩:=uh SW _ rfl
 generalize (((w.alloc (.cells [.int .i64 a0,.bool a1,.bool a2,.string a3,.int .i64 a4,.string a5,.slice a6 a7 a8,.slice a9 aa ab].toArray 27)).alloc (.cells [.int .i64 b0,.bool b1,.bool b2,.string b3,.int .i64 b4,.string b5,.slice b6 b7 b8,.slice b9 ba' bb'].toArray 27)).alloc (.cells #[.func (.func 60) #[] #[.pointer (some ⟨w.heap.size+1+1,0,none⟩),.pointer (some ⟨w.heap.size+1+1+1,0,none⟩)]] 42)).alloc (.cells #[.func (.func 59) #[] #[.pointer (some ⟨w.heap.size+1+1,0,none⟩)]] 83)=W at *
 obtain ⟨y0,y1,y2,y3,y4,y5,y6,y7⟩:=r1.cells
 obtain ⟨z0,z1,z2,z3,z4,z5,z6,z7⟩:=r2.cells
 have hdr:Below W.heap.size W W.drew:=⟨rfl,rfl,rfl,Nat.le_refl _,fun _ _=>rfl⟩
 have CA:=hide (uh HA W.drew (r6.trans (hdr.mono (by omega))))
 have CBB:=hide (fun u (hu:Below W.heap.size W u)=>uh HB u (r6.trans (hu.mono (by omega))))
 have R2:=hide r2
 have R3:=hide r3
 have R4:=hide r4
 have R5:=hide r5
 have R6:=hide r6
 have eg:=enter_same2
 clear r1 r2 r4 r5 r6 hdr SW HA HB
 go_region_law (first
  | (go_simp;go_at_call 15;refine (uh CA).mono ?_;rintro e u2 ⟨cs,pp,rfl,hr,hpn,hbl2⟩
     have hb3:Below W.heap.size W u2:=⟨hbl2.os,hbl2.tape,hbl2.output,hbl2.size,hbl2.block⟩
     have HR:=hide hr.vr
     obtain ⟨c0,c1,c2,c3,c4,c5,c6,c7,c8,c9,ca,cb,rfl⟩:=hr.vr.form
     have n2:=kc hb3 (uh R3)
     obtain ⟨x0,x1,x2,x3,x4,x5,x6,x7⟩:=((uh R2).keep hb3 (by have:=uh R5;omega)).cells
     have CB:=hide (uh CBB u2 hb3))
  | (go_simp;go_at_call 15;refine (uh CB).mono ?_;rintro e u3 ⟨cs',pp',rfl,hr',hpn',hbl3⟩
     have hb4:Below W.heap.size W u3:=hb3.trans (hbl3.mono hb3.size)
     have n3:=kc hb4 (uh R3)
     have CS:=hide (uh CZ _ _ _ u3 ((uh HR).keep hbl3) hr'.vr (kc hb4 (uh R3)) (kc hb4 (uh R4))))
  | (go_simp;go_at_call 60;refine (uh CS).mono ?_;rintro e u4 ⟨bz,rfl,hbz,hb5⟩))
 all_goals clear y0 y1 y2 y3 y4 y5 y6 y7 z0 z1 z2 z3 z4 z5 z6 z7 r3
 all_goals
  go_wp2
  go_ret
  have hz:=uh R5
  exact ⟨bz,rfl,hbz,(uh R6).trans ((hb4.mono (by omega)).trans (hb5.mono (by have:=hb4.size;omega)))⟩
end Go.Proofs.YthakglomacijgaaGreatDoor.rd
