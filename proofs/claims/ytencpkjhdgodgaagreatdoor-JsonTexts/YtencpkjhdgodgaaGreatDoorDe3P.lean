/- Texts in one: De3 Wr Wr2 -/
import Derived.Test.YtencpkjhdgodgaaGreatDoorPtP
import Derived.Test.YtencpkjhdgodgaaGreatDoorPwP
import Derived.Test.YtencpkjhdgodgaaGreatDoorScP
namespace Go.Proofs.YtencpkjhdgodgaaGreatDoor.rd
open Go.RowKit
theorem fold_snoc (l:List JT) (i:Nat) (v:JT) (m:Nat) (h:l[i]?=some v):((l.take (i+1)).map dpt).foldl max m=max (((l.take i).map dpt).foldl max m) (dpt v):=by
 rw [take_succ' h,List.map_append,List.foldl_append]
 rfl
theorem fold_take {n:Nat} (l:List JT) (i m:Nat) (hm:m≤n) (h:∀ v∈l,dpt v≤n):((l.take i).map dpt).foldl max m≤n :=
 fold_le _ m hm fun x hx=>by
  obtain ⟨v,hv,rfl⟩:=List.mem_map.1 hx
  exact h v (List.mem_of_mem_take hv)
theorem VR.parts {w:World}{k:Int}{t:Bool}{d:Dn}{x:ByteArray}{l:List JT}{f:List (ByteArray × JT)}{cs:List Value} (h:VR w (JT.mk k t d x l f) cs):∃ oa ca ob cb,cs=[.int .i64 k,.bool t,.bool d.neg,.string d.dg,.int .i64 d.ex,.string x,.slice oa l.length ca,.slice ob f.length cb]:=by
 cases h with
 | @mk k t d x l f lv fv css gss hl hf h1 h3 hle hfe =>
   obtain ⟨oa,c,rfl,_⟩:=mm.SV.form hl
   obtain ⟨ob,c',rfl,_⟩:=mm.SV.form hf
   exact ⟨oa,c,ob,c',rfl⟩
def dpL (l:List JT) (f:List (ByteArray × JT)):Nat:=((f.map Prod.snd).map dpt).foldl max ((l.map dpt).foldl max 0)
set_option maxRecDepth 1000000 in
set_option maxHeartbeats 3200000 in
theorem rdepth_step (v:JT) (k:Int) (t:Bool) (d:Dn) (xx:ByteArray) (l:List JT) (f:List (ByteArray × JT)) (hx:nrm v=JT.mk k t d xx l f) (hbv:Bd v) (hnl:l.length≤1000000000) (hnf:f.length≤1000000000)
 (hdl:∀ e∈l,dpt e≤1000000000) (hdf:∀ e∈f.map Prod.snd,dpt e≤1000000000) (cs:List Value) (w:World) (h:VR w v cs) (res:Nat) (hres:res=if k=4∨k=5 then 1+dpL l f else 0)
 (IHl:∀ e∈l,∀ (cs:List Value) (u:World),VR u e cs→Calls Tryz.prog 31 #[.agg cs.toArray] u (fun r w'=>r=.returned (.int .i64 (dpt e:Int))∧Below u.heap.size u w'))
 (IHf:∀ e∈f.map Prod.snd,∀ (cs:List Value) (u:World),VR u e cs→Calls Tryz.prog 31 #[.agg cs.toArray] u (fun r w'=>r=.returned (.int .i64 (dpt e:Int))∧Below u.heap.size u w')) :
 Calls Tryz.prog 31 #[.agg cs.toArray] w (fun r w'=>r=.returned (.int .i64 (res:Int))∧Below w.heap.size w w'):=by
 obtain ⟨a0,a1,a2,a3,a4,a5,a6,a7,rfl⟩:=h.eight
 obtain ⟨x0,l0,_,z0⟩:=boxE w [a0,a1,a2,a3,a4,a5,a6,a7] _ w (Below.refl _ w) (Nat.le_refl _) _ rfl
 have C1:=hide (rnrm_any _ v [a0,a1,a2,a3,a4,a5,a6,a7] _ (Nat.lt_succ_self _) hbv (h.keep l0))
 have HL0:=hide l0
 have HRES:=hide hres
 have HDL:=hide hdl
 have HDF:=hide hdf
 have I1:=hide IHl
 have I2:=hide IHf
 rw [hx] at C1
 clear h hbv hx l0 hres hdl hdf IHl IHf
 have hW0:=World.size_alloc w (.cells [a0,a1,a2,a3,a4,a5,a6,a7].toArray 28)
 obtain ⟨c0,c1,c2,c3,c4,c5,c6,c7⟩:=x0.cells
 have HW0:=hide hW0
 clear hW0
 go_enter Tryz.func31,Tryz.ntmps31
 go_upto_region 2 with (go_at_call 30;refine (uh C1).mono ?_;rintro e u1 ⟨cs1,p1,rfl,v1,n1,b1⟩
                        obtain ⟨oa,ca,ob,cb,rfl⟩:=v1.vr.parts
                        clear C1)
 clear c0 c1 c2 c3 c4 c5 c6 c7 n1
 have bw1:Below w.heap.size w u1:=(uh HL0).trans (b1.mono (Nat.le_of_lt z0))
 obtain ⟨dn,dg,dx⟩:=d
 obtain ⟨x2,l2,bW2,z2⟩:=boxE u1 [.int .i64 k,.bool t,.bool dn,.string dg,.int .i64 dx,.string xx,.slice oa l.length ca,.slice ob f.length cb] _ _ bw1 bw1.size _ rfl
 generalize u1.alloc (.cells [.int .i64 k,.bool t,.bool dn,.string dg,.int .i64 dx,.string xx,.slice oa l.length ca,.slice ob f.length cb].toArray 28)=W2 at *
 have V2:=hide (v1.vr.keep l2)
 have X2:=hide x2
 have Z2:=hide z2
 have BW2:=hide bW2
 generalize u1.heap.size=m at *
 clear v1 b1 bw1 l2 bW2 HL0 HW0 z0 x0
 obtain ⟨y0,y1,y2,y3,y4,y5,y6,y7⟩:=x2.cells
 clear x2 z2
 by_cases hk:k=4∨k=5
 · have hr:res=1+dpL l f:=by rw [uh HRES,if_pos hk]
   have HR:=hide hr
   clear hr HRES
   rcases hk with rfl|rfl
   · go_upto_region 5 with fail
     clear y0 y1 y2 y3 y4 y5 y6 y7
     go_wp2
     go_loopw [4,5] (fun mv iv wr=>∃ (i:Nat),iv=.int .i64 (i:Int)∧i≤l.length∧mv=.int .i64 ((((l.take i).map dpt).foldl max 0:Nat):Int)∧Hid (Below W2.heap.size W2 wr)) (fun _ iv _=>l.length - (intOf iv).toNat)
     case atStart=>exact ⟨0,rfl,by omega,rfl,Below.refl _ _⟩
     case round =>
      obtain ⟨i,rfl,hi,rfl,HB⟩:=hrel
      obtain ⟨y0,y1,y2,y3,y4,y5,y6,y7⟩:=((uh X2).keep (uh HB) (uh Z2)).cells
      by_cases hc:i < l.length
      · have hi1:(i:Int) < (l.length:Int):=by omega
        have hi0:(0:Int)≤(i:Int):=by omega
        obtain ⟨ad,e,q0,q1,q2,q3,q4,q5,q6,q7,rfl,hev,hvr,hat⟩:=((uh V2).keep (uh HB)).el i hc
        obtain ⟨x0,x1,x2,x3,x4,x5,x6,x7⟩:=cells8 hat
        have hem:=List.mem_of_getElem? hev
        have CI:=hide (uh I1 e hem _ wr hvr)
        have HM:=hide (fold_snoc l i e 0 hev)
        have hd1:=uh HDL e hem
        have hd2:=fold_take l i 0 (Nat.zero_le _) (uh HDL)
        generalize hgm:((l.take i).map dpt).foldl max 0=mo at hd2 HM ⊢
        generalize dpt e=de at hd1 HM CI ⊢
        clear hat hvr hev hem hgm
        go_upto_region 9 with (go_at_call 31;refine (uh CI).mono ?_;rintro r u2 ⟨rfl,b2⟩)
        clear CI x0 x1 x2 x3 x4 x5 x6 x7
        have HB2:=hide ((uh HB).trans (b2.mono (uh HB).size))
        clear b2
        by_cases hgt:mo < de
        · have hgz:(mo:Int) < (de:Int):=by omega
          have hmx:max mo de=de:=by omega
          go_wp2
          refine ⟨⟨i+1,by go_num,by omega,?_,HB2⟩,by simp [intOf];omega⟩
          rw [uh HM,hmx]
        · have hgz:¬ (mo:Int) < (de:Int):=by omega
          have hmx:max mo de=mo:=by omega
          go_wp2
          refine ⟨⟨i+1,by go_num,by omega,?_,HB2⟩,by simp [intOf];omega⟩
          rw [uh HM,hmx]
      · obtain rfl:i=l.length:=by omega
        have hno:¬ (l.length:Int) < (l.length:Int):=by omega
        rw [List.take_of_length_le (Nat.le_refl _)]
        have hd2:=fold_le (n:=1000000000) (l.map dpt) 0 (Nat.zero_le _) (fun x hx=>by obtain ⟨v,hv,rfl⟩:=List.mem_map.1 hx;exact uh HDL v hv)
        have HR2:Hid (res=1+((f.map Prod.snd).map dpt).foldl max ((l.map dpt).foldl max 0)):=uh HR
        generalize (l.map dpt).foldl max 0=m0 at hd2 HR2 ⊢
        have HB1:=HB
        clear HB I1 HDL
        go_upto_region 11 with fail
        clear y0 y1 y2 y3 y4 y5 y6 y7
        go_wp2
        go_loopw [4,7] (fun mv iv wr'=>∃ (i:Nat),iv=.int .i64 (i:Int)∧i≤f.length∧mv=.int .i64 (((((f.map Prod.snd).take i).map dpt).foldl max m0:Nat):Int)∧Hid (Below W2.heap.size W2 wr')) (fun _ iv _=>f.length - (intOf iv).toNat)
        case atStart=>exact ⟨0,rfl,by omega,rfl,HB1⟩
        case round =>
         obtain ⟨i,rfl,hi,rfl,HB⟩:=hrel
         obtain ⟨y0,y1,y2,y3,y4,y5,y6,y7⟩:=((uh X2).keep (uh HB) (uh Z2)).cells
         by_cases hc:i < f.length
         · have hi1:(i:Int) < (f.length:Int):=by omega
           have hi0:(0:Int)≤(i:Int):=by omega
           obtain ⟨ad,nm,e,q0,q1,q2,q3,q4,q5,q6,q7,rfl,hev,hvr,hat⟩:=((uh V2).keep (uh HB)).fl i hc
           obtain ⟨x8,x0,x1,x2,x3,x4,x5,x6,x7⟩:=cells9 hat
           have hev2:(f.map Prod.snd)[i]?=some e:=by rw [List.getElem?_map,hev];rfl
           have hem:=List.mem_of_getElem? hev2
           have CI:=hide (uh I2 e hem _ wr hvr)
           have HM:=hide (fold_snoc (f.map Prod.snd) i e m0 hev2)
           have hd1:=uh HDF e hem
           have hd3:=fold_take (f.map Prod.snd) i m0 hd2 (uh HDF)
           generalize hgm:(((f.map Prod.snd).take i).map dpt).foldl max m0=mo at hd3 HM ⊢
           generalize dpt e=de at hd1 HM CI ⊢
           clear hat hvr hev hev2 hem hgm
           go_upto_region 15 with (go_at_call 31;refine (uh CI).mono ?_;rintro r u2 ⟨rfl,b2⟩)
           clear CI x0 x1 x2 x3 x4 x5 x6 x7 x8
           have HB2:=hide ((uh HB).trans (b2.mono (uh HB).size))
           clear b2
           by_cases hgt:mo < de
           · have hgz:(mo:Int) < (de:Int):=by omega
             have hmx:max mo de=de:=by omega
             go_wp2
             refine ⟨⟨i+1,by go_num,by omega,?_,HB2⟩,by simp [intOf];omega⟩
             rw [uh HM,hmx]
           · have hgz:¬ (mo:Int) < (de:Int):=by omega
             have hmx:max mo de=mo:=by omega
             go_wp2
             refine ⟨⟨i+1,by go_num,by omega,?_,HB2⟩,by simp [intOf];omega⟩
             rw [uh HM,hmx]
         · obtain rfl:i=f.length:=by omega
           have hno:¬ (f.length:Int) < (f.length:Int):=by omega
           rw [List.take_of_length_le (by rw [List.length_map];exact Nat.le_refl _)]
           have hd3:=fold_le (n:=1000000000) ((f.map Prod.snd).map dpt) m0 hd2 (fun x hx=>by obtain ⟨v,hv,rfl⟩:=List.mem_map.1 hx;exact uh HDF v hv)
           generalize ((f.map Prod.snd).map dpt).foldl max m0=m1 at hd3 HR2 ⊢
           go_wp2
           go_ret
           refine ⟨?_,(uh BW2).trans ((uh HB).mono (uh BW2).size)⟩
           rw [uh HR2]
           first|rfl|(congr 2;omega)|go_num
   · go_upto_region 5 with fail
     clear y0 y1 y2 y3 y4 y5 y6 y7
     go_wp2
     go_loopw [4,5] (fun mv iv wr=>∃ (i:Nat),iv=.int .i64 (i:Int)∧i≤l.length∧mv=.int .i64 ((((l.take i).map dpt).foldl max 0:Nat):Int)∧Hid (Below W2.heap.size W2 wr)) (fun _ iv _=>l.length - (intOf iv).toNat)
     case atStart=>exact ⟨0,rfl,by omega,rfl,Below.refl _ _⟩
     case round =>
      obtain ⟨i,rfl,hi,rfl,HB⟩:=hrel
      obtain ⟨y0,y1,y2,y3,y4,y5,y6,y7⟩:=((uh X2).keep (uh HB) (uh Z2)).cells
      by_cases hc:i < l.length
      · have hi1:(i:Int) < (l.length:Int):=by omega
        have hi0:(0:Int)≤(i:Int):=by omega
        obtain ⟨ad,e,q0,q1,q2,q3,q4,q5,q6,q7,rfl,hev,hvr,hat⟩:=((uh V2).keep (uh HB)).el i hc
        obtain ⟨x0,x1,x2,x3,x4,x5,x6,x7⟩:=cells8 hat
        have hem:=List.mem_of_getElem? hev
        have CI:=hide (uh I1 e hem _ wr hvr)
        have HM:=hide (fold_snoc l i e 0 hev)
        have hd1:=uh HDL e hem
        have hd2:=fold_take l i 0 (Nat.zero_le _) (uh HDL)
        generalize hgm:((l.take i).map dpt).foldl max 0=mo at hd2 HM ⊢
        generalize dpt e=de at hd1 HM CI ⊢
        clear hat hvr hev hem hgm
        go_upto_region 9 with (go_at_call 31;refine (uh CI).mono ?_;rintro r u2 ⟨rfl,b2⟩)
        clear CI x0 x1 x2 x3 x4 x5 x6 x7
        have HB2:=hide ((uh HB).trans (b2.mono (uh HB).size))
        clear b2
        by_cases hgt:mo < de
        · have hgz:(mo:Int) < (de:Int):=by omega
          have hmx:max mo de=de:=by omega
          go_wp2
          refine ⟨⟨i+1,by go_num,by omega,?_,HB2⟩,by simp [intOf];omega⟩
          rw [uh HM,hmx]
        · have hgz:¬ (mo:Int) < (de:Int):=by omega
          have hmx:max mo de=mo:=by omega
          go_wp2
          refine ⟨⟨i+1,by go_num,by omega,?_,HB2⟩,by simp [intOf];omega⟩
          rw [uh HM,hmx]
      · obtain rfl:i=l.length:=by omega
        have hno:¬ (l.length:Int) < (l.length:Int):=by omega
        rw [List.take_of_length_le (Nat.le_refl _)]
        have hd2:=fold_le (n:=1000000000) (l.map dpt) 0 (Nat.zero_le _) (fun x hx=>by obtain ⟨v,hv,rfl⟩:=List.mem_map.1 hx;exact uh HDL v hv)
        have HR2:Hid (res=1+((f.map Prod.snd).map dpt).foldl max ((l.map dpt).foldl max 0)):=uh HR
        generalize (l.map dpt).foldl max 0=m0 at hd2 HR2 ⊢
        have HB1:=HB
        clear HB I1 HDL
        go_upto_region 11 with fail
        clear y0 y1 y2 y3 y4 y5 y6 y7
        go_wp2
        go_loopw [4,7] (fun mv iv wr'=>∃ (i:Nat),iv=.int .i64 (i:Int)∧i≤f.length∧mv=.int .i64 (((((f.map Prod.snd).take i).map dpt).foldl max m0:Nat):Int)∧Hid (Below W2.heap.size W2 wr')) (fun _ iv _=>f.length - (intOf iv).toNat)
        case atStart=>exact ⟨0,rfl,by omega,rfl,HB1⟩
        case round =>
         obtain ⟨i,rfl,hi,rfl,HB⟩:=hrel
         obtain ⟨y0,y1,y2,y3,y4,y5,y6,y7⟩:=((uh X2).keep (uh HB) (uh Z2)).cells
         by_cases hc:i < f.length
         · have hi1:(i:Int) < (f.length:Int):=by omega
           have hi0:(0:Int)≤(i:Int):=by omega
           obtain ⟨ad,nm,e,q0,q1,q2,q3,q4,q5,q6,q7,rfl,hev,hvr,hat⟩:=((uh V2).keep (uh HB)).fl i hc
           obtain ⟨x8,x0,x1,x2,x3,x4,x5,x6,x7⟩:=cells9 hat
           have hev2:(f.map Prod.snd)[i]?=some e:=by rw [List.getElem?_map,hev];rfl
           have hem:=List.mem_of_getElem? hev2
           have CI:=hide (uh I2 e hem _ wr hvr)
           have HM:=hide (fold_snoc (f.map Prod.snd) i e m0 hev2)
           have hd1:=uh HDF e hem
           have hd3:=fold_take (f.map Prod.snd) i m0 hd2 (uh HDF)
           generalize hgm:(((f.map Prod.snd).take i).map dpt).foldl max m0=mo at hd3 HM ⊢
           generalize dpt e=de at hd1 HM CI ⊢
           clear hat hvr hev hev2 hem hgm
           go_upto_region 15 with (go_at_call 31;refine (uh CI).mono ?_;rintro r u2 ⟨rfl,b2⟩)
           clear CI x0 x1 x2 x3 x4 x5 x6 x7 x8
           have HB2:=hide ((uh HB).trans (b2.mono (uh HB).size))
           clear b2
           by_cases hgt:mo < de
           · have hgz:(mo:Int) < (de:Int):=by omega
             have hmx:max mo de=de:=by omega
             go_wp2
             refine ⟨⟨i+1,by go_num,by omega,?_,HB2⟩,by simp [intOf];omega⟩
             rw [uh HM,hmx]
           · have hgz:¬ (mo:Int) < (de:Int):=by omega
             have hmx:max mo de=mo:=by omega
             go_wp2
             refine ⟨⟨i+1,by go_num,by omega,?_,HB2⟩,by simp [intOf];omega⟩
             rw [uh HM,hmx]
         · obtain rfl:i=f.length:=by omega
           have hno:¬ (f.length:Int) < (f.length:Int):=by omega
           rw [List.take_of_length_le (by rw [List.length_map];exact Nat.le_refl _)]
           have hd3:=fold_le (n:=1000000000) ((f.map Prod.snd).map dpt) m0 hd2 (fun x hx=>by obtain ⟨v,hv,rfl⟩:=List.mem_map.1 hx;exact uh HDF v hv)
           generalize ((f.map Prod.snd).map dpt).foldl max m0=m1 at hd3 HR2 ⊢
           go_wp2
           go_ret
           refine ⟨?_,(uh BW2).trans ((uh HB).mono (uh BW2).size)⟩
           rw [uh HR2]
           first|rfl|(congr 2;omega)|go_num
 · have hr:res=0:=by rw [uh HRES,if_neg hk]
   subst hr
   have k4:(k != 4)=true:=by simp;omega
   have k5:(k != 5)=true:=by simp;omega
   clear hk
   go_wp2
   go_ret
   exact ⟨rfl,uh BW2⟩
theorem rdepth_any:∀ (n:Nat),n≤1000000000→∀ (v:JT),Bd v→Pf n (nrm v)→∀ (cs:List Value) (w:World),VR w v cs→Calls Tryz.prog 31 #[.agg cs.toArray] w (fun r w'=>r=.returned (.int .i64 (dpt (nrm v):Int))∧Below w.heap.size w w'):=by
 intro n
 induction n with
 | zero =>
   intro _ v hb hp cs w h
   generalize hx:nrm v=x at hp ⊢
   cases hp with
   | null=>exact rdepth_step v 0 _ _ _ [] [] hx hb (by simp) (by simp) (by simp) (by simp) cs w h _ (by unfold leaf;rw [dpt_mk];rfl) (by simp) (by simp)
   | truth=>exact rdepth_step v 1 _ _ _ [] [] hx hb (by simp) (by simp) (by simp) (by simp) cs w h _ (by unfold leaf;rw [dpt_mk];rfl) (by simp) (by simp)
   | num=>exact rdepth_step v 2 _ _ _ [] [] hx hb (by simp) (by simp) (by simp) (by simp) cs w h _ (by unfold leaf;rw [dpt_mk];rfl) (by simp) (by simp)
   | text=>exact rdepth_step v 3 _ _ _ [] [] hx hb (by simp) (by simp) (by simp) (by simp) cs w h _ (by unfold leaf;rw [dpt_mk];rfl) (by simp) (by simp)
 | succ n ih =>
   intro hn v hb hp cs w h
   have step:∀ e,Pf n e→∀ (cs:List Value) (u:World),VR u e cs→Calls Tryz.prog 31 #[.agg cs.toArray] u (fun r w'=>r=.returned (.int .i64 (dpt e:Int))∧Below u.heap.size u w'):=fun e he cs u hu=>by
    have:=ih (by omega) e (pf_bd he) (by rw [pf_nrm he];exact he) cs u hu
    rw [pf_nrm he] at this
    exact this
   have dle:∀ e,Pf n e→dpt e≤1000000000:=fun e he=>by have:=pf_dpt he;omega
   generalize hx:nrm v=x at hp ⊢
   cases hp with
   | null=>exact rdepth_step v 0 _ _ _ [] [] hx hb (by simp) (by simp) (by simp) (by simp) cs w h _ (by unfold leaf;rw [dpt_mk];rfl) (by simp) (by simp)
   | truth=>exact rdepth_step v 1 _ _ _ [] [] hx hb (by simp) (by simp) (by simp) (by simp) cs w h _ (by unfold leaf;rw [dpt_mk];rfl) (by simp) (by simp)
   | num=>exact rdepth_step v 2 _ _ _ [] [] hx hb (by simp) (by simp) (by simp) (by simp) cs w h _ (by unfold leaf;rw [dpt_mk];rfl) (by simp) (by simp)
   | text=>exact rdepth_step v 3 _ _ _ [] [] hx hb (by simp) (by simp) (by simp) (by simp) cs w h _ (by unfold leaf;rw [dpt_mk];rfl) (by simp) (by simp)
   | @list _ l hl hz=>exact rdepth_step v 4 _ _ _ l [] hx hb (by omega) (by simp) (fun e he=>dle e (hl e he)) (by simp) cs w h _ (by rw [dpt_mk];rfl) (fun e he=>step e (hl e he)) (by simp)
   | @obj _ f hnm hr hf hz =>
     have ec:cnt f=f:=by unfold cnt;rw [pf_cl hnm,jn.puts_ris f hr]
     have hf2:∀ e∈f.map Prod.snd,Pf n e:=fun e he=>by obtain ⟨p,hp,rfl⟩:=List.mem_map.1 he;exact hf p hp
     exact rdepth_step v 5 _ _ _ [] f hx hb (by simp) (by omega) (by simp) (fun e he=>dle e (hf2 e he)) cs w h _ (by rw [dpt_mk,ec];rfl) (by simp) (fun e he=>step e (hf2 e he))
set_option maxHeartbeats 1600000 in
set_option maxRecDepth 1000000 in
theorem texts_great (s:ByteArray) (w:World) (hl:134217728≤s.size):Calls Tryz.prog 8 #[.string s] w fun e w'=>e=.returned (.bool true)∧Below w.heap.size w w':=by
 have hl':(134217728:Int)≤(s.size:Int):=by omega
 go_enter Tryz.func8,Tryz.ntmps8
 go_wp2
 go_ret
 exact ⟨rfl,Below.refl _ _⟩
theorem cdE_pos (g:Nat) (h:lw.isE g):0 < cdE g:=by
 rcases h with rfl|rfl|rfl|rfl|rfl|rfl|rfl <;> decide
set_option maxHeartbeats 6400000 in
set_option maxRecDepth 1000000 in
theorem texts_bad (E:Nat→Value) (A:Nat→Addr) (hEA:∀ g,lw.isE g→E g=.pointer (some (A g))) (s:ByteArray) (g k:Nat) (hp:parseJ s=.inr (g,k)) (w:World) (h:AE E A w) (hl:s.size < 134217728) :
 Calls Tryz.prog 8 #[.string s] w fun e w'=>e=.returned (.bool true)∧Below w.heap.size w w':=by
 have hg:=parseJ_isE s g k hp
 have hke:=parseJ_erl hp
 have hce:=cdE_pos g hg
 have hl':¬ (134217728:Int)≤(s.size:Int):=by omega
 have C0:=hide (jawake E A (hEA _ (by simp [lw.isE])) w h)
 have CP:=hide (fun u (hu:AE E A u)=>jparse_any E s u hu.env hu.ng (by omega))
 rw [hp] at CP
 have HAE:=hide h
 have HEA:=hide (hEA g hg)
 have HG:=hide hg
 clear h hEA hp hg
 go_enter Tryz.func8,Tryz.ntmps8
 go_upto_region 4 with (go_at_call 9;refine (uh C0).mono ?_;rintro e u1 ⟨rfl,b1⟩
                        clear C0)
 have C1:=hide (uh CP u1 ((uh HAE).keep b1))
 have B1:=hide b1
 clear b1
 go_upto_region 5 with (go_at_call 10;refine (uh C1).mono ?_;rintro e u2 hp2
                        obtain ⟨fb,rfl,f2,b2⟩:=parse_bad hp2
                        simp only [vNull,vc,zed,nilS]
                        clear hp2 C1)
 have bw2:Below w.heap.size w u2:=(uh B1).trans (b2.mono (uh B1).size)
 obtain ⟨x2,l2,bW2,z2⟩:=boxE u2 [.int .i64 0,.bool false,.bool false,.string ByteArray.empty,.int .i64 0,.string ⟨#[]⟩,.slice none 0 0,.slice none 0 0] _ _ bw2 bw2.size _ rfl
 generalize u2.alloc (.cells [.int .i64 0,.bool false,.bool false,.string ByteArray.empty,.int .i64 0,.string ⟨#[]⟩,.slice none 0 0,.slice none 0 0].toArray 28)=W2 at *
 have F2:Hid (FL W2 fb (k:Nat) 244 (E g)):=(l2.block fb (blk_lt f2)).trans f2
 have P1:=hide (lw.place_fault fb (k:Nat) 244 (E g) W2 (uh F2) ((uh HAE).keep bW2).et)
 rw [uh HEA] at P1
 have CC:=hide (fun u (hu:Below w.heap.size w u)=>lw.code_any A g (uh HG) u ((uh HAE).keep hu).es)
 generalize cdE g=ce at *
 have BW2:=hide bW2
 have hk0:(0:Int)≤(k:Int):=by omega
 have hk1:(k:Int)≤(s.size:Int):=by omega
 clear b2 f2 bw2 x2 l2 bW2 z2 B1 F2 hke CP
 go_upto_region 7 with (go_at_call 12;refine (uh P1).mono ?_;rintro e u6 ⟨rfl,b6⟩
                        clear P1)
 have bW6:Below w.heap.size w u6:=(uh BW2).trans (b6.mono (uh BW2).size)
 have CC6:=hide (uh CC u6 bW6)
 have BW6:=hide bW6
 clear bW6 b6
 go_wp2_with (go_at_call 14;refine (uh CC6).mono ?_;rintro e u10 ⟨rfl,hu⟩;obtain rfl:=hu.symm)
 go_ret
 exact ⟨by first|rfl|simp,uh BW6⟩
theorem like_some (va vb:JT) (ca cb:List Value) (w:World) (ha:VR w va ca) (hb:VR w vb cb):Calls Tryz.prog 16 #[.agg ca.toArray,.agg cb.toArray] w fun e w'=>∃ b:Bool,e=.returned (.bool b)∧Below w.heap.size w w':=by
 refine (rlike_any _ va vb ca cb w (Nat.lt_succ_self _) ha hb).mono ?_
 rintro e w' ⟨b,rfl,_,hl⟩
 exact ⟨b,rfl,hl⟩
set_option maxHeartbeats 6400000 in
set_option maxRecDepth 1000000 in
theorem texts_short (E:Nat→Value) (A:Nat→Addr) (hEA:∀ g,lw.isE g→E g=.pointer (some (A g))) (s:ByteArray) (v:JT) (hp:parseJ s=.inl v) (w:World) (h:AE E A w) (hl:s.size < 134217728) (hsh:(prt v).length≤1048576) :
 Calls Tryz.prog 8 #[.string s] w fun e w'=>e=.returned (.bool true)∧Below w.heap.size w w':=by
 obtain ⟨hpf,hcs⟩:=parseJ_good hp
 have hpl:=prt_le _ v (Nat.lt_succ_self _)
 have hl':¬ (134217728:Int)≤(s.size:Int):=by omega
 have C0:=hide (jawake E A (hEA _ (by simp [lw.isE])) w h)
 have CP:=hide (fun u (hu:AE E A u)=>jparse_any E s u hu.env hu.ng (by omega))
 rw [hp] at CP
 have hnr:=pf_nrm hpf
 have CQ:=hide (fun cs u (h:VR u v cs) (hP:Pow u)=>jprint_any v (pf_bd hpf) (pf_gd hpf) (by rw [hnr];exact pf_bd hpf) (by rw [hnr];omega) cs u h hP)
 have CN:=hide (fun cs u (h:VR u v cs)=>jnorm_any v (pf_bd hpf) (pf_gd hpf) cs u h)
 have CD:=hide (fun cs u (h:VR u v cs)=>rdepth_any 64 (by omega) v (pf_bd hpf) (by rw [hnr];exact hpf) cs u h)
 rw [hnr] at CQ CN CD
 have hTz:(⟨(prt v).toArray⟩:ByteArray).size=(prt v).length:=List.size_toArray
 have hdp:=pf_dpt hpf
 have hp2:=parse_prt hpf hsh
 have CP2:=hide (fun u (hu:AE E A u)=>jparse_any E ⟨(prt v).toArray⟩ u hu.env hu.ng (by omega))
 rw [hp2] at CP2
 have hd64:¬ (64:Int) < ((dpt v:Nat):Int):=by omega
 generalize (⟨(prt v).toArray⟩:ByteArray)=T at *
 generalize ((dpt v:Nat):Int)=dz at *
 have hTl:¬ (1048576:Int) < (T.size:Int):=by omega
 have HAE:=hide h
 have HTL:=hide hTl
 have HD64:=hide hd64
 clear h hEA hp hp2 hnr hpf hcs hpl hTz hsh hdp hl hTl hd64
 go_enter Tryz.func8,Tryz.ntmps8
 go_upto_region 4 with (go_at_call 9;refine (uh C0).mono ?_;rintro e u1 ⟨rfl,b1⟩
                        clear C0)
 clear hl'
 have C1:=hide (uh CP u1 ((uh HAE).keep b1))
 have B1:=hide b1
 clear b1 CP
 go_upto_region 5 with (go_at_call 10;refine (uh C1).mono ?_;rintro e u2 hp2
                        obtain ⟨cs2,p2,rfl,v2,n2,b2⟩:=parse_ok hp2
                        obtain ⟨a0,a1,a2,a3,a4,a5,a6,a7,a8,a9,aa,ab,rfl⟩:=v2.form
                        clear hp2 C1)
 have bw2:Below w.heap.size w u2:=(uh B1).trans (b2.mono (uh B1).size)
 obtain ⟨x2,l2,bW2,z2⟩:=boxE u2 [.int .i64 a0,.bool a1,.bool a2,.string a3,.int .i64 a4,.string a5,.slice a6 a7 a8,.slice a9 aa ab] _ _ bw2 bw2.size _ rfl
 generalize u2.alloc (.cells [.int .i64 a0,.bool a1,.bool a2,.string a3,.int .i64 a4,.string a5,.slice a6 a7 a8,.slice a9 aa ab].toArray 28)=W2 at *
 have R2:=hide (v2.vr.keep l2)
 have X2:=hide x2
 have Z2:=hide z2
 have BW2:=hide bW2
 have C2:=hide (uh CQ _ W2 (v2.vr.keep l2) ((uh HAE).keep bW2).pw)
 generalize u2.heap.size=m2 at *
 obtain ⟨y0,y1,y2,y3,y4,y5,y6,y7⟩:=x2.cells
 clear b2 v2 n2 bw2 x2 l2 bW2 z2 B1 CQ
 go_upto_region 9 with (go_at_call 20;refine (uh C2).mono ?_;rintro e u3 ⟨rfl,b3⟩
                        clear C2)
 clear y0 y1 y2 y3 y4 y5 y6 y7
 have bW3:Below w.heap.size w u3:=(uh BW2).trans (b3.mono (uh BW2).size)
 have R3:=hide ((uh R2).keep b3)
 have X3:=hide ((uh X2).keep b3 (uh Z2))
 have Z3:Hid (m2 < u3.heap.size):=Nat.lt_of_lt_of_le (uh Z2) b3.size
 have C3:=hide (uh CP2 u3 ((uh HAE).keep bW3))
 have BW3:=hide bW3
 clear b3 bW3 R2 X2 Z2 BW2 CP2
 go_upto_region 10 with (go_at_call 10;refine (uh C3).mono ?_;rintro e u4 hp4
                         obtain ⟨cs4,p4,rfl,v4,n4,b4⟩:=parse_ok hp4
                         obtain ⟨c0,c1,c2,c3,c4,c5,c6,c7,c8',c9,ca,cb,rfl⟩:=v4.form
                         clear hp4 C3)
 have bw4:Below w.heap.size w u4:=(uh BW3).trans (b4.mono (uh BW3).size)
 obtain ⟨x4,l4,bW4,z4⟩:=boxE u4 [.int .i64 c0,.bool c1,.bool c2,.string c3,.int .i64 c4,.string c5,.slice c6 c7 c8',.slice c9 ca cb] _ _ bw4 bw4.size _ rfl
 generalize u4.alloc (.cells [.int .i64 c0,.bool c1,.bool c2,.string c3,.int .i64 c4,.string c5,.slice c6 c7 c8',.slice c9 ca cb].toArray 28)=W4 at *
 have b34:Below u3.heap.size u3 W4:=b4.trans (l4.mono b4.size)
 have R4:=hide ((uh R3).keep b34)
 have T4:=hide (v4.vr.keep l4)
 have X4:=hide ((uh X3).keep b34 (uh Z3))
 have Z4:Hid (m2 < W4.heap.size):=Nat.lt_of_lt_of_le (uh Z3) b34.size
 have Y4:=hide x4
 have V4:=hide z4
 have BW4:=hide bW4
 generalize u4.heap.size=m4 at *
 clear b4 v4 n4 bw4 x4 l4 bW4 z4 b34 R3 X3 Z3 BW3
 have hw0:Below W4.heap.size W4 W4.drew:=⟨rfl,rfl,rfl,Nat.le_refl _,fun _ _=>rfl⟩
 have HmkS:∀ u,Below W4.heap.size W4 u→Below W4.heap.size W4 u∧u.cell? ⟨m2,0,none⟩=some (.int .i64 a0)∧u.cell? ⟨m2,1,none⟩=some (.bool a1)∧u.cell? ⟨m2,2,none⟩=some (.bool a2)∧u.cell? ⟨m2,3,none⟩=some (.string a3)∧u.cell? ⟨m2,4,none⟩=some (.int .i64 a4)∧u.cell? ⟨m2,5,none⟩=some (.string a5)∧u.cell? ⟨m2,6,none⟩=some (.slice a6 a7 a8)∧u.cell? ⟨m2,7,none⟩=some (.slice a9 aa ab):=fun u hu=>by
  obtain ⟨q0,q1,q2,q3,q4,q5,q6,q7⟩:=((uh X4).keep hu (uh Z4)).cells
  exact ⟨hu,q0,q1,q2,q3,q4,q5,q6,q7⟩
 go_region_held3 (fun u=>Below W4.heap.size W4 u∧u.cell? ⟨m2,0,none⟩=some (.int .i64 a0)∧u.cell? ⟨m2,1,none⟩=some (.bool a1)∧u.cell? ⟨m2,2,none⟩=some (.bool a2)∧u.cell? ⟨m2,3,none⟩=some (.string a3)∧u.cell? ⟨m2,4,none⟩=some (.int .i64 a4)∧u.cell? ⟨m2,5,none⟩=some (.string a5)∧u.cell? ⟨m2,6,none⟩=some (.slice a6 a7 a8)∧u.cell? ⟨m2,7,none⟩=some (.slice a9 aa ab)) (with_reducible refine HmkS _ ?_;with_reducible first|assumption|exact Below.refl _ _) (first
  | (go_at_call 23;refine (uh CN _ _ ((uh R4).keep (by with_reducible assumption))).mono ?_;rintro e u5 ⟨cs5,p5,rfl,v5,n5,b5⟩
     obtain ⟨d0,d1,d2,d3,d4,d5,d6,d7,d8,d9,da,db,rfl⟩:=v5.form
     have hB5:Below W4.heap.size W4 u5:=hw0.trans (b5.mono (Nat.le_refl _))
     have L5:=hide (like_same v _ _ u5 v5.vr ((uh R4).keep hB5)))
  | (go_at_call 16;refine (uh L5).mono ?_;rintro e u6 ⟨rfl,b6⟩
     have hB6:Below W4.heap.size W4 u6:=hB5.trans (b6.mono hB5.size)))
 clear HmkS hw0 L5 b5 b6 v5 n5
 have HB6:=hide hB6
 clear hB6 hB5
 obtain ⟨y0,y1,y2,y3,y4,y5,y6,y7⟩:=((uh X4).keep (uh HB6) (uh Z4)).cells
 obtain ⟨e0,e1,e2,e3,e4,e5,e6,e7⟩:=((uh Y4).keep (uh HB6) (uh V4)).cells
 have L7:=hide (like_same v _ _ u6 ((uh T4).keep (uh HB6)) ((uh R4).keep (uh HB6)))
 go_upto_region 12 with (go_at_call 16;refine (uh L7).mono ?_;rintro e u7 ⟨rfl,b7⟩
                         clear L7)
 clear y0 y1 y2 y3 y4 y5 y6 y7 e0 e1 e2 e3 e4 e5 e6 e7
 have HB7:=hide ((uh HB6).trans (b7.mono (uh HB6).size))
 clear b7 HB6
 obtain ⟨y0,y1,y2,y3,y4,y5,y6,y7⟩:=((uh X4).keep (uh HB7) (uh Z4)).cells
 have D7:=hide (uh CD _ u7 ((uh R4).keep (uh HB7)))
 have hd64:=uh HD64
 go_upto_region 14 with (go_at_call 31;refine (uh D7).mono ?_;rintro e u8 ⟨rfl,b8⟩
                         clear D7)
 clear y0 y1 y2 y3 y4 y5 y6 y7
 have HB8:=hide ((uh HB7).trans (b8.mono (uh HB7).size))
 have BW8:=hide ((uh BW4).trans ((uh HB8).mono (uh BW4).size))
 clear b8 HB7 hd64
 have hTl:=uh HTL
 go_wp2
 go_ret
 exact ⟨by first|rfl|simp,uh BW8⟩
set_option maxHeartbeats 6400000 in
set_option maxRecDepth 1000000 in
theorem texts_long (E:Nat→Value) (A:Nat→Addr) (hEA:∀ g,lw.isE g→E g=.pointer (some (A g))) (s:ByteArray) (v:JT) (hp:parseJ s=.inl v) (w:World) (h:AE E A w) (hl:s.size < 134217728) (hsh:1048576 < (prt v).length) :
 Calls Tryz.prog 8 #[.string s] w fun e w'=>e=.returned (.bool true)∧Below w.heap.size w w':=by
 obtain ⟨hpf,hcs⟩:=parseJ_good hp
 have hpl:=prt_le _ v (Nat.lt_succ_self _)
 have hl':¬ (134217728:Int)≤(s.size:Int):=by omega
 have C0:=hide (jawake E A (hEA _ (by simp [lw.isE])) w h)
 have CP:=hide (fun u (hu:AE E A u)=>jparse_any E s u hu.env hu.ng (by omega))
 rw [hp] at CP
 have hnr:=pf_nrm hpf
 have CQ:=hide (fun cs u (h:VR u v cs) (hP:Pow u)=>jprint_any v (pf_bd hpf) (pf_gd hpf) (by rw [hnr];exact pf_bd hpf) (by rw [hnr];omega) cs u h hP)
 have CN:=hide (fun cs u (h:VR u v cs)=>jnorm_any v (pf_bd hpf) (pf_gd hpf) cs u h)
 have CD:=hide (fun cs u (h:VR u v cs)=>rdepth_any 64 (by omega) v (pf_bd hpf) (by rw [hnr];exact hpf) cs u h)
 rw [hnr] at CQ CN CD
 have hTz:(⟨(prt v).toArray⟩:ByteArray).size=(prt v).length:=List.size_toArray
 have hdp:=pf_dpt hpf
 have hp2:parseJ ⟨(prt v).toArray⟩=.inr (0,0):=by
  unfold parseJ
  rw [if_pos (by omega)]
 have CP2:=hide (fun u (hu:AE E A u)=>jparse_any E ⟨(prt v).toArray⟩ u hu.env hu.ng (by omega))
 rw [hp2] at CP2
 have hd64:¬ (64:Int) < ((dpt v:Nat):Int):=by omega
 generalize (⟨(prt v).toArray⟩:ByteArray)=T at *
 generalize ((dpt v:Nat):Int)=dz at *
 have hTl:(1048576:Int) < (T.size:Int):=by omega
 have HEA:=hide (hEA 0 (by simp [lw.isE]))
 have HAE:=hide h
 have HTL:=hide hTl
 have HD64:=hide hd64
 clear h hEA hp hp2 hnr hpf hcs hpl hTz hsh hdp hl hTl hd64
 go_enter Tryz.func8,Tryz.ntmps8
 go_upto_region 4 with (go_at_call 9;refine (uh C0).mono ?_;rintro e u1 ⟨rfl,b1⟩
                        clear C0)
 clear hl'
 have C1:=hide (uh CP u1 ((uh HAE).keep b1))
 have B1:=hide b1
 clear b1 CP
 go_upto_region 5 with (go_at_call 10;refine (uh C1).mono ?_;rintro e u2 hp2
                        obtain ⟨cs2,p2,rfl,v2,n2,b2⟩:=parse_ok hp2
                        obtain ⟨a0,a1,a2,a3,a4,a5,a6,a7,a8,a9,aa,ab,rfl⟩:=v2.form
                        clear hp2 C1)
 have bw2:Below w.heap.size w u2:=(uh B1).trans (b2.mono (uh B1).size)
 obtain ⟨x2,l2,bW2,z2⟩:=boxE u2 [.int .i64 a0,.bool a1,.bool a2,.string a3,.int .i64 a4,.string a5,.slice a6 a7 a8,.slice a9 aa ab] _ _ bw2 bw2.size _ rfl
 generalize u2.alloc (.cells [.int .i64 a0,.bool a1,.bool a2,.string a3,.int .i64 a4,.string a5,.slice a6 a7 a8,.slice a9 aa ab].toArray 28)=W2 at *
 have R2:=hide (v2.vr.keep l2)
 have X2:=hide x2
 have Z2:=hide z2
 have BW2:=hide bW2
 have C2:=hide (uh CQ _ W2 (v2.vr.keep l2) ((uh HAE).keep bW2).pw)
 generalize u2.heap.size=m2 at *
 obtain ⟨y0,y1,y2,y3,y4,y5,y6,y7⟩:=x2.cells
 clear b2 v2 n2 bw2 x2 l2 bW2 z2 B1 CQ
 go_upto_region 9 with (go_at_call 20;refine (uh C2).mono ?_;rintro e u3 ⟨rfl,b3⟩
                        clear C2)
 clear y0 y1 y2 y3 y4 y5 y6 y7
 have bW3:Below w.heap.size w u3:=(uh BW2).trans (b3.mono (uh BW2).size)
 have R3:=hide ((uh R2).keep b3)
 have X3:=hide ((uh X2).keep b3 (uh Z2))
 have Z3:Hid (m2 < u3.heap.size):=Nat.lt_of_lt_of_le (uh Z2) b3.size
 have C3:=hide (uh CP2 u3 ((uh HAE).keep bW3))
 have BW3:=hide bW3
 clear b3 bW3 R2 X2 Z2 BW2 CP2
 go_upto_region 10 with (go_at_call 10;refine (uh C3).mono ?_;rintro e u4 hp4
                         obtain ⟨fb,rfl,f4,b4⟩:=parse_bad hp4
                         simp only [vNull,vc,zed,nilS]
                         clear hp4 C3)
 have bw4:Below w.heap.size w u4:=(uh BW3).trans (b4.mono (uh BW3).size)
 obtain ⟨x4,l4,bW4,z4⟩:=boxE u4 [.int .i64 0,.bool false,.bool false,.string ByteArray.empty,.int .i64 0,.string ⟨#[]⟩,.slice none 0 0,.slice none 0 0] _ _ bw4 bw4.size _ rfl
 generalize u4.alloc (.cells [.int .i64 0,.bool false,.bool false,.string ByteArray.empty,.int .i64 0,.string ⟨#[]⟩,.slice none 0 0,.slice none 0 0].toArray 28)=W4 at *
 have b34:Below u3.heap.size u3 W4:=b4.trans (l4.mono b4.size)
 have R4:=hide ((uh R3).keep b34)
 have T4:=hide (null_vr W4)
 have X4:=hide ((uh X3).keep b34 (uh Z3))
 have Z4:Hid (m2 < W4.heap.size):=Nat.lt_of_lt_of_le (uh Z3) b34.size
 have Y4:=hide x4
 have V4:=hide z4
 have BW4:=hide bW4
 have F4:Hid (FL W4 fb ((0:Nat):Int) 244 (E 0)):=(l4.block fb (blk_lt f4)).trans f4
 generalize u4.heap.size=m4 at *
 clear b4 f4 bw4 x4 l4 bW4 z4 b34 R3 X3 Z3 BW3
 have hw0:Below W4.heap.size W4 W4.drew:=⟨rfl,rfl,rfl,Nat.le_refl _,fun _ _=>rfl⟩
 have HmkS:∀ u,Below W4.heap.size W4 u→Below W4.heap.size W4 u∧u.cell? ⟨m2,0,none⟩=some (.int .i64 a0)∧u.cell? ⟨m2,1,none⟩=some (.bool a1)∧u.cell? ⟨m2,2,none⟩=some (.bool a2)∧u.cell? ⟨m2,3,none⟩=some (.string a3)∧u.cell? ⟨m2,4,none⟩=some (.int .i64 a4)∧u.cell? ⟨m2,5,none⟩=some (.string a5)∧u.cell? ⟨m2,6,none⟩=some (.slice a6 a7 a8)∧u.cell? ⟨m2,7,none⟩=some (.slice a9 aa ab):=fun u hu=>by
  obtain ⟨q0,q1,q2,q3,q4,q5,q6,q7⟩:=((uh X4).keep hu (uh Z4)).cells
  exact ⟨hu,q0,q1,q2,q3,q4,q5,q6,q7⟩
 go_region_held3 (fun u=>Below W4.heap.size W4 u∧u.cell? ⟨m2,0,none⟩=some (.int .i64 a0)∧u.cell? ⟨m2,1,none⟩=some (.bool a1)∧u.cell? ⟨m2,2,none⟩=some (.bool a2)∧u.cell? ⟨m2,3,none⟩=some (.string a3)∧u.cell? ⟨m2,4,none⟩=some (.int .i64 a4)∧u.cell? ⟨m2,5,none⟩=some (.string a5)∧u.cell? ⟨m2,6,none⟩=some (.slice a6 a7 a8)∧u.cell? ⟨m2,7,none⟩=some (.slice a9 aa ab)) (with_reducible refine HmkS _ ?_;with_reducible first|assumption|exact Below.refl _ _) (first
  | (go_at_call 23;refine (uh CN _ _ ((uh R4).keep (by with_reducible assumption))).mono ?_;rintro e u5 ⟨cs5,p5,rfl,v5,n5,b5⟩
     obtain ⟨d0,d1,d2,d3,d4,d5,d6,d7,d8,d9,da,db,rfl⟩:=v5.form
     have hB5:Below W4.heap.size W4 u5:=hw0.trans (b5.mono (Nat.le_refl _))
     have L5:=hide (like_same v _ _ u5 v5.vr ((uh R4).keep hB5)))
  | (go_at_call 16;refine (uh L5).mono ?_;rintro e u6 ⟨rfl,b6⟩
     have hB6:Below W4.heap.size W4 u6:=hB5.trans (b6.mono hB5.size)))
 clear HmkS hw0 L5 b5 b6 v5 n5
 have HB6:=hide hB6
 clear hB6 hB5
 obtain ⟨y0,y1,y2,y3,y4,y5,y6,y7⟩:=((uh X4).keep (uh HB6) (uh Z4)).cells
 obtain ⟨e0,e1,e2,e3,e4,e5,e6,e7⟩:=((uh Y4).keep (uh HB6) (uh V4)).cells
 have L7:=hide (like_some null v _ _ u6 ((uh T4).keep (uh HB6)) ((uh R4).keep (uh HB6)))
 go_upto_region 12 with (go_at_call 16;refine (uh L7).mono ?_;rintro e u7 ⟨bl,rfl,b7⟩
                         clear L7)
 clear y0 y1 y2 y3 y4 y5 y6 y7 e0 e1 e2 e3 e4 e5 e6 e7
 have HB7:=hide ((uh HB6).trans (b7.mono (uh HB6).size))
 clear b7 HB6
 obtain ⟨y0,y1,y2,y3,y4,y5,y6,y7⟩:=((uh X4).keep (uh HB7) (uh Z4)).cells
 have D7:=hide (uh CD _ u7 ((uh R4).keep (uh HB7)))
 have hd64:=uh HD64
 go_upto_region 14 with (go_at_call 31;refine (uh D7).mono ?_;rintro e u8 ⟨rfl,b8⟩
                         clear D7)
 clear y0 y1 y2 y3 y4 y5 y6 y7
 have HB8:=hide ((uh HB7).trans (b8.mono (uh HB7).size))
 have BW8:=hide ((uh BW4).trans ((uh HB8).mono (uh BW4).size))
 clear b8 HB7 hd64
 have hTl:=uh HTL
 have F8:=hide (((uh HB8).block fb (blk_lt (uh F4))).trans (uh F4))
 have P1:=hide (lw.place_fault fb ((0:Nat):Int) 244 (E 0) u8 (uh F8) ((uh HAE).keep (uh BW8)).et)
 rw [uh HEA] at P1
 go_upto_region 16 with (go_at_call 12;refine (uh P1).mono ?_;rintro e u9 ⟨rfl,b9⟩
                         clear P1)
 have bW9:Below w.heap.size w u9:=(uh BW8).trans (b9.mono (uh BW8).size)
 have hlong:=((uh HAE).keep bW9).es.cell 0 (by simp [lw.isE])
 have heq:=lw.eql_same u9 (A 0)
 have BW9:=hide bW9
 clear bW9 b9
 go_wp2
 go_ret
 exact ⟨by first|rfl|simp,uh BW9⟩
theorem texts_law (E:Nat→Value) (A:Nat→Addr) (hEA:∀ g,lw.isE g→E g=.pointer (some (A g))) (s:ByteArray) (w:World) (h:AE E A w) :
 Calls Tryz.prog 8 #[.string s] w fun e w'=>e=.returned (.bool true)∧Below w.heap.size w w':=by
 rcases Nat.lt_or_ge s.size 134217728 with hl|hl
 · cases hp:parseJ s with
   | inl v =>
     rcases Nat.lt_or_ge 1048576 (prt v).length with q|q
     · exact texts_long E A hEA s v hp w h hl q
     · exact texts_short E A hEA s v hp w h hl q
   | inr q=>exact texts_bad E A hEA s q.1 q.2 hp w h hl
 · exact texts_great s w hl
end Go.Proofs.YtencpkjhdgodgaaGreatDoor.rd
