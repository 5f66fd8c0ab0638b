/- Texts in one: If -/
import Derived.Test.YthnhobplgmojeaaGreatDoorIeP
import Derived.Deep.DeepCutAuto
namespace Go.Proofs.YthnhobplgmojeaaGreatDoor.rd
open Go.RowKit
set_option maxRecDepth 100000 in
set_option maxHeartbeats 3200000 in
theorem rlike_any (n:Nat):∀ (va vb:JT) (ca cb:List Value) (w:World),SizeOf.sizeOf va < n→VR w va ca→VR w vb cb →
 Calls Tryz.prog 26 #[.agg ca.toArray,.agg cb.toArray] w fun e w'=>∃ b,e=.returned (.bool b)∧(b=true↔va=vb)∧Below w.heap.size w w':=by
 induction n with
 | zero=>intro va vb ca cb w h;omega
 | succ n IH =>
   intro va vb ca cb w hn ha hb;have HA:=hide ha;have HB:=hide hb
   cases ha with
   | @mk k t d x l f lv fv css gss hl hf h1 h3 hle hfe =>
     cases hb with
     | @mk k' t' d' x' l' f' lv' fv' css' gss' hl' hf' h1' h3' hle' hfe' =>
       obtain ⟨oa,c,rfl,q1,q2⟩:=mm.SV.form hl;obtain ⟨ob,c',rfl,q1',q2'⟩:=mm.SV.form hl';obtain ⟨of,cf,rfl,r1,r2⟩:=mm.SV.form hf;obtain ⟨og,cg,rfl,r1',r2'⟩:=mm.SV.form hf';clear hl hf h1 h3 hle hfe hl' hf' h1' h3' hle' hfe';obtain ⟨dn,dg,dx⟩:=d;obtain ⟨dn',dg',dx'⟩:=d';simp only at HA HB;have HI:=hide IH;clear IH
       go_enter Tryz.func26,Tryz.ntmps26
       go_upto_region 1 with fail;have HW:=hide (box_two w [.int .i64 k,.bool t,.bool dn,.string dg,.int .i64 dx,.string x,.slice oa l.length c,.slice of f.length cf] [.int .i64 k',.bool t',.bool dn',.string dg',.int .i64 dx',.string x',.slice ob l'.length c',.slice og f'.length cg])
       go_cut [5] from 10 (fun s5 wx=>∃ nb,s5=.bool nb∧(nb=true↔dn=dn'∧dg=dg'∧dx=dx')∧BX wx w.heap.size [.int .i64 k,.bool t,.bool dn,.string dg,.int .i64 dx,.string x,.slice oa l.length c,.slice of f.length cf]∧BX wx (w.heap.size+1) [.int .i64 k',.bool t',.bool dn',.string dg',.int .i64 dx',.string x',.slice ob l'.length c',.slice og f'.length cg]∧Below w.heap.size w wx)
       case first =>
        by_cases e1:dn=dn'
        · subst e1
          by_cases e2:dg=dg'
          · subst e2
            by_cases e3:dx=dx'
            · subst e3
              as_aux_lemma =>
               go_wp2;go_meet;exact ⟨true,rfl,by simp,(uh HW).1,(uh HW).2.1,(uh HW).2.2⟩
            · go_wp2
              go_meet;exact ⟨dx == dx',rfl,by simp,(uh HW).1,(uh HW).2.1,(uh HW).2.2⟩
          · have e2':¬ dg.toList=dg'.toList:=fun q=>e2 (ba_inj q)
            as_aux_lemma =>
             go_wp2;go_meet;exact ⟨false,rfl,by simp [e2],(uh HW).1,(uh HW).2.1,(uh HW).2.2⟩
        · go_wp2
          go_meet;exact ⟨false,rfl,by simp [e1],(uh HW).1,(uh HW).2.1,(uh HW).2.2⟩
       case rest =>
        obtain ⟨nb,rfl,hnb,bA,bB,hbl⟩:=hcut;have HL:=hide hbl;have XA:=hide bA;have XB:=hide bB;obtain ⟨p0,p1,p2,p3,p4,p5,p6,p7⟩:=bA.cells;obtain ⟨s0,s1,s2,s3,s4,s5,s6,s7⟩:=bB.cells;clear HW hbl bA bB
        by_cases e1:k=k'
        · subst e1
          by_cases e2:t=t'
          · subst e2
            cases nb with
            | false =>
              have HD:=hide (show ¬ (dn=dn'∧dg=dg'∧dx=dx') from fun q=>by simp [q] at hnb);clear hnb
              as_aux_lemma =>
               go_wp2;go_ret
               exact ⟨false,rfl,by
                have:=uh HD;simp only [Bool.false_eq_true,JT.mk.injEq,Dn.mk.injEq,false_iff];rintro ⟨_,_,q,_⟩
                exact this q,uh HL⟩
            | true =>
              by_cases e3:x=x'
              · subst e3
                by_cases e4:l.length=l'.length
                · by_cases e5:f.length=f'.length
                  · obtain ⟨rfl,rfl,rfl⟩:=hnb.1 rfl
                    have sz:=blk_lt (uh XB);have HZ:Hid (w.heap.size+2≤wc.heap.size):=by show _≤_;omega
                    clear hnb sz;go_wp2;have E4:=hide e4;have E5:=hide e5;clear e4 e5
                    go_loopw [6] (fun iv wr=>∃ i:Nat,i≤l.length∧iv=.int .i64 (i:Int)∧Hid (∀ j,j < i→l[j]?=l'[j]?)∧Hid (Below (w.heap.size+2) wc wr)) (fun iv _=>l.length - (intOf iv).toNat)
                    case atStart=>exact ⟨0,by omega,rfl,fun j hj=>by omega,Below.refl _ _⟩
                    case round =>
                     obtain ⟨i,hi,rfl,hE,hB⟩:=hrel;have yA:=(uh XA).keep (uh hB) (by omega);have yB:=(uh XB).keep (uh hB) (by omega);have HL2:=hide ((uh HL).trans ((uh hB).mono (by omega)));obtain ⟨p0,p1,p2,p3,p4,p5,p6,p7⟩:=yA.cells;obtain ⟨s0,s1,s2,s3,s4,s5,s6,s7⟩:=yB.cells
                     by_cases hc:i < l.length
                     · obtain ⟨a,v,a0,a1,a2,a3,a4,a5,a6,a7,rfl,hv,vA,hat⟩:=((uh HA).keep (uh HL2)).el i hc
                       obtain ⟨b,v',b0,b1,b2,b3,b4,b5,b6,b7,rfl,hv',vB,hbt⟩:=((uh HB).keep (uh HL2)).el i (by have:=uh E4;omega);have CL:=hide (fun u (h1:VR u v [a0,a1,a2,a3,a4,a5,a6,a7]) (h2:VR u v' [b0,b1,b2,b3,b4,b5,b6,b7])=>uh HI v v' _ _ u (by have:=sz_l (k:=k) (t:=t) (d:=⟨dn,dg,dx⟩) (x:=x) (f:=f) (List.mem_of_getElem? hv);omega) h1 h2);have HV:=hide hv;have HV':=hide hv';have VA:=hide vA;have VB:=hide vB;clear hv hv' vA vB yA yB;have hi1:(i:Int) < (l.length:Int):=by omega
                       have hmx:(i:Int) < 9223372036854775807:=by unfold maxLen at q2;omega
                       have hi3:i < l'.length:=by have:=uh E4;omega
                       have hi2:(i:Int) < (l'.length:Int):=by omega
                       obtain ⟨x0,x1,x2,x3,x4,x5,x6,x7⟩:=cells8 hat;obtain ⟨y0,y1,y2,y3,y4,y5,y6,y7⟩:=cells8 hbt;generalize ha:a.add (i*8)=ad at *;generalize hb:b.add (i*8)=bd at *;clear hat hbt;go_upto_region 7 with fail
                       go_cut [7] from 76 to 95 (fun s7 wx=>∃ bb,s7=.bool bb∧(bb=true↔v=v')∧Below wr.heap.size wr wx)
                       case first =>
                        as_aux_lemma =>
                         have vA:=(uh VA).drewN 1;have vB:=(uh VB).drewN 1
                         go_region_held3 (fun u=>u.cell? ⟨w.heap.size,6,none⟩=some (.slice (some a) l.length c)∧u.cell? ⟨w.heap.size+1,6,none⟩=some (.slice (some b) l'.length c')∧u.cell? ad=some a0∧u.cell? ⟨ad.block,ad.off+1,none⟩=some a1∧u.cell? ⟨ad.block,ad.off+2,none⟩=some a2∧u.cell? ⟨ad.block,ad.off+3,none⟩=some a3∧u.cell? ⟨ad.block,ad.off+4,none⟩=some a4∧u.cell? ⟨ad.block,ad.off+5,none⟩=some a5∧u.cell? ⟨ad.block,ad.off+6,none⟩=some a6∧u.cell? ⟨ad.block,ad.off+7,none⟩=some a7∧u.cell? bd=some b0∧u.cell? ⟨bd.block,bd.off+1,none⟩=some b1∧u.cell? ⟨bd.block,bd.off+2,none⟩=some b2∧u.cell? ⟨bd.block,bd.off+3,none⟩=some b3∧u.cell? ⟨bd.block,bd.off+4,none⟩=some b4∧u.cell? ⟨bd.block,bd.off+5,none⟩=some b5∧u.cell? ⟨bd.block,bd.off+6,none⟩=some b6∧u.cell? ⟨bd.block,bd.off+7,none⟩=some b7) (first|exact ⟨p6,s6,x0,x1,x2,x3,x4,x5,x6,x7,y0,y1,y2,y3,y4,y5,y6,y7⟩|exact hS2|(dsimp only;exact hS2)) (first
                          | (go_at_call 26;refine (uh CL _ (by first|assumption|exact vA) (by first|assumption|exact vB)).mono ?_;rintro e u2 ⟨bb,rfl,hbb,hbl2⟩;have hb3:Below wr.heap.size wr u2:=⟨hbl2.os,hbl2.tape,hbl2.output,hbl2.size,hbl2.block⟩;have hS2:u2.cell? ⟨w.heap.size,6,none⟩=some (.slice (some a) l.length c)∧u2.cell? ⟨w.heap.size+1,6,none⟩=some (.slice (some b) l'.length c')∧u2.cell? ad=some a0∧u2.cell? ⟨ad.block,ad.off+1,none⟩=some a1∧u2.cell? ⟨ad.block,ad.off+2,none⟩=some a2∧u2.cell? ⟨ad.block,ad.off+3,none⟩=some a3∧u2.cell? ⟨ad.block,ad.off+4,none⟩=some a4∧u2.cell? ⟨ad.block,ad.off+5,none⟩=some a5∧u2.cell? ⟨ad.block,ad.off+6,none⟩=some a6∧u2.cell? ⟨ad.block,ad.off+7,none⟩=some a7∧u2.cell? bd=some b0∧u2.cell? ⟨bd.block,bd.off+1,none⟩=some b1∧u2.cell? ⟨bd.block,bd.off+2,none⟩=some b2∧u2.cell? ⟨bd.block,bd.off+3,none⟩=some b3∧u2.cell? ⟨bd.block,bd.off+4,none⟩=some b4∧u2.cell? ⟨bd.block,bd.off+5,none⟩=some b5∧u2.cell? ⟨bd.block,bd.off+6,none⟩=some b6∧u2.cell? ⟨bd.block,bd.off+7,none⟩=some b7:=⟨kc hb3 p6,kc hb3 s6,kc hb3 x0,kc hb3 x1,kc hb3 x2,kc hb3 x3,kc hb3 x4,kc hb3 x5,kc hb3 x6,kc hb3 x7,kc hb3 y0,kc hb3 y1,kc hb3 y2,kc hb3 y3,kc hb3 y4,kc hb3 y5,kc hb3 y6,kc hb3 y7⟩))
                         all_goals go_wp2_with fail
                         all_goals go_meet
                         all_goals exact ⟨bb,rfl,hbb,hb3⟩
                       case rest =>
                        obtain ⟨bb,rfl,hbb,hb2⟩:=hcut;have HL3:=hide ((uh HL2).trans (hb2.mono (uh HL2).size));have hB3:=hide ((uh hB).trans (hb2.mono (Nat.le_trans (uh HZ) (uh hB).size)));clear hb2 VA VB CL x0 x1 x2 x3 x4 x5 x6 x7 y0 y1 y2 y3 y4 y5 y6 y7 p0 p1 p2 p3 p4 p5 p6 p7 s0 s1 s2 s3 s4 s5 s6 s7
                        cases bb with
                        | false =>
                          as_aux_lemma =>
                           have HN:=hide (show ¬ v=v' from fun q=>by simp [q] at hbb);clear hbb;go_wp2;go_ret;refine ⟨false,rfl,?_,uh HL3⟩;simp only [Bool.false_eq_true,JT.mk.injEq,false_iff];rintro ⟨_,_,_,_,q,_⟩;apply uh HN;have q1:=uh HV;have q2:=uh HV';rw [q,q2] at q1;exact (Option.some.inj q1).symm
                        | true =>
                          as_aux_lemma =>
                           have HE2:Hid (∀ j,j < i+1→l[j]?=l'[j]?):=fun j hj=>by
                            by_cases q:j < i
                            · exact uh hE j q
                            · obtain rfl:j=i:=by omega
                              rw [uh HV,uh HV',hbb.1 rfl]
                           clear hbb hE HV HV';go_wp2;exact ⟨⟨i+1,by omega,by go_num,HE2,hB3⟩,by simp [intOf];omega⟩
                     · obtain rfl:i=l.length:=by omega
                       have HLL:Hid (l=l'):=by
                        show l=l';apply List.ext_getElem?;intro j
                        by_cases q:j < l.length
                        · exact uh hE j q
                        · rw [List.getElem?_eq_none (by omega),List.getElem?_eq_none (by have:=uh E4;omega)]
                       clear hE yA yB p0 p1 p2 p3 p4 p5 p6 p7 s0 s1 s2 s3 s4 s5 s6 s7;have HB0:=hide (uh hB)
                       as_aux_lemma =>
                        obtain ⟨p0,p1,p2,p3,p4,p5,p6,p7⟩:=((uh XA).keep (uh hB) (by omega)).cells;clear p0 p1 p2 p3 p4 p5 p7;go_wp2;clear p6
                        go_loopw [8] (fun iv wr=>∃ i:Nat,i≤f.length∧iv=.int .i64 (i:Int)∧Hid (∀ j,j < i→f[j]?=f'[j]?)∧Hid (Below (w.heap.size+2) wc wr)) (fun iv _=>f.length - (intOf iv).toNat)
                        case atStart=>exact ⟨0,by omega,rfl,fun j hj=>by omega,uh HB0⟩
                        case round =>
                         obtain ⟨i,hi,rfl,hE,hB⟩:=hrel;have yA:=(uh XA).keep (uh hB) (by omega);have yB:=(uh XB).keep (uh hB) (by omega);have HL2:=hide ((uh HL).trans ((uh hB).mono (by omega)));obtain ⟨p0,p1,p2,p3,p4,p5,p6,p7⟩:=yA.cells;obtain ⟨s0,s1,s2,s3,s4,s5,s6,s7⟩:=yB.cells;clear p0 p1 p2 p3 p4 p5 p6 s0 s1 s2 s3 s4 s5 s6 yA yB
                         by_cases hc:i < f.length
                         · obtain ⟨a,nm,v,a0,a1,a2,a3,a4,a5,a6,a7,rfl,hv,vA,hat⟩:=((uh HA).keep (uh HL2)).fl i hc
                           obtain ⟨b,nm',v',b0,b1,b2,b3,b4,b5,b6,b7,rfl,hv',vB,hbt⟩:=((uh HB).keep (uh HL2)).fl i (by have:=uh E5;omega);have CL:=hide (fun u (h1:VR u v [a0,a1,a2,a3,a4,a5,a6,a7]) (h2:VR u v' [b0,b1,b2,b3,b4,b5,b6,b7])=>uh HI v v' _ _ u (Nat.lt_of_lt_of_le (sz_f (k:=k) (t:=t) (d:=⟨dn,dg,dx⟩) (x:=x) (l:=l) (p:=(nm,v)) (List.mem_of_getElem? hv)) (by omega)) h1 h2);have HV:=hide hv;have HV':=hide hv';have VA:=hide vA;have VB:=hide vB;clear hv hv' vA vB;have hi1:(i:Int) < (f.length:Int):=by omega
                           have hmx:(i:Int) < 9223372036854775807:=by unfold maxLen at r2;omega
                           have hi3:i < f'.length:=by have:=uh E5;omega
                           have hi2:(i:Int) < (f'.length:Int):=by omega
                           obtain ⟨xn,x0,x1,x2,x3,x4,x5,x6,x7⟩:=cells9 hat;obtain ⟨yn,y0,y1,y2,y3,y4,y5,y6,y7⟩:=cells9 hbt;generalize ha:a.add (i*9)=ad at *;generalize hb:b.add (i*9)=bd at *;clear hat hbt;go_upto_region 13 with fail
                           go_cut [9] from 96 to 132 (fun s9 wx=>∃ bb,s9=.bool bb∧(bb=true↔v=v')∧Below wr.heap.size wr wx)
                           case first =>
                            as_aux_lemma =>
                             have vA:=(uh VA).drewN 1;have vB:=(uh VB).drewN 1
                             go_region_held3 (fun u=>u.cell? ⟨w.heap.size,7,none⟩=some (.slice (some a) f.length cf)∧u.cell? ⟨w.heap.size+1,7,none⟩=some (.slice (some b) f'.length cg)∧u.cell? ⟨ad.block,ad.off+1,none⟩=some a0∧u.cell? ⟨ad.block,ad.off+2,none⟩=some a1∧u.cell? ⟨ad.block,ad.off+3,none⟩=some a2∧u.cell? ⟨ad.block,ad.off+4,none⟩=some a3∧u.cell? ⟨ad.block,ad.off+5,none⟩=some a4∧u.cell? ⟨ad.block,ad.off+6,none⟩=some a5∧u.cell? ⟨ad.block,ad.off+7,none⟩=some a6∧u.cell? ⟨ad.block,ad.off+8,none⟩=some a7∧u.cell? ⟨bd.block,bd.off+1,none⟩=some b0∧u.cell? ⟨bd.block,bd.off+2,none⟩=some b1∧u.cell? ⟨bd.block,bd.off+3,none⟩=some b2∧u.cell? ⟨bd.block,bd.off+4,none⟩=some b3∧u.cell? ⟨bd.block,bd.off+5,none⟩=some b4∧u.cell? ⟨bd.block,bd.off+6,none⟩=some b5∧u.cell? ⟨bd.block,bd.off+7,none⟩=some b6∧u.cell? ⟨bd.block,bd.off+8,none⟩=some b7) (first|exact ⟨p7,s7,x0,x1,x2,x3,x4,x5,x6,x7,y0,y1,y2,y3,y4,y5,y6,y7⟩|exact hS2|(dsimp only;exact hS2)) (first
                              | (go_at_call 26;refine (uh CL _ (by first|assumption|exact vA) (by first|assumption|exact vB)).mono ?_;rintro e u2 ⟨bb,rfl,hbb,hbl2⟩;have hb3:Below wr.heap.size wr u2:=⟨hbl2.os,hbl2.tape,hbl2.output,hbl2.size,hbl2.block⟩;have hS2:u2.cell? ⟨w.heap.size,7,none⟩=some (.slice (some a) f.length cf)∧u2.cell? ⟨w.heap.size+1,7,none⟩=some (.slice (some b) f'.length cg)∧u2.cell? ⟨ad.block,ad.off+1,none⟩=some a0∧u2.cell? ⟨ad.block,ad.off+2,none⟩=some a1∧u2.cell? ⟨ad.block,ad.off+3,none⟩=some a2∧u2.cell? ⟨ad.block,ad.off+4,none⟩=some a3∧u2.cell? ⟨ad.block,ad.off+5,none⟩=some a4∧u2.cell? ⟨ad.block,ad.off+6,none⟩=some a5∧u2.cell? ⟨ad.block,ad.off+7,none⟩=some a6∧u2.cell? ⟨ad.block,ad.off+8,none⟩=some a7∧u2.cell? ⟨bd.block,bd.off+1,none⟩=some b0∧u2.cell? ⟨bd.block,bd.off+2,none⟩=some b1∧u2.cell? ⟨bd.block,bd.off+3,none⟩=some b2∧u2.cell? ⟨bd.block,bd.off+4,none⟩=some b3∧u2.cell? ⟨bd.block,bd.off+5,none⟩=some b4∧u2.cell? ⟨bd.block,bd.off+6,none⟩=some b5∧u2.cell? ⟨bd.block,bd.off+7,none⟩=some b6∧u2.cell? ⟨bd.block,bd.off+8,none⟩=some b7:=⟨kc hb3 p7,kc hb3 s7,kc hb3 x0,kc hb3 x1,kc hb3 x2,kc hb3 x3,kc hb3 x4,kc hb3 x5,kc hb3 x6,kc hb3 x7,kc hb3 y0,kc hb3 y1,kc hb3 y2,kc hb3 y3,kc hb3 y4,kc hb3 y5,kc hb3 y6,kc hb3 y7⟩))
                             all_goals go_wp2_with fail
                             all_goals go_meet
                             all_goals exact ⟨bb,rfl,hbb,hb3⟩
                           case rest =>
                            obtain ⟨bb,rfl,hbb,hb2⟩:=hcut;have HL3:=hide ((uh HL2).trans (hb2.mono (uh HL2).size));have hB3:=hide ((uh hB).trans (hb2.mono (Nat.le_trans (uh HZ) (uh hB).size)));have n1:=kc hb2 xn;have n2:=kc hb2 yn;have p7':=kc hb2 p7;have s7':=kc hb2 s7;clear hb2 VA VB CL xn x0 x1 x2 x3 x4 x5 x6 x7 yn y0 y1 y2 y3 y4 y5 y6 y7 p7 s7
                            cases bb with
                            | false =>
                              as_aux_lemma =>
                               have HN:=hide (show ¬ v=v' from fun q=>by simp [q] at hbb);clear hbb;go_wp2
                               go_quiet (fail)
                               go_wp2;go_ret;refine ⟨false,rfl,?_,(uh HL3).trans (mm.below_drewN _ _ _)⟩;simp only [Bool.false_eq_true,JT.mk.injEq,false_iff];rintro ⟨_,_,_,_,_,q⟩;apply uh HN;have q1:=uh HV;have q2:=uh HV';rw [q,q2] at q1;simp at q1;exact q1.2.symm
                            | true =>
                              by_cases en:nm=nm'
                              · as_aux_lemma =>
                                 subst en
                                 have HE2:Hid (∀ j,j < i+1→f[j]?=f'[j]?):=fun j hj=>by
                                  by_cases q:j < i
                                  · exact uh hE j q
                                  · obtain rfl:j=i:=by omega
                                    rw [uh HV,uh HV',hbb.1 rfl]
                                 clear hbb hE HV HV';go_wp2
                                 go_quiet (fail)
                                 go_wp2;exact ⟨⟨i+1,by omega,by go_num,HE2,(uh hB3).trans (mm.below_drewN _ _ _)⟩,by simp [intOf];omega⟩
                              · as_aux_lemma =>
                                 have en':¬ nm.toList=nm'.toList:=fun q=>en (ba_inj q)
                                 have en2:(nm.toList == nm'.toList)=false:=by simpa using en'
                                 have HN:=hide en;clear hbb en;go_wp2
                                 go_quiet (fail)
                                 go_wp2;go_ret;refine ⟨false,rfl,?_,(uh HL3).trans (mm.below_drewN _ _ _)⟩;simp only [Bool.false_eq_true,JT.mk.injEq,false_iff];rintro ⟨_,_,_,_,_,q⟩;apply uh HN;have q1:=uh HV;have q2:=uh HV';rw [q,q2] at q1;simp at q1;exact q1.1.symm
                         · as_aux_lemma =>
                            obtain rfl:i=f.length:=by omega
                            have HFF:Hid (f=f'):=by
                             show f=f';apply List.ext_getElem?;intro j
                             by_cases q:j < f.length
                             · exact uh hE j q
                             · rw [List.getElem?_eq_none (by omega),List.getElem?_eq_none (by have:=uh E5;omega)]
                            clear hE;go_wp2;go_ret;exact ⟨true,rfl,by rw [uh HLL,uh HFF];simp,uh HL2⟩
                  · clear hnb
                    as_aux_lemma =>
                     go_wp2;go_ret;exact ⟨false,rfl,by simp;rintro _ _ _ _ rfl;exact e5 rfl,uh HL⟩
                · clear hnb
                  as_aux_lemma =>
                   go_wp2;go_ret;exact ⟨false,rfl,by simp;rintro _ _ _ rfl;exact absurd rfl e4,uh HL⟩
              · clear hnb
                have e3':¬ x.toList=x'.toList:=fun q=>e3 (ba_inj q)
                as_aux_lemma =>
                 go_wp2;go_ret;exact ⟨false,rfl,by simp [e3],uh HL⟩
          · clear hnb
            as_aux_lemma =>
             go_wp2;go_ret;exact ⟨false,rfl,by simp [e2],uh HL⟩
        · clear hnb
          as_aux_lemma =>
           go_wp2;go_ret;exact ⟨false,rfl,by simp [e1],uh HL⟩
end Go.Proofs.YthnhobplgmojeaaGreatDoor.rd
