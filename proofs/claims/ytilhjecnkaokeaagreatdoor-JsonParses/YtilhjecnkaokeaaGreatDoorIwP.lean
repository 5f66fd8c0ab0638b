/- Texts in one: Iw Ix -/
import Derived.Test.YtilhjecnkaokeaaGreatDoorLcP
import Derived.Test.YtilhjecnkaokeaaGreatDoorWhP
namespace Go.Proofs.YtilhjecnkaokeaaGreatDoor.rd
open Go.RowKit
set_option maxRecDepth 100000 in
set_option maxHeartbeats 1600000 in
theorem rword_no (wd:ByteArray) (rb:Nat) (s:ByteArray) (k:Nat) (o:Int) (w:World) (h:RF w rb s k 0 o) (hk:k≤s.size) (hwd:wd.size≤100) (hs:s.size≤1048576) (hp:¬ (k+wd.size≤s.size∧s.extract k (k+wd.size)=wd)) :
 Calls Tryz.prog 85 #[.pointer (some ⟨rb,0,none⟩),.string wd] w fun e w'=>e=.returned (.bool false)∧RF w' rb s (k:Nat) 0 o∧Mv rb w w':=by
 have H:=hide h
 obtain ⟨c0,c1,c2,c3⟩:=h.cells
 have hmx:(k:Int)+(wd.size:Int)≤1048776:=by omega
 clear h c2 c3
 by_cases hz:k+wd.size≤s.size
 · have hne:s.extract k (k+wd.size)≠wd:=fun e=>hp ⟨hz,e⟩
   have hsl:∀ u:World,(Instr.slice 9 (.string s) (some (.int .i64 (k:Int))) (some (.int .i64 ((k:Int)+(wd.size:Int)))) none).run Tryz.prog u=.ok (.string (s.extract k (k+wd.size))) u:=fun u=>by
    have:=run_slice_string (P:=Tryz.prog) u 9 s .i64 .i64 (k:Int) ((k:Int)+(wd.size:Int)) Tryz.underlying9 (by omega) (by omega) (by omega)
    rw [this]
    congr 3
   have g1:decide ((s.size:Int) < (k:Int)+(wd.size:Int))=false:=decide_eq_false (by omega)
   have hmy:(k:Int)+(wd.size:Int)≤(s.size:Int):=by omega
   have hm0:(k:Int)≤(k:Int)+(wd.size:Int):=by omega
   have hnl:(s.extract k (k+wd.size)).toList≠wd.toList:=fun e=>hne (ba_inj e)
   have hnb:((s.extract k (k+wd.size)).toList != wd.toList)=true:=by simpa using hnl
   have hnc:((s.extract k (k+wd.size)).toList == wd.toList)=false:=by simpa using hnl
   clear hp hne hnl
   generalize s.extract k (k+wd.size)=pc at *
   go_enter Tryz.func85,Tryz.ntmps85
   go_wp2
   go_quiet (fail)
   go_wp2
   go_ret
   exact ⟨rfl,(uh H).drewN nq,(Mv.refl rb w).drewN nq⟩
 · have g1:decide ((s.size:Int) < (k:Int)+(wd.size:Int))=true:=decide_eq_true (by omega)
   clear hp
   go_enter Tryz.func85,Tryz.ntmps85
   go_wp2
   go_quiet (fail)
   go_wp2
   go_ret
   exact ⟨rfl,(uh H).drewN nq,(Mv.refl rb w).drewN nq⟩
theorem pre_word (s wd:ByteArray) (k:Nat) (hk:k≤s.size):Lib.hasPrefix (s.extract k s.size).data.toList wd.data.toList=true↔(k+wd.size≤s.size∧s.extract k (k+wd.size)=wd):=by
 have h1:wd.data.toList.length=wd.size:=Array.length_toList
 have h2:s.data.toList.length=s.size:=Array.length_toList
 unfold Lib.hasPrefix
 rw [List.isPrefixOf_iff_prefix,ext_end,List.prefix_iff_eq_take]
 rw [pt.cut_take,h1]
 constructor
 · intro e
   have hl:=congrArg List.length e
   rw [h1,List.length_take,List.length_drop,h2] at hl
   refine ⟨by omega,?_⟩
   rw [← e]
 · rintro ⟨_,e⟩
   have:=congrArg (fun x:ByteArray=>x.data.toList) e
   simpa using this.symm
theorem inB_num (c:UInt8):inB numBytes.data.toList c=decide (c.toNat=43∨c.toNat=45∨c.toNat=46∨c.toNat=101∨c.toNat=69∨(48≤c.toNat∧c.toNat≤57)):=by
 have:∀ n,n < 256→inB numBytes.data.toList (UInt8.ofNat n)=decide ((UInt8.ofNat n).toNat=43∨(UInt8.ofNat n).toNat=45∨(UInt8.ofNat n).toNat=46∨(UInt8.ofNat n).toNat=101∨(UInt8.ofNat n).toNat=69∨(48≤(UInt8.ofNat n).toNat∧(UInt8.ofNat n).toNat≤57)):=by decide +kernel
 have h:=this c.toNat c.toNat_lt
 rwa [UInt8.ofNat_toNat] at h
theorem num_step (s:ByteArray) (k:Nat) (h:k < s.size):((by_ s k=43∨by_ s k=45∨by_ s k=46∨by_ s k=101∨by_ s k=69∨(48≤by_ s k∧by_ s k≤57))∧numTo s k=numTo s (k+1)) ∨
 (¬ (by_ s k=43∨by_ s k=45∨by_ s k=46∨by_ s k=101∨by_ s k=69∨(48≤by_ s k∧by_ s k≤57))∧numTo s k=k):=by
 have hb:=inB_num s[k]
 have hy:=by_at s k h
 by_cases q:by_ s k=43∨by_ s k=45∨by_ s k=46∨by_ s k=101∨by_ s k=69∨(48≤by_ s k∧by_ s k≤57)
 · rw [decide_eq_true (by omega)] at hb
   exact .inl ⟨q,skipTo_on _ s k h hb⟩
 · rw [decide_eq_false (by omega)] at hb
   exact .inr ⟨q,skipTo_off _ s k h hb⟩
theorem ret_rnum {m:Nat}{w:World}{a0 a1 a2 a3 a4 a5 a6 a7:Value} (h:BX w m [a0,a1,a2,a3,a4,a5,a6,a7]) (tmps:Array Value) (h2:tmps[2]?.getD undef=.pointer (some ⟨m,0,none⟩)) :
 (results Tryz.f84 tmps).run Tryz.prog w=.ok (.agg #[a0,a1,a2,a3,a4,a5,a6,a7]) w:=by
 obtain ⟨q0,q1,q2,q3,q4,q5,q6,q7⟩:=BX.cells h
 simp [results,Tryz.results84,h2,go_sem,q0,q1,q2,q3,q4,q5,q6,q7]
theorem nrm_num (d:Dn) (h:Whole1 d):nrm (JT.mk 2 false d ⟨#[]⟩ [] [])=leaf 2 false d ⟨#[]⟩:=by
 rw [nrm_mk,if_neg (by decide),if_pos rfl,wh.whole_id h]
 rfl
theorem bd_flat (k:Int) (t:Bool) (d:Dn) (x:ByteArray) (hk:-9223372036854775808≤k∧k≤9223372036854775807) (h0:d.dg.size≤1099511627776) (h1:-9223372036854775808≤d.ex∧d.ex≤9223372036854775807) (h2:x.size≤35184372088832):Bd (JT.mk k t d x [] []) :=
 .mk hk h0 h1 h2 (by simp) (by simp) (fun v hv=>by simp at hv) (fun p hp=>by simp at hp) (fun p hp=>by simp at hp)
set_option maxRecDepth 100000 in
set_option maxHeartbeats 3200000 in
theorem rnumber_any (rb:Nat) (s:ByteArray) (k:Nat) (o:Int) (w:World) (h:RF w rb s k 0 o) (hk:k≤s.size) (hs:s.size≤1048576) :
 Calls Tryz.prog 84 #[.pointer (some ⟨rb,0,none⟩)] w (RVP rb s o w (numJ s k)):=by
 have hrl:=blk_lt h
 have hle:=skipTo_le numBytes.data.toList s k hk
 obtain ⟨tz,hto⟩:∃ tz,tz=numTo s k:=⟨_,rfl⟩
 have hle2:k≤tz∧tz≤s.size:=by rw [hto];exact hle
 have hnj:numJ s k=if (rparse (s.extract k tz)).2=0 then .inl (leaf 2 false (rparse (s.extract k tz)).1 ⟨#[]⟩,tz) else .inr (if (rparse (s.extract k tz)).2=3 then 2 else 3,k):=by
  unfold numJ numR
  rw [← hto]
 have hps:(s.extract k tz).size≤1048576:=by rw [ByteArray.size_extract];omega
 have hcd:=rparse_codes (s.extract k tz) (by omega)
 have hwh:=wh.rparse_whole (s.extract k tz)
 have hdz:=wh.rparse_size (s.extract k tz)
 have hdz:(rparse (s.extract k tz)).1.dg.size≤2097152:=by omega
 have P1:=hide (fun u=>rparse_any (s.extract k tz) u (by omega))
 obtain ⟨res,hres⟩:∃ res,res=numJ s k:=⟨_,rfl⟩
 rw [← hres]
 rw [hnj] at hres
 have hsl:∀ u:World,(Instr.slice 9 (.string s) (some (.int .i64 (k:Int))) (some (.int .i64 (tz:Int))) none).run Tryz.prog u=.ok (.string (s.extract k tz)) u:=fun u=>run_slice_string u 9 s .i64 .i64 k tz Tryz.underlying9 (by omega) (by omega) (by omega)
 have hk1:(k:Int)≤(tz:Int):=by omega
 have hk2:(tz:Int)≤(s.size:Int):=by omega
 generalize rparse (s.extract k tz)=rp at *
 have HRES:=hide hres
 clear hres
 have HX0:Hid (BX (w.alloc (.cells zcells.toArray 28)) w.heap.size zcells):=heap_alloc_new w _
 have hB0:Below w.heap.size w (w.alloc (.cells zcells.toArray 28)):=(Below.refl _ _).alloc (Nat.le_refl _) _
 have hR0:=h.below hB0
 have HB0:=hide hB0
 have HR0:=hide hR0
 have HTO:=hide hto
 have HCD:=hide hcd
 have HWH:=hide hwh
 have HDZ:=hide hdz
 have hz0:(w.alloc (.cells zcells.toArray 28)).heap.size=w.heap.size+1:=World.size_alloc _ _
 have HZ0:=hide hz0
 clear hz0 hnj hle hps hcd hwh hdz h hB0 hR0 hto
 simp only [zcells] at HX0 HB0 HR0 HZ0
 simp only [dv] at P1
 obtain ⟨c0,c1,c2,c3⟩:=(uh HR0).cells
 clear c2 c3
 go_enter Tryz.func84,Tryz.ntmps84
 go_wp2
 generalize w.alloc (.cells [.int .i64 0,.bool false,.bool false,.string ⟨#[]⟩,.int .i64 0,.string ⟨#[]⟩,.slice none 0 0,.slice none 0 0].toArray 28)=W0 at *
 go_loopw [3] (fun v wr=>wr=W0∧∃ i:Nat,v=.int .i64 (i:Int)∧k≤i∧i≤s.size∧Hid (tz=numTo s i)) (fun v _=>s.size - (intOf v).toNat)
 case atStart=>exact ⟨rfl,k,rfl,by omega,by omega,HTO⟩
 case round =>
  obtain ⟨rfl,i,rfl,hi0,hi1,hT⟩:=hrel
  clear HTO
  by_cases hlt:i < s.size
  · have hlt':decide ((i:Int) < (s.size:Int))=true:=decide_eq_true (by omega)
    have hltN:decide (i < s.size)=true:=decide_eq_true hlt
    have hix:=index_any s i (i:Int) rfl hlt
    have hns:=num_step s i hlt
    have him:(i:Int) < 1048576:=by omega
    generalize by_ s i=y at hix hns
    rcases hns with ⟨hy,hg⟩|⟨hy,hg⟩
    · have HT2:=hide ((uh hT).trans hg)
      clear hg hT
      rcases hy with rfl|rfl|rfl|rfl|rfl|hy
      · go_wp2
        exact ⟨⟨trivial,i+1,rfl,by omega,by omega,HT2⟩,by simp [intOf];omega⟩
      · go_wp2
        exact ⟨⟨trivial,i+1,rfl,by omega,by omega,HT2⟩,by simp [intOf];omega⟩
      · go_wp2
        exact ⟨⟨trivial,i+1,rfl,by omega,by omega,HT2⟩,by simp [intOf];omega⟩
      · go_wp2
        exact ⟨⟨trivial,i+1,rfl,by omega,by omega,HT2⟩,by simp [intOf];omega⟩
      · go_wp2
        exact ⟨⟨trivial,i+1,rfl,by omega,by omega,HT2⟩,by simp [intOf];omega⟩
      · have n43:(y != 43)=true:=by simp;omega
        have n45:(y != 45)=true:=by simp;omega
        have n46:(y != 46)=true:=by simp;omega
        have n101:(y != 101)=true:=by simp;omega
        have n69:(y != 69)=true:=by simp;omega
        have d1:decide (y < 48)=false:=decide_eq_false (by omega)
        have d2:decide (57 < y)=false:=decide_eq_false (by omega)
        clear hy
        go_wp2
        exact ⟨⟨trivial,i+1,rfl,by omega,by omega,HT2⟩,by simp [intOf];omega⟩
    · have HT2:=hide ((uh hT).trans hg)
      have n43:(y != 43)=true:=by simp;omega
      have n45:(y != 45)=true:=by simp;omega
      have n46:(y != 46)=true:=by simp;omega
      have n101:(y != 101)=true:=by simp;omega
      have n69:(y != 69)=true:=by simp;omega
      clear hg hT
      by_cases hy2:y < 48
      · have d1:decide (y < 48)=true:=decide_eq_true hy2
        clear hy hy2
        obtain rfl:=(uh HT2).symm
        clear HT2
        go_wp2_with fail
        clear n43 n45 n46 n101 n69 d1 hix him hlt hlt' hltN hi0 hi1
        go_cut [5,6] from 52 (fun s5 s6 wx=>∃ nb,s5=.pointer (some ⟨nb,0,none⟩)∧s6=.int .i64 rp.2∧w.heap.size≤nb∧nb≠w.heap.size∧Hid (DLies wx nb rp.1)∧Hid (BX wx w.heap.size zcells)∧Hid (RF wx rb s k 0 o)∧Hid (Mv rb w wx))
        case first =>
         have hwz:w.heap.size < wr.heap.size:=by rw [uh HZ0];omega
         have hbA:Below wr.heap.size wr (wr.drew.alloc (.cells #[.bool false,.string ⟨#[]⟩,.int .i64 0] 24)):=((Below.refl _ wr).drew).alloc (Nat.le_refl _) _
         have hzN:Hid (DLies (wr.drew.alloc (.cells #[.bool false,.string ⟨#[]⟩,.int .i64 0] 24)) wr.heap.size zed):=dlies_new wr.drew zed
         have hrb1:rb < wr.heap.size:=blk_lt (uh HR0)
         have hrbn:rb≠wr.heap.size:=by omega
         have hrbn2:wr.heap.size≠rb:=by omega
         have HbA:=hide hbA
         clear hbA
         go_region_held3 (fun w'=>w'.cell? ⟨rb,0,none⟩=some (.string s)∧w'.cell? ⟨rb,1,none⟩=some (.int .i64 (k:Int))) (((try dsimp only);(repeat' apply And.intro);all_goals first|(go_keep;done)|(simp;omega)|(simp [*,World.cell?_alloc_past];done))) (first
          | (go_at_call 120;(first
            | (refine (uh P1 _).mono ?_;rintro e u2 ⟨rfl,ha⟩;have hb2:Hid (Below wr.heap.size wr u2):=((Below.refl _ wr).drew).trans ha)
            | (refine (uh P1 _).mono ?_;rintro e u2 ⟨rfl,ha⟩;have hb2:Hid (Below wr.heap.size wr u2):=(uh HbA).trans (ha.mono (uh HbA).size);have hzN2:DLies u2 wr.heap.size zed:=(uh hzN).below ha (blk_lt (uh hzN));obtain ⟨y0,y1,y2⟩:=hzN2.cells;obtain ⟨x0,x1,x2⟩:=hzN2.frees;simp only [zed] at y0 y1 y2))
             have k0:=keepC ha (b:=rb) (o:=0) (v:=.string s) (by first|assumption|go_keep|(simp [*,World.cell?_alloc_past];done));have k1:=keepC ha (b:=rb) (o:=1) (v:=.int .i64 (k:Int)) (by first|assumption|go_keep|(simp [*,World.cell?_alloc_past];done));clear ha))
         all_goals go_wp2_with fail
         all_goals go_meet
         · have hv2:BX u2 w.heap.size zcells:=((uh hb2).block _ (blk_lt (uh HX0))).trans (uh HX0)
           have hbn:Below u2.heap.size u2 (u2.alloc (.cells #[.bool rp.1.neg,.string rp.1.dg,.int .i64 rp.1.ex] 24)):=(Below.refl _ _).alloc (Nat.le_refl _) _
           have hl2:=blk_lt hv2
           exact ⟨u2.heap.size,rfl,rfl,by omega,by omega,dlies_new u2 rp.1,(hbn.block _ hl2).trans hv2,((uh HR0).below (uh hb2)).below hbn,((Mv.of ((uh HB0).trans ((uh hb2).mono (by omega)))).trans (Mv.of hbn))⟩
         · have hl1:=blk_lt (uh HX0)
           have hv2:BX u2 w.heap.size zcells:=((uh hb2).block _ hl1).trans (uh HX0)
           have hU:Mv wr.heap.size u2 (((u2.setCell ⟨wr.heap.size,0,none⟩ (.bool rp.1.neg)).setCell ⟨wr.heap.size,1,none⟩ (.string rp.1.dg)).setCell ⟨wr.heap.size,2,none⟩ (.int .i64 rp.1.ex)):=((Mv.set _ 0 _).trans (Mv.set _ 1 _)).trans (Mv.set _ 2 _)
           exact ⟨wr.heap.size,rfl,rfl,by omega,by omega,hzN2.set _ _ _,hU.obj (by omega) hv2,hU.obj (by omega) ((uh HR0).below (uh hb2)),(Mv.of ((uh HB0).trans ((uh hb2).mono (by omega)))).own (by omega) hU⟩
        case rest =>
         clear c0 c1 HR0 HX0 HB0 P1 HZ0
         obtain ⟨nb,rfl,rfl,hn1,hn2,hDl,hA1,hR1,hM1⟩:=hcut
         obtain ⟨c0,c1,c2,c3⟩:=(uh hR1).cells
         obtain ⟨f1,f2,f3⟩:=(uh hR1).frees
         clear c0 c2 c3 f2 f3
         have hA1':=uh hA1
         simp only [zcells] at hA1'
         obtain ⟨q0,q1,q2,q3,q4,q5,q6,q7⟩:=hA1'.cells
         obtain ⟨g0,g1,g2,g3,g4,g5,g6,g7⟩:=hA1'.frees
         have HA1:=hide hA1'
         clear hA1 hA1'
         have hnr:nb≠rb:=by omega
         have hwr:w.heap.size≠rb:=by omega
         by_cases hc:rp.2=0
         · obtain ⟨y0,y1,y2⟩:=(uh hDl).cells
           have hc':(rp.2 != 0)=false:=by simp [hc]
           have HRES2:=hide ((uh HRES).trans (if_pos hc))
           have hSx:=Mv.set (rb:=rb) wc 1 (.int .i64 (i:Int))
           have HR2:=hide (RF.at1 (uh hR1) (i:Int))
           have HX2:Hid (BX (wc.setCell ⟨rb,1,none⟩ (.int .i64 (i:Int))) w.heap.size _):=hSx.obj hwr (uh HA1)
           have HM2:=hide ((uh hM1).trans hSx)
           clear HRES hc hSx hDl hR1 hM1 HA1
           go_wp2
           have hX:=st8_bx (uh HX2) rfl (.int .i64 2) (.bool false) (.bool rp.1.neg) (.string rp.1.dg) (.int .i64 rp.1.ex) (.string ⟨#[]⟩) (.slice none 0 0) (.slice none 0 0)
           have hU:=st8_upd (wc.setCell ⟨rb,1,none⟩ (.int .i64 (i:Int))) w.heap.size (.int .i64 2) (.bool false) (.bool rp.1.neg) (.string rp.1.dg) (.int .i64 rp.1.ex) (.string ⟨#[]⟩) (.slice none 0 0) (.slice none 0 0)
           have hRz:=(upd_mv hU).obj (Ne.symm hwr) (uh HR2)
           have hMz:=(uh HM2).own (Nat.le_refl _) (upd_mv hU)
           simp only [st8] at hX hRz hMz
           have hd:=uh HDZ
           have hwd:=uh HWH
           have hex:-9223372036854775808≤rp.1.ex∧rp.1.ex≤9223372036854775807:=by
            rcases hwd with e|e
            · rw [e];decide
            · have:=e.e0
              have:=e.e1
              omega
           exact bodyPost_ret (ret_rnum hX _ rfl) rfl ⟨.inl ⟨_,i,JT.mk 2 false rp.1 ⟨#[]⟩ [] [],i,_,[],uh HRES2,hle2.2,hle2.2,rfl,rfl,hRz,vrep_flat _ _ 2 false rp.1 ⟨#[]⟩,List.nodup_nil,nrm_num rp.1 hwd,bd_flat 2 false rp.1 ⟨#[]⟩ (by omega) (by omega) hex (by decide)⟩,hMz⟩
         · have hc':(rp.2 != 0)=true:=by simp [hc]
           have HRES2:=hide ((uh HRES).trans (if_neg hc))
           have F1:=hide (rfails_on rb s (k:Int) o (k:Int) rp.2 wc (uh hR1))
           have hcode:Hid (cdE (if rp.2=3 then 2 else 3)=rp.2∧rp.2≠0):=by
            refine ⟨?_,hc⟩
            rcases uh HCD with e|e|e
            · exact absurd e hc
            · rw [e,if_pos rfl];rfl
            · rw [e,if_neg (by decide)];rfl
           clear HRES hc q0 q1 q2 q3 q4 q5 q6 q7 g0 g1 g2 g3 g4 g5 g6 g7 f1 hDl
           generalize (if rp.2=3 then 2 else 3)=gE at *
           go_wp2_with fail
           refine (uh F1).mono ?_
           rintro e u3 ⟨rfl,hR3,hU3⟩
           have HX3:Hid (BX u3 w.heap.size _):=(upd_mv hU3).obj hwr (uh HA1)
           have HR3:=hide hR3
           have HM3:=hide ((uh hM1).trans (upd_mv hU3))
           clear hR3 hU3 hR1 hM1 HA1 F1 c1
           obtain ⟨q0,q1,q2,q3,q4,q5,q6,q7⟩:=(uh HX3).cells
           obtain ⟨g0,g1,g2,g3,g4,g5,g6,g7⟩:=(uh HX3).frees
           go_wp2
           have hX:=st8_bx (uh HX3) rfl (.int .i64 0) (.bool false) (.bool false) (.string ⟨#[]⟩) (.int .i64 0) (.string ⟨#[]⟩) (.slice none 0 0) (.slice none 0 0)
           have hU:=st8_upd u3 w.heap.size (.int .i64 0) (.bool false) (.bool false) (.string ⟨#[]⟩) (.int .i64 0) (.string ⟨#[]⟩) (.slice none 0 0) (.slice none 0 0)
           have hRz:=(upd_mv hU).obj (Ne.symm hwr) (uh HR3)
           have hMz:=(uh HM3).own (Nat.le_refl _) (upd_mv hU)
           simp only [st8] at hX hRz hMz
           have hcc:=uh hcode
           rw [← hcc.1] at hRz
           exact bodyPost_ret (ret_rnum hX _ rfl) rfl ⟨.inr ⟨_,k,_,o,uh HRES2,hk,by rw [hcc.1];exact hcc.2,rfl,⟨0,false,false,⟨#[]⟩,0,⟨#[]⟩,none,0,0,none,0,0,rfl⟩,⟨by omega,by omega⟩,hRz⟩,hMz⟩
      · have d1:decide (y < 48)=false:=decide_eq_false hy2
        have d2:decide (57 < y)=true:=decide_eq_true (by omega)
        clear hy hy2
        obtain rfl:=(uh HT2).symm
        clear HT2
        go_wp2_with fail
        clear n43 n45 n46 n101 n69 d1 d2 hix him hlt hlt' hltN hi0 hi1
        go_cut [5,6] from 52 (fun s5 s6 wx=>∃ nb,s5=.pointer (some ⟨nb,0,none⟩)∧s6=.int .i64 rp.2∧w.heap.size≤nb∧nb≠w.heap.size∧Hid (DLies wx nb rp.1)∧Hid (BX wx w.heap.size zcells)∧Hid (RF wx rb s k 0 o)∧Hid (Mv rb w wx))
        case first =>
         have hwz:w.heap.size < wr.heap.size:=by rw [uh HZ0];omega
         have hbA:Below wr.heap.size wr (wr.drew.alloc (.cells #[.bool false,.string ⟨#[]⟩,.int .i64 0] 24)):=((Below.refl _ wr).drew).alloc (Nat.le_refl _) _
         have hzN:Hid (DLies (wr.drew.alloc (.cells #[.bool false,.string ⟨#[]⟩,.int .i64 0] 24)) wr.heap.size zed):=dlies_new wr.drew zed
         have hrb1:rb < wr.heap.size:=blk_lt (uh HR0)
         have hrbn:rb≠wr.heap.size:=by omega
         have hrbn2:wr.heap.size≠rb:=by omega
         have HbA:=hide hbA
         clear hbA
         go_region_held3 (fun w'=>w'.cell? ⟨rb,0,none⟩=some (.string s)∧w'.cell? ⟨rb,1,none⟩=some (.int .i64 (k:Int))) (((try dsimp only);(repeat' apply And.intro);all_goals first|(go_keep;done)|(simp;omega)|(simp [*,World.cell?_alloc_past];done))) (first
          | (go_at_call 120;(first
            | (refine (uh P1 _).mono ?_;rintro e u2 ⟨rfl,ha⟩;have hb2:Hid (Below wr.heap.size wr u2):=((Below.refl _ wr).drew).trans ha)
            | (refine (uh P1 _).mono ?_;rintro e u2 ⟨rfl,ha⟩;have hb2:Hid (Below wr.heap.size wr u2):=(uh HbA).trans (ha.mono (uh HbA).size);have hzN2:DLies u2 wr.heap.size zed:=(uh hzN).below ha (blk_lt (uh hzN));obtain ⟨y0,y1,y2⟩:=hzN2.cells;obtain ⟨x0,x1,x2⟩:=hzN2.frees;simp only [zed] at y0 y1 y2))
             have k0:=keepC ha (b:=rb) (o:=0) (v:=.string s) (by first|assumption|go_keep|(simp [*,World.cell?_alloc_past];done));have k1:=keepC ha (b:=rb) (o:=1) (v:=.int .i64 (k:Int)) (by first|assumption|go_keep|(simp [*,World.cell?_alloc_past];done));clear ha))
         all_goals go_wp2_with fail
         all_goals go_meet
         · have hv2:BX u2 w.heap.size zcells:=((uh hb2).block _ (blk_lt (uh HX0))).trans (uh HX0)
           have hbn:Below u2.heap.size u2 (u2.alloc (.cells #[.bool rp.1.neg,.string rp.1.dg,.int .i64 rp.1.ex] 24)):=(Below.refl _ _).alloc (Nat.le_refl _) _
           have hl2:=blk_lt hv2
           exact ⟨u2.heap.size,rfl,rfl,by omega,by omega,dlies_new u2 rp.1,(hbn.block _ hl2).trans hv2,((uh HR0).below (uh hb2)).below hbn,((Mv.of ((uh HB0).trans ((uh hb2).mono (by omega)))).trans (Mv.of hbn))⟩
         · have hl1:=blk_lt (uh HX0)
           have hv2:BX u2 w.heap.size zcells:=((uh hb2).block _ hl1).trans (uh HX0)
           have hU:Mv wr.heap.size u2 (((u2.setCell ⟨wr.heap.size,0,none⟩ (.bool rp.1.neg)).setCell ⟨wr.heap.size,1,none⟩ (.string rp.1.dg)).setCell ⟨wr.heap.size,2,none⟩ (.int .i64 rp.1.ex)):=((Mv.set _ 0 _).trans (Mv.set _ 1 _)).trans (Mv.set _ 2 _)
           exact ⟨wr.heap.size,rfl,rfl,by omega,by omega,hzN2.set _ _ _,hU.obj (by omega) hv2,hU.obj (by omega) ((uh HR0).below (uh hb2)),(Mv.of ((uh HB0).trans ((uh hb2).mono (by omega)))).own (by omega) hU⟩
        case rest =>
         clear c0 c1 HR0 HX0 HB0 P1 HZ0
         obtain ⟨nb,rfl,rfl,hn1,hn2,hDl,hA1,hR1,hM1⟩:=hcut
         obtain ⟨c0,c1,c2,c3⟩:=(uh hR1).cells
         obtain ⟨f1,f2,f3⟩:=(uh hR1).frees
         clear c0 c2 c3 f2 f3
         have hA1':=uh hA1
         simp only [zcells] at hA1'
         obtain ⟨q0,q1,q2,q3,q4,q5,q6,q7⟩:=hA1'.cells
         obtain ⟨g0,g1,g2,g3,g4,g5,g6,g7⟩:=hA1'.frees
         have HA1:=hide hA1'
         clear hA1 hA1'
         have hnr:nb≠rb:=by omega
         have hwr:w.heap.size≠rb:=by omega
         by_cases hc:rp.2=0
         · obtain ⟨y0,y1,y2⟩:=(uh hDl).cells
           have hc':(rp.2 != 0)=false:=by simp [hc]
           have HRES2:=hide ((uh HRES).trans (if_pos hc))
           have hSx:=Mv.set (rb:=rb) wc 1 (.int .i64 (i:Int))
           have HR2:=hide (RF.at1 (uh hR1) (i:Int))
           have HX2:Hid (BX (wc.setCell ⟨rb,1,none⟩ (.int .i64 (i:Int))) w.heap.size _):=hSx.obj hwr (uh HA1)
           have HM2:=hide ((uh hM1).trans hSx)
           clear HRES hc hSx hDl hR1 hM1 HA1
           go_wp2
           have hX:=st8_bx (uh HX2) rfl (.int .i64 2) (.bool false) (.bool rp.1.neg) (.string rp.1.dg) (.int .i64 rp.1.ex) (.string ⟨#[]⟩) (.slice none 0 0) (.slice none 0 0)
           have hU:=st8_upd (wc.setCell ⟨rb,1,none⟩ (.int .i64 (i:Int))) w.heap.size (.int .i64 2) (.bool false) (.bool rp.1.neg) (.string rp.1.dg) (.int .i64 rp.1.ex) (.string ⟨#[]⟩) (.slice none 0 0) (.slice none 0 0)
           have hRz:=(upd_mv hU).obj (Ne.symm hwr) (uh HR2)
           have hMz:=(uh HM2).own (Nat.le_refl _) (upd_mv hU)
           simp only [st8] at hX hRz hMz
           have hd:=uh HDZ
           have hwd:=uh HWH
           have hex:-9223372036854775808≤rp.1.ex∧rp.1.ex≤9223372036854775807:=by
            rcases hwd with e|e
            · rw [e];decide
            · have:=e.e0
              have:=e.e1
              omega
           exact bodyPost_ret (ret_rnum hX _ rfl) rfl ⟨.inl ⟨_,i,JT.mk 2 false rp.1 ⟨#[]⟩ [] [],i,_,[],uh HRES2,hle2.2,hle2.2,rfl,rfl,hRz,vrep_flat _ _ 2 false rp.1 ⟨#[]⟩,List.nodup_nil,nrm_num rp.1 hwd,bd_flat 2 false rp.1 ⟨#[]⟩ (by omega) (by omega) hex (by decide)⟩,hMz⟩
         · have hc':(rp.2 != 0)=true:=by simp [hc]
           have HRES2:=hide ((uh HRES).trans (if_neg hc))
           have F1:=hide (rfails_on rb s (k:Int) o (k:Int) rp.2 wc (uh hR1))
           have hcode:Hid (cdE (if rp.2=3 then 2 else 3)=rp.2∧rp.2≠0):=by
            refine ⟨?_,hc⟩
            rcases uh HCD with e|e|e
            · exact absurd e hc
            · rw [e,if_pos rfl];rfl
            · rw [e,if_neg (by decide)];rfl
           clear HRES hc q0 q1 q2 q3 q4 q5 q6 q7 g0 g1 g2 g3 g4 g5 g6 g7 f1 hDl
           generalize (if rp.2=3 then 2 else 3)=gE at *
           go_wp2_with fail
           refine (uh F1).mono ?_
           rintro e u3 ⟨rfl,hR3,hU3⟩
           have HX3:Hid (BX u3 w.heap.size _):=(upd_mv hU3).obj hwr (uh HA1)
           have HR3:=hide hR3
           have HM3:=hide ((uh hM1).trans (upd_mv hU3))
           clear hR3 hU3 hR1 hM1 HA1 F1 c1
           obtain ⟨q0,q1,q2,q3,q4,q5,q6,q7⟩:=(uh HX3).cells
           obtain ⟨g0,g1,g2,g3,g4,g5,g6,g7⟩:=(uh HX3).frees
           go_wp2
           have hX:=st8_bx (uh HX3) rfl (.int .i64 0) (.bool false) (.bool false) (.string ⟨#[]⟩) (.int .i64 0) (.string ⟨#[]⟩) (.slice none 0 0) (.slice none 0 0)
           have hU:=st8_upd u3 w.heap.size (.int .i64 0) (.bool false) (.bool false) (.string ⟨#[]⟩) (.int .i64 0) (.string ⟨#[]⟩) (.slice none 0 0) (.slice none 0 0)
           have hRz:=(upd_mv hU).obj (Ne.symm hwr) (uh HR3)
           have hMz:=(uh HM3).own (Nat.le_refl _) (upd_mv hU)
           simp only [st8] at hX hRz hMz
           have hcc:=uh hcode
           rw [← hcc.1] at hRz
           exact bodyPost_ret (ret_rnum hX _ rfl) rfl ⟨.inr ⟨_,k,_,o,uh HRES2,hk,by rw [hcc.1];exact hcc.2,rfl,⟨0,false,false,⟨#[]⟩,0,⟨#[]⟩,none,0,0,none,0,0,rfl⟩,⟨by omega,by omega⟩,hRz⟩,hMz⟩
  · have hlt':decide ((i:Int) < (s.size:Int))=false:=decide_eq_false (by omega)
    have hltN:decide (i < s.size)=false:=decide_eq_false hlt
    have hz:numTo s i=i:=skipTo_end _ s i (by omega)
    rw [hz] at hT
    obtain rfl:=(uh hT).symm
    clear hT hz
    go_wp2_with fail
    clear hlt hlt' hltN hi0 hi1
    go_cut [5,6] from 52 (fun s5 s6 wx=>∃ nb,s5=.pointer (some ⟨nb,0,none⟩)∧s6=.int .i64 rp.2∧w.heap.size≤nb∧nb≠w.heap.size∧Hid (DLies wx nb rp.1)∧Hid (BX wx w.heap.size zcells)∧Hid (RF wx rb s k 0 o)∧Hid (Mv rb w wx))
    case first =>
     have hwz:w.heap.size < wr.heap.size:=by rw [uh HZ0];omega
     have hbA:Below wr.heap.size wr (wr.drew.alloc (.cells #[.bool false,.string ⟨#[]⟩,.int .i64 0] 24)):=((Below.refl _ wr).drew).alloc (Nat.le_refl _) _
     have hzN:Hid (DLies (wr.drew.alloc (.cells #[.bool false,.string ⟨#[]⟩,.int .i64 0] 24)) wr.heap.size zed):=dlies_new wr.drew zed
     have hrb1:rb < wr.heap.size:=blk_lt (uh HR0)
     have hrbn:rb≠wr.heap.size:=by omega
     have hrbn2:wr.heap.size≠rb:=by omega
     have HbA:=hide hbA
     clear hbA
     go_region_held3 (fun w'=>w'.cell? ⟨rb,0,none⟩=some (.string s)∧w'.cell? ⟨rb,1,none⟩=some (.int .i64 (k:Int))) (((try dsimp only);(repeat' apply And.intro);all_goals first|(go_keep;done)|(simp;omega)|(simp [*,World.cell?_alloc_past];done))) (first
      | (go_at_call 120;(first
        | (refine (uh P1 _).mono ?_;rintro e u2 ⟨rfl,ha⟩;have hb2:Hid (Below wr.heap.size wr u2):=((Below.refl _ wr).drew).trans ha)
        | (refine (uh P1 _).mono ?_;rintro e u2 ⟨rfl,ha⟩;have hb2:Hid (Below wr.heap.size wr u2):=(uh HbA).trans (ha.mono (uh HbA).size);have hzN2:DLies u2 wr.heap.size zed:=(uh hzN).below ha (blk_lt (uh hzN));obtain ⟨y0,y1,y2⟩:=hzN2.cells;obtain ⟨x0,x1,x2⟩:=hzN2.frees;simp only [zed] at y0 y1 y2))
         have k0:=keepC ha (b:=rb) (o:=0) (v:=.string s) (by first|assumption|go_keep|(simp [*,World.cell?_alloc_past];done));have k1:=keepC ha (b:=rb) (o:=1) (v:=.int .i64 (k:Int)) (by first|assumption|go_keep|(simp [*,World.cell?_alloc_past];done));clear ha))
     all_goals go_wp2_with fail
     all_goals go_meet
     · have hv2:BX u2 w.heap.size zcells:=((uh hb2).block _ (blk_lt (uh HX0))).trans (uh HX0)
       have hbn:Below u2.heap.size u2 (u2.alloc (.cells #[.bool rp.1.neg,.string rp.1.dg,.int .i64 rp.1.ex] 24)):=(Below.refl _ _).alloc (Nat.le_refl _) _
       have hl2:=blk_lt hv2
       exact ⟨u2.heap.size,rfl,rfl,by omega,by omega,dlies_new u2 rp.1,(hbn.block _ hl2).trans hv2,((uh HR0).below (uh hb2)).below hbn,((Mv.of ((uh HB0).trans ((uh hb2).mono (by omega)))).trans (Mv.of hbn))⟩
     · have hl1:=blk_lt (uh HX0)
       have hv2:BX u2 w.heap.size zcells:=((uh hb2).block _ hl1).trans (uh HX0)
       have hU:Mv wr.heap.size u2 (((u2.setCell ⟨wr.heap.size,0,none⟩ (.bool rp.1.neg)).setCell ⟨wr.heap.size,1,none⟩ (.string rp.1.dg)).setCell ⟨wr.heap.size,2,none⟩ (.int .i64 rp.1.ex)):=((Mv.set _ 0 _).trans (Mv.set _ 1 _)).trans (Mv.set _ 2 _)
       exact ⟨wr.heap.size,rfl,rfl,by omega,by omega,hzN2.set _ _ _,hU.obj (by omega) hv2,hU.obj (by omega) ((uh HR0).below (uh hb2)),(Mv.of ((uh HB0).trans ((uh hb2).mono (by omega)))).own (by omega) hU⟩
    case rest =>
     clear c0 c1 HR0 HX0 HB0 P1 HZ0
     obtain ⟨nb,rfl,rfl,hn1,hn2,hDl,hA1,hR1,hM1⟩:=hcut
     obtain ⟨c0,c1,c2,c3⟩:=(uh hR1).cells
     obtain ⟨f1,f2,f3⟩:=(uh hR1).frees
     clear c0 c2 c3 f2 f3
     have hA1':=uh hA1
     simp only [zcells] at hA1'
     obtain ⟨q0,q1,q2,q3,q4,q5,q6,q7⟩:=hA1'.cells
     obtain ⟨g0,g1,g2,g3,g4,g5,g6,g7⟩:=hA1'.frees
     have HA1:=hide hA1'
     clear hA1 hA1'
     have hnr:nb≠rb:=by omega
     have hwr:w.heap.size≠rb:=by omega
     by_cases hc:rp.2=0
     · obtain ⟨y0,y1,y2⟩:=(uh hDl).cells
       have hc':(rp.2 != 0)=false:=by simp [hc]
       have HRES2:=hide ((uh HRES).trans (if_pos hc))
       have hSx:=Mv.set (rb:=rb) wc 1 (.int .i64 (i:Int))
       have HR2:=hide (RF.at1 (uh hR1) (i:Int))
       have HX2:Hid (BX (wc.setCell ⟨rb,1,none⟩ (.int .i64 (i:Int))) w.heap.size _):=hSx.obj hwr (uh HA1)
       have HM2:=hide ((uh hM1).trans hSx)
       clear HRES hc hSx hDl hR1 hM1 HA1
       go_wp2
       have hX:=st8_bx (uh HX2) rfl (.int .i64 2) (.bool false) (.bool rp.1.neg) (.string rp.1.dg) (.int .i64 rp.1.ex) (.string ⟨#[]⟩) (.slice none 0 0) (.slice none 0 0)
       have hU:=st8_upd (wc.setCell ⟨rb,1,none⟩ (.int .i64 (i:Int))) w.heap.size (.int .i64 2) (.bool false) (.bool rp.1.neg) (.string rp.1.dg) (.int .i64 rp.1.ex) (.string ⟨#[]⟩) (.slice none 0 0) (.slice none 0 0)
       have hRz:=(upd_mv hU).obj (Ne.symm hwr) (uh HR2)
       have hMz:=(uh HM2).own (Nat.le_refl _) (upd_mv hU)
       simp only [st8] at hX hRz hMz
       have hd:=uh HDZ
       have hwd:=uh HWH
       have hex:-9223372036854775808≤rp.1.ex∧rp.1.ex≤9223372036854775807:=by
        rcases hwd with e|e
        · rw [e];decide
        · have:=e.e0
          have:=e.e1
          omega
       exact bodyPost_ret (ret_rnum hX _ rfl) rfl ⟨.inl ⟨_,i,JT.mk 2 false rp.1 ⟨#[]⟩ [] [],i,_,[],uh HRES2,hle2.2,hle2.2,rfl,rfl,hRz,vrep_flat _ _ 2 false rp.1 ⟨#[]⟩,List.nodup_nil,nrm_num rp.1 hwd,bd_flat 2 false rp.1 ⟨#[]⟩ (by omega) (by omega) hex (by decide)⟩,hMz⟩
     · have hc':(rp.2 != 0)=true:=by simp [hc]
       have HRES2:=hide ((uh HRES).trans (if_neg hc))
       have F1:=hide (rfails_on rb s (k:Int) o (k:Int) rp.2 wc (uh hR1))
       have hcode:Hid (cdE (if rp.2=3 then 2 else 3)=rp.2∧rp.2≠0):=by
        refine ⟨?_,hc⟩
        rcases uh HCD with e|e|e
        · exact absurd e hc
        · rw [e,if_pos rfl];rfl
        · rw [e,if_neg (by decide)];rfl
       clear HRES hc q0 q1 q2 q3 q4 q5 q6 q7 g0 g1 g2 g3 g4 g5 g6 g7 f1 hDl
       generalize (if rp.2=3 then 2 else 3)=gE at *
       go_wp2_with fail
       refine (uh F1).mono ?_
       rintro e u3 ⟨rfl,hR3,hU3⟩
       have HX3:Hid (BX u3 w.heap.size _):=(upd_mv hU3).obj hwr (uh HA1)
       have HR3:=hide hR3
       have HM3:=hide ((uh hM1).trans (upd_mv hU3))
       clear hR3 hU3 hR1 hM1 HA1 F1 c1
       obtain ⟨q0,q1,q2,q3,q4,q5,q6,q7⟩:=(uh HX3).cells
       obtain ⟨g0,g1,g2,g3,g4,g5,g6,g7⟩:=(uh HX3).frees
       go_wp2
       have hX:=st8_bx (uh HX3) rfl (.int .i64 0) (.bool false) (.bool false) (.string ⟨#[]⟩) (.int .i64 0) (.string ⟨#[]⟩) (.slice none 0 0) (.slice none 0 0)
       have hU:=st8_upd u3 w.heap.size (.int .i64 0) (.bool false) (.bool false) (.string ⟨#[]⟩) (.int .i64 0) (.string ⟨#[]⟩) (.slice none 0 0) (.slice none 0 0)
       have hRz:=(upd_mv hU).obj (Ne.symm hwr) (uh HR3)
       have hMz:=(uh HM3).own (Nat.le_refl _) (upd_mv hU)
       simp only [st8] at hX hRz hMz
       have hcc:=uh hcode
       rw [← hcc.1] at hRz
       exact bodyPost_ret (ret_rnum hX _ rfl) rfl ⟨.inr ⟨_,k,_,o,uh HRES2,hk,by rw [hcc.1];exact hcc.2,rfl,⟨0,false,false,⟨#[]⟩,0,⟨#[]⟩,none,0,0,none,0,0,rfl⟩,⟨by omega,by omega⟩,hRz⟩,hMz⟩
end Go.Proofs.YtilhjecnkaokeaaGreatDoor.rd
