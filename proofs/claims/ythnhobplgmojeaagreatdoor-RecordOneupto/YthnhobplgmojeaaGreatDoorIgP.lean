/- Texts in one: Ig -/
import Derived.Test.YthnhobplgmojeaaGreatDoorIdP
import Derived.Deep.DeepCutAuto
namespace Go.Proofs.YthnhobplgmojeaaGreatDoor.rd
open Go.RowKit
def flat9 (l:List (ByteArray × List Value)):List Value:=(l.map (fun p=>Value.string p.1::p.2)).flatten
def FG (l:List (ByteArray × List Value)):Prop:=∀ p∈l,p.2.length=8∧∀ u∈p.2,u.oneCell'=true
theorem flat9_app (l m:List (ByteArray × List Value)):flat9 (l++m)=flat9 l++flat9 m:=by simp [flat9]
def fNul:Array Value:=#[.string ⟨#[]⟩,.int .i64 0,.bool false,.bool false,.string ⟨#[]⟩,.int .i64 0,.string ⟨#[]⟩,.slice none 0 0,.slice none 0 0]
theorem infoFd:(Tryz.prog.info? 70).map (fun i=>(i.zero,i.size,i.bytes))=some (some (.agg fNul),9,128):=by kernel_rfl
theorem undFd:Tryz.prog.underlying 26=some (.slice 70):=by kernel_rfl
theorem row9 {w:World}{lv:Value}{l:List (ByteArray × List Value)} (h:mm.SV w lv l.length 9 (flat9 l)) (hg:FG l) (i:Nat) (hi:i < l.length) :
 ∃ a c nm a0 a1 a2 a3 a4 a5 a6 a7,lv=.slice (some a) l.length c∧l[i]?=some (nm,[a0,a1,a2,a3,a4,a5,a6,a7])∧∀ (j:Nat) (u:Value),[.string nm,a0,a1,a2,a3,a4,a5,a6,a7][j]?=some u→w.cell? ((a.add (i*9)).add j)=some u:=by
 obtain ⟨a,c,e,_,_,hc⟩:=mm.SV.some h (by omega);obtain ⟨p,hp⟩:∃ p,l[i]?=some p:=⟨_,List.getElem?_eq_getElem hi⟩;obtain ⟨nm,cs⟩:=p;have h8:=(hg _ (List.mem_of_getElem? hp)).1
 match cs,h8 with
 | [a0,a1,a2,a3,a4,a5,a6,a7],_ =>
   refine ⟨a,c,nm,a0,a1,a2,a3,a4,a5,a6,a7,e,hp,?_⟩;refine sv_at (css:=l.map (fun (p:ByteArray × List Value)=>Value.string p.1::p.2)) (fun c hc=>?_) hc (by rw [List.getElem?_map,hp];rfl);obtain ⟨p,hp,rfl⟩:=List.mem_map.1 hc;rw [List.length_cons,(hg p hp).1]
theorem ins_split {α:Type} (A B:List (ByteArray × α)) (f:ByteArray × α) (h:∀ p∈A,¬ 0 < Lib.compareBytes p.1.data.toList f.1.data.toList):jn.ins (A++B) f=A++jn.ins B f:=by
 induction A with
 | nil=>rfl
 | cons p A ih =>
   rw [List.cons_append,jn.ins,if_neg (h p (by simp)),ih (fun q hq=>h q (by simp [hq]))];rfl
theorem ins_here {α:Type} (p:ByteArray × α) (B:List (ByteArray × α)) (f:ByteArray × α) (h:0 < Lib.compareBytes p.1.data.toList f.1.data.toList):jn.ins (p::B) f=f::p::B:=by
 rw [jn.ins,if_pos h]
theorem gt_bool (a b:ByteArray) (x:Bool) (h:decide (0 < Lib.compareBytes a.data.toList b.data.toList)=x):(!(Op.bytesLess a.toList b.toList || a.toList == b.toList))=x:=by
 rw [ByteArray.toList_eq,ByteArray.toList_eq,jn.gt_cmp];exact h
theorem take_succ' {α:Type}{l:List α}{i:Nat}{p:α} (h:l[i]?=some p):l.take (i+1)=l.take i++[p]:=by rw [List.take_add_one,h];rfl
theorem drop_cons {α:Type}{l:List α}{i:Nat}{p:α} (h:l[i]?=some p):l.drop i=p::l.drop (i+1):=by
 obtain ⟨hi,e⟩:=List.getElem?_eq_some_iff.1 h;rw [List.drop_eq_getElem_cons hi,e]
def PIs (l:List (ByteArray × List Value)) (f:ByteArray × List Value) (pb:Bool) (i:Nat) (acc:List (ByteArray × List Value)):Prop :=
 if pb then acc++l.drop i=jn.ins l f else acc=l.take i∧∀ p∈l.take i,¬ 0 < Lib.compareBytes p.1.data.toList f.1.data.toList
theorem PIs.t {l:List (ByteArray × List Value)}{f:ByteArray × List Value}{i:Nat}{acc:List (ByteArray × List Value)}:PIs l f true i acc↔acc++l.drop i=jn.ins l f:=by unfold PIs;rw [if_pos rfl]
theorem PIs.f {l:List (ByteArray × List Value)}{f:ByteArray × List Value}{i:Nat}{acc:List (ByteArray × List Value)}:PIs l f false i acc↔acc=l.take i∧∀ p∈l.take i,¬ 0 < Lib.compareBytes p.1.data.toList f.1.data.toList:=by unfold PIs;rw [if_neg (by simp)]
structure PI (w1:World) (B:Nat) (l:List (ByteArray × List Value)) (f:ByteArray × List Value) (wr:World) (ov:Value) (pb:Bool) (i:Nat) (acc:List (ByteArray × List Value)):Prop where
 row:wr.ownsRow B 70 9 ov acc.length (flat9 acc)
 bel:Below B w1 wr
 fg:FG acc
 len:acc.length≤i+1
 no:∀ p∈l.take i,p.1≠f.1
 is:PIs l f pb i acc
theorem PI.here {w1:World}{B:Nat}{l:List (ByteArray × List Value)}{f:ByteArray × List Value}{wr:World}{ov:Value}{i:Nat}{acc:List (ByteArray × List Value)} (h:PI w1 B l f wr ov false i acc) {p:ByteArray × List Value} (hp:l[i]?=some p) (hgt:0 < Lib.compareBytes p.1.data.toList f.1.data.toList) :
 (acc++[f])++l.drop i=jn.ins l f:=by
 obtain ⟨h1,h2⟩:=PIs.f.1 h.is;have e:l=l.take i++(p::l.drop (i+1)):=by rw [← drop_cons hp,List.take_append_drop]
 conv=>rhs;rw [e]
 rw [ins_split _ _ _ h2,ins_here _ _ _ hgt,drop_cons hp,h1];simp
theorem PI.pass {w1:World}{B:Nat}{l:List (ByteArray × List Value)}{f:ByteArray × List Value}{wr:World}{ov:Value}{i:Nat}{acc:List (ByteArray × List Value)} (h:PI w1 B l f wr ov false i acc) {p:ByteArray × List Value} (hp:l[i]?=some p) (hgt:¬ 0 < Lib.compareBytes p.1.data.toList f.1.data.toList) :
 acc++[p]=l.take (i+1)∧∀ q∈l.take (i+1),¬ 0 < Lib.compareBytes q.1.data.toList f.1.data.toList:=by
 obtain ⟨h1,h2⟩:=PIs.f.1 h.is;rw [take_succ' hp,h1];refine ⟨rfl,fun q hq=>?_⟩
 rcases List.mem_append.1 hq with hq|hq
 · exact h2 q hq
 · rw [List.mem_singleton.1 hq];exact hgt
theorem PI.no' {w1:World}{B:Nat}{l:List (ByteArray × List Value)}{f:ByteArray × List Value}{wr:World}{ov:Value}{pb:Bool}{i:Nat}{acc:List (ByteArray × List Value)} (h:PI w1 B l f wr ov pb i acc) {p:ByteArray × List Value} (hp:l[i]?=some p) (hn:p.1≠f.1):∀ q∈l.take (i+1),q.1≠f.1:=by
 rw [take_succ' hp];intro q hq
 rcases List.mem_append.1 hq with hq|hq
 · exact h.no q hq
 · rw [List.mem_singleton.1 hq];exact hn
theorem PI.grow {B:Nat}{wr':World}{v':Value}{acc:List (ByteArray × List Value)}{p:ByteArray × List Value} (hr:wr'.ownsRow B 70 9 v' (acc.length+1) (flat9 acc++(Value.string p.1::p.2))):wr'.ownsRow B 70 9 v' (acc++[p]).length (flat9 (acc++[p])):=by
 rw [flat9_app,List.length_append];simpa [flat9] using hr
set_option maxRecDepth 100000 in
set_option maxHeartbeats 3200000 in
theorem rput_any (l:List (ByteArray × List Value)) (nm:ByteArray) (c0 c1 c2 c3 c4 c5 c6 c7 lv:Value) (w:World) (hS:mm.SV w lv l.length 9 (flat9 l)) (hg:FG l) (hlen:l.length≤100000000000)
 (h1:∀ u∈[c0,c1,c2,c3,c4,c5,c6,c7],u.oneCell'=true) :
 Calls Tryz.prog 57 #[lv,.agg #[.string nm,c0,c1,c2,c3,c4,c5,c6,c7]] w fun e w'=>∃ v',e=.returned v'∧Below w.heap.size w w' ∧
  (((∃ p∈l,p.1=nm)∧v'=lv)∨((∀ p∈l,p.1≠nm)∧w'.ownsRow w.heap.size 70 9 v' (l.length+1) (flat9 (jn.ins l (nm,[c0,c1,c2,c3,c4,c5,c6,c7]))))):=by
 have HS:=hide hS;have HG:=hide hg;have H1:=hide h1;obtain ⟨oa,c,rfl,q1,q2⟩:=mm.SV.form hS;clear hS hg h1;have HX:=hide ((Below.refl w.heap.size w).alloc (Nat.le_refl _) (.cells #[.string nm,c0,c1,c2,c3,c4,c5,c6,c7] 70));have BX0:=hide (heap_alloc_new w (.cells #[.string nm,c0,c1,c2,c3,c4,c5,c6,c7] 70));have hz0:(w.alloc (.cells #[.string nm,c0,c1,c2,c3,c4,c5,c6,c7] 70)).heap.size=w.heap.size+1:=World.size_alloc _ _;have HZ:=hide hz0;clear hz0
 go_enter Tryz.func57,Tryz.ntmps57
 go_wp2;generalize w.alloc (.cells #[.string nm,c0,c1,c2,c3,c4,c5,c6,c7] 70)=w1 at *
 go_loopw [5,6,7] (fun ov pv iv wr=>∃ (i:Nat) (acc:List (ByteArray × List Value)) (pb:Bool),i≤l.length∧iv=.int .i64 (i:Int)∧pv=.bool pb∧Hid (PI w1 (w.heap.size+1) l (nm,[c0,c1,c2,c3,c4,c5,c6,c7]) wr ov pb i acc)) (fun _ _ iv _=>l.length - (intOf iv).toNat)
 case atStart=>exact ⟨0,[],false,by omega,rfl,rfl,⟨World.ownsRow_nil _ _ _ _,Below.refl _ _,fun p hp=>by simp at hp,by simp,fun p hp=>by simp at hp,PIs.f.2 ⟨by simp,fun p hp=>by simp at hp⟩⟩⟩
 case round =>
  obtain ⟨i,acc,pb,hi,rfl,rfl,HP⟩:=hrel;have hb:=(uh HP).bel;have HL:=hide ((uh HX).trans (hb.mono (by omega)));have hbx:=(hb.block w.heap.size (by omega)).trans (uh BX0);have hbs:w.heap.size+1≤wr.heap.size:=by rw [← uh HZ];exact hb.size
  have HBS:=hide hbs;have b0:wr.cell? ⟨w.heap.size,0,none⟩=some (.string nm):=blk_cell hbx 0;have b1:wr.cell? ⟨w.heap.size,1,none⟩=some c0:=blk_cell hbx 1;have b2:wr.cell? ⟨w.heap.size,2,none⟩=some c1:=blk_cell hbx 2;have b3:wr.cell? ⟨w.heap.size,3,none⟩=some c2:=blk_cell hbx 3;have b4:wr.cell? ⟨w.heap.size,4,none⟩=some c3:=blk_cell hbx 4;have b5:wr.cell? ⟨w.heap.size,5,none⟩=some c4:=blk_cell hbx 5;have b6:wr.cell? ⟨w.heap.size,6,none⟩=some c5:=blk_cell hbx 6;have b7:wr.cell? ⟨w.heap.size,7,none⟩=some c6:=blk_cell hbx 7;have b8:wr.cell? ⟨w.heap.size,8,none⟩=some c7:=blk_cell hbx 8;have HA8:=hide (uh HP).len;clear hb hbx hbs
  by_cases hc:i < l.length
  · obtain ⟨a,c',nm',a0,a1,a2,a3,a4,a5,a6,a7,e,hp,hat⟩:=row9 (uh HS) (uh HG) i hc
    simp only [Value.slice.injEq] at e;obtain ⟨rfl,_,rfl⟩:=e;have HAK:Hid (∀ u,Below w.heap.size w u→_):=fun u hu=>(cells9 (fun j v hv=>kc hu (hat j v hv)))
    obtain ⟨xn,x0,x1,x2,x3,x4,x5,x6,x7⟩:=uh HAK wr (uh HL);have HPI:=hide hp;have H8:=hide (uh HG _ (List.mem_of_getElem? hp)).2;generalize ha:a.add (i*9)=ad at *;clear hat hp;have hi1:(i:Int) < (l.length:Int):=by omega
    by_cases en:nm'=nm
    · subst en
      as_aux_lemma =>
       go_wp2
       go_quiet (fail)
       go_wp2;go_ret;exact ⟨_,rfl,(uh HL).trans (mm.below_drewN _ _ _),Or.inl ⟨⟨_,List.mem_of_getElem? (uh HPI),rfl⟩,rfl⟩⟩
    · have en':¬ nm'.toList=nm.toList:=fun q=>en (ba_inj q)
      have en2:(nm'.toList == nm.toList)=false:=by simpa using en'
      have HN:=hide en;clear en;have HPN:=hide ((uh HP).no' (uh HPI) (uh HN))
      have n9:Hid (∀ u∈[Value.string nm',a0,a1,a2,a3,a4,a5,a6,a7],u.oneCell'=true):=fun u hu=>by
       rcases List.mem_cons.1 hu with rfl|hu
       · rfl
       · exact uh H8 u hu
      have n9':Hid (∀ u∈[Value.string nm,c0,c1,c2,c3,c4,c5,c6,c7],u.oneCell'=true):=fun u hu=>by
       rcases List.mem_cons.1 hu with rfl|hu
       · rfl
       · exact uh H1 u hu
      have hm:(i:Int) < 9223372036854775807:=by omega
      obtain ⟨gd,hgd⟩:∃ gd,decide (0 < Lib.compareBytes nm'.data.toList nm.data.toList)=gd:=⟨_,rfl⟩;have hgt:=gt_bool nm' nm gd hgd;have HGD:=hide hgd;clear hgd;go_wp2
      go_quiet (fail)
      go_upto_region 8 with fail
      go_cut [34] from 8 to 45 (fun s wx=>∃ n,s=.bool (!pb && gd)∧wx=wr.drewN n)
      case first =>
       as_aux_lemma =>
        cases pb with
        | true =>
          go_quiet (fail)
          go_wp2;go_meet;exact ⟨_,rfl,by first|rfl|exact World.drewN_drewN _ _ _⟩
        | false =>
          go_quiet (fail)
          go_wp2;go_meet;exact ⟨_,by rw [← hgt];simp [en'],by first|rfl|exact World.drewN_drewN _ _ _⟩
      case rest =>
       obtain ⟨n,rfl,rfl⟩:=hcut;have HF8:Hid (∀ q∈acc,q.2.length=8∧∀ u∈q.2,u.oneCell'=true):=(uh HP).fg;have hacc:=uh HA8
       cases hq:(!pb && gd) with
       | true =>
         obtain ⟨rfl,rfl⟩:pb=false∧gd=true:=by cases pb <;> cases gd <;> simp_all
         have HIS:=hide ((uh HP).here (uh HPI) (of_decide_eq_true (uh HGD)));have hacc0:acc.length≤i:=by rw [(PIs.f.1 (uh HP).is).1,List.length_take];omega
         have K1:Hid (Below wr.heap.size wr ((wr.drewN n).alloc (.cells #[.string nm,c0,c1,c2,c3,c4,c5,c6,c7] 70))):=(mm.below_drewN _ _ _).alloc (Nat.le_refl _) _;have O1:=hide (mm.row_below (uh HP).row (uh K1) (Nat.le_refl _));have S1:Hid (mm.SV ((wr.drewN n).alloc (.cells #[.string nm,c0,c1,c2,c3,c4,c5,c6,c7] 70)) (.slice (some ⟨wr.heap.size,0,none⟩) 1 1) 1 9 [.string nm,c0,c1,c2,c3,c4,c5,c6,c7]):=mm.sv_cells (heap_alloc_new (wr.drewN n) _) 1 9 rfl (by unfold maxLen;omega);have hB1:Hid (w.heap.size+1≤((wr.drewN n).alloc (.cells #[.string nm,c0,c1,c2,c3,c4,c5,c6,c7] 70)).heap.size):=Nat.le_trans (uh HBS) (uh K1).size;clear hq hgt en' en2
         go_wp2_with (at_builtin;refine mm.wpList_append_sv (P:=Tryz.prog) rfl _ _ 26 rfl (w.heap.size+1) 70 _ 9 128 undFd infoFd rfl (by decide) _ _ acc.length 1 _ _ rfl rfl (uh O1) (uh S1) (uh n9') ?a1 ?a2 (uh hB1) ?_)
         case a1=>unfold maxLen;omega
         case a2=>omega
         intro v2 w2 o2 g2 _;obtain ⟨acc2,ha2⟩:∃ a,a=acc++[((nm,[c0,c1,c2,c3,c4,c5,c6,c7]):ByteArray × List Value)]:=⟨_,rfl⟩
         have O2:Hid (w2.ownsRow (w.heap.size+1) 70 9 v2 acc2.length (flat9 acc2)):=by
          rw [ha2];exact PI.grow (p:=(nm,[c0,c1,c2,c3,c4,c5,c6,c7])) o2
         have hal:acc2.length≤i+1:=by rw [ha2,List.length_append,List.length_singleton];omega
         have HF2:Hid (FG acc2):=fun q hq=>by
          rw [ha2] at hq
          rcases List.mem_append.1 hq with hq|hq
          · exact uh HF8 q hq
          · rw [List.mem_singleton.1 hq];exact ⟨rfl,uh H1⟩
         rw [← ha2] at HIS;clear ha2;have B2:=hide (mm.row_bl (uh O1) g2 ((uh HP).bel.trans ((uh K1).mono (uh HBS))) (Nat.le_refl _) (uh hB1));have L2:=hide ((uh HX).trans ((uh B2).mono (by omega)));have hs2:w.heap.size+1≤w2.heap.size:=by rw [← uh HZ];exact (uh B2).size
         have HS2:=hide hs2;clear o2 g2 O1 S1 K1 hB1 xn x0 x1 x2 x3 x4 x5 x6 x7 b0 b1 b2 b3 b4 b5 b6 b7 b8 hs2;obtain ⟨xn,x0,x1,x2,x3,x4,x5,x6,x7⟩:=uh HAK w2 (uh L2);have K3:Hid (Below w2.heap.size w2 (w2.alloc (.cells #[.string nm',a0,a1,a2,a3,a4,a5,a6,a7] 70))):=(Below.refl _ _).alloc (Nat.le_refl _) _;have O3:=hide (mm.row_below (uh O2) (uh K3) (Nat.le_refl _));have S3:Hid (mm.SV (w2.alloc (.cells #[.string nm',a0,a1,a2,a3,a4,a5,a6,a7] 70)) (.slice (some ⟨w2.heap.size,0,none⟩) 1 1) 1 9 [.string nm',a0,a1,a2,a3,a4,a5,a6,a7]):=mm.sv_cells (heap_alloc_new w2 _) 1 9 rfl (by unfold maxLen;omega);have hB3:Hid (w.heap.size+1≤(w2.alloc (.cells #[.string nm',a0,a1,a2,a3,a4,a5,a6,a7] 70)).heap.size):=Nat.le_trans (uh HS2) (uh K3).size
         go_wp2_with (at_builtin;refine mm.wpList_append_sv (P:=Tryz.prog) rfl _ _ 26 rfl (w.heap.size+1) 70 _ 9 128 undFd infoFd rfl (by decide) _ _ acc2.length 1 _ _ rfl rfl (uh O3) (uh S3) (uh n9) ?a1 ?a2 (uh hB3) ?_)
         case a1=>unfold maxLen;omega
         case a2=>omega
         intro v4 w4 o4 g4 _
         have PF:Hid (PI w1 (w.heap.size+1) l (nm,[c0,c1,c2,c3,c4,c5,c6,c7]) w4 v4 true (i+1) (acc2++[(nm',[a0,a1,a2,a3,a4,a5,a6,a7])])):=by
          refine ⟨PI.grow (p:=(nm',[a0,a1,a2,a3,a4,a5,a6,a7])) o4,mm.row_bl (uh O3) g4 ((uh B2).trans ((uh K3).mono (uh HS2))) (Nat.le_refl _) (uh hB3),?_,by rw [List.length_append,List.length_singleton];omega,uh HPN,?_⟩
          · intro q hq
            rcases List.mem_append.1 hq with hq|hq
            · exact uh HF2 q hq
            · rw [List.mem_singleton.1 hq];exact ⟨rfl,uh H8⟩
          · rw [PIs.t,← uh HIS,drop_cons (uh HPI)]
            simp
         clear o4 g4 O3 S3 K3 hB3 xn x0 x1 x2 x3 x4 x5 x6 x7;go_wp2;exact ⟨⟨i+1,_,true,by omega,by go_num,rfl,PF⟩,by simp [intOf];omega⟩
       | false =>
         have HIS:Hid (PIs l (nm,[c0,c1,c2,c3,c4,c5,c6,c7]) pb (i+1) (acc++[(nm',[a0,a1,a2,a3,a4,a5,a6,a7])])):=by
          cases pb with
          | true =>
            have:=PIs.t.1 (uh HP).is;refine PIs.t.2 ?_;rw [← this,drop_cons (uh HPI)];simp
          | false =>
            refine PIs.f.2 ((uh HP).pass (uh HPI) ?_);have:gd=false:=by simpa using hq
            have h2:=uh HGD;rw [this] at h2;exact of_decide_eq_false h2
         have K1:Hid (Below wr.heap.size wr ((wr.drewN n).alloc (.cells #[.string nm',a0,a1,a2,a3,a4,a5,a6,a7] 70))):=(mm.below_drewN _ _ _).alloc (Nat.le_refl _) _;have O1:=hide (mm.row_below (uh HP).row (uh K1) (Nat.le_refl _));have S1:Hid (mm.SV ((wr.drewN n).alloc (.cells #[.string nm',a0,a1,a2,a3,a4,a5,a6,a7] 70)) (.slice (some ⟨wr.heap.size,0,none⟩) 1 1) 1 9 [.string nm',a0,a1,a2,a3,a4,a5,a6,a7]):=mm.sv_cells (heap_alloc_new (wr.drewN n) _) 1 9 rfl (by unfold maxLen;omega);have hB1:Hid (w.heap.size+1≤((wr.drewN n).alloc (.cells #[.string nm',a0,a1,a2,a3,a4,a5,a6,a7] 70)).heap.size):=Nat.le_trans (uh HBS) (uh K1).size;clear hq hgt en' en2 b0 b1 b2 b3 b4 b5 b6 b7 b8
         go_wp2_with (at_builtin;refine mm.wpList_append_sv (P:=Tryz.prog) rfl _ _ 26 rfl (w.heap.size+1) 70 _ 9 128 undFd infoFd rfl (by decide) _ _ acc.length 1 _ _ rfl rfl (uh O1) (uh S1) (uh n9) ?a1 ?a2 (uh hB1) ?_)
         case a1=>unfold maxLen;omega
         case a2=>omega
         intro v4 w4 o4 g4 _
         have PF:Hid (PI w1 (w.heap.size+1) l (nm,[c0,c1,c2,c3,c4,c5,c6,c7]) w4 v4 pb (i+1) (acc++[(nm',[a0,a1,a2,a3,a4,a5,a6,a7])])):=by
          refine ⟨PI.grow (p:=(nm',[a0,a1,a2,a3,a4,a5,a6,a7])) o4,mm.row_bl (uh O1) g4 ((uh HP).bel.trans ((uh K1).mono (uh HBS))) (Nat.le_refl _) (uh hB1),?_,by rw [List.length_append,List.length_singleton];omega,uh HPN,uh HIS⟩;intro q hq
          rcases List.mem_append.1 hq with hq|hq
          · exact uh HF8 q hq
          · rw [List.mem_singleton.1 hq];exact ⟨rfl,uh H8⟩
         clear o4 g4 O1 S1 K1 hB1 xn x0 x1 x2 x3 x4 x5 x6 x7;go_wp2;exact ⟨⟨i+1,_,pb,by omega,by go_num,rfl,PF⟩,by simp [intOf];omega⟩
  · obtain rfl:i=l.length:=by omega
    have HNO:Hid (∀ p∈l,p.1≠nm):=fun p hp=>(uh HP).no p (by rw [List.take_of_length_le (Nat.le_refl _)];exact hp)
    have hacc:=uh HA8
    cases pb with
    | true =>
      as_aux_lemma =>
       have HR:Hid (acc=jn.ins l (nm,[c0,c1,c2,c3,c4,c5,c6,c7])):=by
        have:=PIs.t.1 (uh HP).is
        rwa [List.drop_of_length_le (Nat.le_refl _),List.append_nil] at this
       go_wp2;go_ret;refine ⟨_,rfl,uh HL,Or.inr ⟨uh HNO,?_⟩⟩;have:=(uh HP).row;rw [uh HR,(jn.ins_perm _ _).length_eq] at this;exact mm.row_mono this (by omega)
    | false =>
      have HR:Hid (jn.ins l (nm,[c0,c1,c2,c3,c4,c5,c6,c7])=l++[(nm,[c0,c1,c2,c3,c4,c5,c6,c7])]):=by
       obtain ⟨h1,h2⟩:=PIs.f.1 (uh HP).is;rw [List.take_of_length_le (Nat.le_refl _)] at h1 h2;have:=ins_split l [] (nm,[c0,c1,c2,c3,c4,c5,c6,c7]) h2
       rwa [List.append_nil] at this
      have HRW:Hid (wr.ownsRow (w.heap.size+1) 70 9 u5 l.length (flat9 l)):=by
       obtain ⟨h1,h2⟩:=PIs.f.1 (uh HP).is;rw [List.take_of_length_le (Nat.le_refl _)] at h1;have:=(uh HP).row
       rwa [h1] at this
      clear HP HA8 hacc
      have n9':Hid (∀ u∈[Value.string nm,c0,c1,c2,c3,c4,c5,c6,c7],u.oneCell'=true):=fun u hu=>by
       rcases List.mem_cons.1 hu with rfl|hu
       · rfl
       · exact uh H1 u hu
      have K1:Hid (Below wr.heap.size wr (wr.alloc (.cells #[.string nm,c0,c1,c2,c3,c4,c5,c6,c7] 70))):=(Below.refl _ _).alloc (Nat.le_refl _) _;have O1:=hide (mm.row_below (uh HRW) (uh K1) (Nat.le_refl _));have S1:Hid (mm.SV (wr.alloc (.cells #[.string nm,c0,c1,c2,c3,c4,c5,c6,c7] 70)) (.slice (some ⟨wr.heap.size,0,none⟩) 1 1) 1 9 [.string nm,c0,c1,c2,c3,c4,c5,c6,c7]):=mm.sv_cells (heap_alloc_new wr _) 1 9 rfl (by unfold maxLen;omega);have hB1:Hid (w.heap.size+1≤(wr.alloc (.cells #[.string nm,c0,c1,c2,c3,c4,c5,c6,c7] 70)).heap.size):=Nat.le_trans (uh HBS) (uh K1).size
      go_wp2_with (at_builtin;refine mm.wpList_append_sv (P:=Tryz.prog) rfl _ _ 26 rfl (w.heap.size+1) 70 _ 9 128 undFd infoFd rfl (by decide) _ _ l.length 1 _ _ rfl rfl (uh O1) (uh S1) (uh n9') ?a1 ?a2 (uh hB1) ?_)
      case a1=>unfold maxLen;omega
      case a2=>omega
      intro v4 w4 o4 g4 _;have hB0:=Nat.le_of_succ_le (uh hB1);have hK0:Below w.heap.size w (wr.alloc (.cells #[.string nm,c0,c1,c2,c3,c4,c5,c6,c7] 70)):=(uh HL).trans ((uh K1).mono (Nat.le_of_succ_le (uh HBS)));have B4:=hide (mm.row_bl (C:=w.heap.size) (uh O1) g4 hK0 (Nat.le_succ _) hB0);clear hB0 hK0;have O4:=hide o4;clear o4 g4 O1 S1 K1 hB1;go_wp2;go_ret;refine ⟨_,rfl,uh B4,Or.inr ⟨uh HNO,?_⟩⟩;rw [uh HR];have:=PI.grow (p:=(nm,[c0,c1,c2,c3,c4,c5,c6,c7])) (uh O4);rw [List.length_append] at this;exact mm.row_mono this (by omega)
end Go.Proofs.YthnhobplgmojeaaGreatDoor.rd
