/- Texts in one: Ru Rj Ro Im Ip Iq Ir -/
import Derived.Test.YthnhobplgmojeaaGreatDoorRvP
import Derived.Test.YthnhobplgmojeaaGreatDoorRqP
import Derived.Lib.RuneBytes
namespace Go.Proofs.YthnhobplgmojeaaGreatDoor.rd
open Go.RowKit
def numBytes:ByteArray:=⟨#[43,45,46,101,69,48,49,50,51,52,53,54,55,56,57]⟩
def numTo (s:ByteArray) (k:Nat):Nat:=skipTo numBytes.data.toList s k
def numR (s:ByteArray) (k:Nat):Dn × Int:=rparse (s.extract k (numTo s k))
set_option maxRecDepth 100000 in
set_option maxHeartbeats 3200000 in
theorem jnumber_any (rb:Nat) (s:ByteArray) (k:Nat) (o:Int) (w:World) (h:RL w rb s k o) (hk:k≤s.size) (hs:s.size≤1048576) (E:Nat→Value) (hE:Env E w) (hr:17≤rb) :
 Calls Tryz.prog 141 #[.pointer (some ⟨rb,0,none⟩)] w fun e w' =>
  (((numR s k).2=0∧e=.returned (.tuple #[.agg (vc 2 false (numR s k).1 ⟨#[]⟩ nilS nilS),.nilIface])∧RL w' rb s (numTo s k) o) ∨
   ((numR s k).2≠0∧∃ fb,e=.returned (.tuple #[.agg vNull,.iface 178 (.pointer (some ⟨fb,0,none⟩))])∧RL w' rb s k o∧w.heap.size≤fb∧FL w' fb k 264 (E (if (numR s k).2=3 then 7 else 12))))∧Mv rb w w':=by
 have hrl:=blk_lt h;have HH:=hide h;have HEn:=hide hE;obtain ⟨t0,t1⟩:=skipTo_le numBytes.data.toList s k hk;have SK:=hide (fun w h=>skip_any numBytes rb s k o w h hk (by omega));have hpe:=parsed_eq (s.extract k (numTo s k)) (.iface 264 (E 7)) (.iface 264 (E 12)) (by rw [ByteArray.size_extract];unfold numTo;omega);have hpa:=fun w h1 h2 h3 h4=>parse_any (s.extract k (numTo s k)) (.iface 264 (E 7)) (.iface 264 (E 12)) w (by rw [ByteArray.size_extract];unfold numTo;omega) h1 h2 h3 h4
 rw [hpe] at hpa;have hnr:rparse (s.extract k (numTo s k))=numR s k:=rfl;rw [hnr] at hpa
 obtain ⟨D,EV,hD,hcs⟩:∃ D EV,tellP (numR s k) (.iface 264 (E 7)) (.iface 264 (E 12))=(dv D,EV) ∧
  (((numR s k).2=0∧D=(numR s k).1∧EV=.nilIface)∨((numR s k).2≠0∧EV=.iface 264 (E (if (numR s k).2=3 then 7 else 12)))):=by
  unfold tellP
  by_cases q1:(numR s k).2=0
  · rw [if_pos q1];exact ⟨_,_,rfl,.inl ⟨q1,rfl,rfl⟩⟩
  · rw [if_neg q1]
    by_cases q2:(numR s k).2=3
    · rw [if_pos q2,if_pos q2];exact ⟨_,_,rfl,.inr ⟨q1,rfl⟩⟩
    · rw [if_neg q2,if_neg q2];exact ⟨_,_,rfl,.inr ⟨q1,rfl⟩⟩
 rw [hD] at hpa;have HC:=hide hcs;have HPA:=hide hpa;clear hpe hnr hpa hD hcs hE h;have hto:skipTo numBytes.data.toList s k=numTo s k:=rfl;rw [hto] at SK t0 t1;generalize numR s k=nr at *;generalize (if nr.2=3 then 7 else 12)=gE at *;have hsl:∀ u:World,(Instr.slice 9 (.string s) (some (.int .i64 (k:Int))) (some (.int .i64 (numTo s k:Int))) none).run Tryz.prog u=.ok (.string (s.extract k (numTo s k))) u:=fun u=>run_slice_string u 9 s .i64 .i64 k (numTo s k) Tryz.underlying9 (by omega) (by omega) (by omega)
 have t0':(k:Int)≤(numTo s k:Int):=by omega
 have t1':(numTo s k:Int)≤(s.size:Int):=by omega
 clear hto;generalize numTo s k=j at *;generalize s.extract k j=q at *;simp only [vc,nilS,vNull,dv,numBytes] at HPA SK ⊢;have hA0:VL (w.alloc (.cells vNull 28)) w.heap.size vNull:=vl_new w vNull;have hB0:Below w.heap.size w (w.alloc (.cells vNull 28)):=(Below.refl _ _).alloc (Nat.le_refl _) _;have hR0:=(uh HH).below hB0 hrl;obtain ⟨c0,c1,c2⟩:=(uh HH).cells
 go_enter Tryz.func141,Tryz.ntmps141
 go_wp2_with fail
 refine (uh SK _ hR0).mono ?_;rintro e u1 ⟨rfl,hR1,hM1⟩;have hA1:=hide (hM1.obj (by omega) hA0);have HR1:=hide hR1;have HM1:=hide ((Mv.of hB0).trans hM1);clear c0 c1 c2 hA0 hB0 hR0 hM1 hR1;obtain ⟨c0,c1,c2⟩:=(uh HR1).cells;go_upto_region 3 with fail
 go_cut [5,6] from 7 (fun s5 s6 wx=>∃ nb,s5=.pointer (some ⟨nb,0,none⟩)∧s6=EV∧w.heap.size≤nb∧nb≠w.heap.size∧Hid (DLies wx nb D)∧Hid (VL wx w.heap.size vNull)∧Hid (RL wx rb s j o)∧Hid (Mv rb w wx))
 case first =>
  have hEn1:=hide ((uh HEn).mv (uh HM1) hr);have hbA:Below u1.heap.size u1 (u1.drew.alloc (.cells #[.bool false,.string ⟨#[]⟩,.int .i64 0] 24)):=((Below.refl _ u1).drew).alloc (Nat.le_refl _) _;have hN1:=(uh hEn1).err 7 (by simp);have hX1:=(uh hEn1).err 12 (by simp);have hzN:Hid (DLies (u1.drew.alloc (.cells #[.bool false,.string ⟨#[]⟩,.int .i64 0] 24)) u1.heap.size zed):=dlies_new u1.drew zed;have hrb1:rb < u1.heap.size:=blk_lt (uh HR1);have hrbn:rb≠u1.heap.size:=by omega
  have hrbn2:u1.heap.size≠rb:=by omega
  have HN1:=hide hN1;have HX1:=hide hX1;have HbA:=hide hbA;clear hN1 hX1 hbA
  go_region_held3 (fun w'=>w'.cell? ⟨rb,0,none⟩=some (.string s)∧w'.cell? ⟨rb,1,none⟩=some (.int .i64 (j:Int))) (((try dsimp only);(repeat' apply And.intro);all_goals first|(go_keep;done)|(simp;omega)|(simp [*,World.cell?_alloc_past];done))) (first
   | (go_at_call 158;(first
     | (refine (uh HPA _ (by exact cell_lt (uh HN1)) (by exact uh HN1) (by exact cell_lt (uh HX1)) (by exact uh HX1)).mono ?_;rintro e u2 ⟨rfl,ha⟩;have hb2:Hid (Below u1.heap.size u1 u2):=((Below.refl _ u1).drew).trans ha)
     | (refine (uh HPA _ (cell_lt (keepC (uh HbA) (uh HN1))) (keepC (uh HbA) (uh HN1)) (cell_lt (keepC (uh HbA) (uh HX1))) (keepC (uh HbA) (uh HX1))).mono ?_;rintro e u2 ⟨rfl,ha⟩;have hb2:Hid (Below u1.heap.size u1 u2):=(uh HbA).trans (ha.mono (uh HbA).size);have hzN2:DLies u2 u1.heap.size zed:=(uh hzN).below ha (blk_lt (uh hzN));obtain ⟨y0,y1,y2⟩:=hzN2.cells;obtain ⟨e0,e1,e2⟩:=hzN2.frees;simp only [zed] at y0 y1 y2));
      have k0:=keepC ha (b:=rb) (o:=0) (v:=.string s) (by first|assumption|go_keep|(simp [*,World.cell?_alloc_past];done));have k1:=keepC ha (b:=rb) (o:=1) (v:=.int .i64 (j:Int)) (by first|assumption|go_keep|(simp [*,World.cell?_alloc_past];done));clear ha))
  all_goals go_wp2_with fail
  all_goals go_meet
  · have hv2:=((uh hb2).block _ (blk_lt (uh hA1))).trans (uh hA1)
    have hbn:Below u2.heap.size u2 (u2.alloc (.cells #[.bool D.neg,.string D.dg,.int .i64 D.ex] 24)):=(Below.refl _ _).alloc (Nat.le_refl _) _;have hl2:=blk_lt hv2;exact ⟨u2.heap.size,rfl,rfl,by omega,by omega,dlies_new u2 D,(hbn.block _ hl2).trans hv2,((uh HR1).below (uh hb2) hrb1).below hbn (Nat.lt_of_lt_of_le hrb1 (uh hb2).size),((uh HM1).trans (Mv.of (uh hb2))).trans (Mv.of hbn)⟩
  · have hl1:=blk_lt (uh hA1)
    have hv2:=((uh hb2).block _ hl1).trans (uh hA1);have hU:Mv u1.heap.size u2 (((u2.setCell ⟨u1.heap.size,0,none⟩ (.bool D.neg)).setCell ⟨u1.heap.size,1,none⟩ (.string D.dg)).setCell ⟨u1.heap.size,2,none⟩ (.int .i64 D.ex)):=((Mv.set _ 0 _).trans (Mv.set _ 1 _)).trans (Mv.set _ 2 _);exact ⟨u1.heap.size,rfl,rfl,by omega,by omega,hzN2.set _ _ _,hU.obj (by omega) hv2,hU.obj (by omega) ((uh HR1).below (uh hb2) hrb1),((uh HM1).trans (Mv.of (uh hb2))).own (by omega) hU⟩
 case rest =>
  clear c0 c1 c2 HR1 HM1 hA1 HPA SK;obtain ⟨nb,rfl,rfl,hn1,hn2,hDl,hA1,hR1,hM1⟩:=hcut;obtain ⟨c0,c1,c2⟩:=(uh hR1).cells;obtain ⟨f1,f2⟩:=(uh hR1).frees;obtain ⟨q0,q1,q2,q3,q4,q5,q6,q7⟩:=VL.cells (show VL wc w.heap.size (vc 0 false zed ⟨#[]⟩ nilS nilS) from uh hA1);obtain ⟨g0,g1,g2,g3,g4,g5,g6,g7⟩:=VL.frees (uh hA1);simp only [zed,nilS] at q0 q1 q2 q3 q4 q5 q6 q7
  rcases uh HC with ⟨hc,rfl,rfl⟩|⟨hc,rfl⟩
  · obtain ⟨y0,y1,y2⟩:=(uh hDl).cells
    have HC0:=hide hc;clear HC hc;go_wp2;have hU:=put8_upd wc w.heap.size 2 false nr.1 ⟨#[]⟩ nilS nilS
    exact bodyPost_ret (ret_number (m:=w.heap.size) _ 2 false nr.1 ⟨#[]⟩ nilS nilS .nilIface (put8_lies (k':=0) (t':=false) (d':=zed) (x':=⟨#[]⟩) (lv':=nilS) (fv':=nilS) (uh hA1) 2 false nr.1 ⟨#[]⟩ nilS nilS) _ rfl rfl) rfl
     ⟨.inl ⟨uh HC0,rfl,hU.obj (by omega) (uh hR1)⟩,(uh hM1).own (Nat.le_refl _) hU⟩
  · have HC0:=hide hc
    have hR2:=hide ((uh hR1).to k);have hMs:=Mv.set (rb:=rb) wc 1 (.int .i64 (k:Int));have hA2:=hide (hMs.obj (by omega) (uh hA1));have hM2:=hide ((uh hM1).trans hMs);have FA:=hide (fault_any rb s k o 264 (E gE) _ (uh hR2));clear HC hc hMs
    go_wp2_with fail
    refine (uh FA).mono ?_;rintro e u3 ⟨rfl,hu3⟩;have hb3:Below (wc.setCell ⟨rb,1,none⟩ (.int .i64 (k:Int))).heap.size (wc.setCell ⟨rb,1,none⟩ (.int .i64 (k:Int))) u3:=by rw [hu3];exact (Below.refl _ _).alloc (Nat.le_refl _) _
    have hA3:=hide ((hb3.block _ (blk_lt (uh hA2))).trans (uh hA2));have hR3:=hide ((uh hR2).below hb3 (blk_lt (uh hR2)));have hM3:=hide ((uh hM2).trans (Mv.of hb3))
    have hfl:FL u3 (wc.setCell ⟨rb,1,none⟩ (.int .i64 (k:Int))).heap.size k 264 (E gE):=by
     rw [hu3];show (Array.push _ _)[_]?=_;rw [Array.getElem?_push_size]
    have hzz:(wc.setCell ⟨rb,1,none⟩ (.int .i64 (k:Int))).heap.size=wc.heap.size:=by simp [World.setCell]
    rw [hzz] at hfl;have HFL:=hide hfl;have hwl:w.heap.size < wc.heap.size:=blk_lt (uh hA1);clear q0 q1 q2 q3 q4 q5 q6 q7 g0 g1 g2 g3 g4 g5 g6 g7;obtain ⟨q0,q1,q2,q3,q4,q5,q6,q7⟩:=VL.cells (show VL u3 w.heap.size (vc 0 false zed ⟨#[]⟩ nilS nilS) from uh hA3);obtain ⟨g0,g1,g2,g3,g4,g5,g6,g7⟩:=VL.frees (uh hA3);simp only [zed,nilS] at q0 q1 q2 q3 q4 q5 q6 q7;clear hu3 hb3 hfl hA1 hA2 hR1 hR2 hM1 hM2 c0 c1 c2 f1 f2 hDl;go_wp2;have hU:=put8_upd u3 w.heap.size 0 false zed ⟨#[]⟩ nilS nilS
    exact bodyPost_ret (ret_number (m:=w.heap.size) _ 0 false zed ⟨#[]⟩ nilS nilS _ (put8_lies (k':=0) (t':=false) (d':=zed) (x':=⟨#[]⟩) (lv':=nilS) (fv':=nilS) (uh hA3) 0 false zed ⟨#[]⟩ nilS nilS) _ rfl rfl) rfl
     ⟨.inr ⟨uh HC0,_,rfl,hU.obj (by omega) (uh hR3),by omega,hU.obj (by omega) (uh HFL)⟩,(uh hM3).own (Nat.le_refl _) hU⟩
theorem ret_text {m:Nat} (w:World) (k:Int) (t:Bool) (d:Dn) (x:ByteArray) (lv fv ev:Value) (h:VL w m (vc k t d x lv fv)) (tmps:Array Value) (h2:tmps[2]?.getD undef=.pointer (some ⟨m,0,none⟩)) (h3:tmps[3]?.getD undef=ev) :
 (results Tryz.f142 tmps).run Tryz.prog w=.ok (.tuple #[.agg (vc k t d x lv fv),ev]) w:=by
 obtain ⟨q0,q1,q2,q3,q4,q5,q6,q7⟩:=VL.cells h;simp [results,Tryz.results142,h2,h3,go_sem,q0,q1,q2,q3,q4,q5,q6,q7,vc]
set_option maxRecDepth 100000 in
set_option maxHeartbeats 3200000 in
theorem jtext_any (rb:Nat) (s:ByteArray) (k:Nat) (o:Int) (w:World) (h:RL w rb s k o) (hk:k < s.size) (hs:s.size≤1048576) (E:Nat→Value) (hE:Env E w) (hr:17≤rb) :
 Calls Tryz.prog 142 #[.pointer (some ⟨rb,0,none⟩)] w fun e w' =>
  ((∃ l j,letts s k=.inl (l,j)∧j≤s.size∧e=.returned (.tuple #[.agg (vc 3 false zed ⟨l.toArray⟩ nilS nilS),.nilIface])∧RL w' rb s j o) ∨
   (∃ j fb,letts s k=.inr j∧j≤s.size∧e=.returned (.tuple #[.agg vNull,.iface 178 (.pointer (some ⟨fb,0,none⟩))])∧RL w' rb s j o∧w.heap.size≤fb∧FL w' fb j 264 (E 8)))∧Mv rb w w':=by
 have hrl:=blk_lt h;have hA0:VL (w.alloc (.cells vNull 28)) w.heap.size vNull:=vl_new w vNull;have hB0:Below w.heap.size w (w.alloc (.cells vNull 28)):=(Below.refl _ _).alloc (Nat.le_refl _) _;have hR0:=h.below hB0 hrl;have LT:=hide (letters_any rb s k o _ hR0 hk (by omega) E (hE.below hB0) hr);generalize letts s k=res at *;simp only [vc,nilS,vNull,zed] at LT ⊢;clear h hE
 go_enter Tryz.func142,Tryz.ntmps142
 go_wp2_with fail
 refine (uh LT).mono ?_;rintro e u1 ⟨h,hM⟩;have hA1:=hide (hM.obj (by omega) hA0);have hM1:=hide ((Mv.of hB0).trans hM);clear hA0 hB0 hR0 hM LT;obtain ⟨q0,q1,q2,q3,q4,q5,q6,q7⟩:=VL.cells (show VL u1 w.heap.size (vc 0 false zed ⟨#[]⟩ nilS nilS) from uh hA1);obtain ⟨g0,g1,g2,g3,g4,g5,g6,g7⟩:=VL.frees (uh hA1);simp only [zed,nilS] at q0 q1 q2 q3 q4 q5 q6 q7
 rcases h with ⟨l,j,h1,h2,rfl,h3⟩|⟨j,fb,h1,h2,rfl,h3,h4,h5⟩
 · have H1:=hide h1
   have H3:=hide h3;clear h1 h3;go_wp2;have hU:=put8_upd u1 w.heap.size 3 false zed ⟨l.toArray⟩ nilS nilS
   exact bodyPost_ret (ret_text (m:=w.heap.size) _ 3 false zed ⟨l.toArray⟩ nilS nilS .nilIface (put8_lies (k':=0) (t':=false) (d':=zed) (x':=⟨#[]⟩) (lv':=nilS) (fv':=nilS) (uh hA1) 3 false zed ⟨l.toArray⟩ nilS nilS) _ rfl rfl) rfl
    ⟨.inl ⟨l,j,uh H1,h2,rfl,hU.obj (by omega) (uh H3)⟩,(uh hM1).own (Nat.le_refl _) hU⟩
 · have H1:=hide h1
   have H3:=hide h3;have H5:=hide h5;have hsz:w.heap.size < fb:=by simp at h4;omega
   clear h1 h3 h4 h5;go_wp2;have hU:=put8_upd u1 w.heap.size 0 false zed ⟨#[]⟩ nilS nilS
   exact bodyPost_ret (ret_text (m:=w.heap.size) _ 0 false zed ⟨#[]⟩ nilS nilS _ (put8_lies (k':=0) (t':=false) (d':=zed) (x':=⟨#[]⟩) (lv':=nilS) (fv':=nilS) (uh hA1) 0 false zed ⟨#[]⟩ nilS nilS) _ rfl rfl) rfl
    ⟨.inr ⟨j,fb,uh H1,h2,rfl,hU.obj (by omega) (uh H3),by omega,hU.obj (by omega) (uh H5)⟩,(uh hM1).own (Nat.le_refl _) hU⟩
structure MvB (rb B:Nat) (w w':World):Prop where
 os:w'.os=w.os
 tape:w'.tape=w.tape
 output:w'.output=w.output
 size:w.heap.size≤w'.heap.size
 block:∀ k,k < B→k≠rb→w'.heap[k]?=w.heap[k]?
theorem MvB.trans {rb B:Nat}{a b c:World} (h:MvB rb B a b) (k:MvB rb B b c):MvB rb B a c :=
 ⟨k.os.trans h.os,k.tape.trans h.tape,k.output.trans h.output,Nat.le_trans h.size k.size,fun i hi hn=>(k.block i hi hn).trans (h.block i hi hn)⟩
theorem Mv.toB {rb B:Nat}{w w':World} (h:Mv rb w w') (hB:B≤w.heap.size):MvB rb B w w':=⟨h.os,h.tape,h.output,h.size,fun k hk hn=>h.block k (by omega) hn⟩
theorem below_mvb {rb B:Nat}{w w':World} (h:Below w.heap.size w w') (hB:B≤w.heap.size):MvB rb B w w':=(Mv.of h).toB hB
theorem MvB.cell {rb B:Nat}{w w':World} (h:MvB rb B w w') {b o:Nat}{v:Value} (hb:b < B) (hn:b≠rb) (hc:w.cell? ⟨b,o,none⟩=some v):w'.cell? ⟨b,o,none⟩=some v:=by
 rw [World.cell?_of_block (w:=w) (w':=w') (h.block b hb hn)];exact hc
theorem Env.mvb {E:Nat→Value}{rb B:Nat}{w w':World} (h:Env E w) (hm:MvB rb B w w') (hr:17≤rb) (hB:17≤B):Env E w':=h.keep fun _ _ _ hb hc=>hm.cell (by omega) (by omega) hc
def gapB:ByteArray:=⟨#[32,9,10,13]⟩
def gap (s:ByteArray) (k:Nat):Nat:=skipTo gapB.data.toList s k
def rowF {σ:Type} (step:σ→Nat→(σ × Nat) ⊕ (Nat × Nat)) (endc:Int) (s:ByteArray):Nat→σ→Nat→(σ × Nat) ⊕ (Nat × Nat)
 | 0,_,k=>.inr (5,k)
 | f+1,st,k=>match step st k with
   | .inr e=>.inr e
   | .inl (st',k1)=>if nxt s (gap s k1)=44 then rowF step endc s f st' (gap s k1+1) else if nxt s (gap s k1)=endc then .inl (st',gap s k1) else .inr (5,gap s k1)
def rowE {σ:Type} (r:(σ × Nat) ⊕ (Nat × Nat)):(σ × Nat) ⊕ (Nat × Nat):=match r with
 | .inr e=>.inr e
 | .inl (st',k1)=>.inl (st',k1+1)
def rowR {σ:Type} (step:σ→Nat→(σ × Nat) ⊕ (Nat × Nat)) (endc:Int) (s:ByteArray) (o:Int) (st:σ) (k:Nat):(σ × Nat) ⊕ (Nat × Nat) :=
 if o=64 then .inr (9,k) else if nxt s (gap s (k+1))=endc then .inl (st,gap s (k+1)+1) else rowE (rowF step endc s (s.size+1) st (gap s (k+1)))
def ItemPost {σ:Type} (St:σ→World→Prop) (E:Nat→Value) (rb:Nat) (s:ByteArray) (o:Int) (B:Nat) (w:World) (r:(σ × Nat) ⊕ (Nat × Nat)) (e:Ending) (w':World):Prop :=
 ((∃ st k,r=.inl (st,k)∧k≤s.size∧e=.returned .nilIface∧RL w' rb s k o∧St st w') ∨
  (∃ g k fb,r=.inr (g,k)∧k≤s.size∧e=.returned (.iface 178 (.pointer (some ⟨fb,0,none⟩)))∧B≤fb∧FL w' fb k 264 (E g)∧∃ k' o',RL w' rb s k' o'))∧MvB rb B w w'
theorem nxt_some (s:ByteArray) (k:Nat) (hk:k≤s.size) (h:0≤nxt s k):k < s.size:=by
 unfold nxt at h
 split at h
 · omega
 · omega
def rowM (s:ByteArray) (rb:Nat) (b:Value) (w:World):Nat:=match b with
 | .bool true=>0
 | _=>s.size+1 - atOf w rb
set_option maxRecDepth 100000 in
set_option maxHeartbeats 6400000 in
theorem row_any {σ:Type} (g:FuncId) (cap:Array Value) (eg:∀ args w,(callFunc g args).run Tryz.prog w=.ok (.enter g args) w) (St:σ→World→Prop) (step:σ→Nat→(σ × Nat) ⊕ (Nat × Nat)) (E:Nat→Value) (rb B:Nat) (s:ByteArray) (o endc:Int)
 (hs:s.size≤1048576) (hr:17≤rb) (hB:17≤B) (he0:0≤endc) (he1:endc≤1000) (he2:endc≠44)
 (hst:∀ w w' st,St st w→Mv rb w w'→St st w')
 (hup:∀ st k st' k',step st k=.inl (st',k')→k≤k')
 (Bd:σ→Nat→Prop) (hb0:∀ st k k',Bd st k→k≤k'→Bd st k') (hb1:∀ st k st' k',Bd st k→step st k=.inl (st',k')→Bd st' k')
 (hit:o≠64→∀ (w:World) (st:σ) (k:Nat),RL w rb s k (o+1)→St st w→Env E w→k≤s.size→Bd st k→B≤w.heap.size→Calls Tryz.prog g cap w (ItemPost St E rb s (o+1) B w (step st k)))
 (st:σ) (k:Nat) (w:World) (h:RL w rb s k o) (hk:k < s.size) (ho0:0≤o) (ho:o≤64) (hSt:St st w) (hBd:Bd st k) (hE:Env E w) (hBw:B≤w.heap.size) :
 Calls Tryz.prog 160 #[.pointer (some ⟨rb,0,none⟩),.int .i32 endc,.func (.func g) #[] cap] w (ItemPost St E rb s o B w (rowR step endc s o st k)):=by
 obtain ⟨c0,c1,c2⟩:=h.cells;obtain ⟨f1,f2⟩:=h.frees;have HR:Hid (rowR step endc s o st k=if o=64 then .inr (9,k) else if nxt s (gap s (k+1))=endc then .inl (st,gap s (k+1)+1) else rowE (rowF step endc s (s.size+1) st (gap s (k+1)))):=rfl;generalize rowR step endc s o st k=res at HR ⊢;have HH:=hide h;have HEn:=hide hE;have HSt:=hide hSt;have HIT:=hide hit;have HST:=hide hst;have HUP:=hide hup;have HB0:=hide hb0;have HB1:=hide hb1;have HBD:=hide hBd;clear hE hSt hit hst hup h hb0 hb1 hBd;unfold ItemPost
 by_cases h64:o=64
 · subst h64
   have hr1:res=.inr (9,k):=(uh HR).trans (if_pos rfl);have HR1:=hide hr1;have FA:=hide (fault_any rb s k 64 264 (E 9) w (uh HH));have hT:=(uh HEn).err 9 (by simp);clear HR hr1
   go_enter Tryz.func160,Tryz.ntmps160
   go_wp2_with fail
   refine (uh FA).mono ?_;rintro e u1 ⟨rfl,hu⟩;have hb:Below w.heap.size w u1:=by rw [hu];exact (Below.refl _ _).alloc (Nat.le_refl _) _
   have hfl:FL u1 w.heap.size k 264 (E 9):=by
    rw [hu];show (Array.push _ _)[_]?=_;rw [Array.getElem?_push_size]
   have HFL:=hide hfl;clear hu hfl;go_wp2;go_ret;exact ⟨.inr ⟨_,k,_,uh HR1,by omega,rfl,hBw,uh HFL,_,_,(uh HH).below hb (blk_lt (uh HH))⟩,below_mvb hb hBw⟩
 · have h64':(o == 64)=false:=by simpa using h64
   have HIT:=hide ((uh HIT) h64);have hr1:res=if nxt s (gap s (k+1))=endc then .inl (st,gap s (k+1)+1) else rowE (rowF step endc s (s.size+1) st (gap s (k+1))):=(uh HR).trans (if_neg h64)
   have HR1:=hide hr1;clear HR hr1
   go_enter Tryz.func160,Tryz.ntmps160
   have hRa:=((uh HH).opens (o+1)).to ((k:Int)+1);rw [show ((k:Int)+1)=((k+1:Nat):Int) by omega] at hRa;have hMa:Mv rb w ((w.setCell ⟨rb,2,none⟩ (.int .i64 (o+1))).setCell ⟨rb,1,none⟩ (.int .i64 ((k:Int)+1))):=(Mv.set w 2 _).trans (Mv.set _ 1 _);have SK:=hide (fun (k:Nat) (w:World) h1 h2=>skip_any gapB rb s k (o+1) w h1 h2 (by omega));have NX:=hide (fun (k:Nat) (w:World) h1 h2 h3=>next_any rb s k (o+1) w h1 h2 E h3);have hgp:∀ k,skipTo gapB.data.toList s k=gap s k:=fun _=>rfl
   have hgl:∀ k,k≤s.size→k≤gap s k∧gap s k≤s.size:=fun k h=>skipTo_le gapB.data.toList s k h
   have HGL:=hide hgl;have HGP:=hide hgp;clear hgl hgp
   go_wp2_with fail
   refine (uh SK (k+1) _ hRa (by omega)).mono ?_;rintro e u1 ⟨rfl,hR1,hM1⟩;rw [uh HGP] at hR1;obtain ⟨gl1,gl2⟩:=uh HGL (k+1) (by omega);have HR1':=hide hR1;have hM1':=hide (hMa.trans hM1);clear hRa hMa hR1 hM1 c0 c1 c2 f1 f2;generalize gap s (k+1)=k1 at *
   go_wp2_with fail
   refine (uh NX k1 _ (uh HR1') gl2 ((uh HEn).mv (uh hM1') hr)).mono ?_;rintro e u2 ⟨rfl,hb2⟩;have hR2:=hide ((uh HR1').below hb2 (blk_lt (uh HR1')));have hM2:=hide ((uh hM1').trans (Mv.of hb2));have hS2:=hide (uh HST w u2 st (uh HSt) (uh hM2));clear hb2 HR1' hM1';go_wp2;have hM2B:=hide ((uh hM2).toB hBw);have hwu2:w.heap.size≤u2.heap.size:=(uh hM2).size;have HE0:=hide (nxt_some s);have hBd1:=hide (uh HB0 st k k1 (uh HBD) (by omega))
   go_loopw [7] (fun b wr=>(b=.bool false∧∃ (st:σ) (k f:Nat),k≤s.size∧Hid (Bd st k)∧Hid (RL wr rb s k (o+1))∧Hid (St st wr)∧Hid (MvB rb B w wr)∧Hid (res=rowE (rowF step endc s f st k))∧s.size+1≤k+f) ∨
    (b=.bool true∧∃ (st:σ) (k:Nat),k < s.size∧Hid (RL wr rb s k (o+1))∧Hid (St st wr)∧Hid (MvB rb B w wr)∧Hid (res=.inl (st,k+1)))) (fun b wr=>rowM s rb b wr)
   case atStart =>
    by_cases q:nxt s k1=endc
    · have q':(nxt s k1 == endc)=true:=by simpa using q
      rw [q'];exact .inr ⟨rfl,st,k1,uh HE0 k1 gl2 (by omega),hR2,hS2,hM2B,(uh HR1).trans (if_pos q)⟩
    · have q':(nxt s k1 == endc)=false:=by simpa using q
      rw [q'];exact .inl ⟨rfl,st,k1,s.size+1,gl2,hBd1,hR2,hS2,hM2B,(uh HR1).trans (if_neg q),by omega⟩
   case round =>
    clear hR2 hM2 hS2 hM2B HR1 gl1 gl2 hwu2 hBd1
    rcases hrel with ⟨rfl,st,k,f,hk,hBd,hR,hS,hM,hres,hf⟩|⟨rfl,st,k,hk,hR,hS,hM,hres⟩
    · obtain ⟨f,rfl⟩:∃ g,f=g+1:=⟨f - 1,by omega⟩
      have hAt:=hide (uh hR).atOf;have hEn:=hide ((uh HEn).mvb (uh hM) hr hB);have hBr:B≤wr.heap.size:=Nat.le_trans hBw (uh hM).size;have IT:=hide (uh HIT wr st k (uh hR) (uh hS) (uh hEn) hk (uh hBd) hBr)
      have HF:Hid (rowF step endc s (f+1) st k=match step st k with
       | .inr e=>.inr e
       | .inl (st',k1)=>if nxt s (gap s k1)=44 then rowF step endc s f st' (gap s k1+1) else if nxt s (gap s k1)=endc then .inl (st',gap s k1) else .inr (5,gap s k1)):=rfl
      have HU:=hide (uh HUP st k);have HBn:=hide (fun st' k'=>uh HB1 st k st' k' (uh hBd));have HF2:=hide ((uh hres).trans (congrArg rowE (uh HF)));clear hres HF hR hS;generalize step st k=sp at *
      go_wp2_with fail
      refine (uh IT).mono ?_;rintro e u1 ⟨h,hM1⟩;have hM3:=hide ((uh hM).trans hM1);have hBu:B≤u1.heap.size:=Nat.le_trans hBr hM1.size;clear IT hM hM1
      rcases h with ⟨st',k',rfl,hk',rfl,hR',hS'⟩|⟨ge,k',fb,rfl,hk',rfl,hfb,hfl,kx,ox,hRx⟩
      · have hku:=uh HU st' k' rfl
        have hBd':=hide (uh HBn st' k' rfl);clear HBn;have HR':=hide hR';have HS':=hide hS';clear hR' hS' HU
        go_wp2_with fail
        refine (uh SK k' _ (uh HR') hk').mono ?_;rintro e u2 ⟨rfl,hR2,hMs⟩;rw [uh HGP] at hR2;obtain ⟨gl1,gl2⟩:=uh HGL k' hk';have HR2:=hide hR2;have HM2:=hide ((uh hM3).trans (hMs.toB hBu));have HS2:=hide (uh HST u1 u2 st' (uh HS') hMs);have hBu2:B≤u2.heap.size:=Nat.le_trans hBu hMs.size;clear hR2 hMs HR' HS' hM3;generalize gap s k'=k2 at *
        go_wp2_with fail
        refine (uh NX k2 _ (uh HR2) gl2 ((uh HEn).mvb (uh HM2) hr hB)).mono ?_;rintro e u3 ⟨rfl,hb3⟩;have HR3:=hide ((uh HR2).below hb3 (blk_lt (uh HR2)));have HM3:=hide ((uh HM2).trans (below_mvb hb3 hBu2));have HS3:=hide (uh HST u2 u3 st' (uh HS2) (Mv.of hb3));have hBu3:B≤u3.heap.size:=Nat.le_trans hBu2 hb3.size;have hns:=hide (uh HE0 k2 gl2);clear hb3 HR2 HM2 HS2;obtain ⟨n0,n1⟩:=nxt_bd s k2;have HF3:Hid (res=rowE (if nxt s k2=44 then rowF step endc s f st' (k2+1) else if nxt s k2=endc then .inl (st',k2) else .inr (5,k2))):=uh HF2;clear HF2;generalize nxt s k2=nx at *;obtain ⟨c0,c1,c2⟩:=(uh HR3).cells;obtain ⟨f1,f2⟩:=(uh HR3).frees
        by_cases q1:nx=44
        · subst q1
          have hlt:=uh hns (by omega);have HF4:Hid (res=rowE (rowF step endc s f st' (k2+1))):=(uh HF3).trans (congrArg rowE (if_pos rfl));clear HF3 hns;go_wp2;have hMs:=Mv.set (rb:=rb) u3 1 (.int .i64 ((k2:Int)+1));have hR4:RL (u3.setCell ⟨rb,1,none⟩ (.int .i64 ((k2:Int)+1))) rb s ((k2+1:Nat):Int) (o+1):=(uh HR3).to _
          go_roundw
          case rel=>exact .inl ⟨rfl,st',k2+1,f,by omega,uh HB0 st' k' (k2+1) (uh hBd') (by omega),hR4,uh HST _ _ _ (uh HS3) hMs,(uh HM3).trans (hMs.toB hBu3),HF4,by omega⟩
          case measure =>
           simp only [rowM];rw [hR4.atOf,hAt.out];omega
        · have q1':(nx == 44)=false:=by simpa using q1
          by_cases q2:nx=endc
          · subst q2
            have hlt:=uh hns (by omega);have HF4:Hid (res=.inl (st',k2+1)):=(uh HF3).trans (congrArg rowE ((if_neg q1).trans (if_pos rfl)));clear HF3 hns;go_wp2
            go_roundw
            case rel=>exact .inr ⟨rfl,st',k2,hlt,HR3,HS3,HM3,HF4⟩
            case measure =>
             simp only [rowM];rw [hAt.out];omega
          · have q2':(nx == endc)=false:=by simpa using q2
            have HF4:Hid (res=.inr (5,k2)):=(uh HF3).trans (congrArg rowE ((if_neg q1).trans (if_neg q2)));have FA:=hide (fault_any rb s k2 (o+1) 264 (E 5) u3 (uh HR3));have hT:=((uh HEn).mvb (uh HM3) hr hB).err 5 (by simp);clear HF3 hns
            go_wp2_with fail
            refine (uh FA).mono ?_;rintro e u4 ⟨rfl,hu⟩;have hb:Below u3.heap.size u3 u4:=by rw [hu];exact (Below.refl _ _).alloc (Nat.le_refl _) _
            have hfl:FL u4 u3.heap.size k2 264 (E 5):=by
             rw [hu];show (Array.push _ _)[_]?=_;rw [Array.getElem?_push_size]
            have HFL:=hide hfl;clear hu hfl;go_wp2;go_ret;exact ⟨.inr ⟨_,k2,_,uh HF4,gl2,rfl,hBu3,uh HFL,_,_,(uh HR3).below hb (blk_lt (uh HR3))⟩,(uh HM3).trans (below_mvb hb hBu3)⟩
      · have HF4:Hid (res=.inr (ge,k')):=uh HF2
        have HFL:=hide hfl;have HRx:=hide hRx;clear HF2 hfl hRx HU HBn;go_wp2;go_ret;exact ⟨.inr ⟨ge,k',fb,uh HF4,hk',rfl,hfb,uh HFL,kx,ox,uh HRx⟩,uh hM3⟩
    · obtain ⟨c0,c1,c2⟩:=(uh hR).cells
      obtain ⟨f1,f2⟩:=(uh hR).frees;have hBr:B≤wr.heap.size:=Nat.le_trans hBw (uh hM).size;go_wp2;go_ret;have e1:o+1 - 1=o:=by omega
      have hMs:Mv rb wr ((wr.setCell ⟨rb,2,none⟩ (.int .i64 (o+1 - 1))).setCell ⟨rb,1,none⟩ (.int .i64 ((k:Int)+1))):=(Mv.set _ 2 _).trans (Mv.set _ 1 _)
      have hRe:RL ((wr.setCell ⟨rb,2,none⟩ (.int .i64 (o+1 - 1))).setCell ⟨rb,1,none⟩ (.int .i64 ((k:Int)+1))) rb s ((k+1:Nat):Int) o:=by
       have:=((uh hR).opens (o+1 - 1)).to ((k:Int)+1);rw [e1] at this ⊢;exact this
      have hSe:=uh HST _ _ _ (uh hS) hMs;have hMe:=(uh hM).trans (hMs.toB hBr);rw [e1] at hRe hSe hMe
      first
       | exact ⟨.inl ⟨st,k+1,uh hres,by omega,rfl,hRe,hSe⟩,hMe⟩
       | (rw [e1];exact ⟨.inl ⟨st,k+1,uh hres,by omega,rfl,hRe,hSe⟩,hMe⟩)
def RF (w:World) (rb:Nat) (s:ByteArray) (k c o:Int):Prop:=w.heap[rb]?=some (.cells #[.string s,.int .i64 k,.int .i64 c,.int .i64 o] 116 (0,0))
def isC (s:ByteArray) (k:Nat) (c:UInt8):Bool:=s.data.toList[k]? == some c
def gapC (c:UInt8):Bool:=c == 32 || c == 9 || c == 10 || c == 13
theorem by_at (s:ByteArray) (k:Nat) (h:k < s.size):by_ s k=(s[k].toNat:Int):=by
 unfold by_;have h2:k < s.data.toList.length:=by rw [Array.length_toList];exact h
 rw [List.getD_eq_getElem?_getD,List.getElem?_eq_getElem h2];rfl
def hexR (s:ByteArray) (k:Nat):Option Nat:=if k+4≤s.size then hexFrom ((s.data.toList.drop k).take 4) 0 else none
def hexI:Option Nat→Int
 | some n=>n
 | none=>-1
theorem cutAt (s:ByteArray) (k:Nat) (h:k < s.size):s.data.toList.drop k=s[k]::s.data.toList.drop (k+1):=by
 have h2:k < s.data.toList.length:=by rw [Array.length_toList];exact h
 rw [List.drop_eq_getElem_cons h2];rfl
theorem by_eq (s:ByteArray) (k:Nat) (h:k < s.size) (c:UInt8):by_ s k=(c.toNat:Int)↔s[k]=c:=by
 rw [by_at s k h]
 constructor
 · intro e
   exact UInt8.toNat_inj.mp (by omega)
 · rintro rfl;rfl
theorem pre_two (a b:UInt8) (l:List UInt8):Lib.hasPrefix (a::b::l) [92,117]=true↔a=92∧b=117:=by
 unfold Lib.hasPrefix;rw [List.isPrefixOf_iff_prefix]
 constructor
 · rintro ⟨t,e⟩
   simp at e;exact ⟨e.1.symm,e.2.1.symm⟩
 · rintro ⟨rfl,rfl⟩
   exact ⟨l,rfl⟩
theorem numAt_S (s t:ByteArray) (k:Nat) (h:t.data.toList=s.data.toList.drop k):numAt t=if by_ s k=92∧by_ s (k+1)=117 then hexR s (k+2) else none:=by
 have hz:t.size=s.size - k:=by
  have h1:t.data.toList.length=t.size:=Array.length_toList;have h2:s.data.toList.length=s.size:=Array.length_toList;rw [← h1,h,List.length_drop,h2]
 unfold numAt hexR
 by_cases a:6≤t.size
 · have h1:k < s.size:=by omega
   have h2:k+1 < s.size:=by omega
   rw [if_pos (show k+2+4≤s.size by omega)]
   have e6:(t.extract 2 6).data.toList=(s.data.toList.drop (k+2)).take 4:=by
    rw [ByteArray.data_extract,Array.toList_extract,List.extract_eq_take_drop,h,List.drop_drop]
   rw [e6,h];have e92:=by_eq s k h1 92;have e117:=by_eq s (k+1) h2 117
   by_cases q:by_ s k=92∧by_ s (k+1)=117
   · rw [if_pos q,if_pos]
     refine ⟨a,?_⟩;rw [cutAt s k h1,cutAt s (k+1) h2];exact (pre_two _ _ _).2 ⟨e92.1 q.1,e117.1 q.2⟩
   · rw [if_neg q,if_neg]
     rintro ⟨_,p⟩;rw [cutAt s k h1,cutAt s (k+1) h2] at p;have:=(pre_two _ _ _).1 p;exact q ⟨e92.2 this.1,e117.2 this.2⟩
 · rw [if_neg (fun q=>a q.1),if_neg (show ¬ k+2+4≤s.size by omega)]
   split <;> rfl
def numS (s:ByteArray) (k:Nat):Int × Int:=match hexR s (k+2) with
 | none=>(0,0)
 | some n=>if n < 55296∨57343 < n then ((n:Int),6) else if 56320≤n then (0,0) else if by_ s (k+6)=92∧by_ s (k+7)=117 then (match hexR s (k+8) with
   | none=>(0,0)
   | some m=>if m < 56320∨57343 < m then (0,0) else (65536+((n:Int) - 55296)*1024+((m:Int) - 56320),12)) else (0,0)
def escS (s:ByteArray) (k:Nat):Int × Int:=if s.size≤k+1 then (0,0) else escC (by_ s (k+1)) (numS s k)
theorem ext_end (s:ByteArray) (k:Nat):(s.extract k s.size).data.toList=s.data.toList.drop k:=by
 rw [ByteArray.data_extract,Array.toList_extract,List.extract_eq_take_drop];apply List.take_of_length_le;have h2:s.data.toList.length=s.size:=Array.length_toList;rw [List.length_drop,h2];omega
theorem ext_size (s:ByteArray) (k:Nat):(s.extract k s.size).size=s.size - k:=by
 have h1:(s.extract k s.size).data.toList.length=(s.extract k s.size).size:=Array.length_toList;have h2:s.data.toList.length=s.size:=Array.length_toList;rw [← h1,ext_end,List.length_drop,h2]
theorem by_ext (s:ByteArray) (k j:Nat):by_ (s.extract k s.size) j=by_ s (k+j):=by
 unfold by_;rw [ext_end,List.getD_eq_getElem?_getD,List.getD_eq_getElem?_getD,List.getElem?_drop]
theorem numd_S (s:ByteArray) (k:Nat) (h0:by_ s k=92) (h1:by_ s (k+1)=117):numd (s.extract k s.size)=numS s k:=by
 unfold numd numS;have e1:=numAt_S s (s.extract k s.size) k (ext_end s k);rw [if_pos ⟨h0,h1⟩] at e1;have e2:=numAt_S s ((s.extract k s.size).extract 6 (s.extract k s.size).size) (k+6) (by rw [ext_end,ext_end,List.drop_drop]);rw [e1]
 cases hexR s (k+2) with
 | none=>rfl
 | some n =>
   simp only
   split
   · rfl
   · split
     · rfl
     · rw [e2]
       by_cases q:by_ s (k+6)=92∧by_ s (k+6+1)=117
       · rw [if_pos q,if_pos q]
         rfl
       · rw [if_neg q,if_neg q]
theorem esc_S (s:ByteArray) (k:Nat) (h0:by_ s k=92):esc (s.extract k s.size)=escS s k:=by
 unfold esc escS;rw [ext_size]
 by_cases a:s.size≤k+1
 · rw [if_pos a,if_pos (by omega)]
 · rw [if_neg a,if_neg (by omega),by_ext]
   by_cases q:by_ s (k+1)=117
   · rw [numd_S s k h0 q]
   · unfold escC
     rw [if_neg q,if_neg q]
end Go.Proofs.YthnhobplgmojeaaGreatDoor.rd
