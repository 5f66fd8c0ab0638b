/- Texts in one: Rv -/
import Derived.Test.YthnhobplgmojeaaGreatDoorRwP
import Derived.Test.YthnhobplgmojeaaGreatDoorIbP
namespace Go.Proofs.YthnhobplgmojeaaGreatDoor.rd
open Go.RowKit
def vc (k:Int) (t:Bool) (d:Dn) (x:ByteArray) (lv fv:Value):Array Value:=#[.int .i64 k,.bool t,.bool d.neg,.string d.dg,.int .i64 d.ex,.string x,lv,fv]
def nilS:Value:=.slice none 0 0
def vNull:Array Value:=vc 0 false zed ⟨#[]⟩ nilS nilS
def VL (w:World) (m:Nat) (cs:Array Value):Prop:=w.heap[m]?=some (.cells cs 28 (0,0))
theorem VL.cells {w:World}{m:Nat}{k:Int}{t:Bool}{d:Dn}{x:ByteArray}{lv fv:Value} (h:VL w m (vc k t d x lv fv)) :
 w.cell? ⟨m,0,none⟩=some (.int .i64 k)∧w.cell? ⟨m,1,none⟩=some (.bool t)∧w.cell? ⟨m,2,none⟩=some (.bool d.neg)∧w.cell? ⟨m,3,none⟩=some (.string d.dg) ∧
 w.cell? ⟨m,4,none⟩=some (.int .i64 d.ex)∧w.cell? ⟨m,5,none⟩=some (.string x)∧w.cell? ⟨m,6,none⟩=some lv∧w.cell? ⟨m,7,none⟩=some fv :=
 ⟨blk_cell h 0,blk_cell h 1,blk_cell h 2,blk_cell h 3,blk_cell h 4,blk_cell h 5,blk_cell h 6,blk_cell h 7⟩
theorem VL.frees {w:World}{m:Nat}{cs:Array Value} (h:VL w m cs):w.frozen? ⟨m,0,none⟩=false∧w.frozen? ⟨m,1,none⟩=false∧w.frozen? ⟨m,2,none⟩=false∧w.frozen? ⟨m,3,none⟩=false ∧
 w.frozen? ⟨m,4,none⟩=false∧w.frozen? ⟨m,5,none⟩=false∧w.frozen? ⟨m,6,none⟩=false∧w.frozen? ⟨m,7,none⟩=false :=
 ⟨blk_free h 0,blk_free h 1,blk_free h 2,blk_free h 3,blk_free h 4,blk_free h 5,blk_free h 6,blk_free h 7⟩
theorem set8 (a0 a1 a2 a3 a4 a5 a6 a7 b0 b1 b2 b3 b4 b5 b6 b7:Value):(((((((#[a0,a1,a2,a3,a4,a5,a6,a7].setIfInBounds 0 b0).setIfInBounds 1 b1).setIfInBounds 2 b2).setIfInBounds 3 b3).setIfInBounds 4 b4).setIfInBounds 5 b5).setIfInBounds 6 b6).setIfInBounds 7 b7=#[b0,b1,b2,b3,b4,b5,b6,b7]:=by simp
def put8 (w:World) (m:Nat) (k:Int) (t:Bool) (d:Dn) (x:ByteArray) (lv fv:Value):World :=
 (((((((w.setCell ⟨m,0,none⟩ (.int .i64 k)).setCell ⟨m,1,none⟩ (.bool t)).setCell ⟨m,2,none⟩ (.bool d.neg)).setCell ⟨m,3,none⟩ (.string d.dg)).setCell ⟨m,4,none⟩ (.int .i64 d.ex)).setCell ⟨m,5,none⟩ (.string x)).setCell ⟨m,6,none⟩ lv).setCell ⟨m,7,none⟩ fv
theorem put8_lies {w:World}{m:Nat}{k':Int}{t':Bool}{d':Dn}{x':ByteArray}{lv' fv':Value} (h:VL w m (vc k' t' d' x' lv' fv')) (k:Int) (t:Bool) (d:Dn) (x:ByteArray) (lv fv:Value):VL (put8 w m k t d x lv fv) m (vc k t d x lv fv) :=
 by
 have h8:=blk_set (blk_set (blk_set (blk_set (blk_set (blk_set (blk_set (blk_set h 0 (.int .i64 k)) 1 (.bool t)) 2 (.bool d.neg)) 3 (.string d.dg)) 4 (.int .i64 d.ex)) 5 (.string x)) 6 lv) 7 fv;unfold vc at h8;rw [set8] at h8;exact h8
theorem put8_upd (w:World) (m:Nat) (k:Int) (t:Bool) (d:Dn) (x:ByteArray) (lv fv:Value):Mv m w (put8 w m k t d x lv fv) :=
 (((((((Mv.set _ 0 _).trans (Mv.set _ 1 _)).trans (Mv.set _ 2 _)).trans (Mv.set _ 3 _)).trans (Mv.set _ 4 _)).trans (Mv.set _ 5 _)).trans (Mv.set _ 6 _)).trans (Mv.set _ 7 _)
theorem Mv.own {rb m:Nat}{w a b:World} (h:Mv rb w a) (hm:w.heap.size≤m) (hb:Mv m a b):Mv rb w b :=
 ⟨hb.os.trans h.os,hb.tape.trans h.tape,hb.output.trans h.output,Nat.le_trans h.size hb.size,fun k hk hn=>(hb.block k (Nat.lt_of_lt_of_le hk h.size) (by omega)).trans (h.block k hk hn)⟩
theorem vl_new (w:World) (cs:Array Value):VL (w.alloc (.cells cs 28)) w.heap.size cs:=by
 show (w.heap.push _)[w.heap.size]?=_;rw [Array.getElem?_push_size]
theorem Mv.obj {rb b:Nat}{w w':World}{o:Obj} (h:Mv rb w w') (hn:b≠rb) (hc:w.heap[b]?=some o):w'.heap[b]?=some o:=(h.block b (blk_lt hc) hn).trans hc
theorem ret_word {m:Nat} (w:World) (k:Int) (t:Bool) (d:Dn) (x:ByteArray) (lv fv ev:Value) (h:VL w m (vc k t d x lv fv)) (tmps:Array Value) (h2:tmps[6]?.getD undef=.pointer (some ⟨m,0,none⟩)) (h3:tmps[7]?.getD undef=ev) :
 (results Tryz.f140 tmps).run Tryz.prog w=.ok (.tuple #[.agg (vc k t d x lv fv),ev]) w:=by
 obtain ⟨q0,q1,q2,q3,q4,q5,q6,q7⟩:=VL.cells h;simp [results,Tryz.results140,h2,h3,go_sem,q0,q1,q2,q3,q4,q5,q6,q7,vc]
theorem ret_number {m:Nat} (w:World) (k:Int) (t:Bool) (d:Dn) (x:ByteArray) (lv fv ev:Value) (h:VL w m (vc k t d x lv fv)) (tmps:Array Value) (h2:tmps[2]?.getD undef=.pointer (some ⟨m,0,none⟩)) (h3:tmps[3]?.getD undef=ev) :
 (results Tryz.f141 tmps).run Tryz.prog w=.ok (.tuple #[.agg (vc k t d x lv fv),ev]) w:=by
 obtain ⟨q0,q1,q2,q3,q4,q5,q6,q7⟩:=VL.cells h;simp [results,Tryz.results141,h2,h3,go_sem,q0,q1,q2,q3,q4,q5,q6,q7,vc]
set_option maxRecDepth 100000 in
set_option maxHeartbeats 1600000 in
theorem word_any (wd:ByteArray) (kd:Int) (tr:Bool) (rb:Nat) (s:ByteArray) (k:Nat) (o:Int) (w:World) (h:RL w rb s k o) (hk:k≤s.size) (hs:s.size≤1099511627776) (hwd:wd.size≤100) (E:Nat→Value) (hE:Env E w) (hr:17≤rb) :
 Calls Tryz.prog 140 #[.pointer (some ⟨rb,0,none⟩),.string wd,.agg (vc kd tr zed ⟨#[]⟩ nilS nilS)] w fun e w' =>
  ((Lib.hasPrefix (s.extract k s.size).data.toList wd.data.toList=true∧e=.returned (.tuple #[.agg (vc kd tr zed ⟨#[]⟩ nilS nilS),.nilIface])∧RL w' rb s ((k+wd.size:Nat):Int) o) ∨
   (Lib.hasPrefix (s.extract k s.size).data.toList wd.data.toList=false∧∃ fb,e=.returned (.tuple #[.agg vNull,.iface 178 (.pointer (some ⟨fb,0,none⟩))])∧RL w' rb s k o∧w.heap.size≤fb∧FL w' fb k 264 (E 5)))∧Mv rb w w':=by
 have hrl:=blk_lt h;obtain ⟨c0,c1,c2⟩:=h.cells;obtain ⟨f1,f2⟩:=h.frees;have HH:=hide h;have HEn:=hide hE;have hsl:∀ u:World,(Instr.slice 9 (.string s) (some (.int .i64 (k:Int))) none none).run Tryz.prog u=.ok (.string (s.extract k s.size)) u:=fun u=>run_slice_string_l u 9 s Tryz.underlying9 .i64 k (by omega) (by omega)
 have PF:=hide (fun w=>Tryz.strings_HasPrefix (s.extract k s.size) wd w);have hk':(k:Int)≤(s.size:Int):=by omega
 generalize Lib.hasPrefix (s.extract k s.size).data.toList wd.data.toList=pf at *;generalize s.extract k s.size=q at *;clear hE h;simp only [vc,nilS,vNull,zed];have hne:w.heap.size+1≠rb:=by omega
 have hA0:VL ((w.alloc (.cells (vc kd tr zed ⟨#[]⟩ nilS nilS) 28)).alloc (.cells vNull 28)) w.heap.size (vc kd tr zed ⟨#[]⟩ nilS nilS) :=
  (Below.heap_alloc _ _ _ (by simp)).trans (vl_new w (vc kd tr zed ⟨#[]⟩ nilS nilS))
 have hA1:VL ((w.alloc (.cells (vc kd tr zed ⟨#[]⟩ nilS nilS) 28)).alloc (.cells vNull 28)) (w.heap.size+1) vNull:=by
  have:=vl_new (w.alloc (.cells (vc kd tr zed ⟨#[]⟩ nilS nilS) 28)) vNull;simpa using this
 have hB1:Below w.heap.size w ((w.alloc (.cells (vc kd tr zed ⟨#[]⟩ nilS nilS) 28)).alloc (.cells vNull 28)):=((Below.refl _ _).alloc (Nat.le_refl _) _).alloc (by simp) _;have hR1:=hide ((uh HH).below hB1 hrl)
 go_enter Tryz.func140,Tryz.ntmps140
 go_upto_region 1 with fail
 go_cut [19] from 8 (fun s19 wx=>s19=.bool (!pf)∧Hid (VL wx w.heap.size (vc kd tr zed ⟨#[]⟩ nilS nilS))∧Hid (VL wx (w.heap.size+1) vNull)∧Hid (RL wx rb s k o)∧Hid (Mv rb w wx))
 case first =>
  go_quiet ((go_at_call 157;exact Calls.quiet_of_same (uh PF _)))
  go_wp2_with fail
  go_meet;exact ⟨rfl,hA0,hA1,hR1,(Mv.of hB1).drewN nq⟩
 case rest =>
  clear hA0 hA1 hB1 hR1 c0 c1 c2 f1 f2;obtain ⟨rfl,hA0,hA1,hR1,hM1⟩:=hcut;obtain ⟨c0,c1,c2⟩:=(uh hR1).cells;obtain ⟨f1,f2⟩:=(uh hR1).frees;have hz:w.heap.size+1 < wc.heap.size:=blk_lt (uh hA1)
  cases pf with
  | true =>
    obtain ⟨p0,p1,p2,p3,p4,p5,p6,p7⟩:=VL.cells (uh hA0);obtain ⟨q0,q1,q2,q3,q4,q5,q6,q7⟩:=VL.cells (show VL wc (w.heap.size+1) (vc 0 false zed ⟨#[]⟩ nilS nilS) from uh hA1);obtain ⟨g0,g1,g2,g3,g4,g5,g6,g7⟩:=VL.frees (uh hA1);simp only [zed,nilS] at p0 p1 p2 p3 p4 p5 p6 p7 q0 q1 q2 q3 q4 q5 q6 q7;have hne2:rb≠w.heap.size+1:=by omega
    have hne3:rb≠w.heap.size:=by omega
    go_wp2;have hMs:=Mv.set (rb:=rb) wc 1 (.int .i64 ((k:Int)+(wd.size:Int)));have hA2:=hMs.obj hne (uh hA1);have hR2:=(uh hR1).to ((k:Int)+(wd.size:Int));have hU:=put8_upd (wc.setCell ⟨rb,1,none⟩ (.int .i64 ((k:Int)+(wd.size:Int)))) (w.heap.size+1) kd tr zed ⟨#[]⟩ nilS nilS;have hR3:=hU.obj hne2 hR2
    have hR4:RL (put8 (wc.setCell ⟨rb,1,none⟩ (.int .i64 ((k:Int)+(wd.size:Int)))) (w.heap.size+1) kd tr zed ⟨#[]⟩ nilS nilS) rb s ((k+wd.size:Nat):Int) o:=by
     rw [show ((k+wd.size:Nat):Int)=(k:Int)+(wd.size:Int) by omega];exact hR3
    exact bodyPost_ret (ret_word (m:=w.heap.size+1) _ kd tr zed ⟨#[]⟩ nilS nilS .nilIface (put8_lies (k':=0) (t':=false) (d':=zed) (x':=⟨#[]⟩) (lv':=nilS) (fv':=nilS) hA2 kd tr zed ⟨#[]⟩ nilS nilS) _ rfl rfl) rfl ⟨⟨rfl,hR4⟩,((uh hM1).trans hMs).own (by omega) hU⟩
  | false =>
    have FA:=hide (fault_any rb s k o 264 (E 5) _ (uh hR1));have hT:=((uh HEn).mv (uh hM1) hr).err 5 (by simp)
    go_wp2_with fail
    refine (uh FA).mono ?_;rintro e u3 ⟨rfl,hu3⟩;have hb3:Below wc.heap.size wc u3:=by rw [hu3];exact (Below.refl _ _).alloc (Nat.le_refl _) _
    have hA3:=hide ((hb3.block _ (blk_lt (uh hA1))).trans (uh hA1));have hR3:=hide ((uh hR1).below hb3 (blk_lt (uh hR1)));have hM3:=hide ((uh hM1).trans (Mv.of hb3))
    have hfl:FL u3 wc.heap.size k 264 (E 5):=by
     rw [hu3];show (Array.push _ _)[_]?=_;rw [Array.getElem?_push_size]
    have HFL:=hide hfl;obtain ⟨q0,q1,q2,q3,q4,q5,q6,q7⟩:=VL.cells (show VL u3 (w.heap.size+1) (vc 0 false zed ⟨#[]⟩ nilS nilS) from uh hA3);obtain ⟨g0,g1,g2,g3,g4,g5,g6,g7⟩:=VL.frees (uh hA3);simp only [zed,nilS] at q0 q1 q2 q3 q4 q5 q6 q7;clear hu3 hb3 hfl hA0 hA1 hR1 hM1 hT c0 c1 c2 f1 f2;go_wp2;have hU:=put8_upd u3 (w.heap.size+1) 0 false zed ⟨#[]⟩ nilS nilS
    exact bodyPost_ret (ret_word (m:=w.heap.size+1) _ 0 false zed ⟨#[]⟩ nilS nilS _ (put8_lies (k':=0) (t':=false) (d':=zed) (x':=⟨#[]⟩) (lv':=nilS) (fv':=nilS) (uh hA3) 0 false zed ⟨#[]⟩ nilS nilS) _ rfl rfl) rfl
     ⟨⟨_,rfl,hU.obj (by omega) (uh hR3),by omega,hU.obj (by omega) (uh HFL)⟩,(uh hM3).own (by omega) hU⟩
end Go.Proofs.YthnhobplgmojeaaGreatDoor.rd
