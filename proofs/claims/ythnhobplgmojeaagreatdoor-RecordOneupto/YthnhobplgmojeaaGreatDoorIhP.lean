/- Texts in one: Ih -/
import Derived.Test.YthnhobplgmojeaaGreatDoorIgP
import Derived.Test.YthnhobplgmojeaaGreatDoorToP
namespace Go.Proofs.YthnhobplgmojeaaGreatDoor.rd
open Go.RowKit
theorem BX.frees {w:World}{m:Nat}{cs:List Value} (h:BX w m cs):w.frozen? ⟨m,0,none⟩=false∧w.frozen? ⟨m,1,none⟩=false∧w.frozen? ⟨m,2,none⟩=false∧w.frozen? ⟨m,3,none⟩=false ∧
 w.frozen? ⟨m,4,none⟩=false∧w.frozen? ⟨m,5,none⟩=false∧w.frozen? ⟨m,6,none⟩=false∧w.frozen? ⟨m,7,none⟩=false :=
 ⟨blk_free h 0,blk_free h 1,blk_free h 2,blk_free h 3,blk_free h 4,blk_free h 5,blk_free h 6,blk_free h 7⟩
def st8 (w:World) (m:Nat) (a0 a1 a2 a3 a4 a5 a6 a7:Value):World :=
 (((((((w.setCell ⟨m,0,none⟩ a0).setCell ⟨m,1,none⟩ a1).setCell ⟨m,2,none⟩ a2).setCell ⟨m,3,none⟩ a3).setCell ⟨m,4,none⟩ a4).setCell ⟨m,5,none⟩ a5).setCell ⟨m,6,none⟩ a6).setCell ⟨m,7,none⟩ a7
theorem st8_upd (w:World) (m:Nat) (a0 a1 a2 a3 a4 a5 a6 a7:Value):Upd m w (st8 w m a0 a1 a2 a3 a4 a5 a6 a7) :=
 (((((((Upd.setCell m 0 _ _).trans (Upd.setCell m 1 _ _)).trans (Upd.setCell m 2 _ _)).trans (Upd.setCell m 3 _ _)).trans (Upd.setCell m 4 _ _)).trans (Upd.setCell m 5 _ _)).trans (Upd.setCell m 6 _ _)).trans (Upd.setCell m 7 _ _)
theorem st8_bx {w:World}{m:Nat}{cs:List Value} (h:BX w m cs) (hl:cs.length=8) (a0 a1 a2 a3 a4 a5 a6 a7:Value):BX (st8 w m a0 a1 a2 a3 a4 a5 a6 a7) m [a0,a1,a2,a3,a4,a5,a6,a7]:=by
 match cs,hl with
 | [b0,b1,b2,b3,b4,b5,b6,b7],_ =>
   have h8:=blk_set (blk_set (blk_set (blk_set (blk_set (blk_set (blk_set (blk_set h 0 a0) 1 a1) 2 a2) 3 a3) 4 a4) 5 a5) 6 a6) 7 a7;unfold BX st8;simpa using h8
theorem ret_rnrm {m:Nat}{w:World}{a0 a1 a2 a3 a4 a5 a6 a7:Value} (h:BX w m [a0,a1,a2,a3,a4,a5,a6,a7]) (tmps:Array Value) (h2:tmps[2]?.getD undef=.pointer (some ⟨m,0,none⟩)) :
 (results Tryz.f43 tmps).run Tryz.prog w=.ok (.agg #[a0,a1,a2,a3,a4,a5,a6,a7]) w:=by
 obtain ⟨q0,q1,q2,q3,q4,q5,q6,q7⟩:=BX.cells h;simp [results,Tryz.results43,h2,go_sem,q0,q1,q2,q3,q4,q5,q6,q7]
theorem vrep_flat (w:World) (B:Nat) (k:Int) (t:Bool) (d:Dn) (x:ByteArray):VRep w B (JT.mk k t d x [] []) [.int .i64 k,.bool t,.bool d.neg,.string d.dg,.int .i64 d.ex,.string x,.slice none 0 0,.slice none 0 0] [] :=
 VRep.mk (css:=[]) (gss:=[]) (ps:=[]) (qs:=[]) (World.ownsRow_nil _ _ _ _) (World.ownsRow_nil _ _ _ _) rfl rfl rfl rfl (fun i v c p h=>by simp at h) (fun i n v c p h=>by simp at h)
def NP (w:World) (v:JT) (e:Ending) (w':World):Prop:=∃ cs' p,e=.returned (.agg cs'.toArray)∧VRep w' w.heap.size v cs' p∧p.Nodup∧Below w.heap.size w w'
def zcells:List Value:=[.int .i64 0,.bool false,.bool false,.string ⟨#[]⟩,.int .i64 0,.string ⟨#[]⟩,.slice none 0 0,.slice none 0 0]
set_option maxRecDepth 100000 in
set_option maxHeartbeats 1200000 in
theorem nrm_flat (k:Int) (t:Bool) (dn:Bool) (dg:ByteArray) (dx:Int) (x:ByteArray) (l:List JT) (f:List (ByteArray × JT)) (lv fv:Value) (w:World) (hk:k≠4∧k≠5) (hd:dg.size≤1099511627776) (h0:-9223372036854775808≤dx) (h1:dx≤9223372036854775807) (hx:x.size≤35184372088832) :
 Calls Tryz.prog 43 #[.agg #[.int .i64 k,.bool t,.bool dn,.string dg,.int .i64 dx,.string x,lv,fv]] w (NP w (nrm (JT.mk k t ⟨dn,dg,dx⟩ x l f))):=by
 rw [nrm_mk]
 by_cases e1:k=1
 · subst e1
   rw [if_pos rfl]
   go_enter Tryz.func43,Tryz.ntmps43
   go_wp2;obtain ⟨_,hb,hl⟩:=box_two w [.int .i64 1,.bool t,.bool dn,.string dg,.int .i64 dx,.string x,lv,fv] [.int .i64 1,.bool t,.bool false,.string ⟨#[]⟩,.int .i64 0,.string ⟨#[]⟩,.slice none 0 0,.slice none 0 0];exact bodyPost_ret (ret_rnrm hb _ rfl) rfl ⟨_,[],rfl,vrep_flat _ _ 1 t zed ⟨#[]⟩,List.nodup_nil,hl⟩
 · rw [if_neg e1]
   by_cases e2:k=2
   · subst e2
     rw [if_pos rfl];have C1:=hide (fun u=>rnorm_any ⟨dn,dg,dx⟩ u hd h0 h1);simp only [dv] at C1;generalize norm ⟨dn,dg,dx⟩=r at *;obtain ⟨rn,rg,rx⟩:=r;simp only at C1
     go_enter Tryz.func43,Tryz.ntmps43
     go_wp2_with fail
     refine (uh C1 _).mono ?_;rintro e u1 ⟨rfl,hb1⟩;obtain ⟨_,hb,hl⟩:=box_two w [.int .i64 2,.bool t,.bool dn,.string dg,.int .i64 dx,.string x,lv,fv] [.int .i64 0,.bool false,.bool false,.string ⟨#[]⟩,.int .i64 0,.string ⟨#[]⟩,.slice none 0 0,.slice none 0 0];have hz:=blk_lt hb;have HX:=hide (hb.keep hb1 hz);have HL:=hide (hl.trans (hb1.mono (by have:=hl.size;omega)));clear hb hl hz hb1 C1;obtain ⟨z0,z1,z2,z3,z4,z5,z6,z7⟩:=(uh HX).cells;obtain ⟨y0,y1,y2,y3,y4,y5,y6,y7⟩:=(uh HX).frees;go_wp2;have hX:=st8_bx (uh HX) rfl (.int .i64 2) (.bool false) (.bool rn) (.string rg) (.int .i64 rx) (.string ⟨#[]⟩) (.slice none 0 0) (.slice none 0 0);have hU:=(uh HL).trans ((st8_upd u1 (w.heap.size+1) (.int .i64 2) (.bool false) (.bool rn) (.string rg) (.int .i64 rx) (.string ⟨#[]⟩) (.slice none 0 0) (.slice none 0 0)).below (Nat.le_succ _));simp only [st8] at hX hU;exact bodyPost_ret (ret_rnrm hX _ rfl) rfl ⟨_,[],rfl,vrep_flat _ _ 2 false ⟨rn,rg,rx⟩ ⟨#[]⟩,List.nodup_nil,hU⟩
   · rw [if_neg e2]
     by_cases e3:k=3
     · subst e3
       rw [if_pos rfl];have C1:=hide (fun u=>pt.clean_any x u hx);generalize pt.clean x=r at *
       go_enter Tryz.func43,Tryz.ntmps43
       go_wp2_with fail
       refine (uh C1 _).mono ?_;rintro e u1 ⟨rfl,hb1⟩;obtain ⟨_,hb,hl⟩:=box_two w [.int .i64 3,.bool t,.bool dn,.string dg,.int .i64 dx,.string x,lv,fv] [.int .i64 0,.bool false,.bool false,.string ⟨#[]⟩,.int .i64 0,.string ⟨#[]⟩,.slice none 0 0,.slice none 0 0];have hz:=blk_lt hb;have HX:=hide (hb.keep hb1 hz);have HL:=hide (hl.trans (hb1.mono (by have:=hl.size;omega)));clear hb hl hz hb1 C1;obtain ⟨z0,z1,z2,z3,z4,z5,z6,z7⟩:=(uh HX).cells;obtain ⟨y0,y1,y2,y3,y4,y5,y6,y7⟩:=(uh HX).frees;go_wp2;have hX:=st8_bx (uh HX) rfl (.int .i64 3) (.bool false) (.bool false) (.string ⟨#[]⟩) (.int .i64 0) (.string r) (.slice none 0 0) (.slice none 0 0);have hU:=(uh HL).trans ((st8_upd u1 (w.heap.size+1) (.int .i64 3) (.bool false) (.bool false) (.string ⟨#[]⟩) (.int .i64 0) (.string r) (.slice none 0 0) (.slice none 0 0)).below (Nat.le_succ _));simp only [st8] at hX hU;exact bodyPost_ret (ret_rnrm hX _ rfl) rfl ⟨_,[],rfl,vrep_flat _ _ 3 false zed r,List.nodup_nil,hU⟩
     · rw [if_neg e3,if_neg hk.1,if_neg hk.2]
       obtain ⟨e4,e5⟩:=hk
       go_enter Tryz.func43,Tryz.ntmps43
       go_wp2;obtain ⟨_,hb,hl⟩:=box_two w [.int .i64 k,.bool t,.bool dn,.string dg,.int .i64 dx,.string x,lv,fv] [.int .i64 0,.bool false,.bool false,.string ⟨#[]⟩,.int .i64 0,.string ⟨#[]⟩,.slice none 0 0,.slice none 0 0];exact bodyPost_ret (ret_rnrm hb _ rfl) rfl ⟨_,[],rfl,vrep_flat _ _ 0 false zed ⟨#[]⟩,List.nodup_nil,hl⟩
end Go.Proofs.YthnhobplgmojeaaGreatDoor.rd
