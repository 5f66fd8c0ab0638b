/- Texts in one: Sk Sk2 -/
import Derived.Test.YthnhobplgmojeaaGreatDoorSaP
import Derived.Test.YthnhobplgmojeaaGreatDoorIdP
import Derived.Test.YthnhobplgmojeaaGreatDoorTxP
import Derived.Laws.EntriesVeiled
namespace Go.Proofs.YthnhobplgmojeaaGreatDoor.rd
open Go.RowKit
def prt:JT→List UInt8
 | .mk k t d x l f =>
   if k=1 then (if t then trueB else falseB)
   else if k=2 then (textOf (norm d)).data.toList
   else if k=3 then txtJ x
   else if k=4 then 91::(comma (l.attach.map fun v=>prt v.1)++[93])
   else if k=5 then 123::(comma (f.attach.map fun p=>txtJ p.1.1++[58]++prt p.1.2)++[125])
   else [110,117,108,108]
 termination_by v=>SizeOf.sizeOf v
 decreasing_by
  · exact sz_l v.2
  · exact sz_f p.2
theorem prt_mk (k:Int) (t:Bool) (d:Dn) (x:ByteArray) (l:List JT) (f:List (ByteArray × JT)):prt (.mk k t d x l f) =
 if k=1 then (if t then trueB else falseB)
 else if k=2 then (textOf (norm d)).data.toList
 else if k=3 then txtJ x
 else if k=4 then 91::(comma (l.map prt)++[93])
 else if k=5 then 123::(comma (f.map fun p=>txtJ p.1++[58]++prt p.2)++[125])
 else [110,117,108,108]:=by
 rw [prt];simp only [List.map_attach_eq_pmap,List.pmap_eq_map]
def cst:JT→Nat
 | .mk _ _ d x l f=>30+(textOf (norm d)).size+6*x.size+(l.attach.map fun v=>cst v.1).sum+l.length+(f.attach.map fun p=>cst p.1.2+6*p.1.1.size+30).sum+f.length
 termination_by v=>SizeOf.sizeOf v
 decreasing_by
  · exact sz_l v.2
  · exact sz_f p.2
theorem cst_mk (k:Int) (t:Bool) (d:Dn) (x:ByteArray) (l:List JT) (f:List (ByteArray × JT)):cst (.mk k t d x l f) =
 30+(textOf (norm d)).size+6*x.size+(l.map cst).sum+l.length+(f.map fun p=>cst p.2+6*p.1.size+30).sum+f.length:=by
 rw [cst];simp only [List.map_attach_eq_pmap,List.pmap_eq_map]
theorem lts_le (s:ByteArray):∀ fuel pos,(ltsF s fuel pos).length≤6*fuel:=by
 intro fuel
 induction fuel with
 | zero=>intro pos;simp [ltsF]
 | succ n ih =>
   intro pos;rw [ltsF]
   split
   · have h1:=ltt_le (Utf8.decode s pos).1
     have h2:=ih (pos+(Utf8.decode s pos).2);rw [List.length_append];omega
   · simp
theorem txtJ_le (s:ByteArray):(txtJ s).length≤6*s.size+2:=by
 have:=lts_le s s.size 0;simp only [txtJ,List.length_cons,List.length_append,List.length_nil];omega
theorem prt_le (n:Nat):∀ v,SizeOf.sizeOf v < n→(prt v).length≤cst v:=by
 induction n with
 | zero=>intro v h;omega
 | succ n IH =>
   intro v hn
   cases v with
   | mk k t d x l f =>
     rw [prt_mk,cst_mk];have hx:=txtJ_le x
     have hl:=comma_len (l.map prt) (l.map cst) (by simp) (fun j y q e1 e2=>by
      rw [List.getElem?_map] at e1 e2
      cases hv:l[j]? with
      | none=>rw [hv] at e1;simp at e1
      | some v =>
        rw [hv] at e1 e2;simp only [Option.map_some,Option.some.injEq] at e1 e2;subst e1 e2
        exact IH v (by have:=sz_l (k:=k) (t:=t) (d:=d) (x:=x) (f:=f) (List.mem_of_getElem? hv);omega))
     have hf:=comma_len (f.map fun p=>txtJ p.1++[58]++prt p.2) (f.map fun p=>cst p.2+6*p.1.size+30) (by simp) (fun j y q e1 e2=>by
      rw [List.getElem?_map] at e1 e2
      cases hv:f[j]? with
      | none=>rw [hv] at e1;simp at e1
      | some p =>
        rw [hv] at e1 e2;simp only [Option.map_some,Option.some.injEq] at e1 e2;subst e1 e2;have:=IH p.2 (by have:=sz_f (k:=k) (t:=t) (d:=d) (x:=x) (l:=l) (List.mem_of_getElem? hv);omega);have h2:=txtJ_le p.1;simp only [List.length_append,List.length_cons,List.length_nil]
        omega)
     rw [List.length_map] at hl hf;have ht:(textOf (norm d)).data.toList.length=(textOf (norm d)).size:=Array.length_toList
     repeat' split
     all_goals try simp only [trueB,falseB,List.length_cons,List.length_append,List.length_nil]
     all_goals omega
def tellV (b nb fb:Nat):Value:=.func (.func 90) #[] #[.pointer (some ⟨b,0,none⟩),.pointer (some ⟨nb,0,none⟩),.pointer (some ⟨fb,0,none⟩)]
def tellFV (b nb:Nat):Value:=.func (.func 87) #[] #[.pointer (some ⟨b,0,none⟩),.pointer (some ⟨nb,0,none⟩)]
structure PE (w0:World) (b nb fb:Nat) (u:World):Prop where
 n1:∃ ty,ty≠5∧u.heap[nb]?=some (.cells #[tellV b nb fb] ty (0,0))
 f1:∃ ty,ty≠5∧u.heap[fb]?=some (.cells #[tellFV b nb] ty (0,0))
 nb_:nb≠b
 fb_:fb≠b
 low:Below w0.heap.size w0 u
theorem PE.keep {w0:World}{B b nb fb:Nat}{u u':World} (h:PE w0 b nb fb u) (hw:w0.heap.size≤B) (hb:Below B u u') (hk:Lib.OthersKept 5 (some b) u u'):PE w0 b nb fb u':=by
 obtain ⟨⟨t1,h1,h2⟩,⟨t2,h3,h4⟩,h5,h6,h7⟩:=h;exact ⟨⟨t1,h1,cell_kept hk h2 h1 h5⟩,⟨t2,h3,cell_kept hk h4 h3 h6⟩,h5,h6,h7.trans (hb.mono hw)⟩
def TC (w0:World) (B b nb fb:Nat) (v:JT):Prop:=∀ (l:List UInt8) (cs:List Value) (p:List Nat) (Bz:Nat) (u:World),Bld B b l u→l.length+cst v≤140737488355328→B≤u.heap.size→b < u.heap.size→PE w0 b nb fb u→VRep u Bz v cs p→b ∉ p →
 Calls Tryz.prog 90 #[.agg cs.toArray,.pointer (some ⟨b,0,none⟩),.pointer (some ⟨nb,0,none⟩),.pointer (some ⟨fb,0,none⟩)] u (PO B b (l++prt v) u)
theorem bld_blk {B b:Nat}{l:List UInt8}{w w':World} (h:Bld B b l w) (hk:∀ k o,B≤k→w.heap[k]?=some o→w'.heap[k]?=some o):Bld B b l w':=by
 have key:∀ p,Lib.BuilderAtF 128 5 B b p (Lib.byteCells l) w→Lib.BuilderAtF 128 5 B b p (Lib.byteCells l) w':=by
  rintro p ⟨h1,v,h2,h3,h4⟩;refine ⟨h1,v,hk _ _ h1 h2,⟨h3.1,?_⟩,h4⟩
  rcases h3.2 with h5|⟨g,cap,cur,fz,e1,e2,e3,e4⟩
  · exact .inl h5
  · exact .inr ⟨g,cap,cur,fz,e1,e2,hk _ _ e2 e3,e4⟩
 exact h.imp (key _) (key _)
theorem bld_keep {B b:Nat}{l:List UInt8}{u u':World} (h:Bld B b l u) (hb:Below u.heap.size u u'):Bld B b l u':=by
 have blk:∀ k o,u.heap[k]?=some o→u'.heap[k]?=some o:=fun k o hk=>by rw [hb.block k (Array.getElem?_eq_some_iff.1 hk).1];exact hk
 exact bld_blk h fun k o _ hk=>blk k o hk
theorem kept_below {b:Nat}{u u':World} (hb:Below u.heap.size u u'):Lib.OthersKept 5 (some b) u u':=fun k o hk _ _=>by rw [hb.block k (Array.getElem?_eq_some_iff.1 hk).1];exact hk
theorem box_po {B b:Nat}{l:List UInt8}{u:World} (h:Bld B b l u) (hB:B≤u.heap.size) (hbs:b < u.heap.size) (o:Obj):Bld B b l (u.alloc o)∧Below B u (u.alloc o)∧Lib.OthersKept 5 (some b) u (u.alloc o)∧B≤(u.alloc o).heap.size∧b < (u.alloc o).heap.size:=by
 refine ⟨Lib.IsBuilderF.alloc h o,(Below.refl _ u).alloc hB o,(Lib.OthersKept.refl _ _ u).alloc o,?_,?_⟩ <;> rw [World.size_alloc] <;> omega
set_option maxHeartbeats 4000000 in
set_option maxRecDepth 1000000 in
theorem tell_null (B b nb fb:Nat) (k:Int) (t:Bool) (dn:Bool) (dg:ByteArray) (dx:Int) (x:ByteArray) (lv fv:Value) (bs:List UInt8) (u:World) (h:Bld B b bs u) (hB:B≤u.heap.size) (hbs:b < u.heap.size) (hl:bs.length+4≤140737488355328) (e1:(k == 1)=false) (e2:(k == 2)=false) (e3:(k == 3)=false) (e4:(k == 4)=false) (e5:(k == 5)=false) :
 Calls Tryz.prog 90 #[.agg #[.int .i64 k,.bool t,.bool dn,.string dg,.int .i64 dx,.string x,lv,fv],.pointer (some ⟨b,0,none⟩),.pointer (some ⟨nb,0,none⟩),.pointer (some ⟨fb,0,none⟩)] u (PO B b (bs++[110,117,108,108]) u):=by
 have BP:=hide (box_po h hB hbs (.cells [.int .i64 k,.bool t,.bool dn,.string dg,.int .i64 dx,.string x,lv,fv].toArray 28));have BXX:Hid (BX (u.alloc (.cells [.int .i64 k,.bool t,.bool dn,.string dg,.int .i64 dx,.string x,lv,fv].toArray 28)) u.heap.size [.int .i64 k,.bool t,.bool dn,.string dg,.int .i64 dx,.string x,lv,fv]):=heap_alloc_new u _;clear h
 go_enter Tryz.func90,Tryz.ntmps90
 go_upto_region 1 with fail;obtain ⟨p1,p2,p3,p4,p5⟩:=uh BP;have bx:=uh BXX;generalize u.alloc (.cells [.int .i64 k,.bool t,.bool dn,.string dg,.int .i64 dx,.string x,lv,fv].toArray 28)=W at *;have P2:=hide p2;have P3:=hide p3;obtain ⟨y0,y1,y2,y3,y4,y5,y6,y7⟩:=bx.cells;have WS:=hide (writeString_any B b bs ⟨#[110,117,108,108]⟩ W p1 (by show _+4≤_;omega) p4);clear p1 p2 p3
 go_wp2_with (go_at_call 91;refine (uh WS).mono ?_;rintro e u1 ⟨rfl,hb1,hc1,hk1⟩)
 go_end0
 exact ⟨rfl,hb1,(uh P2).trans hc1,(uh P3).trans hk1⟩
set_option maxHeartbeats 4000000 in
set_option maxRecDepth 1000000 in
theorem tell_truth (B b nb fb:Nat) (t:Bool) (dn:Bool) (dg:ByteArray) (dx:Int) (x:ByteArray) (lv fv:Value) (y:List UInt8) (bs:List UInt8) (u:World) (h:Bld B b bs u) (hB:B≤u.heap.size) (hbs:b < u.heap.size) (hl:bs.length+5≤140737488355328) (hy:y=(if t then trueB else falseB)) :
 Calls Tryz.prog 90 #[.agg #[.int .i64 1,.bool t,.bool dn,.string dg,.int .i64 dx,.string x,lv,fv],.pointer (some ⟨b,0,none⟩),.pointer (some ⟨nb,0,none⟩),.pointer (some ⟨fb,0,none⟩)] u (PO B b (bs++y) u):=by
 have BP:=hide (box_po h hB hbs (.cells [.int .i64 1,.bool t,.bool dn,.string dg,.int .i64 dx,.string x,lv,fv].toArray 28));have BXX:Hid (BX (u.alloc (.cells [.int .i64 1,.bool t,.bool dn,.string dg,.int .i64 dx,.string x,lv,fv].toArray 28)) u.heap.size [.int .i64 1,.bool t,.bool dn,.string dg,.int .i64 dx,.string x,lv,fv]):=heap_alloc_new u _;have HY:=hide hy;clear hy;clear h
 go_enter Tryz.func90,Tryz.ntmps90
 go_upto_region 1 with fail;obtain ⟨p1,p2,p3,p4,p5⟩:=uh BP;have bx:=uh BXX;generalize u.alloc (.cells [.int .i64 1,.bool t,.bool dn,.string dg,.int .i64 dx,.string x,lv,fv].toArray 28)=W at *;have P2:=hide p2;have P3:=hide p3;obtain ⟨y0,y1,y2,y3,y4,y5,y6,y7⟩:=bx.cells;have WT:=hide (fun u=>truthWord_any t u);have e:(if t then trueB else falseB)=(if t then (⟨#[116,114,117,101]⟩:ByteArray) else ⟨#[102,97,108,115,101]⟩).data.toList:=by cases t <;> rfl
 have hsz:(if t then (⟨#[116,114,117,101]⟩:ByteArray) else ⟨#[102,97,108,115,101]⟩).size≤5:=by cases t <;> decide
 have HE:=hide ((uh HY).trans e);clear e HY;generalize (if t then (⟨#[116,114,117,101]⟩:ByteArray) else ⟨#[102,97,108,115,101]⟩)=tw at *;have WS:=hide (writeString_any B b bs tw W p1 (by omega) p4);clear p1 p2 p3
 go_wp2_with (first
  | (go_at_call 92;refine (uh WT _).mono ?_;rintro e u1 ⟨rfl,hu⟩;obtain rfl:=hu.symm)
  | (go_at_call 91;refine (uh WS).mono ?_;rintro e u1 ⟨rfl,hb1,hc1,hk1⟩))
 rw [uh HE]
 go_end0
 exact ⟨rfl,hb1,(uh P2).trans hc1,(uh P3).trans hk1⟩
set_option maxHeartbeats 4000000 in
set_option maxRecDepth 1000000 in
theorem tell_number (B b nb fb:Nat) (t:Bool) (dn:Bool) (dg:ByteArray) (dx:Int) (x:ByteArray) (lv fv:Value) (bs:List UInt8) (u:World) (h:Bld B b bs u) (hB:B≤u.heap.size) (hbs:b < u.heap.size) (hl:bs.length+(textOf (norm ⟨dn,dg,dx⟩)).size≤140737488355328) (hd:dg.size≤1099511627776) (h0:-9223372036854775808≤dx) (h1:dx≤9223372036854775807) (hP:Pow u) :
 Calls Tryz.prog 90 #[.agg #[.int .i64 2,.bool t,.bool dn,.string dg,.int .i64 dx,.string x,lv,fv],.pointer (some ⟨b,0,none⟩),.pointer (some ⟨nb,0,none⟩),.pointer (some ⟨fb,0,none⟩)] u (PO B b (bs++(textOf (norm ⟨dn,dg,dx⟩)).data.toList) u):=by
 have BP:=hide (box_po h hB hbs (.cells [.int .i64 2,.bool t,.bool dn,.string dg,.int .i64 dx,.string x,lv,fv].toArray 28));have BXX:Hid (BX (u.alloc (.cells [.int .i64 2,.bool t,.bool dn,.string dg,.int .i64 dx,.string x,lv,fv].toArray 28)) u.heap.size [.int .i64 2,.bool t,.bool dn,.string dg,.int .i64 dx,.string x,lv,fv]):=heap_alloc_new u _;have HP:=hide hP;clear hP;have HQ:Hid (Below u.heap.size u (u.alloc (.cells [.int .i64 2,.bool t,.bool dn,.string dg,.int .i64 dx,.string x,lv,fv].toArray 28))):=(Below.refl _ u).alloc (Nat.le_refl _) _;clear h
 go_enter Tryz.func90,Tryz.ntmps90
 go_upto_region 1 with fail;obtain ⟨p1,p2,p3,p4,p5⟩:=uh BP;have bx:=uh BXX;generalize u.alloc (.cells [.int .i64 2,.bool t,.bool dn,.string dg,.int .i64 dx,.string x,lv,fv].toArray 28)=W at *;have P2:=hide p2;have P3:=hide p3;obtain ⟨y0,y1,y2,y3,y4,y5,y6,y7⟩:=bx.cells;have WT:=hide (text_any ⟨dn,dg,dx⟩ W hd h0 h1 ((uh HP).keep (uh HQ)));simp only [dv] at WT;have WSS:=hide (fun (u1:World) (hb:Below W.heap.size W u1)=>writeString_any B b bs (textOf (norm ⟨dn,dg,dx⟩)) u1 (bld_keep p1 hb) hl (Nat.le_trans p4 hb.size));generalize textOf (norm ⟨dn,dg,dx⟩)=tw at *;clear p1 p2 p3
 go_wp2_with (first
  | (go_at_call 93;refine (uh WT).mono ?_;rintro e v1 ⟨rfl,hbv⟩
     have WS:=hide (uh WSS v1 hbv))
  | (go_at_call 91;refine (uh WS).mono ?_;rintro e u1 ⟨rfl,hb1,hc1,hk1⟩))
 go_end0
 exact ⟨rfl,hb1,((uh P2).trans (hbv.mono p4)).trans hc1,((uh P3).trans (kept_below hbv)).trans hk1⟩
set_option maxHeartbeats 4000000 in
set_option maxRecDepth 1000000 in
theorem tell_text (B b nb fb:Nat) (t:Bool) (dn:Bool) (dg:ByteArray) (dx:Int) (x:ByteArray) (lv fv:Value) (bs:List UInt8) (u:World) (h:Bld B b bs u) (hB:B≤u.heap.size) (hbs:b < u.heap.size) (hl:bs.length+6*x.size+10≤140737488355328) :
 Calls Tryz.prog 90 #[.agg #[.int .i64 3,.bool t,.bool dn,.string dg,.int .i64 dx,.string x,lv,fv],.pointer (some ⟨b,0,none⟩),.pointer (some ⟨nb,0,none⟩),.pointer (some ⟨fb,0,none⟩)] u (PO B b (bs++txtJ x) u):=by
 have BP:=hide (box_po h hB hbs (.cells [.int .i64 3,.bool t,.bool dn,.string dg,.int .i64 dx,.string x,lv,fv].toArray 28));have BXX:Hid (BX (u.alloc (.cells [.int .i64 3,.bool t,.bool dn,.string dg,.int .i64 dx,.string x,lv,fv].toArray 28)) u.heap.size [.int .i64 3,.bool t,.bool dn,.string dg,.int .i64 dx,.string x,lv,fv]):=heap_alloc_new u _;clear h
 go_enter Tryz.func90,Tryz.ntmps90
 go_upto_region 1 with fail;obtain ⟨p1,p2,p3,p4,p5⟩:=uh BP;have bx:=uh BXX;generalize u.alloc (.cells [.int .i64 3,.bool t,.bool dn,.string dg,.int .i64 dx,.string x,lv,fv].toArray 28)=W at *;have P2:=hide p2;have P3:=hide p3;obtain ⟨y0,y1,y2,y3,y4,y5,y6,y7⟩:=bx.cells;have WS:=hide (writeText_any B b bs x W p1 (by omega) p4 p5 (fun pos _=>letter_any _ (by have:=decode_le x pos;omega)));generalize txtJ x=tw at *;clear p1 p2 p3
 go_wp2_with (go_at_call 88;refine (uh WS).mono ?_;rintro e u1 ⟨rfl,hb1,hc1,hk1⟩)
 go_end0
 exact ⟨rfl,hb1,(uh P2).trans hc1,(uh P3).trans hk1⟩
set_option maxHeartbeats 4000000 in
set_option maxRecDepth 1000000 in
theorem tell_list (w0:World) (B b nb fb:Nat) (t:Bool) (dn:Bool) (dg:ByteArray) (dx:Int) (x:ByteArray) (oa:Option Addr) (m c:Nat) (fv:Value) (y:List UInt8) (bs:List UInt8) (u:World) (h:Bld B b bs u) (hB:B≤u.heap.size) (hbs:b < u.heap.size) (hE:PE w0 b nb fb u)
 (WR:∀ W,Bld B b bs W→B≤W.heap.size→b < W.heap.size→Below B u W→Lib.OthersKept 5 (some b) u W→Calls Tryz.prog 94 #[.pointer (some ⟨b,0,none⟩),.int .u8 91,.slice oa m c,tellV b nb fb,.int .u8 93] W (PO B b (bs++y) W)) :
 Calls Tryz.prog 90 #[.agg #[.int .i64 4,.bool t,.bool dn,.string dg,.int .i64 dx,.string x,.slice oa m c,fv],.pointer (some ⟨b,0,none⟩),.pointer (some ⟨nb,0,none⟩),.pointer (some ⟨fb,0,none⟩)] u (PO B b (bs++y) u):=by
 have BP:=hide (box_po h hB hbs (.cells [.int .i64 4,.bool t,.bool dn,.string dg,.int .i64 dx,.string x,.slice oa m c,fv].toArray 28));have BXX:Hid (BX (u.alloc (.cells [.int .i64 4,.bool t,.bool dn,.string dg,.int .i64 dx,.string x,.slice oa m c,fv].toArray 28)) u.heap.size [.int .i64 4,.bool t,.bool dn,.string dg,.int .i64 dx,.string x,.slice oa m c,fv]):=heap_alloc_new u _;have HE:=hide hE;have HW:=hide WR;clear hE WR;clear h
 go_enter Tryz.func90,Tryz.ntmps90
 go_upto_region 1 with fail;obtain ⟨p1,p2,p3,p4,p5⟩:=uh BP;have bx:=uh BXX;generalize u.alloc (.cells [.int .i64 4,.bool t,.bool dn,.string dg,.int .i64 dx,.string x,.slice oa m c,fv].toArray 28)=W at *;have P2:=hide p2;have P3:=hide p3;obtain ⟨y0,y1,y2,y3,y4,y5,y6,y7⟩:=bx.cells;have WS:=hide (uh HW W p1 p4 p5 p2 p3)
 have hcn:W.cell? ⟨nb,0,none⟩=some (tellV b nb fb):=by
  obtain ⟨ty,hy,hc⟩:=(uh HE).n1;exact blk_cell (cell_kept p3 hc hy (uh HE).nb_) 0
 unfold tellV at hcn WS;clear p1 p2 p3
 go_wp2_with (go_at_call 94;refine (uh WS).mono ?_;rintro e u1 ⟨rfl,hb1,hc1,hk1⟩)
 go_end0
 exact ⟨rfl,hb1,(uh P2).trans hc1,(uh P3).trans hk1⟩
set_option maxHeartbeats 4000000 in
set_option maxRecDepth 1000000 in
theorem tell_obj (w0:World) (B b nb fb:Nat) (t:Bool) (dn:Bool) (dg:ByteArray) (dx:Int) (x:ByteArray) (lv:Value) (oa:Option Addr) (m c:Nat) (y:List UInt8) (bs:List UInt8) (u:World) (h:Bld B b bs u) (hB:B≤u.heap.size) (hbs:b < u.heap.size) (hE:PE w0 b nb fb u)
 (WR:∀ W,Bld B b bs W→B≤W.heap.size→b < W.heap.size→Below B u W→Lib.OthersKept 5 (some b) u W→Calls Tryz.prog 95 #[.pointer (some ⟨b,0,none⟩),.int .u8 123,.slice oa m c,tellFV b nb,.int .u8 125] W (PO B b (bs++y) W)) :
 Calls Tryz.prog 90 #[.agg #[.int .i64 5,.bool t,.bool dn,.string dg,.int .i64 dx,.string x,lv,.slice oa m c],.pointer (some ⟨b,0,none⟩),.pointer (some ⟨nb,0,none⟩),.pointer (some ⟨fb,0,none⟩)] u (PO B b (bs++y) u):=by
 have BP:=hide (box_po h hB hbs (.cells [.int .i64 5,.bool t,.bool dn,.string dg,.int .i64 dx,.string x,lv,.slice oa m c].toArray 28));have BXX:Hid (BX (u.alloc (.cells [.int .i64 5,.bool t,.bool dn,.string dg,.int .i64 dx,.string x,lv,.slice oa m c].toArray 28)) u.heap.size [.int .i64 5,.bool t,.bool dn,.string dg,.int .i64 dx,.string x,lv,.slice oa m c]):=heap_alloc_new u _;have HE:=hide hE;have HW:=hide WR;clear hE WR;clear h
 go_enter Tryz.func90,Tryz.ntmps90
 go_upto_region 1 with fail;obtain ⟨p1,p2,p3,p4,p5⟩:=uh BP;have bx:=uh BXX;generalize u.alloc (.cells [.int .i64 5,.bool t,.bool dn,.string dg,.int .i64 dx,.string x,lv,.slice oa m c].toArray 28)=W at *;have P2:=hide p2;have P3:=hide p3;obtain ⟨y0,y1,y2,y3,y4,y5,y6,y7⟩:=bx.cells;have WS:=hide (uh HW W p1 p4 p5 p2 p3)
 have hcn:W.cell? ⟨fb,0,none⟩=some (tellFV b nb):=by
  obtain ⟨ty,hy,hc⟩:=(uh HE).f1;exact blk_cell (cell_kept p3 hc hy (uh HE).fb_) 0
 unfold tellFV at hcn WS;clear p1 p2 p3
 go_wp2_with (go_at_call 95;refine (uh WS).mono ?_;rintro e u1 ⟨rfl,hb1,hc1,hk1⟩)
 go_end0
 exact ⟨rfl,hb1,(uh P2).trans hc1,(uh P3).trans hk1⟩
set_option maxHeartbeats 4000000 in
set_option maxRecDepth 1000000 in
theorem tellF_any (w0:World) (B b nb fb:Nat) (hw0:w0.heap.size≤B) (nm:ByteArray) (v:JT) (T:TC w0 B b nb fb v) (bs:List UInt8) (cs:List Value) (p:List Nat) (Bz:Nat) (u:World) (h:Bld B b bs u) (hl:bs.length+cst v+6*nm.size+20≤140737488355328) (hB:B≤u.heap.size) (hbs:b < u.heap.size)
 (hE:PE w0 b nb fb u) (hv:VRep u Bz v cs p) (hbp:b ∉ p):Calls Tryz.prog 87 #[.agg (.string nm::cs).toArray,.pointer (some ⟨b,0,none⟩),.pointer (some ⟨nb,0,none⟩)] u (PO B b (bs++(txtJ nm++[58]++prt v)) u):=by
 obtain ⟨kk,tt,ng,dg,ex,xx,q1,n1,m1,q2,n2,m2,rfl⟩:=hv.form;have BP:=hide (box_po h hB hbs (.cells [.string nm,.int .i64 kk,.bool tt,.bool ng,.string dg,.int .i64 ex,.string xx,.slice q1 n1 m1,.slice q2 n2 m2].toArray 70));have BXX:Hid (BF (u.alloc (.cells [.string nm,.int .i64 kk,.bool tt,.bool ng,.string dg,.int .i64 ex,.string xx,.slice q1 n1 m1,.slice q2 n2 m2].toArray 70)) u.heap.size [.string nm,.int .i64 kk,.bool tt,.bool ng,.string dg,.int .i64 ex,.string xx,.slice q1 n1 m1,.slice q2 n2 m2]):=heap_alloc_new u _;have HE:=hide hE;have HV:=hide hv;have HT:=hide T;have HBP:=hide hbp;have eg:=enter_tell;have hne:u.heap.size≠b:=by omega
 have hx2:=txtJ_le nm;clear h hE hv T hbp
 go_enter Tryz.func87,Tryz.ntmps87
 go_upto_region 1 with fail;obtain ⟨p1,p2,p3,p4,p5⟩:=uh BP;have bx:=uh BXX;generalize u.alloc (.cells [.string nm,.int .i64 kk,.bool tt,.bool ng,.string dg,.int .i64 ex,.string xx,.slice q1 n1 m1,.slice q2 n2 m2].toArray 70)=W at *;have P2:=hide p2;have P3:=hide p3;have HBX:=hide bx;obtain ⟨y0,y1,y2,y3,y4,y5,y6,y7,y8⟩:=bx.cells;have WT:=hide (writeText_any B b bs nm W p1 (by omega) p4 p5 (fun pos _=>letter_any _ (by have:=decode_le nm pos;omega)));have WBB:=hide (fun (u1:World) h1 h2=>writeByte_any B b (bs++txtJ nm) 58 u1 h1 (by rw [List.length_append];omega) h2);have WTT:=hide (fun (u2:World) h1 h2 h3 (hb:Below B W u2) (hk:Lib.OthersKept 5 (some b) W u2)=>uh HT (bs++txtJ nm++[58]) _ p Bz u2 h1 (by simp only [List.length_append,List.length_cons,List.length_nil];omega) h2 h3 ((uh HE).keep hw0 (p2.trans hb) (p3.trans hk)) ((uh HV).kept (p3.trans hk) (uh HBP)) (uh HBP));clear p1 p2 p3 bx HT
 go_wp2_with (go_at_call 88;refine (uh WT).mono ?_;rintro e u1 ⟨rfl,hb1,hc1,hk1⟩
              have WB:=hide (uh WBB u1 hb1 (Nat.le_trans p4 hc1.size))
              clear WT WBB y0 y1 y2 y3 y4 y5 y6 y7 y8)
 refine (uh WB).mono ?_;rintro e u2 ⟨rfl,hb2,hc2,hk2⟩;have WV:=hide (uh WTT u2 hb2 (Nat.le_trans p4 (hc1.trans hc2).size) (Nat.lt_of_lt_of_le p5 (hc1.trans hc2).size) (hc1.trans hc2) (hk1.trans hk2));obtain ⟨y0,y1,y2,y3,y4,y5,y6,y7,y8⟩:=BF.cells (cell_kept (hk1.trans hk2) (uh HBX) (by decide) hne)
 have hcn:u2.cell? ⟨nb,0,none⟩=some (tellV b nb fb):=by
  obtain ⟨ty,hy,hc⟩:=(uh HE).n1;exact blk_cell (cell_kept ((uh P3).trans (hk1.trans hk2)) hc hy (uh HE).nb_) 0
 unfold tellV at hcn;clear WB WTT
 go_wp2_with (go_at_call 90;refine (uh WV).mono ?_;rintro e u3 ⟨rfl,hb3,hc3,hk3⟩)
 go_end0
 refine ⟨rfl,?_,(uh P2).trans ((hc1.trans hc2).trans hc3),(uh P3).trans ((hk1.trans hk2).trans hk3)⟩;have:bs++(txtJ nm++[58]++prt v)=bs++txtJ nm++[58]++prt v:=by simp
 rw [this];exact hb3
theorem map_at {α β:Type}{g:α→β}{l:List α}{j:Nat}{y:β} (h:(l.map g)[j]?=some y):∃ v,l[j]?=some v∧y=g v:=by
 rw [List.getElem?_map] at h
 cases hv:l[j]? with
 | none=>rw [hv] at h;simp at h
 | some v=>rw [hv] at h;simp only [Option.map_some,Option.some.injEq] at h;exact ⟨v,rfl,h.symm⟩
theorem tell_any (w0:World) (B b nb fb:Nat) (hP:Pow w0) (hw0:w0.heap.size≤B) (n:Nat):∀ v,SizeOf.sizeOf v < n→Bd v→TC w0 B b nb fb v:=by
 induction n with
 | zero=>intro v h;omega
 | succ n IH =>
   intro v hn hbd bs cs p Bz u h hl hB hbs hE hv hbp
   cases hv with
   | @mk k t d x l f lv fv css gss ps qs hlr hfr h1 h2 h3 h4 hle hfe =>
     obtain ⟨dn,dg,dx⟩:=d
     cases hbd with
     | mk hk d0 d1 d2 d3 d4 dl dnm df =>
       rw [cst_mk] at hl;rw [prt_mk];simp only [List.mem_append,not_or] at hbp
       by_cases e1:k=1
       · subst e1
         rw [if_pos rfl];exact tell_truth B b nb fb t dn dg dx x lv fv _ bs u h hB hbs (by omega) rfl
       rw [if_neg e1]
       by_cases e2:k=2
       · subst e2
         rw [if_pos rfl];exact tell_number B b nb fb t dn dg dx x lv fv bs u h hB hbs (by omega) d0 d1.1 d1.2 (hP.keep hE.low)
       rw [if_neg e2]
       by_cases e3:k=3
       · subst e3
         rw [if_pos rfl];exact tell_text B b nb fb t dn dg dx x lv fv bs u h hB hbs (by omega)
       rw [if_neg e3]
       by_cases e4:k=4
       · subst e4
         rw [if_pos rfl];obtain ⟨oa,c,rfl,_⟩:=mm.SV.form (mm.own_sv hlr);refine tell_list w0 B b nb fb t dn dg dx x oa l.length c fv _ bs u h hB hbs hE ?_;intro W g1 g2 g3 g4 g5;have hne:(Value.slice oa l.length c).ownBlock≠some b:=fun q=>hbp.1.1.1 (by simp only [own,q];simp)
         have hrow:=row_kept hlr g5 (by decide) hne;rw [← h1] at hrow hne ⊢;refine writeRowV B b nb fb bs 91 93 css (l.map prt) (l.map cst) oa c Bz W g1 g2 g3 (by rw [List.length_map,h1]) (by rw [List.length_map,h1]) (by omega) hrow hne ?_ ?_ ?_ (by omega)
         · intro cc hcc
           obtain ⟨j,hj⟩:=List.getElem?_of_mem hcc;obtain ⟨hlt,_⟩:=List.getElem?_eq_some_iff.1 hj;exact (hle j _ cc _ (List.getElem?_eq_getElem (by omega)) hj (List.getElem?_eq_getElem (by omega))).form
         · intro j cs x q c1 c2 c3 l' u' b1 b2 b3 b4 b5 b6
           obtain ⟨v,hv1,rfl⟩:=map_at c2;obtain ⟨v',hv2,rfl⟩:=map_at c3;obtain rfl:v=v':=Option.some.inj (hv1.symm.trans hv2);obtain ⟨hlt,_⟩:=List.getElem?_eq_some_iff.1 hv1;have hpj:ps[j]?=some ps[j]:=List.getElem?_eq_getElem (by omega);have hbj:b ∉ ps[j]:=fun q=>hbp.1.2 (mem_flat hpj q)
           exact IH v (by have:=sz_l (k:=4) (t:=t) (d:=⟨dn,dg,dx⟩) (x:=x) (f:=f) (List.mem_of_getElem? hv1);omega) (dl v (List.mem_of_getElem? hv1)) l' cs ps[j] Bz u' b1 b2 b3 b4
            (hE.keep hw0 (g4.trans b5) (g5.trans b6)) ((hle j v cs ps[j] hv1 c1 hpj).kept (g5.trans b6) hbj) hbj
         · intro j x q c2 c3
           obtain ⟨v,hv1,rfl⟩:=map_at c2;obtain ⟨v',hv2,rfl⟩:=map_at c3;obtain rfl:v=v':=Option.some.inj (hv1.symm.trans hv2);exact prt_le _ v (Nat.lt_succ_self _)
       rw [if_neg e4]
       by_cases e5:k=5
       · subst e5
         rw [if_pos rfl];obtain ⟨oa,c,rfl,_⟩:=mm.SV.form (mm.own_sv hfr);refine tell_obj w0 B b nb fb t dn dg dx x lv oa f.length c _ bs u h hB hbs hE ?_;intro W g1 g2 g3 g4 g5;have hne:(Value.slice oa f.length c).ownBlock≠some b:=fun q=>hbp.1.1.2 (by simp only [own,q];simp)
         have hrow:=row_kept hfr g5 (by decide) hne;have hzl:(List.zipWith (fun (p:ByteArray × JT) c=>Value.string p.1::c) f gss).length=f.length:=by rw [List.length_zipWith,h3];omega
         unfold fcs at hrow;rw [← hzl] at hrow hne ⊢
         have zat:∀ (j:Nat) (cs:List Value),(List.zipWith (fun (p:ByteArray × JT) c=>Value.string p.1::c) f gss)[j]?=some cs→∃ q c,f[j]?=some q∧gss[j]?=some c∧cs=.string q.1::c:=by
          intro j cs hj;rw [List.getElem?_zipWith] at hj
          cases ha:f[j]? with
          | none=>rw [ha] at hj;simp at hj
          | some q =>
            cases hb:gss[j]? with
            | none=>rw [ha,hb] at hj;simp at hj
            | some cc =>
              rw [ha,hb] at hj;simp only [Option.some.injEq] at hj;exact ⟨q,cc,rfl,rfl,hj.symm⟩
         refine writeRowF B b nb bs 123 125 (List.zipWith (fun (p:ByteArray × JT) c=>Value.string p.1::c) f gss) (f.map fun p=>txtJ p.1++[58]++prt p.2) (f.map fun p=>cst p.2+6*p.1.size+30) oa c Bz W g1 g2 g3 (by rw [List.length_map,hzl]) (by rw [List.length_map,hzl]) (by omega) hrow hne ?_ ?_ ?_ (by omega)
         · intro cc hcc
           obtain ⟨j,hj⟩:=List.getElem?_of_mem hcc;obtain ⟨q,c,z1,z2,rfl⟩:=zat j cc hj;obtain ⟨hlt,_⟩:=List.getElem?_eq_some_iff.1 z1;obtain ⟨kk,tt,ng,dg,ex,xx,q1,n1,m1,q2,n2,m2,rfl⟩:=(hfe j q.1 q.2 c _ z1 z2 (List.getElem?_eq_getElem (by omega))).form;exact ⟨_,_,_,_,_,_,_,_,_,_,_,_,_,rfl⟩
         · intro j cs x q c1 c2 c3 l' u' b1 b2 b3 b4 b5 b6
           obtain ⟨q',c',z1,z2,rfl⟩:=zat j cs c1;obtain ⟨v,hv1,rfl⟩:=map_at c2;obtain ⟨v',hv2,rfl⟩:=map_at c3;obtain rfl:v=v':=Option.some.inj (hv1.symm.trans hv2);obtain rfl:v=q':=Option.some.inj (hv1.symm.trans z1);obtain ⟨hlt,_⟩:=List.getElem?_eq_some_iff.1 hv1;have hpj:qs[j]?=some qs[j]:=List.getElem?_eq_getElem (by omega);have hbj:b ∉ qs[j]:=fun q=>hbp.2 (mem_flat hpj q)
           have hT:=IH v.2 (by have:=sz_f (k:=5) (t:=t) (d:=⟨dn,dg,dx⟩) (x:=x) (l:=l) (List.mem_of_getElem? hv1);omega) (df v (List.mem_of_getElem? hv1));exact tellF_any w0 B b nb fb hw0 v.1 v.2 hT l' c' qs[j] Bz u' b1 (by omega) b3 b4 (hE.keep hw0 (g4.trans b5) (g5.trans b6)) ((hfe j v.1 v.2 c' qs[j] hv1 z2 hpj).kept (g5.trans b6) hbj) hbj
         · intro j x q c2 c3
           obtain ⟨v,hv1,rfl⟩:=map_at c2;obtain ⟨v',hv2,rfl⟩:=map_at c3;obtain rfl:v=v':=Option.some.inj (hv1.symm.trans hv2);have h1:=prt_le _ v.2 (Nat.lt_succ_self _);have h2:=txtJ_le v.1;simp only [List.length_append,List.length_cons,List.length_nil];omega
       rw [if_neg e5];exact tell_null B b nb fb k t dn dg dx x lv fv bs u h hB hbs (by omega) (by simp [e1]) (by simp [e2]) (by simp [e3]) (by simp [e4]) (by simp [e5])
end Go.Proofs.YthnhobplgmojeaaGreatDoor.rd
