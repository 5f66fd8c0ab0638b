/- Texts in one: Sf Cpa Mka -/
import Derived.Test.YthakglomacijgaaGreatDoorScPR
import Derived.Test.YthakglomacijgaaGreatDoorIiPR
namespace Go.Proofs.YthakglomacijgaaGreatDoor.rd.ss
open Go.RowKit Go.Shelf Go.Lib Go.Sort
structure GF (u w4:World) (B n:Nat) (sv:Value) (xs cs:List Value) (g cap:Nat):Prop where
 row:w4.ownsRow B 62 9 (.slice (some ⟨g,0,none⟩) (n+1) cap) (n+1) (xs++cs)
 grow:(u.alloc (.cells cs.toArray 62)).grownBy w4 sv.ownBlock
 lies:sv.ownBlock=some g∨u.heap.size≤g
theorem GF.below {u w4:World}{B n:Nat}{sv:Value}{xs cs:List Value}{g cap:Nat} (h:GF u w4 B n sv xs cs g cap) (ho:u.ownsRow B 62 9 sv n xs) {m:Nat}{wr:World} (hb:Below m wr u) (hm:m≤B) (hs:m≤u.heap.size):Below m wr w4 :=
 (hb.alloc hs _).grown h.grow (by rw [World.size_alloc];omega) (fun k hk=>by have:=(mm.row_lt ho k hk).1;omega)
theorem step_addf {ops:Array Oper}{op:Oper}{a:Act}{K:Act→World→Prop}{Q:Exit→Act→World→Prop}{E0:Prop} (u W:World) (B n:Nat) (sv:Value) (xs cs:List Value) (S X:Operand) (hgd:op.guard=none)
 (ho:op.op=.call { callee:=.builtin .append,args:=#[S,X],argTypes:=#[25,25] }) (hs:a.eval S=sv) (hx:a.eval X=.slice (some ⟨u.heap.size,0,none⟩) 1 1)
 (hown:Hid (u.ownsRow B 62 9 sv n xs)) (h8:Hid (cs.length=9)) (h1:Hid (∀ v∈cs,v.oneCell'=true)) (hn:Hid (n+1≤1000000000000)) (hB:Hid (B≤u.heap.size)) (hW:W=u.alloc (.cells cs.toArray 62))
 (h:∀ g cap w4,Hid (GF u w4 B n sv xs cs g cap)→K (a.put op.dst (.slice (some ⟨g,0,none⟩) (n+1) cap)) w4) :
 if Region.wanted op (yielded ops a.tmps)=true then Oper.wp Tryz.prog op a W K Q else E0:=by
 subst hW;obtain ⟨i0,hi,hz0,hz1,hz2⟩:=info_parts infoFd;have hN:=uh hn;have hb:=uh hB
 refine step_append_lies _ hgd _ _ _ ho B 62 i0 _ 9 128 undFd hi hz0 hz1 hz2 rfl (by omega) sv n xs hs (mm.row_below (uh hown) ((Below.refl _ _).alloc (Nat.le_refl _) _) (Nat.le_refl _))
  ⟨u.heap.size,0,none⟩ 1 1 cs hx (by rw [uh h8]) (fun j v hv=>?_) (uh h1) (by omega) (by unfold maxLen;omega) (by omega) (by rw [World.size_alloc];omega) (u.heap.size+1) (World.size_alloc _ _) ?_
 · rw [mm.add0,blk_cell (heap_alloc_new u _)]
   simpa using hv
 · intro g cap w4 h5 h6 h7 _
   exact h g cap w4 ⟨h5,h6,h7.imp id (fun e=>by omega)⟩
def sd (f:Fd):Fd:={ f with nm:=said f.nm }
theorem stb_id {D:List Fd} (hp:D.Pairwise (fun a b=>cmpF a b < 0)):stb D D.length=List.range D.length:=by
 unfold stb;apply List.mergeSort_of_pairwise;rw [List.pairwise_iff_getElem] at hp ⊢;intro i j hi hj hij;simp only [List.length_range] at hi hj;have h1:=hp i j hi hj hij;simp only [List.getElem_range];rw [(lx_not D j i).2]
 · rfl
 · have e:cfI D i j < 0:=by unfold cfI fdI;simpa [hi,hj] using h1
   have:=cf_sym D i j;exact ⟨by omega,fun _=>by omega⟩
theorem one_box (w:World) (cs:List Value):∀ W,W=w.alloc (.cells cs.toArray 27)→BX W w.heap.size cs∧Below w.heap.size w W∧W.heap.size=w.heap.size+1:=by
 rintro W rfl;exact ⟨heap_alloc_new w _,(Below.refl _ w).alloc (Nat.le_refl _) _,World.size_alloc _ _⟩
theorem below_grown (w:World) (q:Nat) (os:Array Obj):Below w.heap.size w (grow (w.drewN q) os):=by
 refine ⟨rfl,rfl,rfl,?_,fun b hb=>?_⟩
 · show w.heap.size≤(w.heap++os).size
   simp
 · show (w.heap++os)[b]?=_
   rw [Array.getElem?_append_left hb]
theorem stable_row {w:World}{B:Nat}{sv:Value}{D:List Fd} (hl:D.length < 20) (hp:D.Pairwise (fun a b=>cmpF a b < 0)) (ho:w.ownsRow B 62 9 sv D.length (D.flatMap encF)) :
 Calls Tryz.prog 77 #[sv,byNameV] w fun e w'=>e=.returned (.tuple #[])∧w'.ownsRow B 62 9 sv D.length (D.flatMap encF)∧Below B w w':=by
 rcases ho.2 with ⟨rfl,h0⟩|⟨g,cap,cur,rfl,hB,_⟩
 · refine (stable_none none 0 w).mono ?_
   rintro e w' ⟨rfl,rfl⟩;exact ⟨rfl,ho,Below.refl _ _⟩
 · have h:=stable_any hl ho
   rw [stb_id hp,range_fd] at h;refine h.mono ?_;rintro e w' ⟨rfl,h1,hM⟩;refine ⟨rfl,h1,hM.os,hM.tape,hM.output,hM.size,fun b hb=>hM.block b ?_ (by omega)⟩;have:=(mm.row_lt ho g rfl).2;omega
theorem fresh_of {D:List Fd} (hp:D.Pairwise (fun a b=>cmpF a b < 0)) (i:Nat) (x y:Fd) (hx:D[i]?=some x) (hy:D[i+1]?=some y):y.nm≠x.nm:=by
 rw [List.pairwise_iff_getElem] at hp;obtain ⟨h1,rfl⟩:=List.getElem?_eq_some_iff.1 hx;obtain ⟨h2,rfl⟩:=List.getElem?_eq_some_iff.1 hy;have:=hp i (i+1) h1 h2 (by omega);intro e;unfold cmpF at this;rw [e,cb.self] at this;omega
set_option maxRecDepth 100000 in
set_option maxHeartbeats 6400000 in
theorem fieldsOf_any {D:List Fd} (z0 z1 z2 z3 z4 z5 z6 fv:Value) (w:World) (hsv:mm.SV w fv D.length 9 (D.flatMap encF)) (hl:D.length < 20) (hz:∀ x∈D,x.nm.size≤35184372088832) (hp:(D.map sd).Pairwise (fun a b=>cmpF a b < 0)) :
 Calls Tryz.prog 49 #[.agg #[z0,z1,z2,z3,z4,z5,z6,fv]] w fun e w'=>∃ sv,e=.returned sv∧w'.ownsRow (w.heap.size+1) 62 9 sv D.length ((D.map sd).flatMap encF)∧Below w.heap.size w w':=by
 obtain ⟨oa,c,rfl,hn1,hn2⟩:=hsv.form;have B1:=hide (one_box w [z0,z1,z2,z3,z4,z5,z6,.slice oa D.length c]);have HS:=hide hsv;have HZ:=hide hz;have HP:=hide hp;clear hsv hz hp hn1 hn2
 go_enter Tryz.func49,Tryz.ntmps49
 go_wp2;obtain ⟨q0,q1,q2⟩:=uh B1 _ rfl;generalize w.alloc (.cells [z0,z1,z2,z3,z4,z5,z6,.slice oa D.length c].toArray 27)=W at *;have hWs:W.heap.size=w.heap.size+1:=q2;have HW0:=hide q1;clear q0 q1 q2 B1
 go_loopw [3,9] (fun sv iv wr=>∃ (i:Nat),iv=.int .i64 (i:Int)∧i≤D.length∧Hid (wr.ownsRow (w.heap.size+1) 62 9 sv i (((D.take i).map sd).flatMap encF))∧Hid (Below (w.heap.size+1) W wr)) (fun _ iv _=>D.length - (intOf iv).toNat)
 case atStart=>exact ⟨0,rfl,by omega,World.ownsRow_nil _ _ _ _,Below.refl _ _⟩
 case round =>
  obtain ⟨i,rfl,hi,HO,HB⟩:=hrel
  by_cases hc:i < D.length
  · obtain ⟨x,hx⟩:∃ x,D[i]?=some x:=⟨_,List.getElem?_eq_getElem hc⟩
    have hbw:Below w.heap.size w wr:=(uh HW0).trans ((uh HB).mono (by omega));have hi1:(i:Int) < (D.length:Int):=by omega
    obtain ⟨a,c',e,_,_,hat⟩:=(uh HS).some (by omega);simp only [Value.slice.injEq] at e;obtain ⟨rfl,_,rfl⟩:=e;have hat2:∀ (j:Nat) (u:Value),(D.flatMap encF)[j]?=some u→wr.cell? (a.add j)=some u:=fun j u hu=>kc hbw (hat j u hu)
    have C9:=fd9 hat2 hx 0 #[];rw [grow_empty] at C9;generalize ha:a.add (i*9)=ad at C9;obtain ⟨y0,y1,y2,y3,y4,y5,y6,y7,y8⟩:wr.cell? ad=some (.string x.nm)∧wr.cell? ⟨ad.block,ad.off+1,none⟩=some (.int .i64 x.k)∧wr.cell? ⟨ad.block,ad.off+2,none⟩=some (.bool x.t)∧wr.cell? ⟨ad.block,ad.off+3,none⟩=some (.bool x.ng)∧wr.cell? ⟨ad.block,ad.off+4,none⟩=some (.string x.dg)∧wr.cell? ⟨ad.block,ad.off+5,none⟩=some (.int .i64 x.ex)∧wr.cell? ⟨ad.block,ad.off+6,none⟩=some (.string x.x)∧wr.cell? ⟨ad.block,ad.off+7,none⟩=some (.slice x.q1 x.n1 x.m1)∧wr.cell? ⟨ad.block,ad.off+8,none⟩=some (.slice x.q2 x.n2 x.m2):=C9;have HX:=hide hx;clear hat hat2 hx;go_upto_region 5 with fail;have CS:=hide (fun W'=>said_any x.nm W' (uh HZ x (List.mem_of_getElem? (uh HX))));have hbf:BF (wr.alloc (.cells #[.string x.nm,.int .i64 x.k,.bool x.t,.bool x.ng,.string x.dg,.int .i64 x.ex,.string x.x,.slice x.q1 x.n1 x.m1,.slice x.q2 x.n2 x.m2] 62)) wr.heap.size [.string x.nm,.int .i64 x.k,.bool x.t,.bool x.ng,.string x.dg,.int .i64 x.ex,.string x.x,.slice x.q1 x.n1 x.m1,.slice x.q2 x.n2 x.m2]:=heap_alloc_new wr _;have hba:Below wr.heap.size wr (wr.alloc (.cells #[.string x.nm,.int .i64 x.k,.bool x.t,.bool x.ng,.string x.dg,.int .i64 x.ex,.string x.x,.slice x.q1 x.n1 x.m1,.slice x.q2 x.n2 x.m2] 62)):=(Below.refl _ wr).alloc (Nat.le_refl _) _;generalize wr.alloc (.cells #[.string x.nm,.int .i64 x.k,.bool x.t,.bool x.ng,.string x.dg,.int .i64 x.ex,.string x.x,.slice x.q1 x.n1 x.m1,.slice x.q2 x.n2 x.m2] 62)=wa at *;have hma:=blk_lt hbf;have hwm:w.heap.size+1≤wr.heap.size:=by rw [← hWs];exact (uh HB).size
    generalize hmm:wr.heap.size=m at *;have HBA:=hide hba;obtain ⟨g0,g1,g2,g3,g4,g5,g6,g7,g8⟩:=hbf.cells;have HBF:=hide hbf;have HO1:=hide (mm.row_below (uh HO) (hmm ▸ hba) (by omega));clear y0 y1 y2 y3 y4 y5 y6 y7 y8 hba hbf
    go_region_law (first
     | (go_simp;go_at_call 48;refine (uh CS _).mono ?_;rintro e u2 ⟨rfl,hbl2⟩
        have hb3:Below wa.heap.size wa u2:=⟨hbl2.os,hbl2.tape,hbl2.output,hbl2.size,hbl2.block⟩;have k1:=kc hb3 g1;have k2:=kc hb3 g2;have k3:=kc hb3 g3;have k4:=kc hb3 g4;have k5:=kc hb3 g5;have k6:=kc hb3 g6;have k7:=kc hb3 g7;have k8:=kc hb3 g8;have HO2:=hide (mm.row_below (uh HO1) hb3 (Nat.le_refl _))
        have hBu:Hid (w.heap.size+1≤u2.heap.size):=Nat.le_trans (by omega) hb3.size)
     | (refine step_addf u2 _ (w.heap.size+1) i u3 (((D.take i).map sd).flatMap encF) (encF (sd x)) (.tmp 13) (.tmp 20) (by rfl) (by rfl) (by rfl) (by rfl) HO2 (encF_len _) (encF_one _) (by show i+1≤1000000000000;omega) hBu (by rfl) ?_
        intro g cap w4 HG
        have hb4:Below (w.heap.size+1) wa w4:=(uh HG).below (uh HO2) (hb3.mono (by omega)) (Nat.le_refl _) (uh hBu)))
    all_goals clear g0 g1 g2 g3 g4 g5 g6 g7 g8
    all_goals go_wp2
    all_goals refine ⟨⟨i+1,by go_num,by omega,?_,(uh HB).trans (((uh HBA).mono (by omega)).trans hb4)⟩,by simp [intOf];omega⟩
    all_goals rw [take_succ' (uh HX),List.map_append,List.flatMap_append]
    all_goals refine hide ?_
    all_goals simpa using (uh HG).row
  · obtain rfl:i=D.length:=by omega
    have hno:¬ (D.length:Int) < (D.length:Int):=by omega
    rw [List.take_of_length_le (Nat.le_refl _)] at HO;have ho:=uh HO;rw [← List.length_map (f:=sd)] at ho;have hl2:(D.map sd).length < 20:=by rw [List.length_map];exact hl
    have CS:=hide (stable_row hl2 (uh HP) ho);have hwm:w.heap.size+1≤wr.heap.size:=by rw [← hWs];exact (uh HB).size
    have HBW:Hid (Below w.heap.size w wr):=(uh HW0).trans ((uh HB).mono (by omega));have HL:Hid ((D.map sd).length=D.length):=List.length_map _;clear ho hl2;unfold byNameV at CS
    go_wp2_with (first
     | (go_at_call 77;refine (uh CS).mono ?_;rintro e w1 ⟨rfl,h1,h2⟩
        have CC:=hide (compact_fresh (mm.own_sv h1) (fresh_of (uh HP)))
        unfold sameNameV at CC)
     | (go_at_call 79;refine (uh CC).mono ?_;rintro e w2 ⟨rfl,q,os,rfl⟩))
    go_ret;have hb2:=below_grown w1 q os;have hs1:=h2.size;refine ⟨_,rfl,?_,(uh HBW).trans ((h2.mono (by omega)).trans (hb2.mono (by omega)))⟩;have:=mm.row_below h1 hb2 (Nat.le_refl _);rw [uh HL] at this;exact this
end Go.Proofs.YthakglomacijgaaGreatDoor.rd.ss
namespace Go.Proofs.YthakglomacijgaaGreatDoor.rd
open Go.RowKit
open ss (GF)
structure CPx (m B:Nat) (hd:List Value) (wr:World) (L:List JT) (F:List (ByteArray × JT)) (sv fv:Value) (css gss:List (List Value)) (ps qs:List (List Nat)):Prop where
 box:BX wr m (hd++[sv,fv])
 ol:wr.ownsRow B 27 8 sv L.length css.flatten
 of:wr.ownsRow B 62 9 fv F.length (fcs F gss)
 l1:css.length=L.length
 l2:ps.length=L.length
 l3:gss.length=F.length
 l4:qs.length=F.length
 vl:∀ (i:Nat) (v:JT) (c:List Value) (p:List Nat),L[i]?=some v→css[i]?=some c→ps[i]?=some p→VRep wr B v c p
 vf:∀ (i:Nat) (n:ByteArray) (v:JT) (c:List Value) (p:List Nat),F[i]?=some (n,v)→gss[i]?=some c→qs[i]?=some p→VRep wr B v c p
 nd:(own sv++own fv++ps.flatten++qs.flatten).Nodup
def CP (m B:Nat) (hd:List Value) (wr:World) (L:List JT) (F:List (ByteArray × JT)):Prop:=∃ sv fv css gss ps qs,CPx m B hd wr L F sv fv css gss ps qs
theorem CP.start {m B:Nat}{hd:List Value}{wr:World} (h:BX wr m (hd++[.slice none 0 0,.slice none 0 0])):CP m B hd wr [] [] :=
 ⟨.slice none 0 0,.slice none 0 0,[],[],[],[],h,World.ownsRow_nil _ _ _ _,World.ownsRow_nil _ _ _ _,rfl,rfl,rfl,rfl,fun i v c p h=>by simp at h,fun i n v c p h=>by simp at h,by simp [own,Value.ownBlock]⟩
section
variable {m B:Nat}{hd:List Value}{wr u w4:World}{L:List JT}{F:List (ByteArray × JT)}{sv fv:Value}{css gss:List (List Value)}{ps qs:List (List Nat)}
theorem CPx.psge (h:CPx m B hd wr L F sv fv css gss ps qs):∀ b∈ps.flatten,B≤b∧b < wr.heap.size:=by
 intro b hbm;obtain ⟨q,hq,hbq⟩:=List.mem_flatten.1 hbm;obtain ⟨i,hi⟩:=List.getElem?_of_mem hq;obtain ⟨hlt,_⟩:=List.getElem?_eq_some_iff.1 hi;have:=h.l1;have:=h.l2;exact (h.vl i _ _ q (List.getElem?_eq_getElem (by omega)) (List.getElem?_eq_getElem (by omega)) hi).ge b hbq
theorem CPx.qsge (h:CPx m B hd wr L F sv fv css gss ps qs):∀ b∈qs.flatten,B≤b∧b < wr.heap.size:=by
 intro b hbm;obtain ⟨q,hq,hbq⟩:=List.mem_flatten.1 hbm;obtain ⟨i,hi⟩:=List.getElem?_of_mem hq;obtain ⟨hlt,_⟩:=List.getElem?_eq_some_iff.1 hi;have:=h.l3;have:=h.l4;exact (h.vf i _ _ _ q (List.getElem?_eq_getElem (by omega)) (List.getElem?_eq_getElem (by omega)) hi).ge b hbq
theorem CPx.all (h:CPx m B hd wr L F sv fv css gss ps qs):∀ b∈own sv++own fv++ps.flatten++qs.flatten,B≤b∧b < wr.heap.size:=by
 intro b hb;simp only [List.mem_append] at hb
 rcases hb with ((hb|hb)|hb)|hb
 · exact owns_ge h.ol b hb
 · exact owns_ge h.of b hb
 · exact h.psge b hb
 · exact h.qsge b hb
theorem gf_far {u w4:World}{B n:Nat}{sv:Value}{xs cs:List Value}{g cap:Nat} (h:GF u w4 B n sv xs cs g cap) {b:Nat} (hb:b < u.heap.size) (hn:sv.ownBlock≠some b):w4.heap[b]?=u.heap[b]?:=by
 rw [h.grow.block b (by rw [World.size_alloc];omega) (fun e=>hn e.symm)];exact Below.heap_alloc u _ b hb
theorem own_some {g n c:Nat}:own (.slice (some ⟨g,0,none⟩) n c)=[g]:=rfl
theorem CPx.addl (h:CPx m B hd wr L F sv fv css gss ps qs) (h6:hd.length=6) (hm:m < B) (hs:B≤wr.heap.size) {v:JT}{cs:List Value}{p:List Nat}{g cap:Nat} (hb:Below wr.heap.size wr u) (hr:VRep u wr.heap.size v cs p) (hp:p.Nodup) (hg:GR u w4 B L.length sv css.flatten cs g cap) :
 CPx m B hd (w4.setCell ⟨m,6,none⟩ (.slice (some ⟨g,0,none⟩) (L.length+1) cap)) (L++[v]) F (.slice (some ⟨g,0,none⟩) (L.length+1) cap) fv (css++[cs]) gss (ps++[p]) qs:=by
 have hsu:=hb.size;have hU:=Upd.setCell m 6 w4 (.slice (some ⟨g,0,none⟩) (L.length+1) cap);have hall:=h.all;have hnd:=h.nd;have hsv:∀ b,sv.ownBlock=some b→B≤b∧b < wr.heap.size:=fun b hb=>mm.row_lt h.ol b hb
 have hgB:B≤g:=by
  rcases hg.lies with e|e
  · exact (hsv g e).1
  · omega
 have stay:∀ b,b < u.heap.size→sv.ownBlock≠some b→b≠m→(w4.setCell ⟨m,6,none⟩ (.slice (some ⟨g,0,none⟩) (L.length+1) cap)).heap[b]?=u.heap[b]?:=fun b h1 h2 h3=>(hU.block b h3).trans (hg.far h1 h2)
 have hnew:∀ b∈p,wr.heap.size≤b∧b < u.heap.size:=hr.ge;have hn1:=List.nodup_append.1 hnd;have hn2:=List.nodup_append.1 hn1.1;have hn3:=List.nodup_append.1 hn2.1;have hof:∀ b∈own fv,sv.ownBlock≠some b:=fun b hbm e=>hn3.2.2 b (own_mem.2 e) b hbm rfl
 have hops:∀ b∈ps.flatten,sv.ownBlock≠some b:=fun b hbm e=>hn2.2.2 b (List.mem_append_left _ (own_mem.2 e)) b hbm rfl
 have hoqs:∀ b∈qs.flatten,sv.ownBlock≠some b:=fun b hbm e=>hn1.2.2 b (List.mem_append_left _ (List.mem_append_left _ (own_mem.2 e))) b hbm rfl
 have keepB:∀ b,b < wr.heap.size→B≤b→sv.ownBlock≠some b→(w4.setCell ⟨m,6,none⟩ (.slice (some ⟨g,0,none⟩) (L.length+1) cap)).heap[b]?=wr.heap[b]?:=fun b h1 h2 h3=>(stay b (by omega) h3 (by omega)).trans (hb.block b h1)
 refine ⟨?_,?_,?_,by simp [h.l1],by simp [h.l2],h.l3,h.l4,?_,?_,?_⟩
 · have hx:w4.heap[m]?=some (.cells (hd++[sv,fv]).toArray 27 (0,0)):=(hg.far (by omega) (fun e=>by have:=(hsv _ e).1;omega)).trans ((hb.block _ (by omega)).trans h.box)
   have:=blk_set hx 6 (.slice (some ⟨g,0,none⟩) (L.length+1) cap)
   match hd,h6 with
   | [a0,a1,a2,a3,a4,a5],_=>simpa [BX] using this
 · rw [List.flatten_append,List.length_append]
   have:=hg.row;refine mm.row_keep (by simpa using this) (fun k hk=>hU.block k ?_)
   cases hk
   show g≠m;omega
 · exact mm.row_keep h.of (fun k hk=>keepB k (mm.row_lt h.of k hk).2 (mm.row_lt h.of k hk).1 (hof k (own_mem.2 hk)))
 · intro i v' c q h1 h2 h3
   have e1:=h.l1;have e2:=h.l2
   by_cases hi:i < L.length
   · rw [List.getElem?_append_left hi] at h1
     rw [List.getElem?_append_left (by omega)] at h2 h3;refine (h.vl i v' c q h1 h2 h3).keep fun b hbq=>?_
     have hm:=mem_flat h3 hbq;exact keepB b (h.psge b hm).2 (h.psge b hm).1 (hops b hm)
   · have hil:i=L.length:=by
      obtain ⟨hlt,_⟩:=List.getElem?_eq_some_iff.1 h1;rw [List.length_append,List.length_singleton] at hlt;omega
     subst hil;rw [List.getElem?_append_right (Nat.le_refl _),Nat.sub_self] at h1;rw [List.getElem?_append_right (by omega)] at h2 h3;rw [show L.length - css.length=0 by omega] at h2;rw [show L.length - ps.length=0 by omega] at h3;simp only [List.getElem?_cons_zero,Option.some.injEq] at h1 h2 h3;subst h1 h2 h3;refine (hr.base hs).keep fun b hbq=>?_
     have h4:=hnew b hbq;exact stay b h4.2 (fun e=>by have:=(hsv b e).2;omega) (by omega)
 · intro i n v' c q h1 h2 h3
   refine (h.vf i n v' c q h1 h2 h3).keep fun b hbq=>?_
   have hm:=mem_flat h3 hbq;exact keepB b (h.qsge b hm).2 (h.qsge b hm).1 (hoqs b hm)
 · have hgn:∀ b,b∈own fv++ps.flatten++qs.flatten→g≠b:=by
    intro b hbm e;subst e
    have hlt:g < wr.heap.size:=by
     simp only [List.mem_append] at hbm
     rcases hbm with (q|q)|q
     · exact (owns_ge h.of g q).2
     · exact (h.psge g q).2
     · exact (h.qsge g q).2
    rcases hg.lies with e|e
    · simp only [List.mem_append] at hbm
      rcases hbm with (q|q)|q
      · exact hof g q e
      · exact hops g q e
      · exact hoqs g q e
    · omega
   have hgp:g ∉ p:=by
    intro hm
    rcases hg.lies with e|e
    · have:=(hsv g e).2
      have:=(hnew g hm).1;omega
    · have:=(hnew g hm).2;omega
   have hold:∀ b∈own fv++ps.flatten++qs.flatten,b < wr.heap.size:=fun b hbm=>by
    simp only [List.mem_append] at hbm
    rcases hbm with (q|q)|q
    · exact (owns_ge h.of b q).2
    · exact (h.psge b q).2
    · exact (h.qsge b q).2
   have hrest:(own fv++ps.flatten++qs.flatten).Nodup:=by
    have:(own sv++(own fv++ps.flatten++qs.flatten)).Nodup:=by simpa [List.append_assoc] using hnd
    exact (List.nodup_append.1 this).2.1
   rw [own_some,List.flatten_append];simp only [List.flatten_cons,List.flatten_nil,List.append_nil]
   have hperm:([g]++own fv++(ps.flatten++p)++qs.flatten).Perm (g::(p++(own fv++ps.flatten++qs.flatten))):=by
    refine List.perm_iff_count.2 fun x=>?_
    simp only [List.count_append,List.count_cons,List.count_nil];omega
   rw [hperm.nodup_iff,List.nodup_cons];refine ⟨fun hm=>?_,?_⟩
   · rcases List.mem_append.1 hm with q|q
     · exact hgp q
     · exact hgn g q rfl
   · rw [List.nodup_append]
     exact ⟨hp,hrest,fun a ha b hb' e=>by have:=(hnew a ha).1;have:=hold b hb';omega⟩
theorem CPx.addf (h:CPx m B hd wr L F sv fv css gss ps qs) (h6:hd.length=6) (hm:m < B) (hs:B≤wr.heap.size) {nm:ByteArray}{v:JT}{cs:List Value}{p:List Nat}{g cap:Nat} (hb:Below wr.heap.size wr u) (hr:VRep u wr.heap.size v cs p) (hp:p.Nodup) (hg:GF u w4 B F.length fv (fcs F gss) (.string nm::cs) g cap) :
 CPx m B hd (w4.setCell ⟨m,7,none⟩ (.slice (some ⟨g,0,none⟩) (F.length+1) cap)) L (F++[(nm,v)]) sv (.slice (some ⟨g,0,none⟩) (F.length+1) cap) css (gss++[cs]) ps (qs++[p]):=by
 have hsu:=hb.size;have hU:=Upd.setCell m 7 w4 (.slice (some ⟨g,0,none⟩) (F.length+1) cap);have hall:=h.all;have hnd:=h.nd;have hsv:∀ b,fv.ownBlock=some b→B≤b∧b < wr.heap.size:=fun b hb=>mm.row_lt h.of b hb
 have hgB:B≤g:=by
  rcases hg.lies with e|e
  · exact (hsv g e).1
  · omega
 have stay:∀ b,b < u.heap.size→fv.ownBlock≠some b→b≠m→(w4.setCell ⟨m,7,none⟩ (.slice (some ⟨g,0,none⟩) (F.length+1) cap)).heap[b]?=u.heap[b]?:=fun b h1 h2 h3=>(hU.block b h3).trans (gf_far hg h1 h2)
 have hnew:∀ b∈p,wr.heap.size≤b∧b < u.heap.size:=hr.ge;have hn1:=List.nodup_append.1 hnd;have hn2:=List.nodup_append.1 hn1.1;have hn3:=List.nodup_append.1 hn2.1;have hof:∀ b∈own sv,fv.ownBlock≠some b:=fun b hbm e=>hn3.2.2 b hbm b (own_mem.2 e) rfl
 have hops:∀ b∈ps.flatten,fv.ownBlock≠some b:=fun b hbm e=>hn2.2.2 b (List.mem_append_right _ (own_mem.2 e)) b hbm rfl
 have hoqs:∀ b∈qs.flatten,fv.ownBlock≠some b:=fun b hbm e=>hn1.2.2 b (List.mem_append_left _ (List.mem_append_right _ (own_mem.2 e))) b hbm rfl
 have keepB:∀ b,b < wr.heap.size→B≤b→fv.ownBlock≠some b→(w4.setCell ⟨m,7,none⟩ (.slice (some ⟨g,0,none⟩) (F.length+1) cap)).heap[b]?=wr.heap[b]?:=fun b h1 h2 h3=>(stay b (by omega) h3 (by omega)).trans (hb.block b h1)
 refine ⟨?_,?_,?_,h.l1,h.l2,by simp [h.l3],by simp [h.l4],?_,?_,?_⟩
 · have hx:w4.heap[m]?=some (.cells (hd++[sv,fv]).toArray 27 (0,0)):=(gf_far hg (by omega) (fun e=>by have:=(hsv _ e).1;omega)).trans ((hb.block _ (by omega)).trans h.box)
   have:=blk_set hx 7 (.slice (some ⟨g,0,none⟩) (F.length+1) cap)
   match hd,h6 with
   | [a0,a1,a2,a3,a4,a5],_=>simpa [BX] using this
 · exact mm.row_keep h.ol (fun k hk=>keepB k (mm.row_lt h.ol k hk).2 (mm.row_lt h.ol k hk).1 (hof k (own_mem.2 hk)))
 · rw [fcs_snoc h.l3,List.length_append]
   have:=hg.row;refine mm.row_keep (by simpa using this) (fun k hk=>hU.block k ?_)
   cases hk
   show g≠m;omega
 · intro i v' c q h1 h2 h3
   refine (h.vl i v' c q h1 h2 h3).keep fun b hbq=>?_
   have hm:=mem_flat h3 hbq;exact keepB b (h.psge b hm).2 (h.psge b hm).1 (hops b hm)
 · intro i n v' c q h1 h2 h3
   have e1:=h.l3;have e2:=h.l4
   by_cases hi:i < F.length
   · rw [List.getElem?_append_left hi] at h1
     rw [List.getElem?_append_left (by omega)] at h2 h3;refine (h.vf i n v' c q h1 h2 h3).keep fun b hbq=>?_
     have hm:=mem_flat h3 hbq;exact keepB b (h.qsge b hm).2 (h.qsge b hm).1 (hoqs b hm)
   · have hil:i=F.length:=by
      obtain ⟨hlt,_⟩:=List.getElem?_eq_some_iff.1 h1;rw [List.length_append,List.length_singleton] at hlt;omega
     subst hil;rw [List.getElem?_append_right (Nat.le_refl _),Nat.sub_self] at h1;rw [List.getElem?_append_right (by omega)] at h2 h3;rw [show F.length - gss.length=0 by omega] at h2;rw [show F.length - qs.length=0 by omega] at h3;simp only [List.getElem?_cons_zero,Option.some.injEq,Prod.mk.injEq] at h1 h2 h3;obtain ⟨_,rfl⟩:=h1;subst h2 h3;refine (hr.base hs).keep fun b hbq=>?_
     have h4:=hnew b hbq;exact stay b h4.2 (fun e=>by have:=(hsv b e).2;omega) (by omega)
 · have hgn:∀ b,b∈own sv++ps.flatten++qs.flatten→g≠b:=by
    intro b hbm e;subst e
    have hlt:g < wr.heap.size:=by
     simp only [List.mem_append] at hbm
     rcases hbm with (q|q)|q
     · exact (owns_ge h.ol g q).2
     · exact (h.psge g q).2
     · exact (h.qsge g q).2
    rcases hg.lies with e|e
    · simp only [List.mem_append] at hbm
      rcases hbm with (q|q)|q
      · exact hof g q e
      · exact hops g q e
      · exact hoqs g q e
    · omega
   have hgp:g ∉ p:=by
    intro hm
    rcases hg.lies with e|e
    · have:=(hsv g e).2
      have:=(hnew g hm).1;omega
    · have:=(hnew g hm).2;omega
   have hold:∀ b∈own sv++ps.flatten++qs.flatten,b < wr.heap.size:=fun b hbm=>by
    simp only [List.mem_append] at hbm
    rcases hbm with (q|q)|q
    · exact (owns_ge h.ol b q).2
    · exact (h.psge b q).2
    · exact (h.qsge b q).2
   have hrest:(own sv++ps.flatten++qs.flatten).Nodup:=by
    have hpm:(own sv++own fv++ps.flatten++qs.flatten).Perm (own fv++(own sv++ps.flatten++qs.flatten)):=by
     refine List.perm_iff_count.2 fun x=>?_
     simp only [List.count_append];omega
    exact (List.nodup_append.1 (hpm.nodup_iff.1 hnd)).2.1
   rw [own_some,List.flatten_append];simp only [List.flatten_cons,List.flatten_nil,List.append_nil]
   have hperm:(own sv++[g]++ps.flatten++(qs.flatten++p)).Perm (g::(p++(own sv++ps.flatten++qs.flatten))):=by
    refine List.perm_iff_count.2 fun x=>?_
    simp only [List.count_append,List.count_cons,List.count_nil];omega
   rw [hperm.nodup_iff,List.nodup_cons];refine ⟨fun hm=>?_,?_⟩
   · rcases List.mem_append.1 hm with q|q
     · exact hgp q
     · exact hgn g q rfl
   · rw [List.nodup_append]
     exact ⟨hp,hrest,fun a ha b hb' e=>by have:=(hnew a ha).1;have:=hold b hb';omega⟩
end
structure EX (X:List Nat) (w w':World):Prop where
 os:w'.os=w.os
 tape:w'.tape=w.tape
 output:w'.output=w.output
 size:w.heap.size≤w'.heap.size
 block:∀ b,b < w.heap.size→b ∉ X→w'.heap[b]?=w.heap[b]?
theorem EX.refl (X:List Nat) (w:World):EX X w w:=⟨rfl,rfl,rfl,Nat.le_refl _,fun _ _ _=>rfl⟩
theorem EX.trans {X Y:List Nat}{a b c:World} (h:EX X a b) (k:EX Y b c) (hY:∀ y∈Y,y∈X∨a.heap.size≤y):EX X a c :=
 ⟨k.os.trans h.os,k.tape.trans h.tape,k.output.trans h.output,Nat.le_trans h.size k.size,fun i hi hx=>(k.block i (Nat.lt_of_lt_of_le hi h.size) (fun hy=>by
  rcases hY i hy with q|q
  · exact hx q
  · omega)).trans (h.block i hi hx)⟩
theorem EX.mono {X Y:List Nat}{w w':World} (h:EX X w w') (hs:∀ x∈X,x∈Y):EX Y w w':=⟨h.os,h.tape,h.output,h.size,fun b hb hx=>h.block b hb (fun hm=>hx (hs b hm))⟩
theorem EX.of_below {w w':World} (h:Below w.heap.size w w'):EX [] w w':=⟨h.os,h.tape,h.output,h.size,fun b hb _=>h.block b hb⟩
theorem EX.below {X:List Nat}{B:Nat}{w w':World} (h:EX X w w') (hB:B≤w.heap.size) (hx:∀ x∈X,B≤x):Below B w w' :=
 ⟨h.os,h.tape,h.output,h.size,fun k hk=>h.block k (by omega) (fun hm=>by have:=hx k hm;omega)⟩
theorem EX.grown {w w':World}{v:Value} (h:w.grownBy w' v.ownBlock):EX (own v) w w' :=
 ⟨h.os,h.tape,h.output,h.size,fun b hb hn=>h.block b hb (fun e=>hn (own_mem.2 e.symm))⟩
theorem EX.alloc (w:World) (o:Obj):EX [] w (w.alloc o):=EX.of_below ((Below.refl _ w).alloc (Nat.le_refl _) o)
theorem EX.set (w:World) (b o:Nat) (x:Value):EX [b] w (w.setCell ⟨b,o,none⟩ x) :=
 ⟨rfl,rfl,rfl,by simp [World.setCell],fun k _ hn=>Below.heap_setCell _ _ _ _ (fun e=>hn (by simp [e]))⟩
theorem EX.drew (X:List Nat) (w:World):EX X w w.drew:=⟨rfl,rfl,rfl,Nat.le_refl _,fun _ _ _=>rfl⟩
theorem EX.cell {X:List Nat}{w w':World} (h:EX X w w') {a:Addr}{v:Value} (hn:a.block ∉ X) (hc:w.cell? a=some v):w'.cell? a=some v:=by
 rw [World.cell?_of_block (w:=w) (w':=w') (a:=a) (h.block _ (mm.cell_lt hc) hn)];exact hc
theorem EX.frozen {X:List Nat}{w w':World} (h:EX X w w') {a:Addr}{v:Bool} (hl:a.block < w.heap.size) (hn:a.block ∉ X) (hc:w.frozen? a=v):w'.frozen? a=v:=by
 rw [World.frozen?_of_block (w:=w) (w':=w') (a:=a) (h.block _ hl hn)];exact hc
theorem EX.bx {X:List Nat}{w w':World} (h:EX X w w') {m:Nat}{cs:List Value} (hn:m ∉ X) (hx:BX w m cs):BX w' m cs:=(h.block m (blk_lt hx) hn).trans hx
theorem EX.row {X:List Nat}{w w':World} (h:EX X w w') {B e s n:Nat}{v:Value}{xs:List Value} (ho:w.ownsRow B e s v n xs) (hn:∀ b∈own v,b ∉ X):w'.ownsRow B e s v n xs :=
 owns_keep ho fun b hb=>h.block b (owns_ge ho b hb).2 (hn b hb)
theorem EX.vrep {X:List Nat}{w w':World} (h:EX X w w') {B:Nat}{v:JT}{cs:List Value}{p:List Nat} (hv:VRep w B v cs p) (hn:∀ b∈p,b ∉ X):VRep w' B v cs p :=
 hv.keep fun b hb=>h.block b (hv.ge b hb).2 (hn b hb)
def MkL (w:World) (s:Value):Prop:=∃ b n c xs,s=.slice (some ⟨b,0,none⟩) (n+2) c∧w.ownsRow 0 27 8 s (n+2) xs∧xs[n*8]?=some (.int .i64 77)∧xs[(n+1)*8]?=some (.int .i64 78)
def MkF (w:World) (s:Value):Prop:=∃ b n c xs,s=.slice (some ⟨b,0,none⟩) (n+2) c∧w.ownsRow 0 62 9 s (n+2) xs∧xs[n*9]?=some (.string ⟨#[35]⟩)∧xs[(n+1)*9]?=some (.string ⟨#[35,35]⟩)
theorem own_sl {b n c:Nat}:own (.slice (some ⟨b,0,none⟩) n c)=[b]:=rfl
theorem MkL.cells {w:World}{s:Value} (h:MkL w s):∃ b n c,s=.slice (some ⟨b,0,none⟩) (n+2) c∧n+2≤c∧c≤maxLen∧w.cell? ⟨b,n*8,none⟩=some (.int .i64 77)∧w.cell? ⟨b,(n+1)*8,none⟩=some (.int .i64 78):=by
 obtain ⟨b,n,c,xs,rfl,hr,h1,h2⟩:=h;obtain ⟨a,c',e,hc1,hc2,hat⟩:=(mm.own_sv hr).some (by omega);simp only [Value.slice.injEq,Option.some.injEq] at e;obtain ⟨rfl,_,rfl⟩:=e;refine ⟨b,n,c,rfl,hc1,hc2,?_,?_⟩
 · have:=hat _ _ h1
   rwa [mm.add0] at this
 · have:=hat _ _ h2
   rwa [mm.add0] at this
theorem MkF.cells {w:World}{s:Value} (h:MkF w s):∃ b n c,s=.slice (some ⟨b,0,none⟩) (n+2) c∧n+2≤c∧c≤maxLen∧w.cell? ⟨b,n*9,none⟩=some (.string ⟨#[35]⟩)∧w.cell? ⟨b,(n+1)*9,none⟩=some (.string ⟨#[35,35]⟩):=by
 obtain ⟨b,n,c,xs,rfl,hr,h1,h2⟩:=h;obtain ⟨a,c',e,hc1,hc2,hat⟩:=(mm.own_sv hr).some (by omega);simp only [Value.slice.injEq,Option.some.injEq] at e;obtain ⟨rfl,_,rfl⟩:=e;refine ⟨b,n,c,rfl,hc1,hc2,?_,?_⟩
 · have:=hat _ _ h1
   rwa [mm.add0] at this
 · have:=hat _ _ h2
   rwa [mm.add0] at this
theorem EX.mkl {X:List Nat}{w w':World} (h:EX X w w') {s:Value} (hm:MkL w s) (hn:∀ b∈own s,b ∉ X):MkL w' s:=by
 obtain ⟨b,n,c,xs,rfl,hr,h1,h2⟩:=hm;exact ⟨b,n,c,xs,rfl,h.row hr hn,h1,h2⟩
theorem EX.mkf {X:List Nat}{w w':World} (h:EX X w w') {s:Value} (hm:MkF w s) (hn:∀ b∈own s,b ∉ X):MkF w' s:=by
 obtain ⟨b,n,c,xs,rfl,hr,h1,h2⟩:=hm;exact ⟨b,n,c,xs,rfl,h.row hr hn,h1,h2⟩
structure LN (T:Nat) (hd:List Value) (w:World) (ls fs:Value) (LS FS:List Value):Prop where
 h16:hd.length=16
 bk:w.heap[T]?=some (.cells (hd++[ls,fs]).toArray 36 (0,0))
 rl:w.ownsRow (T+1) 24 1 ls LS.length LS
 rf:w.ownsRow (T+1) 25 1 fs FS.length FS
 dj:∀ b∈own ls,b ∉ own fs
 ml:∀ s∈LS,MkL w s
 mf:∀ s∈FS,MkF w s
 mb:∀ s∈LS++FS,∀ b∈own s,T < b∧b < w.heap.size∧b ∉ own ls∧b ∉ own fs
section
variable {T:Nat}{hd:List Value}{w w' w4:World}{ls fs:Value}{LS FS:List Value}
theorem LN.lt (h:LN T hd w ls fs LS FS):T < w.heap.size:=blk_lt h.bk
theorem LN.c16 (h:LN T hd w ls fs LS FS):w.cell? ⟨T,16,none⟩=some ls:=by
 rw [blk_cell h.bk,List.getElem?_toArray,List.getElem?_append_right (by rw [h.h16];exact Nat.le_refl _),h.h16];rfl
theorem LN.c17 (h:LN T hd w ls fs LS FS):w.cell? ⟨T,17,none⟩=some fs:=by
 rw [blk_cell h.bk,List.getElem?_toArray,List.getElem?_append_right (by rw [h.h16];omega),h.h16];rfl
theorem LN.z (h:LN T hd w ls fs LS FS) (o:Nat):w.frozen? ⟨T,o,none⟩=false:=blk_free h.bk o
theorem LN.lge (h:LN T hd w ls fs LS FS):∀ b∈own ls,T < b∧b < w.heap.size:=fun b hb=>owns_ge h.rl b hb
theorem LN.fge (h:LN T hd w ls fs LS FS):∀ b∈own fs,T < b∧b < w.heap.size:=fun b hb=>owns_ge h.rf b hb
theorem LN.keep (h:LN T hd w ls fs LS FS) {X:List Nat} (k:EX X w w') (hT:T ∉ X) (h1:∀ b∈own ls,b ∉ X) (h2:∀ b∈own fs,b ∉ X) (h3:∀ s∈LS++FS,∀ b∈own s,b ∉ X):LN T hd w' ls fs LS FS :=
 ⟨h.h16,(k.block T h.lt hT).trans h.bk,k.row h.rl h1,k.row h.rf h2,h.dj,fun s hs=>k.mkl (h.ml s hs) (h3 s (List.mem_append_left _ hs)),fun s hs=>k.mkf (h.mf s hs) (h3 s (List.mem_append_right _ hs)),
  fun s hs b hb=>by
   obtain ⟨a1,a2,a3,a4⟩:=h.mb s hs b hb
   exact ⟨a1,Nat.lt_of_lt_of_le a2 k.size,a3,a4⟩⟩
theorem ld_set (hd:List Value) (h:hd.length=16) (ls fs x:Value):((hd++[ls,fs]).toArray.setIfInBounds 16 x)=(hd++[x,fs]).toArray∧((hd++[ls,fs]).toArray.setIfInBounds 17 x)=(hd++[ls,x]).toArray:=by
 constructor
 · rw [List.setIfInBounds_toArray,List.set_append_right _ _ (by omega),h];rfl
 · rw [List.setIfInBounds_toArray,List.set_append_right _ _ (by omega),h];rfl
theorem LN.addl (h:LN T hd w ls fs LS FS) {s:Value}{g cap:Nat} (hm:MkL w s) (hb:∀ b∈own s,T < b∧b < w.heap.size∧b ∉ own ls∧b ∉ own fs)
 (row:w4.ownsRow (T+1) 24 1 (.slice (some ⟨g,0,none⟩) (LS.length+1) cap) (LS.length+1) (LS++[s])) (grow:(w.alloc (.cells #[s] 24)).grownBy w4 ls.ownBlock) (lies:ls.ownBlock=some g∨w.heap.size≤g) :
 LN T hd (w4.setCell ⟨T,16,none⟩ (.slice (some ⟨g,0,none⟩) (LS.length+1) cap)) (.slice (some ⟨g,0,none⟩) (LS.length+1) cap) fs (LS++[s]) FS ∧
 EX (T::own ls) w (w4.setCell ⟨T,16,none⟩ (.slice (some ⟨g,0,none⟩) (LS.length+1) cap)):=by
 have k0:EX (own ls) w w4:=((EX.alloc w _).mono (fun x hx=>by simp at hx)).trans (EX.grown grow) (fun y hy=>.inl hy);have k1:=EX.set w4 T 16 (.slice (some ⟨g,0,none⟩) (LS.length+1) cap);have k:EX (T::own ls) w (w4.setCell ⟨T,16,none⟩ (.slice (some ⟨g,0,none⟩) (LS.length+1) cap)):=(k0.mono (fun x hx=>by simp [hx])).trans k1 (fun y hy=>.inl (by simp at hy;simp [hy]));have hT:T ∉ own ls:=fun q=>by have:=h.lge T q;omega
 have hgT:g≠T:=by
  rcases lies with e|e
  · have:=h.lge g (own_mem.2 e);omega
  · have:=h.lt;omega
 have hX:∀ b,b < w.heap.size→T < b→b ∉ own ls→b ∉ T::own ls:=fun b _ h2 h3 hq=>by
  rcases List.mem_cons.1 hq with e|e
  · omega
  · exact h3 e
 refine ⟨⟨h.h16,?_,?_,?_,?_,?_,?_,?_⟩,k⟩
 · have:=blk_set ((k0.block T h.lt hT).trans h.bk) 16 (.slice (some ⟨g,0,none⟩) (LS.length+1) cap)
   rwa [(ld_set hd h.h16 _ _ _).1] at this
 · rw [List.length_append]
   refine k1.row row fun b hb2=>?_
   rw [own_sl] at hb2;simp at hb2 ⊢;omega
 · exact k.row h.rf fun b hq=>hX b (h.fge b hq).2 (h.fge b hq).1 (fun q=>h.dj b q hq)
 · intro b hq
   rw [own_sl] at hq;simp at hq;subst hq
   rcases lies with e|e
   · exact h.dj _ (own_mem.2 e)
   · exact fun q=>by have:=(h.fge _ q).2;omega
 · intro y hy
   rcases List.mem_append.1 hy with hy|hy
   · refine k.mkl (h.ml y hy) fun b hq=>?_
     obtain ⟨a1,a2,a3,_⟩:=h.mb y (List.mem_append_left _ hy) b hq;exact hX b a2 a1 a3
   · rw [List.mem_singleton] at hy
     subst hy;exact k.mkl hm fun b hq=>hX b (hb b hq).2.1 (hb b hq).1 (hb b hq).2.2.1
 · intro y hy
   refine k.mkf (h.mf y hy) fun b hq=>?_
   obtain ⟨a1,a2,a3,_⟩:=h.mb y (List.mem_append_right _ hy) b hq;exact hX b a2 a1 a3
 · intro y hy b hq
   have hy2:y∈LS++FS∨y=s:=by
    simp only [List.mem_append,List.mem_singleton] at hy ⊢
    rcases hy with (q|q)|q
    · exact .inl (.inl q)
    · exact .inr q
    · exact .inl (.inr q)
   obtain ⟨a1,a2,a3,a4⟩:T < b∧b < w.heap.size∧b ∉ own ls∧b ∉ own fs:=by
    rcases hy2 with q|q
    · exact h.mb y q b hq
    · subst q;exact hb b hq
   refine ⟨a1,Nat.lt_of_lt_of_le a2 k.size,fun q=>?_,a4⟩;rw [own_sl] at q;simp at q;subst q
   rcases lies with e|e
   · exact a3 (own_mem.2 e)
   · omega
theorem LN.addf (h:LN T hd w ls fs LS FS) {s:Value}{g cap:Nat} (hm:MkF w s) (hb:∀ b∈own s,T < b∧b < w.heap.size∧b ∉ own ls∧b ∉ own fs)
 (row:w4.ownsRow (T+1) 25 1 (.slice (some ⟨g,0,none⟩) (FS.length+1) cap) (FS.length+1) (FS++[s])) (grow:(w.alloc (.cells #[s] 25)).grownBy w4 fs.ownBlock) (lies:fs.ownBlock=some g∨w.heap.size≤g) :
 LN T hd (w4.setCell ⟨T,17,none⟩ (.slice (some ⟨g,0,none⟩) (FS.length+1) cap)) ls (.slice (some ⟨g,0,none⟩) (FS.length+1) cap) LS (FS++[s]) ∧
 EX (T::own fs) w (w4.setCell ⟨T,17,none⟩ (.slice (some ⟨g,0,none⟩) (FS.length+1) cap)):=by
 have k0:EX (own fs) w w4:=((EX.alloc w _).mono (fun x hx=>by simp at hx)).trans (EX.grown grow) (fun y hy=>.inl hy);have k1:=EX.set w4 T 17 (.slice (some ⟨g,0,none⟩) (FS.length+1) cap);have k:EX (T::own fs) w (w4.setCell ⟨T,17,none⟩ (.slice (some ⟨g,0,none⟩) (FS.length+1) cap)):=(k0.mono (fun x hx=>by simp [hx])).trans k1 (fun y hy=>.inl (by simp at hy;simp [hy]));have hT:T ∉ own fs:=fun q=>by have:=h.fge T q;omega
 have hgT:g≠T:=by
  rcases lies with e|e
  · have:=h.fge g (own_mem.2 e);omega
  · have:=h.lt;omega
 have hX:∀ b,b < w.heap.size→T < b→b ∉ own fs→b ∉ T::own fs:=fun b _ h2 h3 hq=>by
  rcases List.mem_cons.1 hq with e|e
  · omega
  · exact h3 e
 refine ⟨⟨h.h16,?_,?_,?_,?_,?_,?_,?_⟩,k⟩
 · have:=blk_set ((k0.block T h.lt hT).trans h.bk) 17 (.slice (some ⟨g,0,none⟩) (FS.length+1) cap)
   rwa [(ld_set hd h.h16 _ _ _).2] at this
 · exact k.row h.rl fun b hq=>hX b (h.lge b hq).2 (h.lge b hq).1 (fun q=>h.dj b hq q)
 · rw [List.length_append]
   refine k1.row row fun b hb2=>?_
   rw [own_sl] at hb2;simp at hb2 ⊢;omega
 · intro b hq q
   rw [own_sl] at q;simp at q;subst q
   rcases lies with e|e
   · exact h.dj _ hq (own_mem.2 e)
   · have:=(h.lge _ hq).2;omega
 · intro y hy
   refine k.mkl (h.ml y hy) fun b hq=>?_
   obtain ⟨a1,a2,_,a3⟩:=h.mb y (List.mem_append_left _ hy) b hq;exact hX b a2 a1 a3
 · intro y hy
   rcases List.mem_append.1 hy with hy|hy
   · refine k.mkf (h.mf y hy) fun b hq=>?_
     obtain ⟨a1,a2,_,a3⟩:=h.mb y (List.mem_append_right _ hy) b hq;exact hX b a2 a1 a3
   · rw [List.mem_singleton] at hy
     subst hy;exact k.mkf hm fun b hq=>hX b (hb b hq).2.1 (hb b hq).1 (hb b hq).2.2.2
 · intro y hy b hq
   have hy2:y∈LS++FS∨y=s:=by
    simp only [List.mem_append,List.mem_singleton] at hy ⊢
    rcases hy with q|q|q
    · exact .inl (.inl q)
    · exact .inl (.inr q)
    · exact .inr q
   obtain ⟨a1,a2,a3,a4⟩:T < b∧b < w.heap.size∧b ∉ own ls∧b ∉ own fs:=by
    rcases hy2 with q|q
    · exact h.mb y q b hq
    · subst q;exact hb b hq
   refine ⟨a1,Nat.lt_of_lt_of_le a2 k.size,a3,fun q=>?_⟩;rw [own_sl] at q;simp at q;subst q
   rcases lies with e|e
   · exact a4 (own_mem.2 e)
   · omega
end
structure PX (B:Nat) (w:World) (L:List JT) (F:List (ByteArray × JT)) (sv fv:Value) (css gss:List (List Value)) (ps qs:List (List Nat)):Prop where
 ol:w.ownsRow B 27 8 sv L.length css.flatten
 of:w.ownsRow B 62 9 fv F.length (fcs F gss)
 l1:css.length=L.length
 l2:ps.length=L.length
 l3:gss.length=F.length
 l4:qs.length=F.length
 vl:∀ (i:Nat) (v:JT) (c:List Value) (p:List Nat),L[i]?=some v→css[i]?=some c→ps[i]?=some p→VRep w B v c p
 vf:∀ (i:Nat) (n:ByteArray) (v:JT) (c:List Value) (p:List Nat),F[i]?=some (n,v)→gss[i]?=some c→qs[i]?=some p→VRep w B v c p
 nd:(own sv++own fv++ps.flatten++qs.flatten).Nodup
def bks (sv fv:Value) (ps qs:List (List Nat)):List Nat:=own sv++own fv++ps.flatten++qs.flatten
section
variable {B:Nat}{w u w4:World}{L:List JT}{F:List (ByteArray × JT)}{sv fv:Value}{css gss:List (List Value)}{ps qs:List (List Nat)}
theorem PX.start (w:World) (B:Nat):PX B w [] [] (.slice none 0 0) (.slice none 0 0) [] [] [] [] :=
 ⟨World.ownsRow_nil _ _ _ _,World.ownsRow_nil _ _ _ _,rfl,rfl,rfl,rfl,fun i v c p h=>by simp at h,fun i n v c p h=>by simp at h,by simp [own,Value.ownBlock]⟩
theorem PX.psge (h:PX B w L F sv fv css gss ps qs):∀ b∈ps.flatten,B≤b∧b < w.heap.size:=by
 intro b hbm;obtain ⟨q,hq,hbq⟩:=List.mem_flatten.1 hbm;obtain ⟨i,hi⟩:=List.getElem?_of_mem hq;obtain ⟨hlt,_⟩:=List.getElem?_eq_some_iff.1 hi;have:=h.l1;have:=h.l2;exact (h.vl i _ _ q (List.getElem?_eq_getElem (by omega)) (List.getElem?_eq_getElem (by omega)) hi).ge b hbq
theorem PX.qsge (h:PX B w L F sv fv css gss ps qs):∀ b∈qs.flatten,B≤b∧b < w.heap.size:=by
 intro b hbm;obtain ⟨q,hq,hbq⟩:=List.mem_flatten.1 hbm;obtain ⟨i,hi⟩:=List.getElem?_of_mem hq;obtain ⟨hlt,_⟩:=List.getElem?_eq_some_iff.1 hi;have:=h.l3;have:=h.l4;exact (h.vf i _ _ _ q (List.getElem?_eq_getElem (by omega)) (List.getElem?_eq_getElem (by omega)) hi).ge b hbq
theorem PX.all (h:PX B w L F sv fv css gss ps qs):∀ b∈bks sv fv ps qs,B≤b∧b < w.heap.size:=by
 intro b hb;simp only [bks,List.mem_append] at hb
 rcases hb with ((hb|hb)|hb)|hb
 · exact owns_ge h.ol b hb
 · exact owns_ge h.of b hb
 · exact h.psge b hb
 · exact h.qsge b hb
theorem PX.keep (h:PX B w L F sv fv css gss ps qs) {X:List Nat} (k:EX X w u) (hX:∀ b∈bks sv fv ps qs,b ∉ X):PX B u L F sv fv css gss ps qs :=
 ⟨k.row h.ol fun b hb=>hX b (by simp [bks,hb]),k.row h.of fun b hb=>hX b (by simp [bks,hb]),h.l1,h.l2,h.l3,h.l4,
  fun i v c p h1 h2 h3=>k.vrep (h.vl i v c p h1 h2 h3) fun b hb=>hX b (by have:=mem_flat h3 hb;simp [bks,this]),
  fun i n v c p h1 h2 h3=>k.vrep (h.vf i n v c p h1 h2 h3) fun b hb=>hX b (by have:=mem_flat h3 hb;simp [bks,this]),h.nd⟩
theorem PX.rep (h:PX B w L F sv fv css gss ps qs) (k:Int) (t:Bool) (d:Dn) (x:ByteArray):VRep w B (JT.mk k t d x L F) [.int .i64 k,.bool t,.bool d.neg,.string d.dg,.int .i64 d.ex,.string x,sv,fv] (bks sv fv ps qs)∧(bks sv fv ps qs).Nodup :=
 ⟨VRep.mk h.ol h.of h.l1 h.l2 h.l3 h.l4 h.vl h.vf,h.nd⟩
theorem PX.growl (h:PX B u L F sv fv css gss ps qs) {cs:List Value} (grow:(u.alloc (.cells cs.toArray 27)).grownBy w4 sv.ownBlock):EX (own sv) u w4 ∧
 w4.ownsRow B 62 9 fv F.length (fcs F gss)∧(∀ (i:Nat) (v:JT) (c:List Value) (p:List Nat),L[i]?=some v→css[i]?=some c→ps[i]?=some p→VRep w4 B v c p) ∧
 (∀ (i:Nat) (n:ByteArray) (v:JT) (c:List Value) (p:List Nat),F[i]?=some (n,v)→gss[i]?=some c→qs[i]?=some p→VRep w4 B v c p):=by
 have k0:EX (own sv) u w4:=((EX.alloc u _).mono (fun x hx=>by simp at hx)).trans (EX.grown grow) (fun y hy=>.inl hy);have hn1:=List.nodup_append.1 h.nd;have hn2:=List.nodup_append.1 hn1.1;have hn3:=List.nodup_append.1 hn2.1;refine ⟨k0,k0.row h.of fun b hb q=>hn3.2.2 b q b hb rfl,fun i v c p h1 h2 h3=>k0.vrep (h.vl i v c p h1 h2 h3) fun b hb q=>?_,fun i n v c p h1 h2 h3=>k0.vrep (h.vf i n v c p h1 h2 h3) fun b hb q=>?_⟩
 · exact hn2.2.2 b (List.mem_append_left _ q) b (mem_flat h3 hb) rfl
 · exact hn1.2.2 b (List.mem_append_left _ (List.mem_append_left _ q)) b (mem_flat h3 hb) rfl
theorem PX.growf (h:PX B u L F sv fv css gss ps qs) {cs:List Value} (grow:(u.alloc (.cells cs.toArray 62)).grownBy w4 fv.ownBlock):EX (own fv) u w4 ∧
 w4.ownsRow B 27 8 sv L.length css.flatten∧(∀ (i:Nat) (v:JT) (c:List Value) (p:List Nat),L[i]?=some v→css[i]?=some c→ps[i]?=some p→VRep w4 B v c p) ∧
 (∀ (i:Nat) (n:ByteArray) (v:JT) (c:List Value) (p:List Nat),F[i]?=some (n,v)→gss[i]?=some c→qs[i]?=some p→VRep w4 B v c p):=by
 have k0:EX (own fv) u w4:=((EX.alloc u _).mono (fun x hx=>by simp at hx)).trans (EX.grown grow) (fun y hy=>.inl hy);have hn1:=List.nodup_append.1 h.nd;have hn2:=List.nodup_append.1 hn1.1;have hn3:=List.nodup_append.1 hn2.1;refine ⟨k0,k0.row h.ol fun b hb q=>hn3.2.2 b hb b q rfl,fun i v c p h1 h2 h3=>k0.vrep (h.vl i v c p h1 h2 h3) fun b hb q=>?_,fun i n v c p h1 h2 h3=>k0.vrep (h.vf i n v c p h1 h2 h3) fun b hb q=>?_⟩
 · exact hn2.2.2 b (List.mem_append_right _ q) b (mem_flat h3 hb) rfl
 · exact hn1.2.2 b (List.mem_append_left _ (List.mem_append_right _ q)) b (mem_flat h3 hb) rfl
theorem PX.newl (h:PX B u L F sv fv css gss ps qs) {g:Nat} (lies:sv.ownBlock=some g∨u.heap.size≤g):g ∉ own fv∧g ∉ ps.flatten∧g ∉ qs.flatten:=by
 have hn1:=List.nodup_append.1 h.nd;have hn2:=List.nodup_append.1 hn1.1;have hn3:=List.nodup_append.1 hn2.1
 rcases lies with e|e
 · have q:=own_mem.2 e
   exact ⟨fun hb=>hn3.2.2 g q g hb rfl,fun hb=>hn2.2.2 g (List.mem_append_left _ q) g hb rfl,fun hb=>hn1.2.2 g (List.mem_append_left _ (List.mem_append_left _ q)) g hb rfl⟩
 · exact ⟨fun hb=>by have:=(owns_ge h.of g hb).2;omega,fun hb=>by have:=(h.psge g hb).2;omega,fun hb=>by have:=(h.qsge g hb).2;omega⟩
theorem PX.newf (h:PX B u L F sv fv css gss ps qs) {g:Nat} (lies:fv.ownBlock=some g∨u.heap.size≤g):g ∉ own sv∧g ∉ ps.flatten∧g ∉ qs.flatten:=by
 have hn1:=List.nodup_append.1 h.nd;have hn2:=List.nodup_append.1 hn1.1;have hn3:=List.nodup_append.1 hn2.1
 rcases lies with e|e
 · have q:=own_mem.2 e
   exact ⟨fun hb=>hn3.2.2 g hb g q rfl,fun hb=>hn2.2.2 g (List.mem_append_right _ q) g hb rfl,fun hb=>hn1.2.2 g (List.mem_append_left _ (List.mem_append_right _ q)) g hb rfl⟩
 · exact ⟨fun hb=>by have:=(owns_ge h.ol g hb).2;omega,fun hb=>by have:=(h.psge g hb).2;omega,fun hb=>by have:=(h.qsge g hb).2;omega⟩
theorem nd_swapl {g:Nat}{a c d:List Nat} (hp:(g::(a++c++d)).Nodup):([g]++a++c++d).Nodup:=by simpa using hp
theorem nd_swapf {g:Nat}{a c d:List Nat} (hp:(g::(a++c++d)).Nodup):(a++[g]++c++d).Nodup:=by
 have:(a++[g]++c++d).Perm (g::(a++c++d)):=by
  refine List.perm_iff_count.2 fun x=>?_
  simp only [List.count_append,List.count_cons,List.count_nil];omega
 exact this.nodup_iff.2 hp
theorem PX.restl (h:PX B w L F sv fv css gss ps qs):(own fv++ps.flatten++qs.flatten).Nodup:=by
 have:(own sv++(own fv++ps.flatten++qs.flatten)).Nodup:=by simpa [List.append_assoc] using h.nd
 exact (List.nodup_append.1 this).2.1
theorem PX.restf (h:PX B w L F sv fv css gss ps qs):(own sv++ps.flatten++qs.flatten).Nodup:=by
 have hpm:(own sv++own fv++ps.flatten++qs.flatten).Perm (own fv++(own sv++ps.flatten++qs.flatten)):=by
  refine List.perm_iff_count.2 fun x=>?_
  simp only [List.count_append];omega
 exact (List.nodup_append.1 (hpm.nodup_iff.1 h.nd)).2.1
theorem nd_cons {g:Nat}{a c d:List Nat} (h1:g ∉ a) (h2:g ∉ c) (h3:g ∉ d) (h:(a++c++d).Nodup):(g::(a++c++d)).Nodup :=
 List.nodup_cons.2 ⟨fun q=>by
  simp only [List.mem_append] at q
  rcases q with (q|q)|q
  · exact h1 q
  · exact h2 q
  · exact h3 q,h⟩
theorem nd_more {p a c d:List Nat} (hp:p.Nodup) (h:(a++c++d).Nodup) (hd:∀ b∈p,b ∉ a++c++d):(a++(c++p)++d).Nodup∧(a++c++(d++p)).Nodup:=by
 have h1:(p++(a++c++d)).Nodup:=List.nodup_append.2 ⟨hp,h,fun x hx y hy e=>hd x hx (e ▸ hy)⟩
 have e1:(a++(c++p)++d).Perm (p++(a++c++d)):=by
  refine List.perm_iff_count.2 fun x=>?_
  simp only [List.count_append];omega
 have e2:(a++c++(d++p)).Perm (p++(a++c++d)):=by
  refine List.perm_iff_count.2 fun x=>?_
  simp only [List.count_append];omega
 exact ⟨e1.nodup_iff.2 h1,e2.nodup_iff.2 h1⟩
theorem PX.addl (h:PX B u L F sv fv css gss ps qs) {v:JT}{cs:List Value}{p:List Nat}{g cap:Nat} (hr:VRep u B v cs p) (hp:p.Nodup) (hd:∀ b∈p,b ∉ bks sv fv ps qs)
 (hg:GR u w4 B L.length sv css.flatten cs g cap):PX B w4 (L++[v]) F (.slice (some ⟨g,0,none⟩) (L.length+1) cap) fv (css++[cs]) gss (ps++[p]) qs:=by
 obtain ⟨k0,hof,hvl,hvf⟩:=h.growl hg.grow;obtain ⟨g1,g2,g3⟩:=h.newl hg.lies
 have hgp:g ∉ p:=by
  intro hm
  rcases hg.lies with e|e
  · exact hd g hm (by simp [bks,own_mem.2 e])
  · have:=(hr.ge g hm).2;omega
 refine ⟨?_,hof,by simp [h.l1],by simp [h.l2],h.l3,h.l4,?_,hvf,?_⟩
 · rw [List.flatten_append,List.length_append]
   simpa using hg.row
 · intro i v' c q h1 h2 h3
   have e1:=h.l1;have e2:=h.l2
   by_cases hi:i < L.length
   · rw [List.getElem?_append_left hi] at h1
     rw [List.getElem?_append_left (by omega)] at h2 h3;exact hvl i v' c q h1 h2 h3
   · have hil:i=L.length:=by
      obtain ⟨hlt,_⟩:=List.getElem?_eq_some_iff.1 h1;rw [List.length_append,List.length_singleton] at hlt;omega
     subst hil;rw [List.getElem?_append_right (Nat.le_refl _),Nat.sub_self] at h1;rw [List.getElem?_append_right (by omega)] at h2 h3;rw [show L.length - css.length=0 by omega] at h2;rw [show L.length - ps.length=0 by omega] at h3;simp only [List.getElem?_cons_zero,Option.some.injEq] at h1 h2 h3;subst h1 h2 h3;exact k0.vrep hr fun b hb q=>hd b hb (by simp [bks,q])
 · rw [own_sl,List.flatten_append]
   simp only [List.flatten_cons,List.flatten_nil,List.append_nil];refine nd_swapl (nd_cons g1 ?_ g3 (nd_more hp h.restl fun b hb q=>hd b hb ?_).1)
   · exact fun q=>(List.mem_append.1 q).elim g2 hgp
   · simp only [bks,List.mem_append] at q ⊢
     rcases q with (q|q)|q
     · exact .inl (.inl (.inr q))
     · exact .inl (.inr q)
     · exact .inr q
theorem PX.addf (h:PX B u L F sv fv css gss ps qs) {nm:ByteArray}{v:JT}{cs:List Value}{p:List Nat}{g cap:Nat} (hr:VRep u B v cs p) (hp:p.Nodup) (hd:∀ b∈p,b ∉ bks sv fv ps qs)
 (hg:GF u w4 B F.length fv (fcs F gss) (.string nm::cs) g cap):PX B w4 L (F++[(nm,v)]) sv (.slice (some ⟨g,0,none⟩) (F.length+1) cap) css (gss++[cs]) ps (qs++[p]):=by
 obtain ⟨k0,hol,hvl,hvf⟩:=h.growf hg.grow;obtain ⟨g1,g2,g3⟩:=h.newf hg.lies
 have hgp:g ∉ p:=by
  intro hm
  rcases hg.lies with e|e
  · exact hd g hm (by simp [bks,own_mem.2 e])
  · have:=(hr.ge g hm).2;omega
 refine ⟨hol,?_,h.l1,h.l2,by simp [h.l3],by simp [h.l4],hvl,?_,?_⟩
 · rw [fcs_snoc h.l3,List.length_append]
   simpa using hg.row
 · intro i n v' c q h1 h2 h3
   have e1:=h.l3;have e2:=h.l4
   by_cases hi:i < F.length
   · rw [List.getElem?_append_left hi] at h1
     rw [List.getElem?_append_left (by omega)] at h2 h3;exact hvf i n v' c q h1 h2 h3
   · have hil:i=F.length:=by
      obtain ⟨hlt,_⟩:=List.getElem?_eq_some_iff.1 h1;rw [List.length_append,List.length_singleton] at hlt;omega
     subst hil;rw [List.getElem?_append_right (Nat.le_refl _),Nat.sub_self] at h1;rw [List.getElem?_append_right (by omega)] at h2 h3;rw [show F.length - gss.length=0 by omega] at h2;rw [show F.length - qs.length=0 by omega] at h3;simp only [List.getElem?_cons_zero,Option.some.injEq,Prod.mk.injEq] at h1 h2 h3;obtain ⟨_,rfl⟩:=h1;subst h2 h3;exact k0.vrep hr fun b hb q=>hd b hb (by simp [bks,q])
 · rw [own_sl,List.flatten_append]
   simp only [List.flatten_cons,List.flatten_nil,List.append_nil];refine nd_swapf (nd_cons g1 g2 ?_ (nd_more hp h.restf fun b hb q=>hd b hb ?_).2)
   · exact fun q=>(List.mem_append.1 q).elim g3 hgp
   · simp only [bks,List.mem_append] at q ⊢
     rcases q with (q|q)|q
     · exact .inl (.inl (.inl q))
     · exact .inl (.inr q)
     · exact .inr q
def kv (k:Int):List Value:=[.int .i64 k,.bool false,.bool false,.string ⟨#[]⟩,.int .i64 0,.string ⟨#[]⟩,.slice none 0 0,.slice none 0 0]
def kf (n:ByteArray):List Value:=[.string n,.int .i64 0,.bool false,.bool false,.string ⟨#[]⟩,.int .i64 0,.string ⟨#[]⟩,.slice none 0 0,.slice none 0 0]
theorem PX.markl (h:PX B u L F sv fv css gss ps qs) {g cap:Nat} (row:w4.ownsRow B 27 8 (.slice (some ⟨g,0,none⟩) (L.length+2) cap) (L.length+2) (css.flatten++(kv 77++kv 78)))
 (grow:(u.alloc (.cells (kv 77++kv 78).toArray 27)).grownBy w4 sv.ownBlock) (lies:sv.ownBlock=some g∨u.heap.size≤g) :
 PX B w4 L F (.slice (some ⟨g,0,none⟩) L.length cap) fv css gss ps qs∧MkL w4 (.slice (some ⟨g,0,none⟩) (L.length+2) cap)∧EX (own sv) u w4:=by
 obtain ⟨k0,hof,hvl,hvf⟩:=h.growl grow;obtain ⟨g1,g2,g3⟩:=h.newl lies;have hlen:css.flatten.length=L.length*8:=h.ol.1;refine ⟨⟨?_,hof,h.l1,h.l2,h.l3,h.l4,hvl,hvf,?_⟩,?_,k0⟩
 · have:=mm.row_take row L.length (by omega)
   rwa [List.take_left' hlen] at this
 · rw [own_sl]
   exact nd_swapl (nd_cons g1 g2 g3 h.restl)
 · exact ⟨g,L.length,cap,_,rfl,mm.row_mono row (Nat.zero_le _),by rw [List.getElem?_append_right (by omega),hlen,Nat.sub_self];rfl,by rw [List.getElem?_append_right (by omega),hlen,show (L.length+1)*8 - L.length*8=8 by omega];rfl⟩
theorem PX.markf (h:PX B u L F sv fv css gss ps qs) {g cap:Nat} (row:w4.ownsRow B 62 9 (.slice (some ⟨g,0,none⟩) (F.length+2) cap) (F.length+2) (fcs F gss++(kf ⟨#[35]⟩++kf ⟨#[35,35]⟩)))
 (grow:(u.alloc (.cells (kf ⟨#[35]⟩++kf ⟨#[35,35]⟩).toArray 62)).grownBy w4 fv.ownBlock) (lies:fv.ownBlock=some g∨u.heap.size≤g) :
 PX B w4 L F sv (.slice (some ⟨g,0,none⟩) F.length cap) css gss ps qs∧MkF w4 (.slice (some ⟨g,0,none⟩) (F.length+2) cap)∧EX (own fv) u w4:=by
 obtain ⟨k0,hol,hvl,hvf⟩:=h.growf grow;obtain ⟨g1,g2,g3⟩:=h.newf lies;have hlen:(fcs F gss).length=F.length*9:=h.of.1;refine ⟨⟨hol,?_,h.l1,h.l2,h.l3,h.l4,hvl,hvf,?_⟩,?_,k0⟩
 · have:=mm.row_take row F.length (by omega)
   rwa [List.take_left' hlen] at this
 · rw [own_sl]
   exact nd_swapf (nd_cons g1 g2 g3 h.restf)
 · exact ⟨g,F.length,cap,_,rfl,mm.row_mono row (Nat.zero_le _),by rw [List.getElem?_append_right (by omega),hlen,Nat.sub_self];rfl,by rw [List.getElem?_append_right (by omega),hlen,show (F.length+1)*9 - F.length*9=9 by omega];rfl⟩
end
end Go.Proofs.YthakglomacijgaaGreatDoor.rd
