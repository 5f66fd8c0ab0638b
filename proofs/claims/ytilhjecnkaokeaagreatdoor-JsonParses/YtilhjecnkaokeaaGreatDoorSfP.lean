/- Texts in one: Sf LlV LlF Aq -/
import Derived.Test.YtilhjecnkaokeaaGreatDoorScP
import Derived.Test.YtilhjecnkaokeaaGreatDoorIiP
import Derived.Test.YtilhjecnkaokeaaGreatDoorIeP
import Derived.Test.YtilhjecnkaokeaaGreatDoorSeP
namespace Go.Proofs.YtilhjecnkaokeaaGreatDoor.rd.ss
open Go.RowKit Go.Shelf Go.Lib Go.Sort
structure GF (u w4:World) (B n:Nat) (sv:Value) (xs cs:List Value) (g cap:Nat):Prop where
 row:w4.ownsRow B 74 9 (.slice (some ⟨g,0,none⟩) (n+1) cap) (n+1) (xs++cs)
 grow:(u.alloc (.cells cs.toArray 74)).grownBy w4 sv.ownBlock
 lies:sv.ownBlock=some g∨u.heap.size≤g
theorem GF.below {u w4:World}{B n:Nat}{sv:Value}{xs cs:List Value}{g cap:Nat} (h:GF u w4 B n sv xs cs g cap) (ho:u.ownsRow B 74 9 sv n xs) {m:Nat}{wr:World} (hb:Below m wr u) (hm:m≤B) (hs:m≤u.heap.size):Below m wr w4 :=
 (hb.alloc hs _).grown h.grow (by rw [World.size_alloc];omega) (fun k hk=>by have:=(mm.row_lt ho k hk).1;omega)
theorem step_addf {ops:Array Oper}{op:Oper}{a:Act}{K:Act→World→Prop}{Q:Exit→Act→World→Prop}{E0:Prop} (u W:World) (B n:Nat) (sv:Value) (xs cs:List Value) (S X:Operand) (hgd:op.guard=none)
 (ho:op.op=.call { callee:=.builtin .append,args:=#[S,X],argTypes:=#[26,26] }) (hs:a.eval S=sv) (hx:a.eval X=.slice (some ⟨u.heap.size,0,none⟩) 1 1)
 (hown:Hid (u.ownsRow B 74 9 sv n xs)) (h8:Hid (cs.length=9)) (h1:Hid (∀ v∈cs,v.oneCell'=true)) (hn:Hid (n+1≤1000000000000)) (hB:Hid (B≤u.heap.size)) (hW:W=u.alloc (.cells cs.toArray 74))
 (h:∀ g cap w4,Hid (GF u w4 B n sv xs cs g cap)→K (a.put op.dst (.slice (some ⟨g,0,none⟩) (n+1) cap)) w4) :
 if Region.wanted op (yielded ops a.tmps)=true then Oper.wp Tryz.prog op a W K Q else E0:=by
 subst hW
 obtain ⟨i0,hi,hz0,hz1,hz2⟩:=info_parts infoFd
 have hN:=uh hn
 have hb:=uh hB
 refine step_append_lies _ hgd _ _ _ ho B 74 i0 _ 9 128 undFd hi hz0 hz1 hz2 rfl (by omega) sv n xs hs (mm.row_below (uh hown) ((Below.refl _ _).alloc (Nat.le_refl _) _) (Nat.le_refl _))
  ⟨u.heap.size,0,none⟩ 1 1 cs hx (by rw [uh h8]) (fun j v hv=>?_) (uh h1) (by omega) (by unfold maxLen;omega) (by omega) (by rw [World.size_alloc];omega) (u.heap.size+1) (World.size_alloc _ _) ?_
 · rw [mm.add0,blk_cell (heap_alloc_new u _)]
   simpa using hv
 · intro g cap w4 h5 h6 h7 _
   exact h g cap w4 ⟨h5,h6,h7.imp id (fun e=>by omega)⟩
def sd (f:Fd):Fd:={ f with nm:=said f.nm }
theorem stb_id {D:List Fd} (hp:D.Pairwise (fun a b=>cmpF a b < 0)):stb D D.length=List.range D.length:=by
 unfold stb
 apply List.mergeSort_of_pairwise
 rw [List.pairwise_iff_getElem] at hp ⊢
 intro i j hi hj hij
 simp only [List.length_range] at hi hj
 have h1:=hp i j hi hj hij
 simp only [List.getElem_range]
 rw [(lx_not D j i).2]
 · rfl
 · have e:cfI D i j < 0:=by unfold cfI fdI;simpa [hi,hj] using h1
   have:=cf_sym D i j
   exact ⟨by omega,fun _=>by omega⟩
theorem one_box (w:World) (cs:List Value):∀ W,W=w.alloc (.cells cs.toArray 28)→BX W w.heap.size cs∧Below w.heap.size w W∧W.heap.size=w.heap.size+1:=by
 rintro W rfl
 exact ⟨heap_alloc_new w _,(Below.refl _ w).alloc (Nat.le_refl _) _,World.size_alloc _ _⟩
theorem below_grown (w:World) (q:Nat) (os:Array Obj):Below w.heap.size w (grow (w.drewN q) os):=by
 refine ⟨rfl,rfl,rfl,?_,fun b hb=>?_⟩
 · show w.heap.size≤(w.heap++os).size
   simp
 · show (w.heap++os)[b]?=_
   rw [Array.getElem?_append_left hb]
theorem stable_row {w:World}{B:Nat}{sv:Value}{D:List Fd} (hl:D.length < 20) (hp:D.Pairwise (fun a b=>cmpF a b < 0)) (ho:w.ownsRow B 74 9 sv D.length (D.flatMap encF)) :
 Calls Tryz.prog 98 #[sv,byNameV] w fun e w'=>e=.returned (.tuple #[])∧w'.ownsRow B 74 9 sv D.length (D.flatMap encF)∧Below B w w':=by
 rcases ho.2 with ⟨rfl,h0⟩|⟨g,cap,cur,rfl,hB,_⟩
 · refine (stable_none none 0 w).mono ?_
   rintro e w' ⟨rfl,rfl⟩
   exact ⟨rfl,ho,Below.refl _ _⟩
 · have h:=stable_any hl ho
   rw [stb_id hp,range_fd] at h
   refine h.mono ?_
   rintro e w' ⟨rfl,h1,hM⟩
   refine ⟨rfl,h1,hM.os,hM.tape,hM.output,hM.size,fun b hb=>hM.block b ?_ (by omega)⟩
   have:=(mm.row_lt ho g rfl).2
   omega
theorem fresh_of {D:List Fd} (hp:D.Pairwise (fun a b=>cmpF a b < 0)) (i:Nat) (x y:Fd) (hx:D[i]?=some x) (hy:D[i+1]?=some y):y.nm≠x.nm:=by
 rw [List.pairwise_iff_getElem] at hp
 obtain ⟨h1,rfl⟩:=List.getElem?_eq_some_iff.1 hx
 obtain ⟨h2,rfl⟩:=List.getElem?_eq_some_iff.1 hy
 have:=hp i (i+1) h1 h2 (by omega)
 intro e
 unfold cmpF at this
 rw [e,cb.self] at this
 omega
set_option maxRecDepth 100000 in
set_option maxHeartbeats 6400000 in
theorem fieldsOf_any {D:List Fd} (z0 z1 z2 z3 z4 z5 z6 fv:Value) (w:World) (hsv:mm.SV w fv D.length 9 (D.flatMap encF)) (hl:D.length < 20) (hz:∀ x∈D,x.nm.size≤35184372088832) (hp:(D.map sd).Pairwise (fun a b=>cmpF a b < 0)) :
 Calls Tryz.prog 63 #[.agg #[z0,z1,z2,z3,z4,z5,z6,fv]] w fun e w'=>∃ sv,e=.returned sv∧w'.ownsRow (w.heap.size+1) 74 9 sv D.length ((D.map sd).flatMap encF)∧Below w.heap.size w w':=by
 obtain ⟨oa,c,rfl,hn1,hn2⟩:=hsv.form
 have B1:=hide (one_box w [z0,z1,z2,z3,z4,z5,z6,.slice oa D.length c])
 have HS:=hide hsv
 have HZ:=hide hz
 have HP:=hide hp
 clear hsv hz hp hn1 hn2
 go_enter Tryz.func63,Tryz.ntmps63
 go_wp2
 obtain ⟨q0,q1,q2⟩:=uh B1 _ rfl
 generalize w.alloc (.cells [z0,z1,z2,z3,z4,z5,z6,.slice oa D.length c].toArray 28)=W at *
 have hWs:W.heap.size=w.heap.size+1:=q2
 have HW0:=hide q1
 clear q0 q1 q2 B1
 go_loopw [3,9] (fun sv iv wr=>∃ (i:Nat),iv=.int .i64 (i:Int)∧i≤D.length∧Hid (wr.ownsRow (w.heap.size+1) 74 9 sv i (((D.take i).map sd).flatMap encF))∧Hid (Below (w.heap.size+1) W wr)) (fun _ iv _=>D.length - (intOf iv).toNat)
 case atStart=>exact ⟨0,rfl,by omega,World.ownsRow_nil _ _ _ _,Below.refl _ _⟩
 case round =>
  obtain ⟨i,rfl,hi,HO,HB⟩:=hrel
  by_cases hc:i < D.length
  · obtain ⟨x,hx⟩:∃ x,D[i]?=some x:=⟨_,List.getElem?_eq_getElem hc⟩
    have hbw:Below w.heap.size w wr:=(uh HW0).trans ((uh HB).mono (by omega))
    have hi1:(i:Int) < (D.length:Int):=by omega
    obtain ⟨a,c',e,_,_,hat⟩:=(uh HS).some (by omega)
    simp only [Value.slice.injEq] at e
    obtain ⟨rfl,_,rfl⟩:=e
    have hat2:∀ (j:Nat) (u:Value),(D.flatMap encF)[j]?=some u→wr.cell? (a.add j)=some u:=fun j u hu=>kc hbw (hat j u hu)
    have C9:=fd9 hat2 hx 0 #[]
    rw [grow_empty] at C9
    generalize ha:a.add (i*9)=ad at C9
    obtain ⟨y0,y1,y2,y3,y4,y5,y6,y7,y8⟩:wr.cell? ad=some (.string x.nm)∧wr.cell? ⟨ad.block,ad.off+1,none⟩=some (.int .i64 x.k)∧wr.cell? ⟨ad.block,ad.off+2,none⟩=some (.bool x.t)∧wr.cell? ⟨ad.block,ad.off+3,none⟩=some (.bool x.ng)∧wr.cell? ⟨ad.block,ad.off+4,none⟩=some (.string x.dg)∧wr.cell? ⟨ad.block,ad.off+5,none⟩=some (.int .i64 x.ex)∧wr.cell? ⟨ad.block,ad.off+6,none⟩=some (.string x.x)∧wr.cell? ⟨ad.block,ad.off+7,none⟩=some (.slice x.q1 x.n1 x.m1)∧wr.cell? ⟨ad.block,ad.off+8,none⟩=some (.slice x.q2 x.n2 x.m2):=C9
    have HX:=hide hx
    clear hat hat2 hx
    go_upto_region 5 with fail
    have CS:=hide (fun W'=>said_any x.nm W' (uh HZ x (List.mem_of_getElem? (uh HX))))
    have hbf:BF (wr.alloc (.cells #[.string x.nm,.int .i64 x.k,.bool x.t,.bool x.ng,.string x.dg,.int .i64 x.ex,.string x.x,.slice x.q1 x.n1 x.m1,.slice x.q2 x.n2 x.m2] 74)) wr.heap.size [.string x.nm,.int .i64 x.k,.bool x.t,.bool x.ng,.string x.dg,.int .i64 x.ex,.string x.x,.slice x.q1 x.n1 x.m1,.slice x.q2 x.n2 x.m2]:=heap_alloc_new wr _
    have hba:Below wr.heap.size wr (wr.alloc (.cells #[.string x.nm,.int .i64 x.k,.bool x.t,.bool x.ng,.string x.dg,.int .i64 x.ex,.string x.x,.slice x.q1 x.n1 x.m1,.slice x.q2 x.n2 x.m2] 74)):=(Below.refl _ wr).alloc (Nat.le_refl _) _
    generalize wr.alloc (.cells #[.string x.nm,.int .i64 x.k,.bool x.t,.bool x.ng,.string x.dg,.int .i64 x.ex,.string x.x,.slice x.q1 x.n1 x.m1,.slice x.q2 x.n2 x.m2] 74)=wa at *
    have hma:=blk_lt hbf
    have hwm:w.heap.size+1≤wr.heap.size:=by rw [← hWs];exact (uh HB).size
    generalize hmm:wr.heap.size=m at *
    have HBA:=hide hba
    obtain ⟨g0,g1,g2,g3,g4,g5,g6,g7,g8⟩:=hbf.cells
    have HBF:=hide hbf
    have HO1:=hide (mm.row_below (uh HO) (hmm ▸ hba) (by omega))
    clear y0 y1 y2 y3 y4 y5 y6 y7 y8 hba hbf
    go_region_law (first
     | (go_simp;go_at_call 62;refine (uh CS _).mono ?_;rintro e u2 ⟨rfl,hbl2⟩
        have hb3:Below wa.heap.size wa u2:=⟨hbl2.os,hbl2.tape,hbl2.output,hbl2.size,hbl2.block⟩
        have k1:=kc hb3 g1
        have k2:=kc hb3 g2
        have k3:=kc hb3 g3
        have k4:=kc hb3 g4
        have k5:=kc hb3 g5
        have k6:=kc hb3 g6
        have k7:=kc hb3 g7
        have k8:=kc hb3 g8
        have HO2:=hide (mm.row_below (uh HO1) hb3 (Nat.le_refl _))
        have hBu:Hid (w.heap.size+1≤u2.heap.size):=Nat.le_trans (by omega) hb3.size)
     | (refine step_addf u2 _ (w.heap.size+1) i u3 (((D.take i).map sd).flatMap encF) (encF (sd x)) (.tmp 13) (.tmp 20) (by rfl) (by rfl) (by rfl) (by rfl) HO2 (encF_len _) (encF_one _) (by show i+1≤1000000000000;omega) hBu (by rfl) ?_
        intro g cap w4 HG
        have hb4:Below (w.heap.size+1) wa w4:=(uh HG).below (uh HO2) (hb3.mono (by omega)) (Nat.le_refl _) (uh hBu)))
    all_goals clear g0 g1 g2 g3 g4 g5 g6 g7 g8
    all_goals go_wp2
    all_goals refine ⟨⟨i+1,by go_num,by omega,?_,(uh HB).trans (((uh HBA).mono (by omega)).trans hb4)⟩,by simp [intOf];omega⟩
    all_goals rw [take_succ' (uh HX),List.map_append,List.flatMap_append]
    all_goals refine hide ?_
    all_goals simpa using (uh HG).row
  · obtain rfl:i=D.length:=by omega
    have hno:¬ (D.length:Int) < (D.length:Int):=by omega
    rw [List.take_of_length_le (Nat.le_refl _)] at HO
    have ho:=uh HO
    rw [← List.length_map (f:=sd)] at ho
    have hl2:(D.map sd).length < 20:=by rw [List.length_map];exact hl
    have CS:=hide (stable_row hl2 (uh HP) ho)
    have hwm:w.heap.size+1≤wr.heap.size:=by rw [← hWs];exact (uh HB).size
    have HBW:Hid (Below w.heap.size w wr):=(uh HW0).trans ((uh HB).mono (by omega))
    have HL:Hid ((D.map sd).length=D.length):=List.length_map _
    clear ho hl2
    unfold byNameV at CS
    go_wp2_with (first
     | (go_at_call 98;refine (uh CS).mono ?_;rintro e w1 ⟨rfl,h1,h2⟩
        have CC:=hide (compact_fresh (mm.own_sv h1) (fresh_of (uh HP)))
        unfold sameNameV at CC)
     | (go_at_call 100;refine (uh CC).mono ?_;rintro e w2 ⟨rfl,q,os,rfl⟩))
    go_ret
    have hb2:=below_grown w1 q os
    have hs1:=h2.size
    refine ⟨_,rfl,?_,(uh HBW).trans ((h2.mono (by omega)).trans (hb2.mono (by omega)))⟩
    have:=mm.row_below h1 hb2 (Nat.le_refl _)
    rw [uh HL] at this
    exact this
end Go.Proofs.YtilhjecnkaokeaaGreatDoor.rd.ss
namespace Go.Proofs.YtilhjecnkaokeaaGreatDoor.apv
open Go.RowKit Go.Proofs.YtilhjecnkaokeaaGreatDoor.ap Go.Proofs.YtilhjecnkaokeaaGreatDoor.rd
open Go.Proofs.YtilhjecnkaokeaaGreatDoor.mm (row_keep row_lt)
structure LR (u:World) (B:Nat) (L:List Value) (bl:List Nat):Prop where
 row:∀ x∈L,∃ l,OB u B x l∧l.length≤1000000000
 sub:(L.flatMap own).Sublist bl
theorem LR.add {u:World}{B:Nat}{L M:List Value}{bl bm:List Nat} (h:LR u B L bl) (k:LR u B M bm):LR u B (L++M) (bl++bm) :=
 ⟨fun x hx=>(List.mem_append.1 hx).elim (h.row x) (k.row x),by rw [List.flatMap_append];exact h.sub.append k.sub⟩
theorem LR.back {u w:World}{B:Nat}{L:List Value}{bl:List Nat} (h:LR w B L bl) (hk:∀ b∈bl,u.heap[b]?=w.heap[b]?):LR u B L bl:=by
 refine ⟨fun x hx=>?_,h.sub⟩
 obtain ⟨l,hl,hn⟩:=h.row x hx
 refine ⟨l,hl.kp (fun k hkx=>hk k (h.sub.subset (List.mem_flatMap.2 ⟨x,hx,?_⟩))),hn⟩
 simp [own,hkx]
theorem LR.one {u:World}{B:Nat}{L:List Value}{bl:List Nat} (h:LR u B L bl):∀ x∈L,x.oneCell'=true:=by
 intro x hx
 obtain ⟨l,hl,_⟩:=h.row x hx
 obtain ⟨oa,c,rfl⟩:=hl.form
 rfl
def LQ (u:World) (B:Nat) (v:JT) (p:List Nat) (e:Ending) (u':World):Prop :=
 ∃ (oa:Option Addr) (c:Nat) (L:List Value),e=.returned (.slice oa L.length c)∧L.length=nds v∧u'.ownsRow u.heap.size 25 1 (.slice oa L.length c) L.length L∧LR u B L p∧Below u.heap.size u u'
set_option maxRecDepth 100000 in
set_option maxHeartbeats 6400000 in
theorem lists_step (k:Int) (t:Bool) (dn:Bool) (dg:ByteArray) (dx:Int) (x:ByteArray) (l:List JT) (f:List (ByteArray × JT)) (oa ob:Option Addr) (c c':Nat) (css gss:List (List Value)) (ps qs:List (List Nat)) (B:Nat) (u:World)
 (hl:u.ownsRow B 28 8 (.slice oa l.length c) l.length css.flatten) (hf:u.ownsRow B 74 9 (.slice ob f.length c') f.length (fcs f gss)) (h1:css.length=l.length) (h2:ps.length=l.length) (h3:gss.length=f.length) (h4:qs.length=f.length)
 (hle:∀ (i:Nat) (v:JT) (c:List Value) (p:List Nat),l[i]?=some v→css[i]?=some c→ps[i]?=some p→VRep u B v c p)
 (hfe:∀ (i:Nat) (n:ByteArray) (v:JT) (c:List Value) (p:List Nat),f[i]?=some (n,v)→gss[i]?=some c→qs[i]?=some p→VRep u B v c p)
 (hnd:(l.map nds).sum+(f.map fun p=>nds p.2).sum≤1000000000) (hln:l.length≤1000000000) (hfn:f.length≤1000000000)
 (IH1:∀ v∈l,∀ (cs:List Value) (p:List Nat) (u:World),VRep u B v cs p→Calls Tryz.prog 42 #[.agg cs.toArray] u (LQ u B v p))
 (IH2:∀ q∈f,∀ (cs:List Value) (p:List Nat) (u:World),VRep u B q.2 cs p→Calls Tryz.prog 42 #[.agg cs.toArray] u (LQ u B q.2 p)) :
 Calls Tryz.prog 42 #[.agg #[.int .i64 k,.bool t,.bool dn,.string dg,.int .i64 dx,.string x,.slice oa l.length c,.slice ob f.length c']] u fun e u'=>∃ (oo:Option Addr) (cc:Nat) (L:List Value),e=.returned (.slice oo L.length cc)∧L.length=1+(l.map nds).sum+(f.map fun p=>nds p.2).sum∧u'.ownsRow u.heap.size 25 1 (.slice oo L.length cc) L.length L∧LR u B L (own (.slice oa l.length c)++ps.flatten++qs.flatten)∧Below u.heap.size u u':=by
 have H8:Hid (∀ c∈css,c.length=8):=fun cc hc=>by
  obtain ⟨j,hj⟩:=List.getElem?_of_mem hc
  obtain ⟨hlt,_⟩:=List.getElem?_eq_some_iff.1 hj
  exact (hle j _ cc _ (List.getElem?_eq_getElem (by omega)) hj (List.getElem?_eq_getElem (by omega))).vr.len
 have H9:Hid (∀ c∈gss,c.length=8):=fun cc hc=>by
  obtain ⟨j,hj⟩:=List.getElem?_of_mem hc
  obtain ⟨hlt,_⟩:=List.getElem?_eq_some_iff.1 hj
  exact (hfe j f[j].1 f[j].2 cc _ (List.getElem?_eq_getElem (by omega)) hj (List.getElem?_eq_getElem (by omega))).vr.len
 have HL:=hide hl
 have HF:=hide hf
 have HE:=hide hle
 have HG:=hide hfe
 have I1:=hide IH1
 have I2:=hide IH2
 have B1:=hide (ss.one_box u [.int .i64 k,.bool t,.bool dn,.string dg,.int .i64 dx,.string x,.slice oa l.length c,.slice ob f.length c'])
 clear hl hf hle hfe IH1 IH2
 go_enter Tryz.func42,Tryz.ntmps42
 go_upto_region 1 with fail
 obtain ⟨q0,q1,q2⟩:=uh B1 _ rfl
 generalize u.alloc (.cells [.int .i64 k,.bool t,.bool dn,.string dg,.int .i64 dx,.string x,.slice oa l.length c,.slice ob f.length c'].toArray 28)=W at *
 obtain ⟨y0,y1,y2,y3,y4,y5,y6,y7⟩:=q0.cells
 have HX:=hide q0
 have HBW:=hide q1
 have HZ:=hide q2
 have R0:Hid ((W.alloc (.cells #[.slice oa l.length c] 25)).ownsRow (u.heap.size+1) 25 1 (.slice (some ⟨W.heap.size,0,none⟩) 1 1) 1 [.slice oa l.length c]):=mm.own_new W (u.heap.size+1) 25 1 1 #[.slice oa l.length c] (by omega) rfl (by unfold maxLen;omega)
 have L0:Hid (LR u B [.slice oa l.length c] (own (.slice oa l.length c))):=⟨fun y hy=>by
  simp only [List.mem_cons,List.not_mem_nil,or_false] at hy
  subst hy
  exact ⟨css,⟨by rw [h1];exact uh HL,uh H8⟩,by rw [h1];omega⟩,by simp⟩
 have BW0:Hid (Below (u.heap.size+1) W (W.alloc (.cells #[.slice oa l.length c] 25))):=(Below.refl _ W).alloc (by omega) _
 clear q0 q1 q2 B1
 go_upto_region 2 with fail
 generalize W.alloc (.cells #[.slice oa l.length c] 25)=W1 at *
 clear y0 y1 y2 y3 y4 y5 y6 y7
 go_wp2
 go_loopw [3,4] (fun sv iv wr=>∃ (i:Nat) (L:List Value),i≤l.length∧iv=.int .i64 (i:Int)∧Hid (wr.ownsRow (u.heap.size+1) 25 1 sv L.length L)∧Hid (L.length=1+((l.take i).map nds).sum)∧Hid (LR u B L (own (.slice oa l.length c)++(ps.take i).flatten))∧Hid (Below (u.heap.size+1) W wr)) (fun _ iv _=>l.length - (intOf iv).toNat)
 case atStart=>exact ⟨0,[.slice oa l.length c],by omega,rfl,R0,by simp [Hid],by simpa using L0,BW0⟩
 case round =>
  obtain ⟨i,L,hi,rfl,HO,HLL,HR,HB⟩:=hrel
  have hb:=uh HB
  have hz:=uh HZ
  have hbu:Below u.heap.size u wr:=(uh HBW).trans (hb.mono (by omega))
  have hzr:u.heap.size+1≤wr.heap.size:=by have:=hb.size;omega
  obtain ⟨y0,y1,y2,y3,y4,y5,y6,y7⟩:=((uh HX).keep hb (by omega)).cells
  clear R0 L0 BW0
  by_cases hc:i < l.length
  · obtain ⟨v,hv⟩:∃ v,l[i]?=some v:=⟨_,List.getElem?_eq_getElem hc⟩
    obtain ⟨cc,hcc⟩:∃ c,css[i]?=some c:=⟨_,List.getElem?_eq_getElem (by omega)⟩
    obtain ⟨pp,hpp⟩:∃ c,ps[i]?=some c:=⟨_,List.getElem?_eq_getElem (by omega)⟩
    have vA:=uh HE i v cc pp hv hcc hpp
    obtain ⟨kk,tt,ng,dg2,ex2,xx,c1,m1,k1,c2,m2,k2,rfl⟩:=vA.form
    obtain ⟨a,c'',e,_,_,hat0⟩:=(mm.own_sv (mm.row_below (uh HL) hbu (Nat.le_refl _))).some (by omega)
    simp only [Value.slice.injEq] at e
    obtain ⟨rfl,_,rfl⟩:=e
    obtain ⟨x0,x1,x2,x3,x4,x5,x6,x7⟩:=cells8 (sv_at (uh H8) hat0 hcc)
    generalize ha:a.add (i*8)=ad at *
    have hi1:(i:Int) < (l.length:Int):=by omega
    have hi0:(0:Int)≤(i:Int):=by omega
    have CI:=hide (uh I1 v (List.mem_of_getElem? hv) _ pp wr (vA.keep fun b hb'=>hbu.block b (vA.ge b hb').2))
    have hsum:((l.take (i+1)).map nds).sum=((l.take i).map nds).sum+nds v:=by rw [take_succ' hv,List.map_append,List.sum_append_nat];simp
    have hle2:((l.take (i+1)).map nds).sum≤(l.map nds).sum:=by
     have:=sum_take_le (l.map nds) (i+1)
     rwa [← List.map_take] at this
    have HSUM:=hide hsum
    have HLE2:=hide hle2
    have HPG:=hide (fun b (hb':b∈pp)=>hbu.block b (vA.ge b hb').2)
    have HTK:Hid (ps.take (i+1)=ps.take i++[pp]):=take_succ' hpp
    clear hat0 hcc hpp vA hv hsum hle2 hz hb hbu
    go_wp2_with (first
     | (go_at_call 42;refine (uh CI).mono ?_;rintro e u2 ⟨oo,c2',M,rfl,hM,rM,lM,bM⟩
        have HM:=hide hM
        have hbd:Hid (L.length+M.length≤2000000000):=by refine hide ?_;have:=uh HLL;have:=uh HSUM;have:=uh HLE2;omega
        clear hM
        have O1:=hide (mm.row_below (uh HO) bM (Nat.le_refl _))
        have SM:=hide (mm.own_sv rM)
        have LM:=hide (lM.back (u:=u) (fun b hb'=>(uh HPG b hb').symm))
        have M1:=hide lM.one
        have BM:=hide bM
        have hsz:Hid (u.heap.size+1≤u2.heap.size):=Nat.le_trans hzr bM.size
        clear rM lM bM)
     | (at_builtin;refine mm.wpList_append_sv (P:=Tryz.prog) rfl _ _ 46 rfl (u.heap.size+1) 25 _ 1 24 undW infoW rfl (by decide) _ _ L.length M.length L M rfl rfl (uh O1) (uh SM) (uh M1) (by have:=uh hbd;unfold maxLen;omega) (by have:=uh hbd;omega) (uh hsz) ?_
        intro v' w4 hr hg _))
    have hbe:Below (u.heap.size+1) wr w4:=mm.row_bl (uh O1) hg ((uh BM).mono hzr) (Nat.le_refl _) (uh hsz)
    refine ⟨⟨i+1,L++M,by omega,by go_num,by rw [List.length_append];exact hr,?_,?_,(uh HB).trans hbe⟩,by simp [intOf];omega⟩
    · refine hide ?_
      rw [List.length_append,uh HSUM,uh HM,uh HLL]
      omega
    · refine hide ?_
      rw [uh HTK,List.flatten_append,← List.append_assoc]
      simpa using (uh HR).add (uh LM)
  · obtain rfl:i=l.length:=by omega
    have hno:¬ (l.length:Int) < (l.length:Int):=by omega
    rw [List.take_of_length_le (Nat.le_refl _)] at HLL
    rw [List.take_of_length_le (by omega)] at HR
    clear hb hbu hz hzr
    go_wp2
    go_loopw [3,5] (fun sv iv wr=>∃ (i:Nat) (L:List Value),i≤f.length∧iv=.int .i64 (i:Int)∧Hid (wr.ownsRow (u.heap.size+1) 25 1 sv L.length L)∧Hid (L.length=1+(l.map nds).sum+((f.take i).map fun p=>nds p.2).sum)∧Hid (LR u B L (own (.slice oa l.length c)++ps.flatten++(qs.take i).flatten))∧Hid (Below (u.heap.size+1) W wr)) (fun _ iv _=>f.length - (intOf iv).toNat)
    case atStart=>exact ⟨0,L,by omega,rfl,HO,by simpa [Hid] using HLL,by simpa using HR,HB⟩
    case round =>
     clear HO HLL HR HB y0 y1 y2 y3 y4 y5 y6 y7
     obtain ⟨i,L,hi,rfl,HO,HLL,HR,HB⟩:=hrel
     have hb:=uh HB
     have hbu:Below u.heap.size u wr:=(uh HBW).trans (hb.mono (by omega))
     have hzr:u.heap.size+1≤wr.heap.size:=by have:=hb.size;have:=uh HZ;omega
     obtain ⟨y0,y1,y2,y3,y4,y5,y6,y7⟩:=((uh HX).keep hb (by omega)).cells
     by_cases hc:i < f.length
     · obtain ⟨v,hv⟩:∃ v,f[i]?=some v:=⟨_,List.getElem?_eq_getElem hc⟩
       obtain ⟨cc,hcc⟩:∃ c,gss[i]?=some c:=⟨_,List.getElem?_eq_getElem (by omega)⟩
       obtain ⟨pp,hpp⟩:∃ c,qs[i]?=some c:=⟨_,List.getElem?_eq_getElem (by omega)⟩
       have vA:=uh HG i v.1 v.2 cc pp hv hcc hpp
       obtain ⟨kk,tt,ng,dg2,ex2,xx,c1,m1,k1,c2,m2,k2,rfl⟩:=vA.form
       obtain ⟨a,c'',e,_,_,hat0⟩:=(mm.own_sv (mm.row_below (uh HF) hbu (Nat.le_refl _))).some (by omega)
       simp only [Value.slice.injEq] at e
       obtain ⟨rfl,_,rfl⟩:=e
       have hat:∀ (j:Nat) (u:Value),[.string v.1,.int .i64 kk,.bool tt,.bool ng,.string dg2,.int .i64 ex2,.string xx,.slice c1 m1 k1,.slice c2 m2 k2][j]?=some u→wr.cell? ((a.add (i*9)).add j)=some u:=by
        intro j u hu
        have hj:j < 9:=(List.getElem?_eq_some_iff.1 hu).1
        rw [mm.add_add]
        exact hat0 _ u (by rw [fcs_at (uh H9) hv hcc hj];exact hu)
       obtain ⟨xn,x0,x1,x2,x3,x4,x5,x6,x7⟩:=cells9 hat
       generalize ha:a.add (i*9)=ad at *
       have hi1:(i:Int) < (f.length:Int):=by omega
       have hi0:(0:Int)≤(i:Int):=by omega
       have CI:=hide (uh I2 v (List.mem_of_getElem? hv) _ pp wr (vA.keep fun b hb'=>hbu.block b (vA.ge b hb').2))
       have hsum:((f.take (i+1)).map fun p=>nds p.2).sum=((f.take i).map fun p=>nds p.2).sum+nds v.2:=by rw [take_succ' hv,List.map_append,List.sum_append_nat];simp
       have hle2:((f.take (i+1)).map fun p=>nds p.2).sum≤(f.map fun p=>nds p.2).sum:=by
        have:=sum_take_le (f.map fun p=>nds p.2) (i+1)
        rwa [← List.map_take] at this
       have HSUM:=hide hsum
       have HLE2:=hide hle2
       have HPG:=hide (fun b (hb':b∈pp)=>hbu.block b (vA.ge b hb').2)
       have HTK:Hid (qs.take (i+1)=qs.take i++[pp]):=take_succ' hpp
       clear hat hat0 hcc hpp vA hv hsum hle2 hb hbu
       go_wp2_with (first
        | (go_at_call 42;refine (uh CI).mono ?_;rintro e u2 ⟨oo,c2',M,rfl,hM,rM,lM,bM⟩
           have HM:=hide hM
           have hbd:Hid (L.length+M.length≤2000000000):=by refine hide ?_;have:=uh HLL;have:=uh HSUM;have:=uh HLE2;omega
           clear hM
           have O1:=hide (mm.row_below (uh HO) bM (Nat.le_refl _))
           have SM:=hide (mm.own_sv rM)
           have LM:=hide (lM.back (u:=u) (fun b hb'=>(uh HPG b hb').symm))
           have M1:=hide lM.one
           have BM:=hide bM
           have hsz:Hid (u.heap.size+1≤u2.heap.size):=Nat.le_trans hzr bM.size
           clear rM lM bM)
        | (at_builtin;refine mm.wpList_append_sv (P:=Tryz.prog) rfl _ _ 46 rfl (u.heap.size+1) 25 _ 1 24 undW infoW rfl (by decide) _ _ L.length M.length L M rfl rfl (uh O1) (uh SM) (uh M1) (by have:=uh hbd;unfold maxLen;omega) (by have:=uh hbd;omega) (uh hsz) ?_
           intro v' w4 hr hg _))
       have hbe:Below (u.heap.size+1) wr w4:=mm.row_bl (uh O1) hg ((uh BM).mono hzr) (Nat.le_refl _) (uh hsz)
       refine ⟨⟨i+1,L++M,by omega,by go_num,by rw [List.length_append];exact hr,?_,?_,(uh HB).trans hbe⟩,by simp [intOf];omega⟩
       · refine hide ?_
         rw [List.length_append,uh HSUM,uh HM,uh HLL]
         omega
       · refine hide ?_
         rw [uh HTK,List.flatten_append,← List.append_assoc]
         simpa using (uh HR).add (uh LM)
     · obtain rfl:i=f.length:=by omega
       have hno2:¬ (f.length:Int) < (f.length:Int):=by omega
       rw [List.take_of_length_le (Nat.le_refl _)] at HLL
       rw [List.take_of_length_le (by omega)] at HR
       obtain ⟨oo,co,eo,_⟩:=mm.SV.form (mm.own_sv (uh HO))
       subst eo
       clear hb
       go_wp2
       go_ret
       exact ⟨oo,co,L,rfl,uh HLL,owns_base (uh HO) (Nat.le_succ _),by first|exact uh HR|(rw [← List.append_assoc];exact uh HR),hbu⟩
theorem lists_any (n:Nat):∀ (v:JT) (cs:List Value) (p:List Nat) (B:Nat) (u:World),SizeOf.sizeOf v < n→nds v≤1000000000→VRep u B v cs p→Calls Tryz.prog 42 #[.agg cs.toArray] u (LQ u B v p):=by
 induction n with
 | zero=>intro v cs p B u h;omega
 | succ n IH =>
   intro v cs p B u hn hnd h
   cases h with
   | @mk k t d x l f lv fv css gss ps qs hl hf h1 h2 h3 h4 hle hfe =>
     obtain ⟨oa,c,rfl,_⟩:=mm.SV.form (mm.own_sv hl)
     obtain ⟨ob,c',rfl,_⟩:=mm.SV.form (mm.own_sv hf)
     have hnd':=hnd
     rw [nds_mk] at hnd
     have hll:l.length≤(l.map nds).sum:=len_sum l nds nds_pos
     have hfl:f.length≤(f.map fun p=>nds p.2).sum:=len_sum f (fun p=>nds p.2) (fun p=>nds_pos p.2)
     refine (lists_step k t d.neg d.dg d.ex x l f oa ob c c' css gss ps qs B u hl hf h1 h2 h3 h4 hle hfe (by omega) (by omega) (by omega)
      (fun v hv cs p u hr=>IH v cs p B u (by have:=sz_l (k:=k) (t:=t) (d:=d) (x:=x) (f:=f) hv;omega) (by have:=mem_sum nds hv;omega) hr)
      (fun q hq cs p u hr=>IH q.2 cs p B u (by have:=sz_f (k:=k) (t:=t) (d:=d) (x:=x) (l:=l) hq;omega) (by have:=mem_sum (fun p:ByteArray × JT=>nds p.2) hq;omega) hr)).mono ?_
     rintro e u' ⟨oo,cc,L,rfl,hL,hr,hlr,hb⟩
     refine ⟨oo,cc,L,rfl,by rw [nds_mk];exact hL,hr,⟨hlr.row,hlr.sub.trans ?_⟩,hb⟩
     simp only [List.append_assoc]
     exact (List.Sublist.refl (own (.slice oa l.length c))).append (List.sublist_append_right _ _)
end Go.Proofs.YtilhjecnkaokeaaGreatDoor.apv
namespace Go.Proofs.YtilhjecnkaokeaaGreatDoor.apf
open Go.RowKit Go.Proofs.YtilhjecnkaokeaaGreatDoor.ap Go.Proofs.YtilhjecnkaokeaaGreatDoor.rd
open Go.Proofs.YtilhjecnkaokeaaGreatDoor.mm (row_keep row_lt)
structure LR (u:World) (B:Nat) (L:List Value) (bl:List Nat):Prop where
 row:∀ x∈L,∃ l,OB u B x l∧l.length≤1000000000
 sub:(L.flatMap own).Sublist bl
theorem LR.add {u:World}{B:Nat}{L M:List Value}{bl bm:List Nat} (h:LR u B L bl) (k:LR u B M bm):LR u B (L++M) (bl++bm) :=
 ⟨fun x hx=>(List.mem_append.1 hx).elim (h.row x) (k.row x),by rw [List.flatMap_append];exact h.sub.append k.sub⟩
theorem LR.back {u w:World}{B:Nat}{L:List Value}{bl:List Nat} (h:LR w B L bl) (hk:∀ b∈bl,u.heap[b]?=w.heap[b]?):LR u B L bl:=by
 refine ⟨fun x hx=>?_,h.sub⟩
 obtain ⟨l,hl,hn⟩:=h.row x hx
 refine ⟨l,hl.kp (fun k hkx=>hk k (h.sub.subset (List.mem_flatMap.2 ⟨x,hx,?_⟩))),hn⟩
 simp [own,hkx]
theorem LR.one {u:World}{B:Nat}{L:List Value}{bl:List Nat} (h:LR u B L bl):∀ x∈L,x.oneCell'=true:=by
 intro x hx
 obtain ⟨l,hl,_⟩:=h.row x hx
 obtain ⟨oa,c,rfl⟩:=hl.form
 rfl
def LQ (u:World) (B:Nat) (v:JT) (p:List Nat) (e:Ending) (u':World):Prop :=
 ∃ (oa:Option Addr) (c:Nat) (L:List Value),e=.returned (.slice oa L.length c)∧L.length=nds v∧u'.ownsRow u.heap.size 26 1 (.slice oa L.length c) L.length L∧LR u B L p∧Below u.heap.size u u'
set_option maxRecDepth 100000 in
set_option maxHeartbeats 6400000 in
theorem lists_step (k:Int) (t:Bool) (dn:Bool) (dg:ByteArray) (dx:Int) (x:ByteArray) (l:List JT) (f:List (ByteArray × JT)) (oa ob:Option Addr) (c c':Nat) (css gss:List (List Value)) (ps qs:List (List Nat)) (B:Nat) (u:World)
 (hl:u.ownsRow B 28 8 (.slice oa l.length c) l.length css.flatten) (hf:u.ownsRow B 74 9 (.slice ob f.length c') f.length (fcs f gss)) (h1:css.length=l.length) (h2:ps.length=l.length) (h3:gss.length=f.length) (h4:qs.length=f.length)
 (hle:∀ (i:Nat) (v:JT) (c:List Value) (p:List Nat),l[i]?=some v→css[i]?=some c→ps[i]?=some p→VRep u B v c p)
 (hfe:∀ (i:Nat) (n:ByteArray) (v:JT) (c:List Value) (p:List Nat),f[i]?=some (n,v)→gss[i]?=some c→qs[i]?=some p→VRep u B v c p)
 (hnd:(l.map nds).sum+(f.map fun p=>nds p.2).sum≤1000000000) (hln:l.length≤1000000000) (hfn:f.length≤1000000000)
 (IH1:∀ v∈l,∀ (cs:List Value) (p:List Nat) (u:World),VRep u B v cs p→Calls Tryz.prog 43 #[.agg cs.toArray] u (LQ u B v p))
 (IH2:∀ q∈f,∀ (cs:List Value) (p:List Nat) (u:World),VRep u B q.2 cs p→Calls Tryz.prog 43 #[.agg cs.toArray] u (LQ u B q.2 p)) :
 Calls Tryz.prog 43 #[.agg #[.int .i64 k,.bool t,.bool dn,.string dg,.int .i64 dx,.string x,.slice oa l.length c,.slice ob f.length c']] u fun e u'=>∃ (oo:Option Addr) (cc:Nat) (L:List Value),e=.returned (.slice oo L.length cc)∧L.length=1+(l.map nds).sum+(f.map fun p=>nds p.2).sum∧u'.ownsRow u.heap.size 26 1 (.slice oo L.length cc) L.length L∧LR u B L (own (.slice ob f.length c')++ps.flatten++qs.flatten)∧Below u.heap.size u u':=by
 have H8:Hid (∀ c∈css,c.length=8):=fun cc hc=>by
  obtain ⟨j,hj⟩:=List.getElem?_of_mem hc
  obtain ⟨hlt,_⟩:=List.getElem?_eq_some_iff.1 hj
  exact (hle j _ cc _ (List.getElem?_eq_getElem (by omega)) hj (List.getElem?_eq_getElem (by omega))).vr.len
 have H9:Hid (∀ c∈gss,c.length=8):=fun cc hc=>by
  obtain ⟨j,hj⟩:=List.getElem?_of_mem hc
  obtain ⟨hlt,_⟩:=List.getElem?_eq_some_iff.1 hj
  exact (hfe j f[j].1 f[j].2 cc _ (List.getElem?_eq_getElem (by omega)) hj (List.getElem?_eq_getElem (by omega))).vr.len
 have HL:=hide hl
 have HF:=hide hf
 have HE:=hide hle
 have HG:=hide hfe
 have I1:=hide IH1
 have I2:=hide IH2
 have B1:=hide (ss.one_box u [.int .i64 k,.bool t,.bool dn,.string dg,.int .i64 dx,.string x,.slice oa l.length c,.slice ob f.length c'])
 clear hl hf hle hfe IH1 IH2
 go_enter Tryz.func43,Tryz.ntmps43
 go_upto_region 1 with fail
 obtain ⟨q0,q1,q2⟩:=uh B1 _ rfl
 generalize u.alloc (.cells [.int .i64 k,.bool t,.bool dn,.string dg,.int .i64 dx,.string x,.slice oa l.length c,.slice ob f.length c'].toArray 28)=W at *
 obtain ⟨y0,y1,y2,y3,y4,y5,y6,y7⟩:=q0.cells
 have HX:=hide q0
 have HBW:=hide q1
 have HZ:=hide q2
 have R0:Hid ((W.alloc (.cells #[.slice ob f.length c'] 26)).ownsRow (u.heap.size+1) 26 1 (.slice (some ⟨W.heap.size,0,none⟩) 1 1) 1 [.slice ob f.length c']):=mm.own_new W (u.heap.size+1) 26 1 1 #[.slice ob f.length c'] (by omega) rfl (by unfold maxLen;omega)
 have zlen:(List.zipWith (fun (p:ByteArray × JT) c=>Value.string p.1::c) f gss).length=f.length:=by rw [List.length_zipWith,h3];omega
 have zsz:∀ c∈List.zipWith (fun (p:ByteArray × JT) c=>Value.string p.1::c) f gss,c.length=9:=by
  intro c hc
  obtain ⟨j,hj⟩:=List.getElem?_of_mem hc
  rw [List.getElem?_zipWith] at hj
  cases ha:f[j]? with
  | none=>rw [ha] at hj;simp at hj
  | some q =>
    cases hb:gss[j]? with
    | none=>rw [ha,hb] at hj;simp at hj
    | some cc =>
      rw [ha,hb] at hj
      simp only [Option.some.injEq] at hj
      rw [← hj,List.length_cons,uh H9 cc (List.mem_of_getElem? hb)]
 have L0:Hid (LR u B [.slice ob f.length c'] (own (.slice ob f.length c'))):=⟨fun y hy=>by
  simp only [List.mem_cons,List.not_mem_nil,or_false] at hy
  subst hy
  exact ⟨(List.zipWith (fun (p:ByteArray × JT) c=>Value.string p.1::c) f gss),⟨by rw [zlen];exact uh HF,zsz⟩,by rw [zlen];omega⟩,by simp⟩
 have BW0:Hid (Below (u.heap.size+1) W (W.alloc (.cells #[.slice ob f.length c'] 26))):=(Below.refl _ W).alloc (by omega) _
 clear zlen zsz
 clear q0 q1 q2 B1
 go_upto_region 2 with fail
 generalize W.alloc (.cells #[.slice ob f.length c'] 26)=W1 at *
 clear y0 y1 y2 y3 y4 y5 y6 y7
 go_wp2
 go_loopw [3,4] (fun sv iv wr=>∃ (i:Nat) (L:List Value),i≤l.length∧iv=.int .i64 (i:Int)∧Hid (wr.ownsRow (u.heap.size+1) 26 1 sv L.length L)∧Hid (L.length=1+((l.take i).map nds).sum)∧Hid (LR u B L (own (.slice ob f.length c')++(ps.take i).flatten))∧Hid (Below (u.heap.size+1) W wr)) (fun _ iv _=>l.length - (intOf iv).toNat)
 case atStart=>exact ⟨0,[.slice ob f.length c'],by omega,rfl,R0,by simp [Hid],by simpa using L0,BW0⟩
 case round =>
  obtain ⟨i,L,hi,rfl,HO,HLL,HR,HB⟩:=hrel
  have hb:=uh HB
  have hz:=uh HZ
  have hbu:Below u.heap.size u wr:=(uh HBW).trans (hb.mono (by omega))
  have hzr:u.heap.size+1≤wr.heap.size:=by have:=hb.size;omega
  obtain ⟨y0,y1,y2,y3,y4,y5,y6,y7⟩:=((uh HX).keep hb (by omega)).cells
  clear R0 L0 BW0
  by_cases hc:i < l.length
  · obtain ⟨v,hv⟩:∃ v,l[i]?=some v:=⟨_,List.getElem?_eq_getElem hc⟩
    obtain ⟨cc,hcc⟩:∃ c,css[i]?=some c:=⟨_,List.getElem?_eq_getElem (by omega)⟩
    obtain ⟨pp,hpp⟩:∃ c,ps[i]?=some c:=⟨_,List.getElem?_eq_getElem (by omega)⟩
    have vA:=uh HE i v cc pp hv hcc hpp
    obtain ⟨kk,tt,ng,dg2,ex2,xx,c1,m1,k1,c2,m2,k2,rfl⟩:=vA.form
    obtain ⟨a,c'',e,_,_,hat0⟩:=(mm.own_sv (mm.row_below (uh HL) hbu (Nat.le_refl _))).some (by omega)
    simp only [Value.slice.injEq] at e
    obtain ⟨rfl,_,rfl⟩:=e
    obtain ⟨x0,x1,x2,x3,x4,x5,x6,x7⟩:=cells8 (sv_at (uh H8) hat0 hcc)
    generalize ha:a.add (i*8)=ad at *
    have hi1:(i:Int) < (l.length:Int):=by omega
    have hi0:(0:Int)≤(i:Int):=by omega
    have CI:=hide (uh I1 v (List.mem_of_getElem? hv) _ pp wr (vA.keep fun b hb'=>hbu.block b (vA.ge b hb').2))
    have hsum:((l.take (i+1)).map nds).sum=((l.take i).map nds).sum+nds v:=by rw [take_succ' hv,List.map_append,List.sum_append_nat];simp
    have hle2:((l.take (i+1)).map nds).sum≤(l.map nds).sum:=by
     have:=sum_take_le (l.map nds) (i+1)
     rwa [← List.map_take] at this
    have HSUM:=hide hsum
    have HLE2:=hide hle2
    have HPG:=hide (fun b (hb':b∈pp)=>hbu.block b (vA.ge b hb').2)
    have HTK:Hid (ps.take (i+1)=ps.take i++[pp]):=take_succ' hpp
    clear hat0 hcc hpp vA hv hsum hle2 hz hb hbu
    go_wp2_with (first
     | (go_at_call 43;refine (uh CI).mono ?_;rintro e u2 ⟨oo,c2',M,rfl,hM,rM,lM,bM⟩
        have HM:=hide hM
        have hbd:Hid (L.length+M.length≤2000000000):=by refine hide ?_;have:=uh HLL;have:=uh HSUM;have:=uh HLE2;omega
        clear hM
        have O1:=hide (mm.row_below (uh HO) bM (Nat.le_refl _))
        have SM:=hide (mm.own_sv rM)
        have LM:=hide (lM.back (u:=u) (fun b hb'=>(uh HPG b hb').symm))
        have M1:=hide lM.one
        have BM:=hide bM
        have hsz:Hid (u.heap.size+1≤u2.heap.size):=Nat.le_trans hzr bM.size
        clear rM lM bM)
     | (at_builtin;refine mm.wpList_append_sv (P:=Tryz.prog) rfl _ _ 47 rfl (u.heap.size+1) 26 _ 1 24 undW infoW rfl (by decide) _ _ L.length M.length L M rfl rfl (uh O1) (uh SM) (uh M1) (by have:=uh hbd;unfold maxLen;omega) (by have:=uh hbd;omega) (uh hsz) ?_
        intro v' w4 hr hg _))
    have hbe:Below (u.heap.size+1) wr w4:=mm.row_bl (uh O1) hg ((uh BM).mono hzr) (Nat.le_refl _) (uh hsz)
    refine ⟨⟨i+1,L++M,by omega,by go_num,by rw [List.length_append];exact hr,?_,?_,(uh HB).trans hbe⟩,by simp [intOf];omega⟩
    · refine hide ?_
      rw [List.length_append,uh HSUM,uh HM,uh HLL]
      omega
    · refine hide ?_
      rw [uh HTK,List.flatten_append,← List.append_assoc]
      simpa using (uh HR).add (uh LM)
  · obtain rfl:i=l.length:=by omega
    have hno:¬ (l.length:Int) < (l.length:Int):=by omega
    rw [List.take_of_length_le (Nat.le_refl _)] at HLL
    rw [List.take_of_length_le (by omega)] at HR
    clear hb hbu hz hzr
    go_wp2
    go_loopw [3,5] (fun sv iv wr=>∃ (i:Nat) (L:List Value),i≤f.length∧iv=.int .i64 (i:Int)∧Hid (wr.ownsRow (u.heap.size+1) 26 1 sv L.length L)∧Hid (L.length=1+(l.map nds).sum+((f.take i).map fun p=>nds p.2).sum)∧Hid (LR u B L (own (.slice ob f.length c')++ps.flatten++(qs.take i).flatten))∧Hid (Below (u.heap.size+1) W wr)) (fun _ iv _=>f.length - (intOf iv).toNat)
    case atStart=>exact ⟨0,L,by omega,rfl,HO,by simpa [Hid] using HLL,by simpa using HR,HB⟩
    case round =>
     clear HO HLL HR HB y0 y1 y2 y3 y4 y5 y6 y7
     obtain ⟨i,L,hi,rfl,HO,HLL,HR,HB⟩:=hrel
     have hb:=uh HB
     have hbu:Below u.heap.size u wr:=(uh HBW).trans (hb.mono (by omega))
     have hzr:u.heap.size+1≤wr.heap.size:=by have:=hb.size;have:=uh HZ;omega
     obtain ⟨y0,y1,y2,y3,y4,y5,y6,y7⟩:=((uh HX).keep hb (by omega)).cells
     by_cases hc:i < f.length
     · obtain ⟨v,hv⟩:∃ v,f[i]?=some v:=⟨_,List.getElem?_eq_getElem hc⟩
       obtain ⟨cc,hcc⟩:∃ c,gss[i]?=some c:=⟨_,List.getElem?_eq_getElem (by omega)⟩
       obtain ⟨pp,hpp⟩:∃ c,qs[i]?=some c:=⟨_,List.getElem?_eq_getElem (by omega)⟩
       have vA:=uh HG i v.1 v.2 cc pp hv hcc hpp
       obtain ⟨kk,tt,ng,dg2,ex2,xx,c1,m1,k1,c2,m2,k2,rfl⟩:=vA.form
       obtain ⟨a,c'',e,_,_,hat0⟩:=(mm.own_sv (mm.row_below (uh HF) hbu (Nat.le_refl _))).some (by omega)
       simp only [Value.slice.injEq] at e
       obtain ⟨rfl,_,rfl⟩:=e
       have hat:∀ (j:Nat) (u:Value),[.string v.1,.int .i64 kk,.bool tt,.bool ng,.string dg2,.int .i64 ex2,.string xx,.slice c1 m1 k1,.slice c2 m2 k2][j]?=some u→wr.cell? ((a.add (i*9)).add j)=some u:=by
        intro j u hu
        have hj:j < 9:=(List.getElem?_eq_some_iff.1 hu).1
        rw [mm.add_add]
        exact hat0 _ u (by rw [fcs_at (uh H9) hv hcc hj];exact hu)
       obtain ⟨xn,x0,x1,x2,x3,x4,x5,x6,x7⟩:=cells9 hat
       generalize ha:a.add (i*9)=ad at *
       have hi1:(i:Int) < (f.length:Int):=by omega
       have hi0:(0:Int)≤(i:Int):=by omega
       have CI:=hide (uh I2 v (List.mem_of_getElem? hv) _ pp wr (vA.keep fun b hb'=>hbu.block b (vA.ge b hb').2))
       have hsum:((f.take (i+1)).map fun p=>nds p.2).sum=((f.take i).map fun p=>nds p.2).sum+nds v.2:=by rw [take_succ' hv,List.map_append,List.sum_append_nat];simp
       have hle2:((f.take (i+1)).map fun p=>nds p.2).sum≤(f.map fun p=>nds p.2).sum:=by
        have:=sum_take_le (f.map fun p=>nds p.2) (i+1)
        rwa [← List.map_take] at this
       have HSUM:=hide hsum
       have HLE2:=hide hle2
       have HPG:=hide (fun b (hb':b∈pp)=>hbu.block b (vA.ge b hb').2)
       have HTK:Hid (qs.take (i+1)=qs.take i++[pp]):=take_succ' hpp
       clear hat hat0 hcc hpp vA hv hsum hle2 hb hbu
       go_wp2_with (first
        | (go_at_call 43;refine (uh CI).mono ?_;rintro e u2 ⟨oo,c2',M,rfl,hM,rM,lM,bM⟩
           have HM:=hide hM
           have hbd:Hid (L.length+M.length≤2000000000):=by refine hide ?_;have:=uh HLL;have:=uh HSUM;have:=uh HLE2;omega
           clear hM
           have O1:=hide (mm.row_below (uh HO) bM (Nat.le_refl _))
           have SM:=hide (mm.own_sv rM)
           have LM:=hide (lM.back (u:=u) (fun b hb'=>(uh HPG b hb').symm))
           have M1:=hide lM.one
           have BM:=hide bM
           have hsz:Hid (u.heap.size+1≤u2.heap.size):=Nat.le_trans hzr bM.size
           clear rM lM bM)
        | (at_builtin;refine mm.wpList_append_sv (P:=Tryz.prog) rfl _ _ 47 rfl (u.heap.size+1) 26 _ 1 24 undW infoW rfl (by decide) _ _ L.length M.length L M rfl rfl (uh O1) (uh SM) (uh M1) (by have:=uh hbd;unfold maxLen;omega) (by have:=uh hbd;omega) (uh hsz) ?_
           intro v' w4 hr hg _))
       have hbe:Below (u.heap.size+1) wr w4:=mm.row_bl (uh O1) hg ((uh BM).mono hzr) (Nat.le_refl _) (uh hsz)
       refine ⟨⟨i+1,L++M,by omega,by go_num,by rw [List.length_append];exact hr,?_,?_,(uh HB).trans hbe⟩,by simp [intOf];omega⟩
       · refine hide ?_
         rw [List.length_append,uh HSUM,uh HM,uh HLL]
         omega
       · refine hide ?_
         rw [uh HTK,List.flatten_append,← List.append_assoc]
         simpa using (uh HR).add (uh LM)
     · obtain rfl:i=f.length:=by omega
       have hno2:¬ (f.length:Int) < (f.length:Int):=by omega
       rw [List.take_of_length_le (Nat.le_refl _)] at HLL
       rw [List.take_of_length_le (by omega)] at HR
       obtain ⟨oo,co,eo,_⟩:=mm.SV.form (mm.own_sv (uh HO))
       subst eo
       clear hb
       go_wp2
       go_ret
       exact ⟨oo,co,L,rfl,uh HLL,owns_base (uh HO) (Nat.le_succ _),by first|exact uh HR|(rw [← List.append_assoc];exact uh HR),hbu⟩
theorem lists_any (n:Nat):∀ (v:JT) (cs:List Value) (p:List Nat) (B:Nat) (u:World),SizeOf.sizeOf v < n→nds v≤1000000000→VRep u B v cs p→Calls Tryz.prog 43 #[.agg cs.toArray] u (LQ u B v p):=by
 induction n with
 | zero=>intro v cs p B u h;omega
 | succ n IH =>
   intro v cs p B u hn hnd h
   cases h with
   | @mk k t d x l f lv fv css gss ps qs hl hf h1 h2 h3 h4 hle hfe =>
     obtain ⟨oa,c,rfl,_⟩:=mm.SV.form (mm.own_sv hl)
     obtain ⟨ob,c',rfl,_⟩:=mm.SV.form (mm.own_sv hf)
     have hnd':=hnd
     rw [nds_mk] at hnd
     have hll:l.length≤(l.map nds).sum:=len_sum l nds nds_pos
     have hfl:f.length≤(f.map fun p=>nds p.2).sum:=len_sum f (fun p=>nds p.2) (fun p=>nds_pos p.2)
     refine (lists_step k t d.neg d.dg d.ex x l f oa ob c c' css gss ps qs B u hl hf h1 h2 h3 h4 hle hfe (by omega) (by omega) (by omega)
      (fun v hv cs p u hr=>IH v cs p B u (by have:=sz_l (k:=k) (t:=t) (d:=d) (x:=x) (f:=f) hv;omega) (by have:=mem_sum nds hv;omega) hr)
      (fun q hq cs p u hr=>IH q.2 cs p B u (by have:=sz_f (k:=k) (t:=t) (d:=d) (x:=x) (l:=l) hq;omega) (by have:=mem_sum (fun p:ByteArray × JT=>nds p.2) hq;omega) hr)).mono ?_
     rintro e u' ⟨oo,cc,L,rfl,hL,hr,hlr,hb⟩
     refine ⟨oo,cc,L,rfl,by rw [nds_mk];exact hL,hr,⟨hlr.row,hlr.sub.trans ?_⟩,hb⟩
     simp only [List.append_assoc]
     exact (List.sublist_append_right _ _)
end Go.Proofs.YtilhjecnkaokeaaGreatDoor.apf
namespace Go.Proofs.YtilhjecnkaokeaaGreatDoor.rd
open Go.RowKit Go.Proofs.YtilhjecnkaokeaaGreatDoor.ap
open Go.Proofs.YtilhjecnkaokeaaGreatDoor.mm (row_keep row_lt)
theorem kinds {w:World}{B B' e e' s s' n m:Nat}{v v':Value}{xs ys:List Value} (h:w.ownsRow B e s v n xs) (h':w.ownsRow B' e' s' v' m ys) (he:e≠e'):∀ k,v.ownBlock=some k→v'.ownBlock≠some k:=by
 intro k hk hk'
 obtain ⟨_,⟨rfl,_⟩|⟨g1,cap1,cur1,rfl,_,hg1,_⟩⟩:=h
 · cases hk
 · obtain ⟨_,⟨rfl,_⟩|⟨g2,cap2,cur2,rfl,_,hg2,_⟩⟩:=h'
   · cases hk'
   · cases hk
     cases hk'
     rw [hg1] at hg2
     simp only [Option.some.injEq,Obj.cells.injEq] at hg2
     exact he hg2.2.1
theorem ds_of {L:List Value} (h:(L.flatMap own).Nodup) (i j:Nat) (x y:Value) (k:Nat) (hij:i≠j) (hx:L[i]?=some x) (hy:L[j]?=some y) (hk:x.ownBlock=some k):y.ownBlock≠some k:=by
 have key:∀ (L:List Value),(L.flatMap own).Nodup→∀ (i j:Nat),i < j→∀ x y k,L[i]?=some x→L[j]?=some y→x.ownBlock=some k→y.ownBlock≠some k:=by
  intro L
  induction L with
  | nil=>intro _ i j _ x y k hx;simp at hx
  | cons a L ih =>
    intro h i j hij x y k hx hy hk hk'
    rw [List.flatMap_cons,List.nodup_append] at h
    cases j with
    | zero=>omega
    | succ j =>
      rw [List.getElem?_cons_succ] at hy
      cases i with
      | zero =>
        simp only [List.getElem?_cons_zero,Option.some.injEq] at hx
        subst hx
        exact h.2.2 k (by simp [own,hk]) k (List.mem_flatMap.2 ⟨y,List.mem_of_getElem? hy,by simp [own,hk']⟩) rfl
      | succ i =>
        rw [List.getElem?_cons_succ] at hx
        exact ih h.2.1 i j (by omega) x y k hx hy hk hk'
 intro hk'
 rcases Nat.lt_or_gt_of_ne hij with q|q
 · exact key L h i j q x y k hx hy hk hk'
 · exact key L h j i q y x k hy hx hk' hk
set_option maxRecDepth 100000 in
set_option maxHeartbeats 6400000 in
theorem rapart_any (vs:List JT) (css:List (List Value)) (ps:List (List Nat)) (oa:Option Addr) (c B:Nat) (u:World) (hsv:mm.SV u (.slice oa vs.length c) vs.length 8 css.flatten) (h1:css.length=vs.length) (h2:ps.length=vs.length)
 (hV:∀ (i:Nat) (v:JT) (x:List Value) (p:List Nat),vs[i]?=some v→css[i]?=some x→ps[i]?=some p→VRep u B v x p) (hnd:ps.flatten.Nodup) (hB:B≤u.heap.size) (hs:(vs.map nds).sum≤1000000000) :
 Calls Tryz.prog 17 #[.slice oa vs.length c] u fun e u'=>e=.returned (.bool true)∧Below B u u':=by
 have H8:Hid (∀ c∈css,c.length=8):=fun cc hc=>by
  obtain ⟨j,hj⟩:=List.getElem?_of_mem hc
  obtain ⟨hlt,_⟩:=List.getElem?_eq_some_iff.1 hj
  exact (hV j _ cc _ (List.getElem?_eq_getElem (by omega)) hj (List.getElem?_eq_getElem (by omega))).vr.len
 have hvl:vs.length≤1000000000:=Nat.le_trans (len_sum vs nds nds_pos) hs
 have HS:=hide hsv
 have HV:=hide hV
 have HN:=hide hnd
 clear hsv hV hnd
 go_enter Tryz.func17,Tryz.ntmps17
 go_wp2
 go_loopw [3,4,5] (fun s3 s4 iv wr=>∃ (i:Nat) (L M:List Value),i≤vs.length∧iv=.int .i64 (i:Int)∧Hid (wr.ownsRow u.heap.size 25 1 s3 L.length L)∧Hid (wr.ownsRow u.heap.size 26 1 s4 M.length M)∧Hid (L.length=((vs.take i).map nds).sum∧M.length=((vs.take i).map nds).sum)∧Hid (apv.LR u B L (ps.take i).flatten)∧Hid (apf.LR u B M (ps.take i).flatten)∧Hid (Below u.heap.size u wr)) (fun _ _ iv _=>vs.length - (intOf iv).toNat)
 case atStart=>exact ⟨0,[],[],by omega,rfl,World.ownsRow_nil _ _ _ _,World.ownsRow_nil _ _ _ _,by simp [Hid],⟨by simp,by simp⟩,⟨by simp,by simp⟩,Below.refl _ _⟩
 case round =>
  obtain ⟨i,L,M,hi,rfl,HL,HM,HLn,HRL,HRM,HB⟩:=hrel
  have hbu:=uh HB
  by_cases hc:i < vs.length
  · obtain ⟨v,hv⟩:∃ v,vs[i]?=some v:=⟨_,List.getElem?_eq_getElem hc⟩
    obtain ⟨cc,hcc⟩:∃ c,css[i]?=some c:=⟨_,List.getElem?_eq_getElem (by omega)⟩
    obtain ⟨pp,hpp⟩:∃ c,ps[i]?=some c:=⟨_,List.getElem?_eq_getElem (by omega)⟩
    have vA:=uh HV i v cc pp hv hcc hpp
    obtain ⟨kk,tt,ng,dg2,ex2,xx,c1,m1,k1,c2,m2,k2,rfl⟩:=vA.form
    obtain ⟨a,c'',e,_,_,hat0⟩:=(uh HS).some (by omega)
    simp only [Value.slice.injEq] at e
    obtain ⟨rfl,_,rfl⟩:=e
    have HAT:=hide (sv_at (uh H8) hat0 hcc)
    obtain ⟨x0,x1,x2,x3,x4,x5,x6,x7⟩:=cells8 (fun j y hy=>kc hbu (uh HAT j y hy))
    generalize ha:a.add (i*8)=ad at *
    have hi1:(i:Int) < (vs.length:Int):=by omega
    have hi0:(0:Int)≤(i:Int):=by omega
    have hsum:((vs.take (i+1)).map nds).sum=((vs.take i).map nds).sum+nds v:=by rw [take_succ' hv,List.map_append,List.sum_append_nat];simp
    have hle2:((vs.take (i+1)).map nds).sum≤(vs.map nds).sum:=by
     have:=sum_take_le (vs.map nds) (i+1)
     rwa [← List.map_take] at this
    have hnv:nds v≤1000000000:=by omega
    have CV:=hide (fun (w:World) (hw:Below u.heap.size u w)=>apv.lists_any _ v _ pp B w (Nat.lt_succ_self _) hnv (vA.keep fun b hb'=>hw.block b (vA.ge b hb').2))
    have CF:=hide (fun (w:World) (hw:Below u.heap.size u w)=>apf.lists_any _ v _ pp B w (Nat.lt_succ_self _) hnv (vA.keep fun b hb'=>hw.block b (vA.ge b hb').2))
    have HPG:=hide (fun (w:World) (hw:Below u.heap.size u w) b (hb':b∈pp)=>(hw.block b (vA.ge b hb').2).symm)
    have HTK:Hid (ps.take (i+1)=ps.take i++[pp]):=take_succ' hpp
    have HSUM:=hide hsum
    have HLE2:=hide hle2
    have CV0:=hide (uh CV wr hbu)
    clear hat0 hcc hpp vA hv hsum hle2 hbu
    go_wp2_with (first
     | (go_at_call 42;refine (uh CV0).mono ?_;rintro e u2 ⟨oo,c2',L2,rfl,hM2,rM,lM,bM⟩
        have HM2:=hide hM2
        have hbd:Hid (L.length+L2.length≤2000000000):=by refine hide ?_;have:=(uh HLn).1;have:=uh HSUM;have:=uh HLE2;omega
        clear hM2
        have O1:=hide (mm.row_below (uh HL) bM (Nat.le_refl _))
        have SM:=hide (mm.own_sv rM)
        have LM:=hide (lM.back (u:=u) (uh HPG wr (uh HB)))
        have M1:=hide lM.one
        have BM:=hide bM
        have hsz:Hid (u.heap.size≤u2.heap.size):=Nat.le_trans (uh HB).size bM.size
        have O2:=hide (mm.row_below (uh HM) bM (Nat.le_refl _))
        clear rM lM bM)
     | (at_builtin;refine mm.wpList_append_sv (P:=Tryz.prog) rfl _ _ 46 rfl u.heap.size 25 _ 1 24 apv.undW apv.infoW rfl (by decide) _ _ L.length L2.length L L2 rfl rfl (uh O1) (uh SM) (uh M1) (by have:=uh hbd;unfold maxLen;omega) (by have:=uh hbd;omega) (uh hsz) ?_
        intro v' w4 hr hg _
        have hb4:Below u.heap.size u w4:=(uh HB).trans (mm.row_bl (uh O1) hg ((uh BM).mono (uh HB).size) (Nat.le_refl _) (uh hsz))
        have O3:=hide (mm.row_far (uh O2) hg (fun k hk q=>kinds (uh O1) (uh O2) (by decide) k q hk))
        have HR4:=hide hr
        have HB4:=hide hb4
        have CF0:=hide (uh CF w4 hb4)
        obtain ⟨x0,x1,x2,x3,x4,x5,x6,x7⟩:=cells8 (fun j y hy=>kc hb4 (uh HAT j y hy))
        clear hr hg hb4)
     | (go_at_call 43;refine (uh CF0).mono ?_;rintro e u5 ⟨oo5,c5,M2,rfl,hN2,rN,lN,bN⟩
        have HN2:=hide hN2
        have hbd5:Hid (M.length+M2.length≤2000000000):=by refine hide ?_;have:=(uh HLn).2;have:=uh HSUM;have:=uh HLE2;omega
        clear hN2
        have O5:=hide (mm.row_below (uh O3) bN (Nat.le_refl _))
        have SN:=hide (mm.own_sv rN)
        have LN:=hide (lN.back (u:=u) (uh HPG w4 (uh HB4)))
        have N1:=hide lN.one
        have BN:=hide bN
        have hsz5:Hid (u.heap.size≤u5.heap.size):=Nat.le_trans (uh HB4).size bN.size
        have O6:=hide (mm.row_below (uh HR4) bN (Nat.le_refl _))
        clear rN lN bN)
     | (at_builtin;refine mm.wpList_append_sv (P:=Tryz.prog) rfl _ _ 47 rfl u.heap.size 26 _ 1 24 apf.undW apf.infoW rfl (by decide) _ _ M.length M2.length M M2 rfl rfl (uh O5) (uh SN) (uh N1) (by have:=uh hbd5;unfold maxLen;omega) (by have:=uh hbd5;omega) (uh hsz5) ?_
        intro v6 w6 hr6 hg6 _))
    have hb6:Below u.heap.size u w6:=(uh HB4).trans (mm.row_bl (uh O5) hg6 ((uh BN).mono (uh HB4).size) (Nat.le_refl _) (uh hsz5))
    have O7:=mm.row_far (uh O6) hg6 (fun k hk q=>kinds (uh O6) (uh O5) (by decide) k hk q)
    refine ⟨⟨i+1,L++L2,M++M2,by omega,by go_num,by rw [List.length_append];exact O7,by rw [List.length_append];exact hr6,?_,?_,?_,hb6⟩,by simp [intOf];omega⟩
    · refine hide ?_
      rw [List.length_append,List.length_append,uh HSUM,uh HM2,uh HN2,(uh HLn).1,(uh HLn).2]
      exact ⟨rfl,rfl⟩
    · refine hide ?_
      rw [uh HTK,List.flatten_append]
      simpa using (uh HRL).add (uh LM)
    · refine hide ?_
      rw [uh HTK,List.flatten_append]
      simpa using (uh HRM).add (uh LN)
  · obtain rfl:i=vs.length:=by omega
    have hno:¬ (vs.length:Int) < (vs.length:Int):=by omega
    rw [List.take_of_length_le (Nat.le_refl _)] at HLn
    rw [List.take_of_length_le (by omega)] at HRL HRM
    obtain ⟨o3,c3,e3,_⟩:=mm.SV.form (mm.own_sv (uh HL))
    obtain ⟨o4,c4,e4,_⟩:=mm.SV.form (mm.own_sv (uh HM))
    subst e3 e4
    obtain ⟨ls,hls1,hls2⟩:∃ ls:List (List (List Value)),ls.length=L.length∧∀ (j:Nat) (x:Value) (l:List (List Value)),L[j]?=some x→ls[j]?=some l→apv.OB u B x l∧l.length≤1000000000:=by
     have aux:∀ L:List Value,(∀ x∈L,∃ l,apv.OB u B x l∧l.length≤1000000000)→∃ ls:List (List (List Value)),ls.length=L.length∧∀ (j:Nat) (x:Value) (l:List (List Value)),L[j]?=some x→ls[j]?=some l→apv.OB u B x l∧l.length≤1000000000:=by
      intro L
      induction L with
      | nil=>intro _;exact ⟨[],rfl,fun j x l h=>by simp at h⟩
      | cons a L ih =>
        intro h
        obtain ⟨l,hl⟩:=h a (by simp)
        obtain ⟨ls,e,h2⟩:=ih (fun x hx=>h x (by simp [hx]))
        refine ⟨l::ls,by simp [e],fun j x l' h3 h4=>?_⟩
        cases j with
        | zero=>simp only [List.getElem?_cons_zero,Option.some.injEq] at h3 h4;subst h3 h4;exact hl
        | succ j=>exact h2 j x l' (by simpa using h3) (by simpa using h4)
     exact aux L (uh HRL).row
    obtain ⟨fs,hfs1,hfs2⟩:∃ ls:List (List (List Value)),ls.length=M.length∧∀ (j:Nat) (x:Value) (l:List (List Value)),M[j]?=some x→ls[j]?=some l→apf.OB u B x l∧l.length≤1000000000:=by
     have aux:∀ L:List Value,(∀ x∈L,∃ l,apf.OB u B x l∧l.length≤1000000000)→∃ ls:List (List (List Value)),ls.length=L.length∧∀ (j:Nat) (x:Value) (l:List (List Value)),L[j]?=some x→ls[j]?=some l→apf.OB u B x l∧l.length≤1000000000:=by
      intro L
      induction L with
      | nil=>intro _;exact ⟨[],rfl,fun j x l h=>by simp at h⟩
      | cons a L ih =>
        intro h
        obtain ⟨l,hl⟩:=h a (by simp)
        obtain ⟨ls,e,h2⟩:=ih (fun x hx=>h x (by simp [hx]))
        refine ⟨l::ls,by simp [e],fun j x l' h3 h4=>?_⟩
        cases j with
        | zero=>simp only [List.getElem?_cons_zero,Option.some.injEq] at h3 h4;subst h3 h4;exact hl
        | succ j=>exact h2 j x l' (by simpa using h3) (by simpa using h4)
     exact aux M (uh HRM).row
    have hLl:L.length≤1000000000:=by have:=(uh HLn).1;omega
    have hMl:M.length≤1000000000:=by have:=(uh HLn).2;omega
    have getL:∀ (j:Nat) (x:Value),L[j]?=some x→∃ l,ls[j]?=some l:=fun j x hx=>⟨_,List.getElem?_eq_getElem (by have:=(List.getElem?_eq_some_iff.1 hx).1;omega)⟩
    have getM:∀ (j:Nat) (x:Value),M[j]?=some x→∃ l,fs[j]?=some l:=fun j x hx=>⟨_,List.getElem?_eq_getElem (by have:=(List.getElem?_eq_some_iff.1 hx).1;omega)⟩
    have ltL:∀ (j:Nat) (x:Value) (k:Nat),L[j]?=some x→x.ownBlock=some k→k < u.heap.size:=fun j x k hx hk=>by
     obtain ⟨l,hl⟩:=getL j x hx
     exact (hls2 j x l hx hl).1.lt k hk
    have ltM:∀ (j:Nat) (x:Value) (k:Nat),M[j]?=some x→x.ownBlock=some k→k < u.heap.size:=fun j x k hx hk=>by
     obtain ⟨l,hl⟩:=getM j x hx
     exact (hfs2 j x l hx hl).1.lt k hk
    have oL:∀ a,o3=some a→u.heap.size≤a.block:=fun a ha=>by
     rcases (uh HL).2 with ⟨e,_⟩|⟨g,cap,cur,e,hb,_⟩
     · simp only [Value.slice.injEq] at e;rw [e.1] at ha;cases ha
     · simp only [Value.slice.injEq] at e;rw [e.1] at ha;cases ha;exact hb
    have oM:∀ a,o4=some a→u.heap.size≤a.block:=fun a ha=>by
     rcases (uh HM).2 with ⟨e,_⟩|⟨g,cap,cur,e,hb,_⟩
     · simp only [Value.slice.injEq] at e;rw [e.1] at ha;cases ha
     · simp only [Value.slice.injEq] at e;rw [e.1] at ha;cases ha;exact hb
    have C1:=apv.apart_any ls L o3 c3 B wr hls1.symm (fun q=>by
     have h0:L.length=0:=by
      obtain ⟨_,oa,c,e,_,_,h3,_⟩:=mm.own_sv (uh HL)
      simp only [Value.slice.injEq] at e
      exact (h3 (by rw [← e.1];exact q)).1
     exact List.eq_nil_of_length_eq_zero (by omega))
     (fun j x l hx hl=>(hls2 j x l hx hl).1.kp (fun k hk=>hbu.block k (ltL j x k hx hk)))
     (fun i j x y k hij hx hy hk=>ds_of ((uh HRL).sub.nodup (uh HN)) i j x y k hij hx hy hk)
     (fun a ha j y hy=>by
      obtain ⟨_,oa,c,e,_,_,_,h4⟩:=mm.own_sv (uh HL)
      simp only [Value.slice.injEq] at e
      exact h4 a (by rw [← e.1];exact ha) j y hy)
     (fun a ha j x k hx hk=>by have:=oL a ha;have:=ltL j x k hx hk;omega)
     (Nat.le_trans hB hbu.size) (by omega) (fun l hl=>by
      obtain ⟨j,hj⟩:=List.getElem?_of_mem hl
      have hlt:=(List.getElem?_eq_some_iff.1 hj).1
      exact (hls2 j _ l (List.getElem?_eq_getElem (by omega)) hj).2)
    rw [hls1] at C1
    have CC1:=hide C1
    have CC2:=hide (fun (w6:World) (hO:apv.Oth wr w6 L) (hb6:Below B wr w6)=>apf.apart_any fs M o4 c4 B w6 hfs1.symm (fun q=>by
     have h0:M.length=0:=by
      obtain ⟨_,oa,c,e,_,_,h3,_⟩:=mm.own_sv (uh HM)
      simp only [Value.slice.injEq] at e
      exact (h3 (by rw [← e.1];exact q)).1
     exact List.eq_nil_of_length_eq_zero (by omega))
     (fun j x l hx hl=>(hfs2 j x l hx hl).1.kp (fun k hk=>by
      rw [hO k (Nat.lt_of_lt_of_le (ltM j x k hx hk) hbu.size) (fun j2 x2 hx2 q=>by
       obtain ⟨l2,hl2⟩:=getL j2 x2 hx2
       exact kinds (hls2 j2 x2 l2 hx2 hl2).1.1 (hfs2 j x l hx hl).1.1 (by decide) k q hk)]
      exact hbu.block k (ltM j x k hx hk)))
     (fun i j x y k hij hx hy hk=>ds_of ((uh HRM).sub.nodup (uh HN)) i j x y k hij hx hy hk)
     (fun a ha j y hy=>by
      have hrow:w6.ownsRow u.heap.size 26 1 (.slice o4 M.length c4) M.length M:=row_keep (uh HM) (fun k hk=>hO k (row_lt (uh HM) k hk).2 (fun j2 x2 hx2 q=>by have:=ltL j2 x2 k hx2 q;have:=(row_lt (uh HM) k hk).1;omega))
      obtain ⟨_,oa,c,e,_,_,_,h4⟩:=mm.own_sv hrow
      simp only [Value.slice.injEq] at e
      exact h4 a (by rw [← e.1];exact ha) j y hy)
     (fun a ha j x k hx hk=>by have:=oM a ha;have:=ltM j x k hx hk;omega)
     (Nat.le_trans hB (Nat.le_trans hbu.size hb6.size)) (by omega) (fun l hl=>by
      obtain ⟨j,hj⟩:=List.getElem?_of_mem hl
      have hlt:=(List.getElem?_eq_some_iff.1 hj).1
      exact (hfs2 j _ l (List.getElem?_eq_getElem (by omega)) hj).2))
    rw [hfs1] at CC2
    clear C1 hls1 hls2 hfs1 hfs2 getL getM ltL ltM oL oM hLl hMl hbu
    go_wp2_with (first
     | (go_at_call 44;refine (uh CC1).mono ?_;rintro e w6 ⟨rfl,hb6,ho6⟩
        have C2:=hide (uh CC2 w6 ho6 hb6))
     | (go_at_call 45;refine (uh C2).mono ?_;rintro e w7 ⟨rfl,hb7,_⟩))
    go_ret
    exact ⟨rfl,((uh HB).mono hB).trans (hb6.trans hb7)⟩
end Go.Proofs.YtilhjecnkaokeaaGreatDoor.rd
