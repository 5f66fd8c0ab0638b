/- Texts in one: Sf LlV LlF Aq -/
import Derived.Test.YthakglomacijgaaGreatDoorScPG
import Derived.Test.YthakglomacijgaaGreatDoorIhPG
import Derived.Test.YthakglomacijgaaGreatDoorIePG
import Derived.Test.YthakglomacijgaaGreatDoorSePG
namespace Go.Proofs.YthakglomacijgaaGreatDoor.rd.ss
open Go.RowKit Go.Shelf Go.Lib Go.Sort
structure GF (u w4:World) (B n:Nat) (sv:Value) (xs cs:List Value) (g cap:Nat):Prop where
 row:w4.ownsRow B 62 9 (.slice (some ⟨g,0,none⟩) (n+1) cap) (n+1) (xs++cs)
 grow:(u.alloc (.cells cs.toArray 62)).grownBy w4 sv.ownBlock
 lies:sv.ownBlock=some g∨u.heap.size≤g
theorem GF.below {u w4:World}{B n:Nat}{sv:Value}{xs cs:List Value}{g cap:Nat} (h:GF u w4 B n sv xs cs g cap) (ho:u.ownsRow B 62 9 sv n xs) {m:Nat}{wr:World} (hb:Below m wr u) (hm:m≤B) (hs:m≤u.heap.size):Below m wr w4 :=
 (hb.alloc hs _).grown h.grow (by rw [World.size_alloc];omega) (fun k hk=>by have:=(mm.row_lt ho k hk).1;omega)
theorem step_addf {ops:Array Oper}{op:Oper}{a:Act}{K:Act→World→Prop}{Q:Exit→Act→World→Prop}{E0:Prop} (u W:World) (B n:Nat) (sv:Value) (xs cs:List Value) (S X:Operand) (hgd:op.guard=none)
 (ho:op.op=.call { callee:=.builtin .append,args:=#[S,X],argTypes:=#[25,25] }) (hs:a.eval S=sv) (hx:a.eval X=.slice (some ⟨u.heap.size,0,none⟩) 1 1)
 (hown:Hid (u.ownsRow B 62 9 sv n xs)) (h8:Hid (cs.length=9)) (h1:Hid (∀ v∈cs,v.oneCell'=true)) (hn:Hid (n+1≤1000000000000)) (hB:Hid (B≤u.heap.size)) (hW:W=u.alloc (.cells cs.toArray 62))
 (h:∀ g cap w4,Hid (GF u w4 B n sv xs cs g cap)→K (a.put op.dst (.slice (some ⟨g,0,none⟩) (n+1) cap)) w4) :
 if Region.wanted op (yielded ops a.tmps)=true then Oper.wp Tryz.prog op a W K Q else E0:=by
 subst hW
 obtain ⟨i0,hi,hz0,hz1,hz2⟩:=info_parts infoFd
 have hN:=uh hn
 have hb:=uh hB
 refine step_append_lies _ hgd _ _ _ ho B 62 i0 _ 9 128 undFd hi hz0 hz1 hz2 rfl (by omega) sv n xs hs (mm.row_below (uh hown) ((Below.refl _ _).alloc (Nat.le_refl _) _) (Nat.le_refl _))
  ⟨u.heap.size,0,none⟩ 1 1 cs hx (by rw [uh h8]) (fun j v hv=>?_) (uh h1) (by omega) (by unfold maxLen;omega) (by omega) (by rw [World.size_alloc];omega) (u.heap.size+1) (World.size_alloc _ _) ?_
 · rw [mm.add0,blk_cell (heap_alloc_new u _)]
   simpa using hv
 · intro g cap w4 h5 h6 h7 _
   exact h g cap w4 ⟨h5,h6,h7.imp id (fun e=>by omega)⟩
def sd (f:Fd):Fd:={ f with nm:=said f.nm }
theorem stb_id {D:List Fd} (hp:D.Pairwise (fun a b=>cmpF a b < 0)):stb D D.length=List.range D.length:=by
 unfold stb
 apply List.mergeSort_of_pairwise
 rw [List.pairwise_iff_getElem] at hp ⊢
 intro i j hi hj hij
 simp only [List.length_range] at hi hj
 have h1:=hp i j hi hj hij
 simp only [List.getElem_range]
 rw [(lx_not D j i).2]
 · rfl
 · have e:cfI D i j < 0:=by unfold cfI fdI;simpa [hi,hj] using h1
   have:=cf_sym D i j
   exact ⟨by omega,fun _=>by omega⟩
theorem one_box (w:World) (cs:List Value):∀ W,W=w.alloc (.cells cs.toArray 27)→BX W w.heap.size cs∧Below w.heap.size w W∧W.heap.size=w.heap.size+1:=by
 rintro W rfl
 exact ⟨heap_alloc_new w _,(Below.refl _ w).alloc (Nat.le_refl _) _,World.size_alloc _ _⟩
theorem below_grown (w:World) (q:Nat) (os:Array Obj):Below w.heap.size w (grow (w.drewN q) os):=by
 refine ⟨rfl,rfl,rfl,?_,fun b hb=>?_⟩
 · show w.heap.size≤(w.heap++os).size
   simp
 · show (w.heap++os)[b]?=_
   rw [Array.getElem?_append_left hb]
theorem stable_row {w:World}{B:Nat}{sv:Value}{D:List Fd} (hl:D.length < 20) (hp:D.Pairwise (fun a b=>cmpF a b < 0)) (ho:w.ownsRow B 62 9 sv D.length (D.flatMap encF)) :
 Calls Tryz.prog 77 #[sv,byNameV] w fun e w'=>e=.returned (.tuple #[])∧w'.ownsRow B 62 9 sv D.length (D.flatMap encF)∧Below B w w':=by
 rcases ho.2 with ⟨rfl,h0⟩|⟨g,cap,cur,rfl,hB,_⟩
 · refine (stable_none none 0 w).mono ?_
   rintro e w' ⟨rfl,rfl⟩
   exact ⟨rfl,ho,Below.refl _ _⟩
 · have h:=stable_any hl ho
   rw [stb_id hp,range_fd] at h
   refine h.mono ?_
   rintro e w' ⟨rfl,h1,hM⟩
   refine ⟨rfl,h1,hM.os,hM.tape,hM.output,hM.size,fun b hb=>hM.block b ?_ (by omega)⟩
   have:=(mm.row_lt ho g rfl).2
   omega
theorem fresh_of {D:List Fd} (hp:D.Pairwise (fun a b=>cmpF a b < 0)) (i:Nat) (x y:Fd) (hx:D[i]?=some x) (hy:D[i+1]?=some y):y.nm≠x.nm:=by
 rw [List.pairwise_iff_getElem] at hp
 obtain ⟨h1,rfl⟩:=List.getElem?_eq_some_iff.1 hx
 obtain ⟨h2,rfl⟩:=List.getElem?_eq_some_iff.1 hy
 have:=hp i (i+1) h1 h2 (by omega)
 intro e
 unfold cmpF at this
 rw [e,cb.self] at this
 omega
set_option maxRecDepth 100000 in
set_option maxHeartbeats 6400000 in
theorem fieldsOf_any {D:List Fd} (z0 z1 z2 z3 z4 z5 z6 fv:Value) (w:World) (hsv:mm.SV w fv D.length 9 (D.flatMap encF)) (hl:D.length < 20) (hz:∀ x∈D,x.nm.size≤35184372088832) (hp:(D.map sd).Pairwise (fun a b=>cmpF a b < 0)) :
 Calls Tryz.prog 49 #[.agg #[z0,z1,z2,z3,z4,z5,z6,fv]] w fun e w'=>∃ sv,e=.returned sv∧w'.ownsRow (w.heap.size+1) 62 9 sv D.length ((D.map sd).flatMap encF)∧Below w.heap.size w w':=by
 obtain ⟨oa,c,rfl,hn1,hn2⟩:=hsv.form
 have B1:=hide (one_box w [z0,z1,z2,z3,z4,z5,z6,.slice oa D.length c])
 have HS:=hide hsv
 have HZ:=hide hz
 have HP:=hide hp
 clear hsv hz hp hn1 hn2
 go_enter Tryz.func49,Tryz.ntmps49
 go_wp2
 obtain ⟨q0,q1,q2⟩:=uh B1 _ rfl
 generalize w.alloc (.cells [z0,z1,z2,z3,z4,z5,z6,.slice oa D.length c].toArray 27)=W at *
 have hWs:W.heap.size=w.heap.size+1:=q2
 have HW0:=hide q1
 clear q0 q1 q2 B1
 go_loopw [3,9] (fun sv iv wr=>∃ (i:Nat),iv=.int .i64 (i:Int)∧i≤D.length∧Hid (wr.ownsRow (w.heap.size+1) 62 9 sv i (((D.take i).map sd).flatMap encF))∧Hid (Below (w.heap.size+1) W wr)) (fun _ iv _=>D.length - (intOf iv).toNat)
 case atStart=>exact ⟨0,rfl,by omega,World.ownsRow_nil _ _ _ _,Below.refl _ _⟩
 case round =>
  obtain ⟨i,rfl,hi,HO,HB⟩:=hrel
  by_cases hc:i < D.length
  · obtain ⟨x,hx⟩:∃ x,D[i]?=some x:=⟨_,List.getElem?_eq_getElem hc⟩
    have hbw:Below w.heap.size w wr:=(uh HW0).trans ((uh HB).mono (by omega))
    have hi1:(i:Int) < (D.length:Int):=by omega
    obtain ⟨a,c',e,_,_,hat⟩:=(uh HS).some (by omega)
    simp only [Value.slice.injEq] at e
    obtain ⟨rfl,_,rfl⟩:=e
    have hat2:∀ (j:Nat) (u:Value),(D.flatMap encF)[j]?=some u→wr.cell? (a.add j)=some u:=fun j u hu=>kc hbw (hat j u hu)
    have C9:=fd9 hat2 hx 0 #[]
    rw [grow_empty] at C9
    generalize ha:a.add (i*9)=ad at C9
    obtain ⟨y0,y1,y2,y3,y4,y5,y6,y7,y8⟩:wr.cell? ad=some (.string x.nm)∧wr.cell? ⟨ad.block,ad.off+1,none⟩=some (.int .i64 x.k)∧wr.cell? ⟨ad.block,ad.off+2,none⟩=some (.bool x.t)∧wr.cell? ⟨ad.block,ad.off+3,none⟩=some (.bool x.ng)∧wr.cell? ⟨ad.block,ad.off+4,none⟩=some (.string x.dg)∧wr.cell? ⟨ad.block,ad.off+5,none⟩=some (.int .i64 x.ex)∧wr.cell? ⟨ad.block,ad.off+6,none⟩=some (.string x.x)∧wr.cell? ⟨ad.block,ad.off+7,none⟩=some (.slice x.q1 x.n1 x.m1)∧wr.cell? ⟨ad.block,ad.off+8,none⟩=some (.slice x.q2 x.n2 x.m2):=C9
    have HX:=hide hx
    clear hat hat2 hx
    go_upto_region 5 with fail
    have CS:=hide (fun W'=>said_any x.nm W' (uh HZ x (List.mem_of_getElem? (uh HX))))
    have hbf:BF (wr.alloc (.cells #[.string x.nm,.int .i64 x.k,.bool x.t,.bool x.ng,.string x.dg,.int .i64 x.ex,.string x.x,.slice x.q1 x.n1 x.m1,.slice x.q2 x.n2 x.m2] 62)) wr.heap.size [.string x.nm,.int .i64 x.k,.bool x.t,.bool x.ng,.string x.dg,.int .i64 x.ex,.string x.x,.slice x.q1 x.n1 x.m1,.slice x.q2 x.n2 x.m2]:=heap_alloc_new wr _
    have hba:Below wr.heap.size wr (wr.alloc (.cells #[.string x.nm,.int .i64 x.k,.bool x.t,.bool x.ng,.string x.dg,.int .i64 x.ex,.string x.x,.slice x.q1 x.n1 x.m1,.slice x.q2 x.n2 x.m2] 62)):=(Below.refl _ wr).alloc (Nat.le_refl _) _
    generalize wr.alloc (.cells #[.string x.nm,.int .i64 x.k,.bool x.t,.bool x.ng,.string x.dg,.int .i64 x.ex,.string x.x,.slice x.q1 x.n1 x.m1,.slice x.q2 x.n2 x.m2] 62)=wa at *
    have hma:=blk_lt hbf
    have hwm:w.heap.size+1≤wr.heap.size:=by rw [← hWs];exact (uh HB).size
    generalize hmm:wr.heap.size=m at *
    have HBA:=hide hba
    obtain ⟨g0,g1,g2,g3,g4,g5,g6,g7,g8⟩:=hbf.cells
    have HBF:=hide hbf
    have HO1:=hide (mm.row_below (uh HO) (hmm ▸ hba) (by omega))
    clear y0 y1 y2 y3 y4 y5 y6 y7 y8 hba hbf
    go_region_law (first
     | (go_simp;go_at_call 48;refine (uh CS _).mono ?_;rintro e u2 ⟨rfl,hbl2⟩
        have hb3:Below wa.heap.size wa u2:=⟨hbl2.os,hbl2.tape,hbl2.output,hbl2.size,hbl2.block⟩
        have k1:=kc hb3 g1
        have k2:=kc hb3 g2
        have k3:=kc hb3 g3
        have k4:=kc hb3 g4
        have k5:=kc hb3 g5
        have k6:=kc hb3 g6
        have k7:=kc hb3 g7
        have k8:=kc hb3 g8
        have HO2:=hide (mm.row_below (uh HO1) hb3 (Nat.le_refl _))
        have hBu:Hid (w.heap.size+1≤u2.heap.size):=Nat.le_trans (by omega) hb3.size)
     | (refine step_addf u2 _ (w.heap.size+1) i u3 (((D.take i).map sd).flatMap encF) (encF (sd x)) (.tmp 13) (.tmp 20) (by rfl) (by rfl) (by rfl) (by rfl) HO2 (encF_len _) (encF_one _) (by show i+1≤1000000000000;omega) hBu (by rfl) ?_
        intro g cap w4 HG
        have hb4:Below (w.heap.size+1) wa w4:=(uh HG).below (uh HO2) (hb3.mono (by omega)) (Nat.le_refl _) (uh hBu)))
    all_goals clear g0 g1 g2 g3 g4 g5 g6 g7 g8
    all_goals go_wp2
    all_goals refine ⟨⟨i+1,by go_num,by omega,?_,(uh HB).trans (((uh HBA).mono (by omega)).trans hb4)⟩,by simp [intOf];omega⟩
    all_goals rw [take_succ' (uh HX),List.map_append,List.flatMap_append]
    all_goals refine hide ?_
    all_goals simpa using (uh HG).row
  · obtain rfl:i=D.length:=by omega
    have hno:¬ (D.length:Int) < (D.length:Int):=by omega
    rw [List.take_of_length_le (Nat.le_refl _)] at HO
    have ho:=uh HO
    rw [← List.length_map (f:=sd)] at ho
    have hl2:(D.map sd).length < 20:=by rw [List.length_map];exact hl
    have CS:=hide (stable_row hl2 (uh HP) ho)
    have hwm:w.heap.size+1≤wr.heap.size:=by rw [← hWs];exact (uh HB).size
    have HBW:Hid (Below w.heap.size w wr):=(uh HW0).trans ((uh HB).mono (by omega))
    have HL:Hid ((D.map sd).length=D.length):=List.length_map _
    clear ho hl2
    unfold byNameV at CS
    go_wp2_with (first
     | (go_at_call 77;refine (uh CS).mono ?_;rintro e w1 ⟨rfl,h1,h2⟩
        have CC:=hide (compact_fresh (mm.own_sv h1) (fresh_of (uh HP)))
        unfold sameNameV at CC)
     | (go_at_call 79;refine (uh CC).mono ?_;rintro e w2 ⟨rfl,q,os,rfl⟩))
    go_ret
    have hb2:=below_grown w1 q os
    have hs1:=h2.size
    refine ⟨_,rfl,?_,(uh HBW).trans ((h2.mono (by omega)).trans (hb2.mono (by omega)))⟩
    have:=mm.row_below h1 hb2 (Nat.le_refl _)
    rw [uh HL] at this
    exact this
end Go.Proofs.YthakglomacijgaaGreatDoor.rd.ss
namespace Go.Proofs.YthakglomacijgaaGreatDoor.apv
open Go.RowKit Go.Proofs.YthakglomacijgaaGreatDoor.ap Go.Proofs.YthakglomacijgaaGreatDoor.rd
open Go.Proofs.YthakglomacijgaaGreatDoor.mm (row_keep row_lt)
structure LR (u:World) (B:Nat) (L:List Value) (bl:List Nat):Prop where
 row:∀ x∈L,∃ l,OB u B x l∧l.length≤1000000000
 sub:(L.flatMap own).Sublist bl
def LQ (u:World) (B:Nat) (v:JT) (p:List Nat) (e:Ending) (u':World):Prop :=
 ∃ (oa:Option Addr) (c:Nat) (L:List Value),e=.returned (.slice oa L.length c)∧L.length=nds v∧u'.ownsRow u.heap.size 24 1 (.slice oa L.length c) L.length L∧LR u B L p∧Below u.heap.size u u'
end Go.Proofs.YthakglomacijgaaGreatDoor.apv
namespace Go.Proofs.YthakglomacijgaaGreatDoor.apf
open Go.RowKit Go.Proofs.YthakglomacijgaaGreatDoor.ap Go.Proofs.YthakglomacijgaaGreatDoor.rd
open Go.Proofs.YthakglomacijgaaGreatDoor.mm (row_keep row_lt)
structure LR (u:World) (B:Nat) (L:List Value) (bl:List Nat):Prop where
 row:∀ x∈L,∃ l,OB u B x l∧l.length≤1000000000
 sub:(L.flatMap own).Sublist bl
def LQ (u:World) (B:Nat) (v:JT) (p:List Nat) (e:Ending) (u':World):Prop :=
 ∃ (oa:Option Addr) (c:Nat) (L:List Value),e=.returned (.slice oa L.length c)∧L.length=nds v∧u'.ownsRow u.heap.size 25 1 (.slice oa L.length c) L.length L∧LR u B L p∧Below u.heap.size u u'
end Go.Proofs.YthakglomacijgaaGreatDoor.apf
namespace Go.Proofs.YthakglomacijgaaGreatDoor.rd
open Go.RowKit Go.Proofs.YthakglomacijgaaGreatDoor.ap
open Go.Proofs.YthakglomacijgaaGreatDoor.mm (row_keep row_lt)
end Go.Proofs.YthakglomacijgaaGreatDoor.rd
