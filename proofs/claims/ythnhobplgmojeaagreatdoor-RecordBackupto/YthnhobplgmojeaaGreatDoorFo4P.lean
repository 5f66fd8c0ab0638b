/- Texts in one: Fo4 -/
import Derived.Test.YthnhobplgmojeaaGreatDoorSfP
namespace Go.Proofs.YthnhobplgmojeaaGreatDoor.rd.ss
open Go.RowKit Go.Shelf Go.Lib Go.Sort
def kp (D:List Fd):List Nat:=cu (smN D) (stb D D.length) D.length
theorem em_prog (D:List Fd):EM Tryz.prog (encI D) (smN D) where
 eg:=enter_sameName
 c x y W:=sameName_any (fdI D x) (fdI D y) (smN D x y) rfl W
theorem stable_sl {w:World}{B g cap:Nat}{D:List Fd} (hl:D.length≤1000000000) (ho:w.ownsRow B 70 9 (.slice (some ⟨g,0,none⟩) D.length cap) D.length (D.flatMap encF)) :
 Bs (encI D) 9 w g D.length∧Calls Tryz.prog 135 #[.slice (some ⟨g,0,none⟩) D.length cap,byNameV] w fun e w'=>e=.returned (.tuple #[])∧SL (encI D) 9 w g (stb D D.length) w':=by
 obtain ⟨hH,hlt⟩:=holds_row ho;have hz:=rng_size D.length;have hB:Bs (encI D) 9 w g D.length:=⟨fun x=>encF_len _,fun x=>encF_one _,hlt,⟨_,hz,hH⟩,by omega⟩;refine ⟨hB,?_⟩;have hs:=hide (stable_blocks (cap:=cap) hB (by omega) (SWK.start hH));clear ho hH hB hz;generalize hn:D.length=n at *;clear hn;unfold byNameV at hs ⊢
 go_enter Tryz.func135,Tryz.ntmps135
 go_wp2_with (go_at_call 151;refine (uh hs).mono ?_;rintro e w1 ⟨rfl,h1⟩)
 go_end0
 exact ⟨rfl,h1⟩
theorem owns_cut {w:World}{B g n m cap s:Nat}{e:TypeId}{xs ys:List Value} (h:w.ownsRow B e s (.slice (some ⟨g,0,none⟩) n cap) n (xs++ys)) (hx:xs.length=m*s) (hm:m≤n):w.ownsRow B e s (.slice (some ⟨g,0,none⟩) m cap) m xs:=by
 obtain ⟨h1,h2⟩:=h
 rcases h2 with ⟨hq,_⟩|⟨g',cap',cur,hq,hB,hg,hcap,hmax,hcs,htake⟩
 · cases hq
 cases hq
 refine ⟨hx,.inr ⟨g,cap,cur,rfl,hB,hg,by omega,hmax,hcs,?_⟩⟩;have hle:m*s≤n*s:=Nat.mul_le_mul_right s hm;have:=congrArg (List.take (m*s)) htake;rw [List.take_take,Nat.min_eq_left hle,← hx,List.take_left] at this;rw [← hx];exact this
theorem cu_len {sm:Nat→Nat→Bool}{L:List Nat}:∀ m,(cu sm L m).length≤m
 | 0=>Nat.le_refl _
 | m+1=>by
   have:=cu_len (sm:=sm) (L:=L) m;rw [cu,List.length_append]
   split <;> simp <;> omega
theorem both_row {w:World}{B:Nat}{sv:Value}{D:List Fd} (hl:D.length≤1000000000) (hBw:B≤w.heap.size) (ho:w.ownsRow B 70 9 sv D.length (D.flatMap encF)) :
 ∃ M:World→Prop,Calls Tryz.prog 135 #[sv,byNameV] w (fun e w'=>e=.returned (.tuple #[])∧M w') ∧
   ∀ w1,M w1→Calls Tryz.prog 137 #[sv,sameNameV] w1 (fun e w'=>∃ sv',e=.returned sv'∧w'.ownsRow B 70 9 sv' (kp D).length (((kp D).map (fdI D)).flatMap encF)∧Below B w w'):=by
 rcases ho.2 with ⟨rfl,h0⟩|⟨g,cap,cur,rfl,hB,hg,hcap,_⟩
 · have hD:D=[]:=List.length_eq_zero_iff.1 h0
   subst hD;refine ⟨fun w'=>w'=w,stable_none none 0 w,?_⟩;rintro w1 rfl;refine (compact_fresh (D:=[]) (mm.own_sv ho) (fun i x y h=>by simp at h)).mono ?_;rintro e w' ⟨rfl,q,os,rfl⟩;have hb:=below_grown w1 q os;exact ⟨_,rfl,World.ownsRow_nil _ _ _ _,hb.mono hBw⟩
 · obtain ⟨hBs,hst⟩:=stable_sl hl ho
   refine ⟨fun w'=>SL (encI D) 9 w g (stb D D.length) w',hst,fun w1 h1=>?_⟩;have hgB:B≤g:=hB
   have fin:∀ (w':World),SL (encI D) 9 w g (kp D++List.replicate (D.length - (kp D).length) D.length) w'→w'.ownsRow B 70 9 (.slice (some ⟨g,0,none⟩) (kp D).length cap) (kp D).length (((kp D).map (fdI D)).flatMap encF)∧Below B w w':=fun w' hS=>by
    obtain ⟨m,os,rfl⟩:=hS;have hkl:(kp D).length≤D.length:=cu_len D.length;obtain ⟨r1,r2⟩:=sorted_row ho (kp D++List.replicate (D.length - (kp D).length) D.length).toArray (by simp;omega) m os;rw [List.toList_toArray,List.map_append,List.flatMap_append] at r1;refine ⟨owns_cut r1 ?_ hkl,r2.os,r2.tape,r2.output,r2.size,fun b hb=>r2.block b ?_ (by omega)⟩
    · have:∀ l:List Fd,(l.flatMap encF).length=l.length*9:=fun l=>by
       induction l with
       | nil=>rfl
       | cons a l ih=>rw [List.flatMap_cons,List.length_append,ih,encF_len,List.length_cons];omega
      rw [this,List.length_map]
    · have:=(mm.row_lt ho g rfl).2
      omega
   by_cases h2:2≤D.length
   · refine (compact_any sc_prog (em_prog D) hBs (stb D D.length) D.length (by unfold encI fdI;simp;rfl) (by omega) hcap (by rw [(stb_perm D D.length).length_eq];simp) h1 h2).mono ?_
     rintro e w' ⟨rfl,hS⟩;exact ⟨_,rfl,fin w' hS⟩
   · have hsl:(stb D D.length).length=D.length:=by rw [(stb_perm D D.length).length_eq];simp
     have hk:kp D=stb D D.length:=by
      unfold kp;rw [cu_all D.length (by omega) (fun j hj=>.inl (by omega)),List.take_of_length_le (by omega)]
     have h1':=h1;obtain ⟨m,os,rfl⟩:=h1;obtain ⟨r1,_⟩:=sorted_row ho (stb D D.length).toArray (by simp;omega) m os;rw [List.toList_toArray] at r1;have hdl:((stb D D.length).map (fdI D)).length=D.length:=by rw [List.length_map,hsl]
     have hsv:mm.SV (sortWorldK (encI D) 9 w g 0 m (stb D D.length).toArray os) (.slice (some ⟨g,0,none⟩) D.length cap) ((stb D D.length).map (fdI D)).length 9 (((stb D D.length).map (fdI D)).flatMap encF):=by
      rw [hdl];exact mm.own_sv r1
     have hcf:=compact_fresh hsv (fun i x y e1 e2=>by
      obtain ⟨q1,_⟩:=List.getElem?_eq_some_iff.1 e2
      omega)
     refine hcf.mono ?_;rintro e w' ⟨rfl,q,os',rfl⟩;have hS:=SL.grown h1' q os';have e0:kp D++List.replicate (D.length - (kp D).length) D.length=stb D D.length:=by rw [hk,hsl,Nat.sub_self,List.replicate_zero,List.append_nil]
     generalize grow ((sortWorldK (encI D) 9 w g 0 m (stb D D.length).toArray os).drewN q) os'=W at hS ⊢;rw [← e0] at hS;have:=fin W hS;rw [hk,hsl] at this ⊢;exact ⟨_,rfl,this⟩
set_option maxRecDepth 100000 in
set_option maxHeartbeats 6400000 in
theorem fieldsOf_all {D:List Fd} (z0 z1 z2 z3 z4 z5 z6 fv:Value) (w:World) (hsv:mm.SV w fv D.length 9 (D.flatMap encF)) (hl:D.length≤1000000000) (hz:∀ x∈D,x.nm.size≤35184372088832) :
 Calls Tryz.prog 115 #[.agg #[z0,z1,z2,z3,z4,z5,z6,fv]] w fun e w'=>∃ sv,e=.returned sv∧w'.ownsRow (w.heap.size+1) 70 9 sv (kp (D.map sd)).length (((kp (D.map sd)).map (fdI (D.map sd))).flatMap encF)∧Below w.heap.size w w':=by
 obtain ⟨oa,c,rfl,hn1,hn2⟩:=hsv.form;have B1:=hide (one_box w [z0,z1,z2,z3,z4,z5,z6,.slice oa D.length c]);have HS:=hide hsv;have HZ:=hide hz;clear hsv hz hn1 hn2
 go_enter Tryz.func115,Tryz.ntmps115
 go_wp2;obtain ⟨q0,q1,q2⟩:=uh B1 _ rfl;generalize w.alloc (.cells [z0,z1,z2,z3,z4,z5,z6,.slice oa D.length c].toArray 28)=W at *;have hWs:W.heap.size=w.heap.size+1:=q2;have HW0:=hide q1;clear q0 q1 q2 B1
 go_loopw [3,9] (fun sv iv wr=>∃ (i:Nat),iv=.int .i64 (i:Int)∧i≤D.length∧Hid (wr.ownsRow (w.heap.size+1) 70 9 sv i (((D.take i).map sd).flatMap encF))∧Hid (Below (w.heap.size+1) W wr)) (fun _ iv _=>D.length - (intOf iv).toNat)
 case atStart=>exact ⟨0,rfl,by omega,World.ownsRow_nil _ _ _ _,Below.refl _ _⟩
 case round =>
  obtain ⟨i,rfl,hi,HO,HB⟩:=hrel
  by_cases hc:i < D.length
  · obtain ⟨x,hx⟩:∃ x,D[i]?=some x:=⟨_,List.getElem?_eq_getElem hc⟩
    have hbw:Below w.heap.size w wr:=(uh HW0).trans ((uh HB).mono (by omega));have hi1:(i:Int) < (D.length:Int):=by omega
    obtain ⟨a,c',e,_,_,hat⟩:=(uh HS).some (by omega);simp only [Value.slice.injEq] at e;obtain ⟨rfl,_,rfl⟩:=e;have hat2:∀ (j:Nat) (u:Value),(D.flatMap encF)[j]?=some u→wr.cell? (a.add j)=some u:=fun j u hu=>kc hbw (hat j u hu)
    have C9:=fd9 hat2 hx 0 #[];rw [grow_empty] at C9;generalize ha:a.add (i*9)=ad at C9;obtain ⟨y0,y1,y2,y3,y4,y5,y6,y7,y8⟩:wr.cell? ad=some (.string x.nm)∧wr.cell? ⟨ad.block,ad.off+1,none⟩=some (.int .i64 x.k)∧wr.cell? ⟨ad.block,ad.off+2,none⟩=some (.bool x.t)∧wr.cell? ⟨ad.block,ad.off+3,none⟩=some (.bool x.ng)∧wr.cell? ⟨ad.block,ad.off+4,none⟩=some (.string x.dg)∧wr.cell? ⟨ad.block,ad.off+5,none⟩=some (.int .i64 x.ex)∧wr.cell? ⟨ad.block,ad.off+6,none⟩=some (.string x.x)∧wr.cell? ⟨ad.block,ad.off+7,none⟩=some (.slice x.q1 x.n1 x.m1)∧wr.cell? ⟨ad.block,ad.off+8,none⟩=some (.slice x.q2 x.n2 x.m2):=C9;have HX:=hide hx;clear hat hat2 hx;go_upto_region 5 with fail;have CS:=hide (fun W'=>said_any x.nm W' (uh HZ x (List.mem_of_getElem? (uh HX))));have hbf:BF (wr.alloc (.cells #[.string x.nm,.int .i64 x.k,.bool x.t,.bool x.ng,.string x.dg,.int .i64 x.ex,.string x.x,.slice x.q1 x.n1 x.m1,.slice x.q2 x.n2 x.m2] 70)) wr.heap.size [.string x.nm,.int .i64 x.k,.bool x.t,.bool x.ng,.string x.dg,.int .i64 x.ex,.string x.x,.slice x.q1 x.n1 x.m1,.slice x.q2 x.n2 x.m2]:=heap_alloc_new wr _;have hba:Below wr.heap.size wr (wr.alloc (.cells #[.string x.nm,.int .i64 x.k,.bool x.t,.bool x.ng,.string x.dg,.int .i64 x.ex,.string x.x,.slice x.q1 x.n1 x.m1,.slice x.q2 x.n2 x.m2] 70)):=(Below.refl _ wr).alloc (Nat.le_refl _) _;generalize wr.alloc (.cells #[.string x.nm,.int .i64 x.k,.bool x.t,.bool x.ng,.string x.dg,.int .i64 x.ex,.string x.x,.slice x.q1 x.n1 x.m1,.slice x.q2 x.n2 x.m2] 70)=wa at *;have hma:=blk_lt hbf;have hwm:w.heap.size+1≤wr.heap.size:=by rw [← hWs];exact (uh HB).size
    generalize hmm:wr.heap.size=m at *;have HBA:=hide hba;obtain ⟨g0,g1,g2,g3,g4,g5,g6,g7,g8⟩:=hbf.cells;have HBF:=hide hbf;have HO1:=hide (mm.row_below (uh HO) (hmm ▸ hba) (by omega));clear y0 y1 y2 y3 y4 y5 y6 y7 y8 hba hbf
    go_region_law (first
     | (go_simp;go_at_call 114;refine (uh CS _).mono ?_;rintro e u2 ⟨rfl,hbl2⟩
        have hb3:Below wa.heap.size wa u2:=⟨hbl2.os,hbl2.tape,hbl2.output,hbl2.size,hbl2.block⟩;have k1:=kc hb3 g1;have k2:=kc hb3 g2;have k3:=kc hb3 g3;have k4:=kc hb3 g4;have k5:=kc hb3 g5;have k6:=kc hb3 g6;have k7:=kc hb3 g7;have k8:=kc hb3 g8;have HO2:=hide (mm.row_below (uh HO1) hb3 (Nat.le_refl _))
        have hBu:Hid (w.heap.size+1≤u2.heap.size):=Nat.le_trans (by omega) hb3.size)
     | (refine step_addf u2 _ (w.heap.size+1) i u3 (((D.take i).map sd).flatMap encF) (encF (sd x)) (.tmp 13) (.tmp 20) (by rfl) (by rfl) (by rfl) (by rfl) HO2 (encF_len _) (encF_one _) (by show i+1≤1000000000000;omega) hBu (by rfl) ?_
        intro g cap w4 HG
        have hb4:Below (w.heap.size+1) wa w4:=(uh HG).below (uh HO2) (hb3.mono (by omega)) (Nat.le_refl _) (uh hBu)))
    all_goals clear g0 g1 g2 g3 g4 g5 g6 g7 g8
    all_goals go_wp2
    all_goals refine ⟨⟨i+1,by go_num,by omega,?_,(uh HB).trans (((uh HBA).mono (by omega)).trans hb4)⟩,by simp [intOf];omega⟩
    all_goals rw [take_succ' (uh HX),List.map_append,List.flatMap_append]
    all_goals refine hide ?_
    all_goals simpa using (uh HG).row
  · obtain rfl:i=D.length:=by omega
    have hno:¬ (D.length:Int) < (D.length:Int):=by omega
    rw [List.take_of_length_le (Nat.le_refl _)] at HO;have ho:=uh HO;rw [← List.length_map (f:=sd)] at ho;have hl2:(D.map sd).length≤1000000000:=by rw [List.length_map];exact hl
    have hwm:w.heap.size+1≤wr.heap.size:=by rw [← hWs];exact (uh HB).size
    have HBW:Hid (Below w.heap.size w wr):=(uh HW0).trans ((uh HB).mono (by omega));have HL:Hid ((D.map sd).length=D.length):=List.length_map _;obtain ⟨M,CS,CC⟩:=both_row hl2 hwm ho;have CS:=hide CS;have CC:=hide CC;clear ho hl2;unfold byNameV at CS;unfold sameNameV at CC
    go_wp2_with (first
     | (go_at_call 135;refine (uh CS).mono ?_;rintro e w1 ⟨rfl,h1⟩
        have C2:=hide (uh CC w1 h1))
     | (go_at_call 137;refine (uh C2).mono ?_;rintro e w2 ⟨sv2,rfl,h2,h3⟩))
    go_ret;exact ⟨_,rfl,h2,(uh HBW).trans (h3.mono (by omega))⟩
end Go.Proofs.YthnhobplgmojeaaGreatDoor.rd.ss
