/- Texts in one: Lg De3 Smg Lg2 Hv One Sml -/
import Derived.Test.YthakglomacijgaaGreatDoorFo3PQ
import Derived.Test.YthakglomacijgaaGreatDoorIePQ
import Derived.Test.YthakglomacijgaaGreatDoorWlPQ
import Derived.Test.YthakglomacijgaaGreatDoorIiPQ
import Derived.Test.YthakglomacijgaaGreatDoorSqPQ
import Derived.Deep.RegionLaw
import Derived.Lib.ItoaLen
import Derived.Deep.RegionHeld3
import Derived.Test.YthakglomacijgaaGreatDoorShPQ
namespace Go.Proofs.YthakglomacijgaaGreatDoor.rd
open Go.RowKit
theorem sum_mem {α:Type}{g:α→Nat}:∀ {l:List α}{a:α},a∈l→g a≤(l.map g).sum
 | b::l,a,h=>by
   rw [List.map_cons,List.sum_cons]
   rcases List.mem_cons.1 h with rfl|h
   · omega
   · have:=sum_mem (g:=g) h;omega
theorem cnt_l {k:Int}{t:Bool}{d:Dn}{x:ByteArray}{l:List JT}{f:List (ByteArray × JT)}{v:JT} (h:v∈l):cntV v+1≤cntV (.mk k t d x l f):=by
 rw [cntV_mk]
 have:=sum_mem (g:=cntV) h
 omega
theorem cnt_f {k:Int}{t:Bool}{d:Dn}{x:ByteArray}{l:List JT}{f:List (ByteArray × JT)}{p:ByteArray × JT} (h:p∈f):cntV p.2+p.1.size+1≤cntV (.mk k t d x l f):=by
 rw [cntV_mk]
 have:=sum_mem (g:=fun p:ByteArray × JT=>p.1.size+cntV p.2) h
 omega
theorem light_gd (n:Nat):∀ v,SizeOf.sizeOf v < n→Bd v→cntV v≤1000000000→Gd v:=by
 induction n with
 | zero=>intro v h;omega
 | succ n IH =>
   intro v hn hb hc
   cases hb with
   | @mk k t d x l f hk h0 h1 h2 h3 h4 hl hnm hf =>
     have hfl:f.length≤1000000000:=by rw [cntV_mk] at hc;omega
     exact .mk (fun _=>fok_all f hfl hnm) (fun _ v hv=>IH v (by have:=sz_l (k:=k) (t:=t) (d:=d) (x:=x) (f:=f) hv;omega) (hl v hv) (by have:=cnt_l (k:=k) (t:=t) (d:=d) (x:=x) (f:=f) hv;omega))
      (fun _ p hp=>IH p.2 (by have:=sz_f (k:=k) (t:=t) (d:=d) (x:=x) (l:=l) hp;omega) (hf p hp) (by have:=cnt_f (k:=k) (t:=t) (d:=d) (x:=x) (l:=l) hp;omega))
theorem pf_mono {n:Nat}{v:JT} (h:Pf n v):∀ m,n≤m→Pf m v:=by
 induction h with
 | null n=>exact fun m _=>.null m
 | truth n b=>exact fun m _=>.truth m b
 | num n h hz=>exact fun m _=>.num m h hz
 | text n h hz=>exact fun m _=>.text m h hz
 | list h hz ih =>
   intro m hm
   obtain ⟨m,rfl⟩:∃ q,m=q+1:=⟨m - 1,by omega⟩
   exact .list (fun v hv=>ih v hv m (by omega)) hz
 | obj hn hr h hz ih =>
   intro m hm
   obtain ⟨m,rfl⟩:∃ q,m=q+1:=⟨m - 1,by omega⟩
   exact .obj hn hr (fun p hp=>ih p hp m (by omega)) hz
theorem clF_ok (s:ByteArray):∀ f k,Ltc (pt.clF s f k)∧(pt.clF s f k).length≤4*f
 | 0,k=>⟨.nil,by simp [pt.clF]⟩
 | f+1,k=>by
   rw [pt.clF]
   split
   · rename_i hk
     split
     · obtain ⟨h1,h2⟩:=clF_ok s f (k+1)
       refine ⟨.cons ?_ h1,by simp;omega⟩
       have:=lt1_enc 65533
       exact this
     · rename_i hz
       obtain ⟨h1,h2⟩:=clF_ok s f (k+pt.ltr s k)
       have e:(s.extract k (k+pt.ltr s k)).data.toList=(s.data.toList.drop k).take (ltrL (s.data.toList.drop k)):=by
        rw [pt.cut_take,ltr_drop s k hk]
       rw [e]
       have hl:=lt1_take (s.data.toList.drop k) (by rw [← ltr_drop s k hk];omega)
       refine ⟨.cons hl h1,?_⟩
       have h4:pt.ltr s k≤4:=by
        rcases pt.place_says s k hk with ⟨a,_⟩|⟨_,_,d2,d3⟩
        · omega
        · have:=enc_le ((Utf8.decode s k).1:Int)
          rw [d3,pt.cut_take] at this
          have hle:=pt.ltr_le s k hk
          have h2:s.data.toList.length=s.size:=Array.length_toList
          simp only [List.length_take,List.length_drop] at this
          omega
       rw [List.length_append,List.length_take,← ltr_drop s k hk]
       omega
   · exact ⟨.nil,by simp⟩
theorem clean_ltc (s:ByteArray):Ltc (pt.clean s).data.toList∧(pt.clean s).size≤4*s.size:=by
 obtain ⟨h1,h2⟩:=clF_ok s s.size 0
 refine ⟨h1,?_⟩
 show (pt.clF s s.size 0).toArray.size≤_
 simpa using h2
theorem norm_ok (d:Dn):Whole1 (norm d)∧(norm d).dg.size≤d.dg.size:=by
 refine ⟨?_,?_⟩
 · unfold norm
   exact oneForm_formed _ _ _ (digs_dig _)
 · unfold norm
   exact wh.oneForm_size _ _ _
theorem putP_sum {α:Type} (g:ByteArray × α→Nat) (acc:List (ByteArray × α)) (p:ByteArray × α):((jn.putP acc p).map g).sum≤(acc.map g).sum+g p∧(jn.putP acc p).length≤acc.length+1:=by
 unfold jn.putP
 split
 · omega
 · have h:=jn.ins_perm acc p
   rw [(h.map g).sum_nat,h.length_eq,List.map_cons,List.sum_cons,List.length_cons]
   omega
theorem puts_sum {α:Type} (g:ByteArray × α→Nat) (F:List (ByteArray × α)):((jn.puts F).map g).sum≤(F.map g).sum∧(jn.puts F).length≤F.length:=by
 have key:∀ (F acc:List (ByteArray × α)),((F.foldl jn.putP acc).map g).sum≤(acc.map g).sum+(F.map g).sum∧(F.foldl jn.putP acc).length≤acc.length+F.length:=by
  intro F
  induction F with
  | nil=>intro acc;simp
  | cons p F ih =>
    intro acc
    have h1:=ih (jn.putP acc p)
    have h2:=putP_sum g acc p
    rw [List.foldl_cons,List.map_cons,List.sum_cons,List.length_cons]
    omega
 have:=key F []
 simpa [jn.puts] using this
theorem sum_le {α:Type}{g h:α→Nat}:∀ {l:List α},(∀ a∈l,g a≤h a)→(l.map g).sum≤(l.map h).sum
 | [],_=>by simp
 | a::l,q=>by
   rw [List.map_cons,List.map_cons,List.sum_cons,List.sum_cons]
   have:=q a (by simp)
   have:=sum_le (l:=l) fun b hb=>q b (by simp [hb])
   omega
theorem sum_mul {α:Type}{g:α→Nat} (c:Nat):∀ l:List α,(l.map fun a=>c*g a).sum=c*(l.map g).sum
 | []=>by simp
 | a::l=>by
   rw [List.map_cons,List.map_cons,List.sum_cons,List.sum_cons,sum_mul c l,Nat.mul_add]
def dpL (l:List JT) (f:List (ByteArray × JT)):Nat:=((f.map Prod.snd).map dpt).foldl max ((l.map dpt).foldl max 0)
theorem boxF_two (w:World) (ca cb:List Value):FX ((w.alloc (.cells ca.toArray 62)).alloc (.cells cb.toArray 62)) w.heap.size ca∧FX ((w.alloc (.cells ca.toArray 62)).alloc (.cells cb.toArray 62)) (w.heap.size+1) cb ∧
 Below w.heap.size w ((w.alloc (.cells ca.toArray 62)).alloc (.cells cb.toArray 62)):=by
 refine ⟨?_,?_,((Below.refl w.heap.size w).alloc (Nat.le_refl _) _).alloc (by simp) _⟩
 · unfold FX
   rw [Below.heap_alloc _ _ _ (by simp)];exact heap_alloc_new w _
 · have:=heap_alloc_new (w.alloc (.cells ca.toArray 62)) (.cells cb.toArray 62)
   rwa [World.size_alloc] at this
theorem vr_lens {w:World}{k:Int}{t:Bool}{d:Dn}{x:ByteArray}{l:List JT}{f:List (ByteArray × JT)}{cs:List Value} (h:VR w (JT.mk k t d x l f) cs):l.length≤maxLen∧f.length≤maxLen:=by
 cases h with
 | mk hl hf _ _ _ _ =>
   obtain ⟨_,_,_,q1,q2⟩:=mm.SV.form hl
   obtain ⟨_,_,_,q3,q4⟩:=mm.SV.form hf
   exact ⟨by omega,by omega⟩
set_option maxHeartbeats 6400000 in
set_option maxRecDepth 1000000 in
theorem same1_any (nb fb:Nat) (nm:ByteArray) (v:JT) (nm':ByteArray) (v':JT) (H:SmC nb fb v v'):SfC nb fb nm v nm' v':=by
 intro c c' w ha hb h1 h2
 obtain ⟨a0,a1,a2,a3,a4,a5,a6,a7,a8,a9,aa,ab,rfl⟩:=ha.form
 obtain ⟨b0,b1,b2,b3,b4,b5,b6,b7,b8,b9,ba,bb,rfl⟩:=hb.form
 have CL:=hide (fun u (hu:Below w.heap.size w u)=>H _ _ u (ha.keep hu) (hb.keep hu) (kc hu h1) (kc hu h2))
 have B2:=hide (boxF_two w [.string nm,.int .i64 a0,.bool a1,.bool a2,.string a3,.int .i64 a4,.string a5,.slice a6 a7 a8,.slice a9 aa ab] [.string nm',.int .i64 b0,.bool b1,.bool b2,.string b3,.int .i64 b4,.string b5,.slice b6 b7 b8,.slice b9 ba bb])
 have H1:=hide h1
 clear ha hb h1 h2 H
 go_enter Tryz.func59,Tryz.ntmps59
 go_upto_region 1 with fail
 obtain ⟨q0,q1,q2⟩:=uh B2
 generalize (w.alloc (.cells [.string nm,.int .i64 a0,.bool a1,.bool a2,.string a3,.int .i64 a4,.string a5,.slice a6 a7 a8,.slice a9 aa ab].toArray 62)).alloc (.cells [.string nm',.int .i64 b0,.bool b1,.bool b2,.string b3,.int .i64 b4,.string b5,.slice b6 b7 b8,.slice b9 ba bb].toArray 62)=W at *
 obtain ⟨y0,y1,y2,y3,y4,y5,y6,y7,y8⟩:=q0.cells
 obtain ⟨z0,z1,z2,z3,z4,z5,z6,z7,z8⟩:=q1.cells
 have n1:=kc q2 (uh H1)
 unfold smV at n1
 have CW:=hide (uh CL W q2)
 have HB:=hide q2
 clear q0 q1 q2 B2 CL
 have eg:=enter_same2
 by_cases e:nm=nm'
 · subst e
   go_wp2_with (go_at_call 60;refine (uh CW).mono ?_;rintro e u4 ⟨bb,rfl,hbb,hb5⟩)
   go_ret
   exact ⟨bb,rfl,by simpa using hbb,(uh HB).trans (hb5.mono (uh HB).size)⟩
 · have e':¬ nm.toList=nm'.toList:=fun q=>e (ba_inj q)
   go_wp2
   go_ret
   exact ⟨false,rfl,by simp [e],uh HB⟩
set_option maxHeartbeats 25600000 in
set_option maxRecDepth 1000000 in
theorem same2_any (nb fb:Nat) (n:Nat):∀ v v',SizeOf.sizeOf v < n→SmC nb fb v v':=by
 induction n with
 | zero=>intro v v' h;omega
 | succ n IH =>
   intro v v' hn c c' w ha hb h1 h2
   cases v with
   | mk k t d x l f =>
     cases v' with
     | mk k' t' d' x' l' f' =>
       obtain ⟨oa,ca,of,cf,rfl⟩:=ha.parts
       obtain ⟨ob,cb,og,cg,rfl⟩:=hb.parts
       obtain ⟨hml,hmf⟩:=vr_lens ha
       obtain ⟨dn,dg,dx⟩:=d
       obtain ⟨dn',dg',dx'⟩:=d'
       have C1:=hide (fun u (hu:Below w.heap.size w u)=>eqV_any (ha.keep hu) (hb.keep hu) (kc hu h1) (kc hu h2) hml (fun v hv v'=>IH v v' (by have:=sz_l (k:=k) (t:=t) (d:=⟨dn,dg,dx⟩) (x:=x) (f:=f) hv;omega)))
       have C2:=hide (fun u (hu:Below w.heap.size w u)=>eqF_any (ha.keep hu) (hb.keep hu) (kc hu h1) (kc hu h2) hmf (fun nm v hv nm' v'=>same1_any nb fb nm v nm' v' (IH v v' (by have:=sz_f (k:=k) (t:=t) (d:=⟨dn,dg,dx⟩) (x:=x) (l:=l) hv;simp only at this;omega))))
       have B2:=hide (box_two w [.int .i64 k,.bool t,.bool dn,.string dg,.int .i64 dx,.string x,.slice oa l.length ca,.slice of f.length cf] [.int .i64 k',.bool t',.bool dn',.string dg',.int .i64 dx',.string x',.slice ob l'.length cb,.slice og f'.length cg])
       have H1:=hide h1
       have H2:=hide h2
       unfold smV at C1
       unfold smFV at C2
       clear ha hb h1 h2 IH hn hml hmf
       go_enter Tryz.func60,Tryz.ntmps60
       go_upto_region 1 with fail
       obtain ⟨q0,q1,q2⟩:=uh B2
       generalize (w.alloc (.cells [.int .i64 k,.bool t,.bool dn,.string dg,.int .i64 dx,.string x,.slice oa l.length ca,.slice of f.length cf].toArray 27)).alloc (.cells [.int .i64 k',.bool t',.bool dn',.string dg',.int .i64 dx',.string x',.slice ob l'.length cb,.slice og f'.length cg].toArray 27)=W at *
       obtain ⟨y0,y1,y2,y3,y4,y5,y6,y7⟩:=q0.cells
       obtain ⟨z0,z1,z2,z3,z4,z5,z6,z7⟩:=q1.cells
       have n1:=kc q2 (uh H1)
       have n2:=kc q2 (uh H2)
       unfold smV at n1
       unfold smFV at n2
       have CW:=hide (uh C1 W q2)
       have HB:=hide q2
       have X0:=hide q0
       have X1:=hide q1
       clear q0 q1 q2 B2 C1
       by_cases e1:k=k'
       · subst e1
         by_cases e2:t=t'
         · subst e2
           by_cases e3:dn=dn'
           · subst e3
             by_cases e4:dg=dg'
             · subst e4
               by_cases e5:dx=dx'
               · subst e5
                 by_cases e6:x=x'
                 · subst e6
                   go_wp2_with (first
                    | (go_at_call 61;refine (uh CW).mono ?_;rintro e u1 ⟨b1,rfl,hb1,hl1⟩
                       have HB1:=hide hb1
                       have HL1:=hide ((uh HB).trans (hl1.mono (uh HB).size))
                       have CF:=hide (uh C2 u1 (uh HL1))
                       obtain ⟨y0,y1,y2,y3,y4,y5,y6,y7⟩:=((uh X0).keep hl1 (blk_lt (uh X0))).cells
                       obtain ⟨z0,z1,z2,z3,z4,z5,z6,z7⟩:=((uh X1).keep hl1 (blk_lt (uh X1))).cells
                       have n2:=kc (uh HL1) (uh H2)
                       unfold smFV at n2
                       clear hb1 hl1 CW
                       cases b1)
                    | (go_at_call 62;refine (uh CF).mono ?_;rintro e u2 ⟨b2,rfl,hb2,hl2⟩
                       have HB2:=hide hb2
                       have HL2:=hide ((uh HL1).trans (hl2.mono (uh HL1).size))
                       clear hb2 hl2 CF))
                   · go_ret
                     refine ⟨false,rfl,?_,uh HL1⟩
                     simp only [Bool.false_eq_true,false_iff,JT.mk.injEq]
                     rintro ⟨_,_,_,_,q,_⟩
                     have:=(uh HB1).2 q
                     cases this
                   · go_ret
                     refine ⟨b2,rfl,?_,uh HL2⟩
                     rw [uh HB2]
                     simp only [JT.mk.injEq,true_and]
                     exact ⟨fun q=>⟨(uh HB1).1 (by simp),q⟩,fun q=>q.2⟩
                 · have e6':¬ x.toList=x'.toList:=fun q=>e6 (ba_inj q)
                   go_wp2
                   go_ret
                   exact ⟨false,rfl,by simp [e6],uh HB⟩
               · go_wp2
                 go_ret
                 exact ⟨false,rfl,by simp [e5],uh HB⟩
             · have e4':¬ dg.toList=dg'.toList:=fun q=>e4 (ba_inj q)
               go_wp2
               go_ret
               exact ⟨false,rfl,by simp [e4],uh HB⟩
           · go_wp2
             go_ret
             exact ⟨false,rfl,by simp [e3],uh HB⟩
         · go_wp2
           go_ret
           exact ⟨false,rfl,by simp [e2],uh HB⟩
       · go_wp2
         go_ret
         exact ⟨false,rfl,by simp [e1],uh HB⟩
set_option maxHeartbeats 6400000 in
set_option maxRecDepth 1000000 in
theorem jsame_any (va vb:JT) (ba:Bd va) (bb:Bd vb) (ga:Gd va) (gb:Gd vb) (ca cb:List Value) (w:World) (ha:VR w va ca) (hb:VR w vb cb) :
 Calls Tryz.prog 26 #[.agg ca.toArray,.agg cb.toArray] w (EQP w (nrm va=nrm vb)):=by
 obtain ⟨a0,a1,a2,a3,a4,a5,a6,a7,a8,a9,aa,ab,rfl⟩:=ha.form
 obtain ⟨b0,b1,b2,b3,b4,b5,b6,b7,b8,b9,ba',bb',rfl⟩:=hb.form
 have HA:=hide (fun u (hu:Below w.heap.size w u)=>jnorm_any va ba ga _ u (ha.keep hu))
 have HB:=hide (fun u (hu:Below w.heap.size w u)=>jnorm_any vb bb gb _ u (hb.keep hu))
 generalize nrm va=na at *
 generalize nrm vb=nb at *
 have SW:=hide (same_world w [.int .i64 a0,.bool a1,.bool a2,.string a3,.int .i64 a4,.string a5,.slice a6 a7 a8,.slice a9 aa ab] [.int .i64 b0,.bool b1,.bool b2,.string b3,.int .i64 b4,.string b5,.slice b6 b7 b8,.slice b9 ba' bb'] 42 83)
 have CZ:=hide (fun (n:Nat) (c c':List Value) (u:World) (h1:VR u na c) (h2:VR u nb c') h3 h4=>same2_any n (n+1) _ na nb (Nat.lt_succ_self _) c c' u h1 h2 h3 h4)
 unfold smV smFV at SW
 clear ba bb ga gb ha hb
 go_enter Tryz.func26,Tryz.ntmps26
 go_upto_region 4 with fail
 obtain ⟨r1,r2,r3,r4,r5,r6⟩:=uh SW _ rfl
 generalize (((w.alloc (.cells [.int .i64 a0,.bool a1,.bool a2,.string a3,.int .i64 a4,.string a5,.slice a6 a7 a8,.slice a9 aa ab].toArray 27)).alloc (.cells [.int .i64 b0,.bool b1,.bool b2,.string b3,.int .i64 b4,.string b5,.slice b6 b7 b8,.slice b9 ba' bb'].toArray 27)).alloc (.cells #[.func (.func 60) #[] #[.pointer (some ⟨w.heap.size+1+1,0,none⟩),.pointer (some ⟨w.heap.size+1+1+1,0,none⟩)]] 42)).alloc (.cells #[.func (.func 59) #[] #[.pointer (some ⟨w.heap.size+1+1,0,none⟩)]] 83)=W at *
 obtain ⟨y0,y1,y2,y3,y4,y5,y6,y7⟩:=r1.cells
 obtain ⟨z0,z1,z2,z3,z4,z5,z6,z7⟩:=r2.cells
 have hdr:Below W.heap.size W W.drew:=⟨rfl,rfl,rfl,Nat.le_refl _,fun _ _=>rfl⟩
 have CA:=hide (uh HA W.drew (r6.trans (hdr.mono (by omega))))
 have CBB:=hide (fun u (hu:Below W.heap.size W u)=>uh HB u (r6.trans (hu.mono (by omega))))
 have R2:=hide r2
 have R3:=hide r3
 have R4:=hide r4
 have R5:=hide r5
 have R6:=hide r6
 have eg:=enter_same2
 clear r1 r2 r4 r5 r6 hdr SW HA HB
 go_region_law (first
  | (go_simp;go_at_call 15;refine (uh CA).mono ?_;rintro e u2 ⟨cs,pp,rfl,hr,hpn,hbl2⟩
     have hb3:Below W.heap.size W u2:=⟨hbl2.os,hbl2.tape,hbl2.output,hbl2.size,hbl2.block⟩
     have HR:=hide hr.vr
     obtain ⟨c0,c1,c2,c3,c4,c5,c6,c7,c8,c9,ca,cb,rfl⟩:=hr.vr.form
     have n2:=kc hb3 (uh R3)
     obtain ⟨x0,x1,x2,x3,x4,x5,x6,x7⟩:=((uh R2).keep hb3 (by have:=uh R5;omega)).cells
     have CB:=hide (uh CBB u2 hb3))
  | (go_simp;go_at_call 15;refine (uh CB).mono ?_;rintro e u3 ⟨cs',pp',rfl,hr',hpn',hbl3⟩
     have hb4:Below W.heap.size W u3:=hb3.trans (hbl3.mono hb3.size)
     have n3:=kc hb4 (uh R3)
     have CS:=hide (uh CZ _ _ _ u3 ((uh HR).keep hbl3) hr'.vr (kc hb4 (uh R3)) (kc hb4 (uh R4))))
  | (go_simp;go_at_call 60;refine (uh CS).mono ?_;rintro e u4 ⟨bz,rfl,hbz,hb5⟩))
 all_goals clear y0 y1 y2 y3 y4 y5 y6 y7 z0 z1 z2 z3 z4 z5 z6 z7 r3
 all_goals
  go_wp2
  go_ret
  have hz:=uh R5
  exact ⟨bz,rfl,hbz,(uh R6).trans ((hb4.mono (by omega)).trans (hb5.mono (by have:=hb4.size;omega)))⟩
theorem itoaB_few (n:Int) (h0:-9999≤n) (h1:n≤9999):(itoaB n).size≤21:=by
 have e:(itoaB n).size=(Lib.itoa n).length:=by unfold itoaB;exact List.size_toArray
 rw [e]
 exact Lib.itoa_length_le n (by omega) (by omega)
theorem txt_few (n:Dn) (h:Whole1 n):(textOf n).size≤n.dg.size+30:=by
 have hx:-9999≤n.ex∧n.ex≤9999:=by
  rcases h with rfl|h
  · exact ⟨by decide,by decide⟩
  · exact ⟨h.e0,h.e1⟩
 have:=itoaB_few n.ex hx.1 hx.2
 have e1:(⟨#[45]⟩:ByteArray).size=1:=rfl
 have e2:(⟨#[101]⟩:ByteArray).size=1:=rfl
 unfold textOf
 split
 · have:(⟨#[48]⟩:ByteArray).size=1:=rfl
   omega
 · split
   · split
     · rw [ByteArray.size_append];omega
     · omega
   · split
     · rw [ByteArray.size_append,ByteArray.size_append,ByteArray.size_append];omega
     · rw [ByteArray.size_append,ByteArray.size_append];omega
theorem light_few (n:Nat):∀ v,SizeOf.sizeOf v < n→cntV v≤100000000→Pf (cntV v) (nrm v)∧cst (nrm v)+100≤400*cntV v:=by
 induction n with
 | zero=>intro v h;omega
 | succ n IH =>
   intro v hn hc
   cases v with
   | mk k t d x l f =>
     have e0:(⟨#[]⟩:ByteArray).size=0:=rfl
     have hlf:∀ v∈l,Pf (cntV v) (nrm v)∧cst (nrm v)+100≤400*cntV v:=fun v hv=>IH v (by have:=sz_l (k:=k) (t:=t) (d:=d) (x:=x) (f:=f) hv;omega) (by have:=cnt_l (k:=k) (t:=t) (d:=d) (x:=x) (f:=f) hv;omega)
     have hff:∀ p∈f,Pf (cntV p.2) (nrm p.2)∧cst (nrm p.2)+100≤400*cntV p.2:=fun p hp=>IH p.2 (by have:=sz_f (k:=k) (t:=t) (d:=d) (x:=x) (l:=l) hp;omega) (by have:=cnt_f (k:=k) (t:=t) (d:=d) (x:=x) (l:=l) hp;omega)
     have hcl:∀ v∈l,cntV v+1≤cntV (.mk k t d x l f):=fun v hv=>cnt_l hv
     have hcf:∀ p∈f,cntV p.2+p.1.size+1≤cntV (.mk k t d x l f):=fun p hp=>cnt_f hp
     have hmk:=cntV_mk k t d x l f
     generalize cntV (.mk k t d x l f)=C at *
     rw [nrm_mk]
     by_cases e1:k=1
     · rw [if_pos e1]
       refine ⟨.truth C t,?_⟩
       show cst (leaf 1 t zed ⟨#[]⟩)+100≤_
       rw [cst_leaf,txt_zed]
       omega
     rw [if_neg e1]
     by_cases e2:k=2
     · rw [if_pos e2]
       obtain ⟨w1,w2⟩:=norm_ok d
       refine ⟨.num C w1 (by omega),?_⟩
       show cst (leaf 2 false (norm d) ⟨#[]⟩)+100≤_
       have:=txt_few _ w1
       rw [cst_leaf,wh.whole_id w1]
       omega
     rw [if_neg e2]
     by_cases e3:k=3
     · rw [if_pos e3]
       obtain ⟨w1,w2⟩:=clean_ltc x
       refine ⟨.text C w1 (by omega),?_⟩
       show cst (leaf 3 false zed (pt.clean x))+100≤_
       rw [cst_leaf,txt_zed]
       omega
     rw [if_neg e3]
     by_cases e4:k=4
     · rw [if_pos e4]
       refine ⟨?_,?_⟩
       · obtain ⟨C,rfl⟩:∃ q,C=q+1:=⟨C - 1,by omega⟩
         refine .list (fun v hv=>?_) (by rw [List.length_map];omega)
         obtain ⟨u,hu,rfl⟩:=List.mem_map.1 hv
         exact pf_mono (hlf u hu).1 C (by have:=hcl u hu;omega)
       · rw [cst_mk,txt_zed]
         simp only [List.map_nil,List.sum_nil,List.length_nil,List.length_map,List.map_map]
         have h1:(l.map (cst ∘ nrm)).sum≤(l.map fun v=>400*cntV v).sum:=sum_le fun v hv=>by have:=(hlf v hv).2;simp only [Function.comp_def];omega
         rw [sum_mul] at h1
         omega
     rw [if_neg e4]
     by_cases e5:k=5
     · rw [if_pos e5]
       obtain ⟨p1,p2⟩:=ss.puts_fst (f.map fun p=>(pt.clean p.1,nrm p.2))
       have hmem:∀ p∈jn.puts (f.map fun p=>(pt.clean p.1,nrm p.2)),∃ q∈f,p=(pt.clean q.1,nrm q.2):=fun p hp=>by
        obtain ⟨q,hq,e⟩:=List.mem_map.1 (mem_puts _ p hp)
        exact ⟨q,hq,e.symm⟩
       obtain ⟨s1,s2⟩:=puts_sum (fun p:ByteArray × JT=>cst p.2+6*p.1.size+30) (f.map fun p=>(pt.clean p.1,nrm p.2))
       rw [List.length_map] at s2
       refine ⟨?_,?_⟩
       · obtain ⟨C,rfl⟩:∃ q,C=q+1:=⟨C - 1,by omega⟩
         refine .obj (fun p hp=>?_) p2 (fun p hp=>?_) (by omega)
         · obtain ⟨q,hq,rfl⟩:=hmem p hp
           obtain ⟨w1,w2⟩:=clean_ltc q.1
           exact ⟨w1,by have:=hcf q hq;simp only;omega⟩
         · obtain ⟨q,hq,rfl⟩:=hmem p hp
           exact pf_mono (hff q hq).1 C (by have:=hcf q hq;omega)
       · rw [cst_mk,txt_zed]
         simp only [List.map_nil,List.sum_nil,List.length_nil]
         rw [List.map_map] at s1
         have h1:(f.map ((fun p:ByteArray × JT=>cst p.2+6*p.1.size+30) ∘ fun p=>(pt.clean p.1,nrm p.2))).sum≤(f.map fun p=>400*(p.1.size+cntV p.2)).sum:=sum_le fun p hp=>by
          have h3:=(hff p hp).2
          have h4:=(clean_ltc p.1).2
          simp only [Function.comp_def]
          omega
         rw [sum_mul] at h1
         omega
     rw [if_neg e5]
     refine ⟨.null C,?_⟩
     show cst (leaf 0 false zed ⟨#[]⟩)+100≤_
     rw [cst_leaf,txt_zed]
     omega
theorem sum_snoc {α:Type} (g:α→Nat) (l:List α) (i:Nat) (v:α) (h:l[i]?=some v):((l.take (i+1)).map g).sum=((l.take i).map g).sum+g v:=by
 rw [take_succ' h,List.map_append,List.sum_append_nat]
 simp
def MP (n c:Nat) (w:World) (e:Ending) (w':World):Prop:=∃ r:Nat,e=.returned (.int .i64 (r:Int))∧(r≤4194304→r=n+c)∧r≤100000000000000∧Below w.heap.size w w'
set_option maxRecDepth 1000000 in
set_option maxHeartbeats 6400000 in
theorem many_any (N:Nat):∀ (v:JT),SizeOf.sizeOf v < N→Bd v→∀ (n ar:Nat) (cs:List Value) (w:World),n≤36000000000000→ar≤65537→VR w v cs→Calls Tryz.prog 31 #[.agg cs.toArray,.int .i64 (n:Int),.int .i64 (ar:Int)] w (MP n (cntV v) w):=by
 induction N with
 | zero=>intro v h;omega
 | succ N IH =>
   intro v hN hbd n ar cs w hn har h
   cases v with
   | mk k t d x l f =>
     obtain ⟨oa,ca,ob,cb,rfl⟩:=h.parts
     obtain ⟨dn,dg,dx⟩:=d
     cases hbd with
     | mk hk h0 h1 h2 h3 h4 hl hnm hf =>
       obtain ⟨x2,l2,_,z2⟩:=boxE w [.int .i64 k,.bool t,.bool dn,.string dg,.int .i64 dx,.string x,.slice oa l.length ca,.slice ob f.length cb] _ w (Below.refl _ w) (Nat.le_refl _) _ rfl
       have hcv:=cntV_mk k t ⟨dn,dg,dx⟩ x l f
       have I1:=hide (fun v (hv:v∈l) (n ar:Nat) (cs:List Value) (w:World)=>IH v (by have:=sz_l (k:=k) (t:=t) (d:=⟨dn,dg,dx⟩) (x:=x) (f:=f) hv;omega) (hl v hv) n ar cs w)
       have I2:=hide (fun p (hp:p∈f) (n ar:Nat) (cs:List Value) (w:World)=>IH p.2 (by have:=sz_f (k:=k) (t:=t) (d:=⟨dn,dg,dx⟩) (x:=x) (l:=l) hp;omega) (hf p hp) n ar cs w)
       generalize cntV (JT.mk k t ⟨dn,dg,dx⟩ x l f)=C at *
       have HCV:=hide hcv
       have HNM:=hide hnm
       have HV:=hide h
       clear h hcv hnm hl hf IH hN
       by_cases ha:65536 < ar
       · have haz:(65536:Int) < (ar:Int):=by omega
         clear I1 I2 x2 z2 HCV HNM HV h0 h1 h2 h3 h4 hk
         go_enter Tryz.func31,Tryz.ntmps31
         go_wp2
         go_ret
         exact ⟨4194305,rfl,fun q=>by omega,by omega,l2⟩
       · have haz:¬ (65536:Int) < (ar:Int):=by omega
         obtain ⟨y0,y1,y2,y3,y4,y5,y6,y7⟩:=x2.cells
         have V2:=hide ((uh HV).keep l2)
         have X2:=hide x2
         have Z2:=hide z2
         have L2:=hide l2
         clear x2 z2 l2 HV
         obtain ⟨b0,hb0⟩:∃ b0,b0=n+1+x.size+dg.size+l.length+f.length:=⟨_,rfl⟩
         have HB0:=hide hb0
         have hbz:(b0:Int)=(n:Int)+1+(x.size:Int)+(dg.size:Int)+(l.length:Int)+(f.length:Int):=by omega
         have h0':dg.size≤1099511627776:=h0
         have hbb:b0≤80000000000000:=by omega
         have HBZ:=hide hbz
         clear hb0 hbz
         go_enter Tryz.func31,Tryz.ntmps31
         go_upto_region 4 with fail
         clear y0 y1 y2 y3 y4 y5 y6 y7
         generalize w.alloc (.cells [.int .i64 k,.bool t,.bool dn,.string dg,.int .i64 dx,.string x,.slice oa l.length ca,.slice ob f.length cb].toArray 27)=W2 at *
         go_wp2
         go_loopw [1,7] (fun mv iv wr=>∃ (m i:Nat),mv=.int .i64 (m:Int)∧iv=.int .i64 (i:Int)∧i≤l.length∧m≤100000000000000∧Hid (m≤4194304→m=b0+((l.take i).map cntV).sum)∧Hid (Below W2.heap.size W2 wr)) (fun _ iv _=>l.length - (intOf iv).toNat)
         case atStart=>exact ⟨b0,0,by rw [uh HBZ],rfl,Nat.zero_le _,by omega,fun _=>by simp,Below.refl _ _⟩
         case round =>
          obtain ⟨m,i,rfl,rfl,hi,hm2,HM,HB⟩:=hrel
          obtain ⟨y0,y1,y2,y3,y4,y5,y6,y7⟩:=((uh X2).keep (uh HB) (uh Z2)).cells
          by_cases hc:i < l.length
          · have hi1:(i:Int) < (l.length:Int):=by omega
            by_cases hm:m≤4194304
            · have hmz:(m:Int)≤4194304:=by omega
              obtain ⟨ad,e,q0,q1,q2,q3,q4,q5,q6,q7,rfl,hev,hvr,hat⟩:=((uh V2).keep (uh HB)).el i hc
              obtain ⟨x0,x1,x2,x3,x4,x5,x6,x7⟩:=cells8 hat
              have hem:=List.mem_of_getElem? hev
              have CI:=hide (uh I1 e hem m (ar+1) _ wr (by omega) (by omega) hvr)
              have HSN:=hide (sum_snoc cntV l i e hev)
              generalize cntV e=ce at CI HSN
              clear hat hvr hev hem
              go_wp2_with (go_at_call 31;refine (uh CI).mono ?_;rintro e1 u2 ⟨r,rfl,hr1,hr2,b2⟩)
              have HB2:=hide ((uh HB).trans (b2.mono (uh HB).size))
              refine ⟨⟨r,i+1,rfl,by go_num,by omega,hr2,fun q9=>?_,HB2⟩,by simp [intOf];omega⟩
              have h5:=hr1 q9
              have h6:=uh HM (by omega)
              rw [uh HSN]
              omega
            · have hmz:¬ (m:Int)≤4194304:=by omega
              have E1:=hide (show m≤4194304→m=b0+(l.map cntV).sum from fun q9=>absurd q9 hm)
              have hmb:=hm2
              have HB1:=HB
              clear HM HB hm2 I1
              go_upto_region 8 with fail
              clear y0 y1 y2 y3 y4 y5 y6 y7
              go_wp2
              go_loopw [1,8] (fun mv iv wr'=>∃ (q i:Nat),mv=.int .i64 (q:Int)∧iv=.int .i64 (i:Int)∧i≤f.length∧q≤100000000000000∧Hid (q≤4194304→q=b0+(l.map cntV).sum+((f.take i).map fun p=>p.1.size+cntV p.2).sum)∧Hid (Below W2.heap.size W2 wr')) (fun _ iv _=>f.length - (intOf iv).toNat)
              case atStart=>exact ⟨m,0,rfl,rfl,Nat.zero_le _,hmb,fun q=>by simpa using uh E1 q,HB1⟩
              case round =>
               obtain ⟨q,i,rfl,rfl,hi,hq2,HQ,HB⟩:=hrel
               obtain ⟨y0,y1,y2,y3,y4,y5,y6,y7⟩:=((uh X2).keep (uh HB) (uh Z2)).cells
               clear E1 HB1
               by_cases hc:i < f.length
               · have hi1:(i:Int) < (f.length:Int):=by omega
                 by_cases hm:q≤4194304
                 · have hmz:(q:Int)≤4194304:=by omega
                   obtain ⟨ad,nm,e,q0,q1,q2,q3,q4,q5,q6,q7,rfl,hev,hvr,hat⟩:=((uh V2).keep (uh HB)).fl i hc
                   obtain ⟨x8,x0,x1,x2,x3,x4,x5,x6,x7⟩:=cells9 hat
                   have hem:=List.mem_of_getElem? hev
                   have hns:=uh HNM _ hem
                   simp only at hns
                   have HSN:=hide (sum_snoc (fun p:ByteArray × JT=>p.1.size+cntV p.2) f i _ hev)
                   have CI:=hide (fun u (hu:Below wr.heap.size wr u)=>uh I2 _ hem (q+nm.size) (ar+1) _ u (by omega) (by omega) (hvr.keep hu))
                   simp only at CI HSN
                   generalize cntV e=ce at CI HSN
                   have hw0:Below wr.heap.size wr wr.drew:=⟨rfl,rfl,rfl,Nat.le_refl _,fun _ _=>rfl⟩
                   have HmkS:∀ u,Below wr.heap.size wr u→Below wr.heap.size wr u∧u.cell? ⟨w.heap.size,7,none⟩=some (.slice (some ad) f.length cb)∧u.cell? (ad.add (i*9))=some (.string nm)∧u.cell? ⟨(ad.add (i*9)).block,(ad.add (i*9)).off+1,none⟩=some q0∧u.cell? ⟨(ad.add (i*9)).block,(ad.add (i*9)).off+2,none⟩=some q1∧u.cell? ⟨(ad.add (i*9)).block,(ad.add (i*9)).off+3,none⟩=some q2∧u.cell? ⟨(ad.add (i*9)).block,(ad.add (i*9)).off+4,none⟩=some q3∧u.cell? ⟨(ad.add (i*9)).block,(ad.add (i*9)).off+5,none⟩=some q4∧u.cell? ⟨(ad.add (i*9)).block,(ad.add (i*9)).off+6,none⟩=some q5∧u.cell? ⟨(ad.add (i*9)).block,(ad.add (i*9)).off+7,none⟩=some q6∧u.cell? ⟨(ad.add (i*9)).block,(ad.add (i*9)).off+8,none⟩=some q7:=fun u hu=>⟨hu,kc hu y7,kc hu x8,kc hu x0,kc hu x1,kc hu x2,kc hu x3,kc hu x4,kc hu x5,kc hu x6,kc hu x7⟩
                   have wa:IntKind.i64.wrap ((q:Int)+(nm.size:Int))=((q+nm.size:Nat):Int):=by rw [IntKind.wrap_i64];omega
                   have wb:IntKind.i64.wrap ((ar:Int)+1)=((ar+1:Nat):Int):=by rw [IntKind.wrap_i64];omega
                   clear hat hvr hev hem
                   go_wp2_with fail
                   go_region_held3 (fun u=>Below wr.heap.size wr u∧u.cell? ⟨w.heap.size,7,none⟩=some (.slice (some ad) f.length cb)∧u.cell? (ad.add (i*9))=some (.string nm)∧u.cell? ⟨(ad.add (i*9)).block,(ad.add (i*9)).off+1,none⟩=some q0∧u.cell? ⟨(ad.add (i*9)).block,(ad.add (i*9)).off+2,none⟩=some q1∧u.cell? ⟨(ad.add (i*9)).block,(ad.add (i*9)).off+3,none⟩=some q2∧u.cell? ⟨(ad.add (i*9)).block,(ad.add (i*9)).off+4,none⟩=some q3∧u.cell? ⟨(ad.add (i*9)).block,(ad.add (i*9)).off+5,none⟩=some q4∧u.cell? ⟨(ad.add (i*9)).block,(ad.add (i*9)).off+6,none⟩=some q5∧u.cell? ⟨(ad.add (i*9)).block,(ad.add (i*9)).off+7,none⟩=some q6∧u.cell? ⟨(ad.add (i*9)).block,(ad.add (i*9)).off+8,none⟩=some q7) (with_reducible refine HmkS _ ?_;with_reducible first|assumption|exact Below.refl _ _) (first
                    | (go_at_call 31;refine (uh CI _ (by with_reducible assumption)).mono ?_;rintro e1 u5 ⟨r,rfl,hr1,hr2,b5⟩
                       have hB5:Below wr.heap.size wr u5:=hw0.trans (b5.mono (Nat.le_refl _))))
                   have HR1:=hide hr1
                   have HB5:=hide ((uh HB).trans (hB5.mono (uh HB).size))
                   clear HmkS hw0 b5 hB5 hr1 CI x0 x1 x2 x3 x4 x5 x6 x7 x8 y0 y1 y2 y3 y4 y5 y6 y7
                   go_wp2
                   refine ⟨⟨r,i+1,rfl,by go_num,by omega,hr2,fun q9=>?_,HB5⟩,by simp [intOf];omega⟩
                   have h5:=uh HR1 q9
                   have h6:=uh HQ (by omega)
                   rw [uh HSN]
                   omega
                 · have hmz:¬ (q:Int)≤4194304:=by omega
                   go_wp2
                   go_ret
                   exact ⟨q,rfl,fun q9=>absurd q9 hm,hq2,(uh L2).trans ((uh HB).mono (uh L2).size)⟩
               · obtain rfl:i=f.length:=by omega
                 have hno:¬ (f.length:Int) < (f.length:Int):=by omega
                 rw [List.take_of_length_le (Nat.le_refl _)] at HQ
                 go_wp2
                 go_ret
                 refine ⟨q,rfl,fun q9=>?_,hq2,(uh L2).trans ((uh HB).mono (uh L2).size)⟩
                 have h6:=uh HQ q9
                 have h7:=uh HCV
                 have h8:=uh HB0
                 omega
          · obtain rfl:i=l.length:=by omega
            have hno:¬ (l.length:Int) < (l.length:Int):=by omega
            rw [List.take_of_length_le (Nat.le_refl _)] at HM
            have E1:=hide (show m≤4194304→m=b0+(l.map cntV).sum from uh HM)
            have hmb:=hm2
            have HB1:=HB
            clear HM HB hm2 I1
            go_upto_region 8 with fail
            clear y0 y1 y2 y3 y4 y5 y6 y7
            go_wp2
            go_loopw [1,8] (fun mv iv wr'=>∃ (q i:Nat),mv=.int .i64 (q:Int)∧iv=.int .i64 (i:Int)∧i≤f.length∧q≤100000000000000∧Hid (q≤4194304→q=b0+(l.map cntV).sum+((f.take i).map fun p=>p.1.size+cntV p.2).sum)∧Hid (Below W2.heap.size W2 wr')) (fun _ iv _=>f.length - (intOf iv).toNat)
            case atStart=>exact ⟨m,0,rfl,rfl,Nat.zero_le _,hmb,fun q=>by simpa using uh E1 q,HB1⟩
            case round =>
             obtain ⟨q,i,rfl,rfl,hi,hq2,HQ,HB⟩:=hrel
             obtain ⟨y0,y1,y2,y3,y4,y5,y6,y7⟩:=((uh X2).keep (uh HB) (uh Z2)).cells
             clear E1 HB1
             by_cases hc:i < f.length
             · have hi1:(i:Int) < (f.length:Int):=by omega
               by_cases hm:q≤4194304
               · have hmz:(q:Int)≤4194304:=by omega
                 obtain ⟨ad,nm,e,q0,q1,q2,q3,q4,q5,q6,q7,rfl,hev,hvr,hat⟩:=((uh V2).keep (uh HB)).fl i hc
                 obtain ⟨x8,x0,x1,x2,x3,x4,x5,x6,x7⟩:=cells9 hat
                 have hem:=List.mem_of_getElem? hev
                 have hns:=uh HNM _ hem
                 simp only at hns
                 have HSN:=hide (sum_snoc (fun p:ByteArray × JT=>p.1.size+cntV p.2) f i _ hev)
                 have CI:=hide (fun u (hu:Below wr.heap.size wr u)=>uh I2 _ hem (q+nm.size) (ar+1) _ u (by omega) (by omega) (hvr.keep hu))
                 simp only at CI HSN
                 generalize cntV e=ce at CI HSN
                 have hw0:Below wr.heap.size wr wr.drew:=⟨rfl,rfl,rfl,Nat.le_refl _,fun _ _=>rfl⟩
                 have HmkS:∀ u,Below wr.heap.size wr u→Below wr.heap.size wr u∧u.cell? ⟨w.heap.size,7,none⟩=some (.slice (some ad) f.length cb)∧u.cell? (ad.add (i*9))=some (.string nm)∧u.cell? ⟨(ad.add (i*9)).block,(ad.add (i*9)).off+1,none⟩=some q0∧u.cell? ⟨(ad.add (i*9)).block,(ad.add (i*9)).off+2,none⟩=some q1∧u.cell? ⟨(ad.add (i*9)).block,(ad.add (i*9)).off+3,none⟩=some q2∧u.cell? ⟨(ad.add (i*9)).block,(ad.add (i*9)).off+4,none⟩=some q3∧u.cell? ⟨(ad.add (i*9)).block,(ad.add (i*9)).off+5,none⟩=some q4∧u.cell? ⟨(ad.add (i*9)).block,(ad.add (i*9)).off+6,none⟩=some q5∧u.cell? ⟨(ad.add (i*9)).block,(ad.add (i*9)).off+7,none⟩=some q6∧u.cell? ⟨(ad.add (i*9)).block,(ad.add (i*9)).off+8,none⟩=some q7:=fun u hu=>⟨hu,kc hu y7,kc hu x8,kc hu x0,kc hu x1,kc hu x2,kc hu x3,kc hu x4,kc hu x5,kc hu x6,kc hu x7⟩
                 have wa:IntKind.i64.wrap ((q:Int)+(nm.size:Int))=((q+nm.size:Nat):Int):=by rw [IntKind.wrap_i64];omega
                 have wb:IntKind.i64.wrap ((ar:Int)+1)=((ar+1:Nat):Int):=by rw [IntKind.wrap_i64];omega
                 clear hat hvr hev hem
                 go_wp2_with fail
                 go_region_held3 (fun u=>Below wr.heap.size wr u∧u.cell? ⟨w.heap.size,7,none⟩=some (.slice (some ad) f.length cb)∧u.cell? (ad.add (i*9))=some (.string nm)∧u.cell? ⟨(ad.add (i*9)).block,(ad.add (i*9)).off+1,none⟩=some q0∧u.cell? ⟨(ad.add (i*9)).block,(ad.add (i*9)).off+2,none⟩=some q1∧u.cell? ⟨(ad.add (i*9)).block,(ad.add (i*9)).off+3,none⟩=some q2∧u.cell? ⟨(ad.add (i*9)).block,(ad.add (i*9)).off+4,none⟩=some q3∧u.cell? ⟨(ad.add (i*9)).block,(ad.add (i*9)).off+5,none⟩=some q4∧u.cell? ⟨(ad.add (i*9)).block,(ad.add (i*9)).off+6,none⟩=some q5∧u.cell? ⟨(ad.add (i*9)).block,(ad.add (i*9)).off+7,none⟩=some q6∧u.cell? ⟨(ad.add (i*9)).block,(ad.add (i*9)).off+8,none⟩=some q7) (with_reducible refine HmkS _ ?_;with_reducible first|assumption|exact Below.refl _ _) (first
                  | (go_at_call 31;refine (uh CI _ (by with_reducible assumption)).mono ?_;rintro e1 u5 ⟨r,rfl,hr1,hr2,b5⟩
                     have hB5:Below wr.heap.size wr u5:=hw0.trans (b5.mono (Nat.le_refl _))))
                 have HR1:=hide hr1
                 have HB5:=hide ((uh HB).trans (hB5.mono (uh HB).size))
                 clear HmkS hw0 b5 hB5 hr1 CI x0 x1 x2 x3 x4 x5 x6 x7 x8 y0 y1 y2 y3 y4 y5 y6 y7
                 go_wp2
                 refine ⟨⟨r,i+1,rfl,by go_num,by omega,hr2,fun q9=>?_,HB5⟩,by simp [intOf];omega⟩
                 have h5:=uh HR1 q9
                 have h6:=uh HQ (by omega)
                 rw [uh HSN]
                 omega
               · have hmz:¬ (q:Int)≤4194304:=by omega
                 go_wp2
                 go_ret
                 exact ⟨q,rfl,fun q9=>absurd q9 hm,hq2,(uh L2).trans ((uh HB).mono (uh L2).size)⟩
             · obtain rfl:i=f.length:=by omega
               have hno:¬ (f.length:Int) < (f.length:Int):=by omega
               rw [List.take_of_length_le (Nat.le_refl _)] at HQ
               go_wp2
               go_ret
               refine ⟨q,rfl,fun q9=>?_,hq2,(uh L2).trans ((uh HB).mono (uh L2).size)⟩
               have h6:=uh HQ q9
               have h7:=uh HCV
               have h8:=uh HB0
               omega
set_option maxHeartbeats 1600000 in
theorem heavy_any (v:JT) (hb:Bd v) (cs:List Value) (w:World) (h:VR w v cs):Calls Tryz.prog 9 #[.agg cs.toArray] w fun e w'=>∃ b:Bool,e=.returned (.bool b)∧(b=false→cntV v≤4194304)∧Below w.heap.size w w':=by
 obtain ⟨a0,a1,a2,a3,a4,a5,a6,a7,rfl⟩:=h.eight
 obtain ⟨x2,l2,_,z2⟩:=boxE w [a0,a1,a2,a3,a4,a5,a6,a7] _ w (Below.refl _ w) (Nat.le_refl _) _ rfl
 have CI:=hide (many_any _ v (Nat.lt_succ_self _) hb 0 0 _ _ (by omega) (by omega) (h.keep l2))
 have L2:=hide l2
 have Z2:=hide z2
 obtain ⟨y0,y1,y2,y3,y4,y5,y6,y7⟩:=x2.cells
 generalize cntV v=C at *
 clear h hb l2 x2 z2
 go_enter Tryz.func9,Tryz.ntmps9
 go_wp2_with (go_at_call 31;refine (uh CI).mono ?_;rintro e1 u2 ⟨r,rfl,hr1,hr2,b2⟩)
 go_ret
 refine ⟨_,rfl,fun q=>?_,(uh L2).trans (b2.mono (Nat.le_of_lt (uh Z2)))⟩
 have hq:¬ (4194304:Int) < (r:Int):=by simpa using q
 have:=hr1 (by omega)
 omega
structure Lit (v:JT):Prop where
 gd:Gd v
 pf:Pf (cntV v) (nrm v)
 bn:Bd (nrm v)
 cst:cst (nrm v)≤2000000000
 len:(prt (nrm v)).length≤2000000000
theorem lit_of {v:JT} (hb:Bd v) (hc:cntV v≤4194304):Lit v:=by
 obtain ⟨h1,h2⟩:=light_few _ v (Nat.lt_succ_self _) (by omega)
 have h3:=prt_le _ (nrm v) (Nat.lt_succ_self _)
 exact ⟨light_gd _ v (Nat.lt_succ_self _) hb (by omega),h1,pf_bd h1,by omega,by omega⟩
set_option maxHeartbeats 12800000 in
set_option maxRecDepth 1000000 in
theorem sames_law (RC:CopyC) (JS:SameC) (E:Nat→Value) (A:Nat→Addr) (hEA:E 0=.pointer (some (A 0))) (v v':JT) (bv:Bd v) (bv':Bd v') (c c':List Value) (w:World) (h:AE E A w) (hv:VR w v c) (hv':VR w v' c') :
 Calls Tryz.prog 5 #[.agg c.toArray,.agg c'.toArray] w fun e w'=>e=.returned (.bool true)∧Below w.heap.size w w':=by
 obtain ⟨a0,a1,a2,a3,a4,a5,a6,a7,a8,a9,aa,ab,rfl⟩:=hv.form
 obtain ⟨b0,b1,b2,b3,b4,b5,b6,b7,b8,b9,ba,bb,rfl⟩:=hv'.form
 have HJS:=hide JS
 clear JS
 have B2:=hide (box_two w [.int .i64 a0,.bool a1,.bool a2,.string a3,.int .i64 a4,.string a5,.slice a6 a7 a8,.slice a9 aa ab] [.int .i64 b0,.bool b1,.bool b2,.string b3,.int .i64 b4,.string b5,.slice b6 b7 b8,.slice b9 ba bb])
 have V1:=hide (fun u (hu:Below w.heap.size w u)=>hv.keep hu)
 have V2:=hide (fun u (hu:Below w.heap.size w u)=>hv'.keep hu)
 have CH1:=hide (fun u (hu:Below w.heap.size w u)=>heavy_any v bv _ u (hv.keep hu))
 have CH2:=hide (fun u (hu:Below w.heap.size w u)=>heavy_any v' bv' _ u (hv'.keep hu))
 have BV:=hide bv
 have BV':=hide bv'
 have CA:=hide (fun u (hu:Below w.heap.size w u)=>jawake E A hEA u (h.keep hu))
 clear hv hv' h hEA bv bv'
 go_enter Tryz.func5,Tryz.ntmps5
 go_upto_region 1 with fail
 obtain ⟨q0,q1,q2⟩:=uh B2
 generalize (w.alloc (.cells [.int .i64 a0,.bool a1,.bool a2,.string a3,.int .i64 a4,.string a5,.slice a6 a7 a8,.slice a9 aa ab].toArray 27)).alloc (.cells [.int .i64 b0,.bool b1,.bool b2,.string b3,.int .i64 b4,.string b5,.slice b6 b7 b8,.slice b9 ba bb].toArray 27)=W at *
 obtain ⟨y0,y1,y2,y3,y4,y5,y6,y7⟩:=q0.cells
 obtain ⟨z0,z1,z2,z3,z4,z5,z6,z7⟩:=q1.cells
 have HB:=hide q2
 have X0:=hide q0
 have X1:=hide q1
 have CW1:=hide (uh CH1 W q2)
 clear q0 q1 q2 B2 CH1
 go_upto_region 2 with (go_at_call 9;refine (uh CW1).mono ?_;rintro e1 u1 ⟨h1,rfl,hh1,l1⟩
                        clear CW1)
 have HH1:=hide hh1
 have L1:=hide ((uh HB).trans (l1.mono (uh HB).size))
 have CW2:=hide (uh CH2 u1 (uh L1))
 have zz:=((uh X1).keep l1 (blk_lt (uh X1))).cells
 clear z0 z1 z2 z3 z4 z5 z6 z7
 obtain ⟨z0,z1,z2,z3,z4,z5,z6,z7⟩:=zz
 have Y1:=hide l1
 clear l1 hh1 CH2 y0 y1 y2 y3 y4 y5 y6 y7
 go_upto_region 3 with (go_at_call 9;refine (uh CW2).mono ?_;rintro e2 u2 ⟨h2,rfl,hh2,l2⟩
                        clear CW2)
 have HH2:=hide hh2
 have Y2:=hide ((uh Y1).trans (l2.mono (uh Y1).size))
 have L2:=hide ((uh L1).trans (l2.mono (uh L1).size))
 clear l2 hh2 Y1 L1 z0 z1 z2 z3 z4 z5 z6 z7
 cases h1 with
 | true =>
   go_wp2
   go_ret
   exact ⟨rfl,uh L2⟩
 | false =>
   cases h2 with
   | true =>
     go_wp2
     go_ret
     exact ⟨rfl,uh L2⟩
   | false =>
     have c1:=uh HH1 rfl
     have c2:=uh HH2 rfl
     have G1:=hide (lit_of (uh BV) c1)
     have G2:=hide (lit_of (uh BV') c2)
     obtain ⟨bz,hbz⟩:∃ bz:Bool,bz=true↔nrm v=nrm v':=by
      by_cases q:nrm v=nrm v'
      · exact ⟨true,by simp [q]⟩
      · exact ⟨false,by simp [q]⟩
     have CS1:Hid (∀ (ca cb:List Value) (u:World),VR u v ca→VR u v' cb→Calls Tryz.prog 26 #[.agg ca.toArray,.agg cb.toArray] u fun e u'=>e=.returned (.bool bz)∧Below u.heap.size u u'):=fun ca cb u ha hb=>(uh HJS v v' (uh BV) (uh BV') (uh G1).gd (uh G2).gd ca cb u ha hb).mono fun e u' he=>by
      obtain ⟨b,rfl,hb,hl⟩:=he
      have:b=bz:=by cases b <;> cases bz <;> simp_all
      subst this
      exact ⟨rfl,hl⟩
     have CS2:Hid (∀ (ca cb:List Value) (u:World),VR u v' ca→VR u v cb→Calls Tryz.prog 26 #[.agg ca.toArray,.agg cb.toArray] u fun e u'=>e=.returned (.bool bz)∧Below u.heap.size u u'):=fun ca cb u ha hb=>(uh HJS v' v (uh BV') (uh BV) (uh G2).gd (uh G1).gd ca cb u ha hb).mono fun e u' he=>by
      obtain ⟨b,rfl,hb,hl⟩:=he
      have:b=bz:=by
       have hb':b=true↔nrm v=nrm v':=hb.trans eq_comm
       cases b <;> cases bz <;> simp_all
      subst this
      exact ⟨rfl,hl⟩
     have CS3:Hid (∀ (ca cb:List Value) (u:World),VR u v ca→VR u v cb→Calls Tryz.prog 26 #[.agg ca.toArray,.agg cb.toArray] u fun e u'=>e=.returned (.bool true)∧Below u.heap.size u u'):=fun ca cb u ha hb=>(uh HJS v v (uh BV) (uh BV) (uh G1).gd (uh G1).gd ca cb u ha hb).mono fun e u' he=>by
      obtain ⟨b,rfl,hb,hl⟩:=he
      have:b=true:=hb.2 rfl
      subst this
      exact ⟨rfl,hl⟩
     have CRS:Hid (∀ (ca cb:List Value) (u:World),VR u v ca→VR u v' cb→Calls Tryz.prog 27 #[.agg ca.toArray,.agg cb.toArray] u fun e u'=>e=.returned (.bool bz)∧Below u.heap.size u u'):=fun ca cb u ha hb=>(rsame_any v v' ca cb u ha hb (uh BV) (uh BV')).mono fun e u' he=>by
      obtain ⟨b,rfl,hb,hl⟩:=he
      have:b=bz:=by cases b <;> cases bz <;> simp_all
      subst this
      exact ⟨rfl,hl⟩
     have CL1:=hide (fun u (hu:Below w.heap.size w u)=>rlend_any RC v (uh BV) (by omega) _ u (uh V1 u hu))
     have CL2:=hide (fun u (hu:Below w.heap.size w u)=>rlend_any RC v' (uh BV') (by omega) _ u (uh V2 u hu))
     have CAw:=hide (uh CA u2 (uh L2))
     clear c1 c2 G1 G2 hbz HH1 HH2 CA HJS BV BV'
     go_upto_region 6 with (go_at_call 10;refine (uh CAw).mono ?_;rintro e3 u3 ⟨rfl,l3⟩
                            clear CAw)
     have L3:=hide ((uh L2).trans (l3.mono (uh L2).size))
     have Y3:=hide ((uh Y2).trans (l3.mono (uh Y2).size))
     obtain ⟨y0,y1,y2,y3,y4,y5,y6,y7⟩:=((uh X0).keep (uh Y3) (blk_lt (uh X0))).cells
     have CLa:=hide (uh CL1 u3 (uh L3))
     clear l3 L2 Y2 CL1
     go_upto_region 7 with (go_at_call 11;refine (uh CLa).mono ?_;rintro e4 u4 ⟨T,csV,csW,ls,fs,LS,FS,rfl,hT,hld,l4⟩
                            clear CLa)
     have L4:=hide ((uh L3).trans (l4.mono (uh L3).size))
     have Y4:=hide ((uh Y3).trans (l4.mono (uh Y3).size))
     have D4:=hide hld
     obtain ⟨z0,z1,z2,z3,z4,z5,z6,z7⟩:=((uh X1).keep (uh Y4) (blk_lt (uh X1))).cells
     have CLb:=hide (uh CL2 u4 (uh L4))
     clear l4 L3 Y3 CL2 hld hT y0 y1 y2 y3 y4 y5 y6 y7
     go_upto_region 8 with (go_at_call 11;refine (uh CLb).mono ?_;rintro e5 u5 ⟨T',csV',csW',ls',fs',LS',FS',rfl,hT',hld',l5⟩
                            clear CLb)
     have L5:=hide ((uh L4).trans (l5.mono (uh L4).size))
     have Y5:=hide ((uh Y4).trans (l5.mono (uh Y4).size))
     have D5:=hide ((uh D4).keep l5)
     have E5:=hide hld'
     clear l5 L4 Y4 D4 hld' hT' z0 z1 z2 z3 z4 z5 z6 z7
     obtain ⟨d0,d1,d2,d3,d4,d5,d6,d7,d8,d9,da,db,rfl⟩:=(uh D5).v1.form
     obtain ⟨f0,f1,f2,f3,f4,f5,f6,f7,f8,f9,fa,fb,rfl⟩:=(uh E5).v1.form
     obtain ⟨g0,g1,g2,g3,g4,g5,g6,g7,g8,g9,ga,gb,rfl⟩:=(uh D5).v2.form
     obtain ⟨h0,h1,h2,h3,h4,h5,h6,h7,h8,h9,ha,hb,rfl⟩:=(uh E5).v2.form
     have hbk:=(uh D5).bk
     have hbl:=(uh E5).bk
     have k0:u5.cell? ⟨T,0,none⟩=some (.int .i64 d0):=blk_cell hbk 0
     have k1:u5.cell? ⟨T,1,none⟩=some (.bool d1):=blk_cell hbk 1
     have k2:u5.cell? ⟨T,2,none⟩=some (.bool d2):=blk_cell hbk 2
     have k3:u5.cell? ⟨T,3,none⟩=some (.string d3):=blk_cell hbk 3
     have k4:u5.cell? ⟨T,4,none⟩=some (.int .i64 d4):=blk_cell hbk 4
     have k5:u5.cell? ⟨T,5,none⟩=some (.string d5):=blk_cell hbk 5
     have k6:u5.cell? ⟨T,6,none⟩=some (.slice d6 d7 d8):=blk_cell hbk 6
     have k7:u5.cell? ⟨T,7,none⟩=some (.slice d9 da db):=blk_cell hbk 7
     have m0:u5.cell? ⟨T',0,none⟩=some (.int .i64 f0):=blk_cell hbl 0
     have m1:u5.cell? ⟨T',1,none⟩=some (.bool f1):=blk_cell hbl 1
     have m2:u5.cell? ⟨T',2,none⟩=some (.bool f2):=blk_cell hbl 2
     have m3:u5.cell? ⟨T',3,none⟩=some (.string f3):=blk_cell hbl 3
     have m4:u5.cell? ⟨T',4,none⟩=some (.int .i64 f4):=blk_cell hbl 4
     have m5:u5.cell? ⟨T',5,none⟩=some (.string f5):=blk_cell hbl 5
     have m6:u5.cell? ⟨T',6,none⟩=some (.slice f6 f7 f8):=blk_cell hbl 6
     have m7:u5.cell? ⟨T',7,none⟩=some (.slice f9 fa fb):=blk_cell hbl 7
     have CSn:=hide (uh CS1 _ _ u5.drew ((uh D5).v1.drew) ((uh E5).v1.drew))
     clear hbk hbl
     go_upto_region 8 with fail
     go_cut [10] from 15 (fun s wx=>s=.bool bz∧Below u5.heap.size u5 wx)
     case first =>
      go_region_law (go_simp;go_at_call 26;refine (uh CSn).mono ?_;rintro e6 ux ⟨rfl,l0⟩;have ln:Below u5.heap.size u5 ux:=⟨l0.os,l0.tape,l0.output,l0.size,l0.block⟩;clear CSn l0)
      all_goals go_wp2
      all_goals go_meet
      all_goals exact ⟨rfl,ln⟩
     case rest =>
     obtain ⟨rfl,ln⟩:=hcut
     obtain ⟨u6,hu6⟩:∃ u,u=wc:=⟨_,rfl⟩
     subst hu6
     clear CSn
     have L6:=hide ((uh L5).trans (ln.mono (uh L5).size))
     have Y6:=hide ((uh Y5).trans (ln.mono (uh Y5).size))
     have D6:=hide ((uh D5).keep ln)
     have E6:=hide ((uh E5).keep ln)
     clear ln L5 Y5 D5 E5 k0 k1 k2 k3 k4 k5 k6 k7 m0 m1 m2 m3 m4 m5 m6 m7 CS1
     have hbk:=(uh D6).bk
     have hbl:=(uh E6).bk
     have k0:u6.cell? ⟨T,0,none⟩=some (.int .i64 d0):=blk_cell hbk 0
     have k1:u6.cell? ⟨T,1,none⟩=some (.bool d1):=blk_cell hbk 1
     have k2:u6.cell? ⟨T,2,none⟩=some (.bool d2):=blk_cell hbk 2
     have k3:u6.cell? ⟨T,3,none⟩=some (.string d3):=blk_cell hbk 3
     have k4:u6.cell? ⟨T,4,none⟩=some (.int .i64 d4):=blk_cell hbk 4
     have k5:u6.cell? ⟨T,5,none⟩=some (.string d5):=blk_cell hbk 5
     have k6:u6.cell? ⟨T,6,none⟩=some (.slice d6 d7 d8):=blk_cell hbk 6
     have k7:u6.cell? ⟨T,7,none⟩=some (.slice d9 da db):=blk_cell hbk 7
     have m0:u6.cell? ⟨T',0,none⟩=some (.int .i64 f0):=blk_cell hbl 0
     have m1:u6.cell? ⟨T',1,none⟩=some (.bool f1):=blk_cell hbl 1
     have m2:u6.cell? ⟨T',2,none⟩=some (.bool f2):=blk_cell hbl 2
     have m3:u6.cell? ⟨T',3,none⟩=some (.string f3):=blk_cell hbl 3
     have m4:u6.cell? ⟨T',4,none⟩=some (.int .i64 f4):=blk_cell hbl 4
     have m5:u6.cell? ⟨T',5,none⟩=some (.string f5):=blk_cell hbl 5
     have m6:u6.cell? ⟨T',6,none⟩=some (.slice f6 f7 f8):=blk_cell hbl 6
     have m7:u6.cell? ⟨T',7,none⟩=some (.slice f9 fa fb):=blk_cell hbl 7
     have CSn:=hide (uh CS2 _ _ u6.drew ((uh E6).v1.drew) ((uh D6).v1.drew))
     clear hbk hbl
     go_upto_region 9 with fail
     go_cut [11] from 15 (fun s wx=>s=.bool bz∧Below u6.heap.size u6 wx)
     case first =>
      go_region_law (go_simp;go_at_call 26;refine (uh CSn).mono ?_;rintro e7 ux ⟨rfl,l0⟩;have ln:Below u6.heap.size u6 ux:=⟨l0.os,l0.tape,l0.output,l0.size,l0.block⟩;clear CSn l0)
      all_goals go_wp2
      all_goals go_meet
      all_goals exact ⟨rfl,ln⟩
     case rest =>
     obtain ⟨rfl,ln⟩:=hcut
     obtain ⟨u7,hu7⟩:∃ u,u=wc:=⟨_,rfl⟩
     subst hu7
     clear CSn
     have L7:=hide ((uh L6).trans (ln.mono (uh L6).size))
     have Y7:=hide ((uh Y6).trans (ln.mono (uh Y6).size))
     have D7:=hide ((uh D6).keep ln)
     have E7:=hide ((uh E6).keep ln)
     clear ln L6 Y6 D6 E6 k0 k1 k2 k3 k4 k5 k6 k7 m0 m1 m2 m3 m4 m5 m6 m7 CS2
     have hbk:=(uh D7).bk
     have hbl:=(uh E7).bk
     have k0:u7.cell? ⟨T,0,none⟩=some (.int .i64 d0):=blk_cell hbk 0
     have k1:u7.cell? ⟨T,1,none⟩=some (.bool d1):=blk_cell hbk 1
     have k2:u7.cell? ⟨T,2,none⟩=some (.bool d2):=blk_cell hbk 2
     have k3:u7.cell? ⟨T,3,none⟩=some (.string d3):=blk_cell hbk 3
     have k4:u7.cell? ⟨T,4,none⟩=some (.int .i64 d4):=blk_cell hbk 4
     have k5:u7.cell? ⟨T,5,none⟩=some (.string d5):=blk_cell hbk 5
     have k6:u7.cell? ⟨T,6,none⟩=some (.slice d6 d7 d8):=blk_cell hbk 6
     have k7:u7.cell? ⟨T,7,none⟩=some (.slice d9 da db):=blk_cell hbk 7
     have m0:u7.cell? ⟨T',0,none⟩=some (.int .i64 f0):=blk_cell hbl 0
     have m1:u7.cell? ⟨T',1,none⟩=some (.bool f1):=blk_cell hbl 1
     have m2:u7.cell? ⟨T',2,none⟩=some (.bool f2):=blk_cell hbl 2
     have m3:u7.cell? ⟨T',3,none⟩=some (.string f3):=blk_cell hbl 3
     have m4:u7.cell? ⟨T',4,none⟩=some (.int .i64 f4):=blk_cell hbl 4
     have m5:u7.cell? ⟨T',5,none⟩=some (.string f5):=blk_cell hbl 5
     have m6:u7.cell? ⟨T',6,none⟩=some (.slice f6 f7 f8):=blk_cell hbl 6
     have m7:u7.cell? ⟨T',7,none⟩=some (.slice f9 fa fb):=blk_cell hbl 7
     have CSn:=hide (uh CS3 _ _ u7.drew ((uh D7).v1.drew) ((uh D7).v1.drew))
     clear hbk hbl
     go_upto_region 10 with fail
     go_cut [12] from 15 (fun s wx=>s=.bool true∧Below u7.heap.size u7 wx)
     case first =>
      go_region_law (go_simp;go_at_call 26;refine (uh CSn).mono ?_;rintro e8 ux ⟨rfl,l0⟩;have ln:Below u7.heap.size u7 ux:=⟨l0.os,l0.tape,l0.output,l0.size,l0.block⟩;clear CSn l0)
      all_goals go_wp2
      all_goals go_meet
      all_goals exact ⟨rfl,ln⟩
     case rest =>
     obtain ⟨rfl,ln⟩:=hcut
     obtain ⟨u8,hu8⟩:∃ u,u=wc:=⟨_,rfl⟩
     subst hu8
     clear CSn
     have L8:=hide ((uh L7).trans (ln.mono (uh L7).size))
     have Y8:=hide ((uh Y7).trans (ln.mono (uh Y7).size))
     have D8:=hide ((uh D7).keep ln)
     have E8:=hide ((uh E7).keep ln)
     clear ln L7 Y7 D7 E7 k0 k1 k2 k3 k4 k5 k6 k7 m0 m1 m2 m3 m4 m5 m6 m7 CS3
     have CK1:=hide (rkept_any (uh D8))
     go_upto_region 12 with (go_at_call 13;refine (uh CK1).mono ?_;rintro e9 u9 ⟨rfl,l9⟩
                             clear CK1)
     have L9:=hide ((uh L8).trans (l9.mono (uh L8).size))
     have Y9:=hide ((uh Y8).trans (l9.mono (uh Y8).size))
     have CK2:=hide (rkept_any ((uh E8).keep l9))
     clear l9 L8 Y8 D8 E8
     go_upto_region 13 with (go_at_call 13;refine (uh CK2).mono ?_;rintro e10 u10 ⟨rfl,l10⟩
                             clear CK2)
     have L10:=hide ((uh L9).trans (l10.mono (uh L9).size))
     have Y10:=hide ((uh Y9).trans (l10.mono (uh Y9).size))
     obtain ⟨y0,y1,y2,y3,y4,y5,y6,y7⟩:=((uh X0).keep (uh Y10) (blk_lt (uh X0))).cells
     obtain ⟨z0,z1,z2,z3,z4,z5,z6,z7⟩:=((uh X1).keep (uh Y10) (blk_lt (uh X1))).cells
     have CR:=hide (uh CRS _ _ u10 (uh V1 u10 (uh L10)) (uh V2 u10 (uh L10)))
     clear l10 L9 Y9 V1 V2 X0 X1 CRS
     cases bz with
     | true =>
       go_wp2_with (go_at_call 27;refine (uh CR).mono ?_;rintro e11 u11 ⟨rfl,l11⟩)
       go_ret
       exact ⟨by simp,(uh L10).trans (l11.mono (uh L10).size)⟩
     | false =>
       go_wp2_with (go_at_call 27;refine (uh CR).mono ?_;rintro e11 u11 ⟨rfl,l11⟩)
       go_ret
       exact ⟨by simp,(uh L10).trans (l11.mono (uh L10).size)⟩
end Go.Proofs.YthakglomacijgaaGreatDoor.rd
