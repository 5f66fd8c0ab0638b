/- Texts in one: Lg De3 Smg -/
import Derived.Test.YthakglomacijgaaGreatDoorFo5P
import Derived.Test.YthakglomacijgaaGreatDoorWlP
import Derived.Test.YthakglomacijgaaGreatDoorIhP
import Derived.Test.YthakglomacijgaaGreatDoorIeP
import Derived.Test.YthakglomacijgaaGreatDoorSqP
import Derived.Deep.RegionLaw
namespace Go.Proofs.YthakglomacijgaaGreatDoor.rd
open Go.RowKit
def cntV:JT→Nat
 | .mk _ _ d x l f=>1+x.size+d.dg.size+l.length+f.length+(l.attach.map fun v=>cntV v.1).sum+(f.attach.map fun p=>p.1.1.size+cntV p.1.2).sum
 termination_by v=>SizeOf.sizeOf v
 decreasing_by
  · exact sz_l v.2
  · exact sz_f p.2
theorem cntV_mk (k:Int) (t:Bool) (d:Dn) (x:ByteArray) (l:List JT) (f:List (ByteArray × JT)):cntV (.mk k t d x l f) =
 1+x.size+d.dg.size+l.length+f.length+(l.map cntV).sum+(f.map fun p=>p.1.size+cntV p.2).sum:=by
 rw [cntV]
 simp only [List.map_attach_eq_pmap,List.pmap_eq_map]
theorem sum_mem {α:Type}{g:α→Nat}:∀ {l:List α}{a:α},a∈l→g a≤(l.map g).sum
 | b::l,a,h=>by
   rw [List.map_cons,List.sum_cons]
   rcases List.mem_cons.1 h with rfl|h
   · omega
   · have:=sum_mem (g:=g) h;omega
theorem cnt_l {k:Int}{t:Bool}{d:Dn}{x:ByteArray}{l:List JT}{f:List (ByteArray × JT)}{v:JT} (h:v∈l):cntV v+1≤cntV (.mk k t d x l f):=by
 rw [cntV_mk]
 have:=sum_mem (g:=cntV) h
 omega
theorem cnt_f {k:Int}{t:Bool}{d:Dn}{x:ByteArray}{l:List JT}{f:List (ByteArray × JT)}{p:ByteArray × JT} (h:p∈f):cntV p.2+p.1.size+1≤cntV (.mk k t d x l f):=by
 rw [cntV_mk]
 have:=sum_mem (g:=fun p:ByteArray × JT=>p.1.size+cntV p.2) h
 omega
theorem light_gd (n:Nat):∀ v,SizeOf.sizeOf v < n→Bd v→cntV v≤1000000000→Gd v:=by
 induction n with
 | zero=>intro v h;omega
 | succ n IH =>
   intro v hn hb hc
   cases hb with
   | @mk k t d x l f hk h0 h1 h2 h3 h4 hl hnm hf =>
     have hfl:f.length≤1000000000:=by rw [cntV_mk] at hc;omega
     exact .mk (fun _=>fok_all f hfl hnm) (fun _ v hv=>IH v (by have:=sz_l (k:=k) (t:=t) (d:=d) (x:=x) (f:=f) hv;omega) (hl v hv) (by have:=cnt_l (k:=k) (t:=t) (d:=d) (x:=x) (f:=f) hv;omega))
      (fun _ p hp=>IH p.2 (by have:=sz_f (k:=k) (t:=t) (d:=d) (x:=x) (l:=l) hp;omega) (hf p hp) (by have:=cnt_f (k:=k) (t:=t) (d:=d) (x:=x) (l:=l) hp;omega))
theorem pf_mono {n:Nat}{v:JT} (h:Pf n v):∀ m,n≤m→Pf m v:=by
 induction h with
 | null n=>exact fun m _=>.null m
 | truth n b=>exact fun m _=>.truth m b
 | num n h hz=>exact fun m _=>.num m h hz
 | text n h hz=>exact fun m _=>.text m h hz
 | list h hz ih =>
   intro m hm
   obtain ⟨m,rfl⟩:∃ q,m=q+1:=⟨m - 1,by omega⟩
   exact .list (fun v hv=>ih v hv m (by omega)) hz
 | obj hn hr h hz ih =>
   intro m hm
   obtain ⟨m,rfl⟩:∃ q,m=q+1:=⟨m - 1,by omega⟩
   exact .obj hn hr (fun p hp=>ih p hp m (by omega)) hz
theorem prt_inj {n m:Nat}{v w:JT} (hv:Pf n v) (hw:Pf m w) (h:prt v=prt w) (hs:(prt v).length≤40000000000):v=w:=by
 have hz:(⟨(prt v).toArray⟩:ByteArray).size=(prt v).length:=List.size_toArray
 have hd:(⟨(prt v).toArray⟩:ByteArray).data.toList.drop 0=prt v++[]:=by simp
 have h1:=val_told (s:=⟨(prt v).toArray⟩) (by omega) (max n m) v (pf_mono hv _ (Nat.le_max_left _ _)) 0 [] hd (fun c hc=>by simp at hc)
 have h2:=val_told (s:=⟨(prt v).toArray⟩) (by omega) (max n m) w (pf_mono hw _ (Nat.le_max_right _ _)) 0 [] (by rw [hd,h]) (fun c hc=>by simp at hc)
 rw [h1] at h2
 have:=Sum.inl.inj h2
 exact (Prod.mk.inj this).1
theorem clF_ok (s:ByteArray):∀ f k,Ltc (pt.clF s f k)∧(pt.clF s f k).length≤4*f
 | 0,k=>⟨.nil,by simp [pt.clF]⟩
 | f+1,k=>by
   rw [pt.clF]
   split
   · rename_i hk
     split
     · obtain ⟨h1,h2⟩:=clF_ok s f (k+1)
       refine ⟨.cons ?_ h1,by simp;omega⟩
       have:=lt1_enc 65533
       exact this
     · rename_i hz
       obtain ⟨h1,h2⟩:=clF_ok s f (k+pt.ltr s k)
       have e:(s.extract k (k+pt.ltr s k)).data.toList=(s.data.toList.drop k).take (ltrL (s.data.toList.drop k)):=by
        rw [pt.cut_take,ltr_drop s k hk]
       rw [e]
       have hl:=lt1_take (s.data.toList.drop k) (by rw [← ltr_drop s k hk];omega)
       refine ⟨.cons hl h1,?_⟩
       have h4:pt.ltr s k≤4:=by
        rcases pt.place_says s k hk with ⟨a,_⟩|⟨_,_,d2,d3⟩
        · omega
        · have:=enc_le ((Utf8.decode s k).1:Int)
          rw [d3,pt.cut_take] at this
          have hle:=pt.ltr_le s k hk
          have h2:s.data.toList.length=s.size:=Array.length_toList
          simp only [List.length_take,List.length_drop] at this
          omega
       rw [List.length_append,List.length_take,← ltr_drop s k hk]
       omega
   · exact ⟨.nil,by simp⟩
theorem clean_ltc (s:ByteArray):Ltc (pt.clean s).data.toList∧(pt.clean s).size≤4*s.size:=by
 obtain ⟨h1,h2⟩:=clF_ok s s.size 0
 refine ⟨h1,?_⟩
 show (pt.clF s s.size 0).toArray.size≤_
 simpa using h2
theorem norm_ok (d:Dn):Whole1 (norm d)∧(norm d).dg.size≤d.dg.size:=by
 refine ⟨?_,?_⟩
 · unfold norm
   exact oneForm_formed _ _ _ (digs_dig _)
 · unfold norm
   exact wh.oneForm_size _ _ _
theorem putP_sum {α:Type} (g:ByteArray × α→Nat) (acc:List (ByteArray × α)) (p:ByteArray × α):((jn.putP acc p).map g).sum≤(acc.map g).sum+g p∧(jn.putP acc p).length≤acc.length+1:=by
 unfold jn.putP
 split
 · omega
 · have h:=jn.ins_perm acc p
   rw [(h.map g).sum_nat,h.length_eq,List.map_cons,List.sum_cons,List.length_cons]
   omega
theorem puts_sum {α:Type} (g:ByteArray × α→Nat) (F:List (ByteArray × α)):((jn.puts F).map g).sum≤(F.map g).sum∧(jn.puts F).length≤F.length:=by
 have key:∀ (F acc:List (ByteArray × α)),((F.foldl jn.putP acc).map g).sum≤(acc.map g).sum+(F.map g).sum∧(F.foldl jn.putP acc).length≤acc.length+F.length:=by
  intro F
  induction F with
  | nil=>intro acc;simp
  | cons p F ih =>
    intro acc
    have h1:=ih (jn.putP acc p)
    have h2:=putP_sum g acc p
    rw [List.foldl_cons,List.map_cons,List.sum_cons,List.length_cons]
    omega
 have:=key F []
 simpa [jn.puts] using this
theorem sum_le {α:Type}{g h:α→Nat}:∀ {l:List α},(∀ a∈l,g a≤h a)→(l.map g).sum≤(l.map h).sum
 | [],_=>by simp
 | a::l,q=>by
   rw [List.map_cons,List.map_cons,List.sum_cons,List.sum_cons]
   have:=q a (by simp)
   have:=sum_le (l:=l) fun b hb=>q b (by simp [hb])
   omega
theorem sum_mul {α:Type}{g:α→Nat} (c:Nat):∀ l:List α,(l.map fun a=>c*g a).sum=c*(l.map g).sum
 | []=>by simp
 | a::l=>by
   rw [List.map_cons,List.map_cons,List.sum_cons,List.sum_cons,sum_mul c l,Nat.mul_add]
theorem VR.parts {w:World}{k:Int}{t:Bool}{d:Dn}{x:ByteArray}{l:List JT}{f:List (ByteArray × JT)}{cs:List Value} (h:VR w (JT.mk k t d x l f) cs):∃ oa ca ob cb,cs=[.int .i64 k,.bool t,.bool d.neg,.string d.dg,.int .i64 d.ex,.string x,.slice oa l.length ca,.slice ob f.length cb]:=by
 cases h with
 | @mk k t d x l f lv fv css gss hl hf h1 h3 hle hfe =>
   obtain ⟨oa,c,rfl,_⟩:=mm.SV.form hl
   obtain ⟨ob,c',rfl,_⟩:=mm.SV.form hf
   exact ⟨oa,c,ob,c',rfl⟩
def dpL (l:List JT) (f:List (ByteArray × JT)):Nat:=((f.map Prod.snd).map dpt).foldl max ((l.map dpt).foldl max 0)
theorem boxF_two (w:World) (ca cb:List Value):FX ((w.alloc (.cells ca.toArray 62)).alloc (.cells cb.toArray 62)) w.heap.size ca∧FX ((w.alloc (.cells ca.toArray 62)).alloc (.cells cb.toArray 62)) (w.heap.size+1) cb ∧
 Below w.heap.size w ((w.alloc (.cells ca.toArray 62)).alloc (.cells cb.toArray 62)):=by
 refine ⟨?_,?_,((Below.refl w.heap.size w).alloc (Nat.le_refl _) _).alloc (by simp) _⟩
 · unfold FX
   rw [Below.heap_alloc _ _ _ (by simp)];exact heap_alloc_new w _
 · have:=heap_alloc_new (w.alloc (.cells ca.toArray 62)) (.cells cb.toArray 62)
   rwa [World.size_alloc] at this
theorem vr_lens {w:World}{k:Int}{t:Bool}{d:Dn}{x:ByteArray}{l:List JT}{f:List (ByteArray × JT)}{cs:List Value} (h:VR w (JT.mk k t d x l f) cs):l.length≤maxLen∧f.length≤maxLen:=by
 cases h with
 | mk hl hf _ _ _ _ =>
   obtain ⟨_,_,_,q1,q2⟩:=mm.SV.form hl
   obtain ⟨_,_,_,q3,q4⟩:=mm.SV.form hf
   exact ⟨by omega,by omega⟩
set_option maxHeartbeats 6400000 in
set_option maxRecDepth 1000000 in
theorem same1_any (nb fb:Nat) (nm:ByteArray) (v:JT) (nm':ByteArray) (v':JT) (H:SmC nb fb v v'):SfC nb fb nm v nm' v':=by
 intro c c' w ha hb h1 h2
 obtain ⟨a0,a1,a2,a3,a4,a5,a6,a7,a8,a9,aa,ab,rfl⟩:=ha.form
 obtain ⟨b0,b1,b2,b3,b4,b5,b6,b7,b8,b9,ba,bb,rfl⟩:=hb.form
 have CL:=hide (fun u (hu:Below w.heap.size w u)=>H _ _ u (ha.keep hu) (hb.keep hu) (kc hu h1) (kc hu h2))
 have B2:=hide (boxF_two w [.string nm,.int .i64 a0,.bool a1,.bool a2,.string a3,.int .i64 a4,.string a5,.slice a6 a7 a8,.slice a9 aa ab] [.string nm',.int .i64 b0,.bool b1,.bool b2,.string b3,.int .i64 b4,.string b5,.slice b6 b7 b8,.slice b9 ba bb])
 have H1:=hide h1
 clear ha hb h1 h2 H
 go_enter Tryz.func59,Tryz.ntmps59
 go_upto_region 1 with fail
 obtain ⟨q0,q1,q2⟩:=uh B2
 generalize (w.alloc (.cells [.string nm,.int .i64 a0,.bool a1,.bool a2,.string a3,.int .i64 a4,.string a5,.slice a6 a7 a8,.slice a9 aa ab].toArray 62)).alloc (.cells [.string nm',.int .i64 b0,.bool b1,.bool b2,.string b3,.int .i64 b4,.string b5,.slice b6 b7 b8,.slice b9 ba bb].toArray 62)=W at *
 obtain ⟨y0,y1,y2,y3,y4,y5,y6,y7,y8⟩:=q0.cells
 obtain ⟨z0,z1,z2,z3,z4,z5,z6,z7,z8⟩:=q1.cells
 have n1:=kc q2 (uh H1)
 unfold smV at n1
 have CW:=hide (uh CL W q2)
 have HB:=hide q2
 clear q0 q1 q2 B2 CL
 have eg:=enter_same2
 by_cases e:nm=nm'
 · subst e
   go_wp2_with (go_at_call 60;refine (uh CW).mono ?_;rintro e u4 ⟨bb,rfl,hbb,hb5⟩)
   go_ret
   exact ⟨bb,rfl,by simpa using hbb,(uh HB).trans (hb5.mono (uh HB).size)⟩
 · have e':¬ nm.toList=nm'.toList:=fun q=>e (ba_inj q)
   go_wp2
   go_ret
   exact ⟨false,rfl,by simp [e],uh HB⟩
set_option maxHeartbeats 25600000 in
set_option maxRecDepth 1000000 in
theorem same2_any (nb fb:Nat) (n:Nat):∀ v v',SizeOf.sizeOf v < n→SmC nb fb v v':=by
 induction n with
 | zero=>intro v v' h;omega
 | succ n IH =>
   intro v v' hn c c' w ha hb h1 h2
   cases v with
   | mk k t d x l f =>
     cases v' with
     | mk k' t' d' x' l' f' =>
       obtain ⟨oa,ca,of,cf,rfl⟩:=ha.parts
       obtain ⟨ob,cb,og,cg,rfl⟩:=hb.parts
       obtain ⟨hml,hmf⟩:=vr_lens ha
       obtain ⟨dn,dg,dx⟩:=d
       obtain ⟨dn',dg',dx'⟩:=d'
       have C1:=hide (fun u (hu:Below w.heap.size w u)=>eqV_any (ha.keep hu) (hb.keep hu) (kc hu h1) (kc hu h2) hml (fun v hv v'=>IH v v' (by have:=sz_l (k:=k) (t:=t) (d:=⟨dn,dg,dx⟩) (x:=x) (f:=f) hv;omega)))
       have C2:=hide (fun u (hu:Below w.heap.size w u)=>eqF_any (ha.keep hu) (hb.keep hu) (kc hu h1) (kc hu h2) hmf (fun nm v hv nm' v'=>same1_any nb fb nm v nm' v' (IH v v' (by have:=sz_f (k:=k) (t:=t) (d:=⟨dn,dg,dx⟩) (x:=x) (l:=l) hv;simp only at this;omega))))
       have B2:=hide (box_two w [.int .i64 k,.bool t,.bool dn,.string dg,.int .i64 dx,.string x,.slice oa l.length ca,.slice of f.length cf] [.int .i64 k',.bool t',.bool dn',.string dg',.int .i64 dx',.string x',.slice ob l'.length cb,.slice og f'.length cg])
       have H1:=hide h1
       have H2:=hide h2
       unfold smV at C1
       unfold smFV at C2
       clear ha hb h1 h2 IH hn hml hmf
       go_enter Tryz.func60,Tryz.ntmps60
       go_upto_region 1 with fail
       obtain ⟨q0,q1,q2⟩:=uh B2
       generalize (w.alloc (.cells [.int .i64 k,.bool t,.bool dn,.string dg,.int .i64 dx,.string x,.slice oa l.length ca,.slice of f.length cf].toArray 27)).alloc (.cells [.int .i64 k',.bool t',.bool dn',.string dg',.int .i64 dx',.string x',.slice ob l'.length cb,.slice og f'.length cg].toArray 27)=W at *
       obtain ⟨y0,y1,y2,y3,y4,y5,y6,y7⟩:=q0.cells
       obtain ⟨z0,z1,z2,z3,z4,z5,z6,z7⟩:=q1.cells
       have n1:=kc q2 (uh H1)
       have n2:=kc q2 (uh H2)
       unfold smV at n1
       unfold smFV at n2
       have CW:=hide (uh C1 W q2)
       have HB:=hide q2
       have X0:=hide q0
       have X1:=hide q1
       clear q0 q1 q2 B2 C1
       by_cases e1:k=k'
       · subst e1
         by_cases e2:t=t'
         · subst e2
           by_cases e3:dn=dn'
           · subst e3
             by_cases e4:dg=dg'
             · subst e4
               by_cases e5:dx=dx'
               · subst e5
                 by_cases e6:x=x'
                 · subst e6
                   go_wp2_with (first
                    | (go_at_call 61;refine (uh CW).mono ?_;rintro e u1 ⟨b1,rfl,hb1,hl1⟩
                       have HB1:=hide hb1
                       have HL1:=hide ((uh HB).trans (hl1.mono (uh HB).size))
                       have CF:=hide (uh C2 u1 (uh HL1))
                       obtain ⟨y0,y1,y2,y3,y4,y5,y6,y7⟩:=((uh X0).keep hl1 (blk_lt (uh X0))).cells
                       obtain ⟨z0,z1,z2,z3,z4,z5,z6,z7⟩:=((uh X1).keep hl1 (blk_lt (uh X1))).cells
                       have n2:=kc (uh HL1) (uh H2)
                       unfold smFV at n2
                       clear hb1 hl1 CW
                       cases b1)
                    | (go_at_call 62;refine (uh CF).mono ?_;rintro e u2 ⟨b2,rfl,hb2,hl2⟩
                       have HB2:=hide hb2
                       have HL2:=hide ((uh HL1).trans (hl2.mono (uh HL1).size))
                       clear hb2 hl2 CF))
                   · go_ret
                     refine ⟨false,rfl,?_,uh HL1⟩
                     simp only [Bool.false_eq_true,false_iff,JT.mk.injEq]
                     rintro ⟨_,_,_,_,q,_⟩
                     have:=(uh HB1).2 q
                     cases this
                   · go_ret
                     refine ⟨b2,rfl,?_,uh HL2⟩
                     rw [uh HB2]
                     simp only [JT.mk.injEq,true_and]
                     exact ⟨fun q=>⟨(uh HB1).1 (by simp),q⟩,fun q=>q.2⟩
                 · have e6':¬ x.toList=x'.toList:=fun q=>e6 (ba_inj q)
                   go_wp2
                   go_ret
                   exact ⟨false,rfl,by simp [e6],uh HB⟩
               · go_wp2
                 go_ret
                 exact ⟨false,rfl,by simp [e5],uh HB⟩
             · have e4':¬ dg.toList=dg'.toList:=fun q=>e4 (ba_inj q)
               go_wp2
               go_ret
               exact ⟨false,rfl,by simp [e4],uh HB⟩
           · go_wp2
             go_ret
             exact ⟨false,rfl,by simp [e3],uh HB⟩
         · go_wp2
           go_ret
           exact ⟨false,rfl,by simp [e2],uh HB⟩
       · go_wp2
         go_ret
         exact ⟨false,rfl,by simp [e1],uh HB⟩
set_option maxHeartbeats 6400000 in
set_option maxRecDepth 1000000 in
theorem jsame_any (va vb:JT) (ba:Bd va) (bb:Bd vb) (ga:Gd va) (gb:Gd vb) (ca cb:List Value) (w:World) (ha:VR w va ca) (hb:VR w vb cb) :
 Calls Tryz.prog 26 #[.agg ca.toArray,.agg cb.toArray] w (EQP w (nrm va=nrm vb)):=by
 obtain ⟨a0,a1,a2,a3,a4,a5,a6,a7,a8,a9,aa,ab,rfl⟩:=ha.form
 obtain ⟨b0,b1,b2,b3,b4,b5,b6,b7,b8,b9,ba',bb',rfl⟩:=hb.form
 have HA:=hide (fun u (hu:Below w.heap.size w u)=>jnorm_any va ba ga _ u (ha.keep hu))
 have HB:=hide (fun u (hu:Below w.heap.size w u)=>jnorm_any vb bb gb _ u (hb.keep hu))
 generalize nrm va=na at *
 generalize nrm vb=nb at *
 have SW:=hide (same_world w [.int .i64 a0,.bool a1,.bool a2,.string a3,.int .i64 a4,.string a5,.slice a6 a7 a8,.slice a9 aa ab] [.int .i64 b0,.bool b1,.bool b2,.string b3,.int .i64 b4,.string b5,.slice b6 b7 b8,.slice b9 ba' bb'] 42 83)
 have CZ:=hide (fun (n:Nat) (c c':List Value) (u:World) (h1:VR u na c) (h2:VR u nb c') h3 h4=>same2_any n (n+1) _ na nb (Nat.lt_succ_self _) c c' u h1 h2 h3 h4)
 unfold smV smFV at SW
 clear ba bb ga gb ha hb
 go_enter Tryz.func26,Tryz.ntmps26
 go_upto_region 4 with fail
 obtain ⟨r1,r2,r3,r4,r5,r6⟩:=uh SW _ rfl
 generalize (((w.alloc (.cells [.int .i64 a0,.bool a1,.bool a2,.string a3,.int .i64 a4,.string a5,.slice a6 a7 a8,.slice a9 aa ab].toArray 27)).alloc (.cells [.int .i64 b0,.bool b1,.bool b2,.string b3,.int .i64 b4,.string b5,.slice b6 b7 b8,.slice b9 ba' bb'].toArray 27)).alloc (.cells #[.func (.func 60) #[] #[.pointer (some ⟨w.heap.size+1+1,0,none⟩),.pointer (some ⟨w.heap.size+1+1+1,0,none⟩)]] 42)).alloc (.cells #[.func (.func 59) #[] #[.pointer (some ⟨w.heap.size+1+1,0,none⟩)]] 83)=W at *
 obtain ⟨y0,y1,y2,y3,y4,y5,y6,y7⟩:=r1.cells
 obtain ⟨z0,z1,z2,z3,z4,z5,z6,z7⟩:=r2.cells
 have hdr:Below W.heap.size W W.drew:=⟨rfl,rfl,rfl,Nat.le_refl _,fun _ _=>rfl⟩
 have CA:=hide (uh HA W.drew (r6.trans (hdr.mono (by omega))))
 have CBB:=hide (fun u (hu:Below W.heap.size W u)=>uh HB u (r6.trans (hu.mono (by omega))))
 have R2:=hide r2
 have R3:=hide r3
 have R4:=hide r4
 have R5:=hide r5
 have R6:=hide r6
 have eg:=enter_same2
 clear r1 r2 r4 r5 r6 hdr SW HA HB
 go_region_law (first
  | (go_simp;go_at_call 15;refine (uh CA).mono ?_;rintro e u2 ⟨cs,pp,rfl,hr,hpn,hbl2⟩
     have hb3:Below W.heap.size W u2:=⟨hbl2.os,hbl2.tape,hbl2.output,hbl2.size,hbl2.block⟩
     have HR:=hide hr.vr
     obtain ⟨c0,c1,c2,c3,c4,c5,c6,c7,c8,c9,ca,cb,rfl⟩:=hr.vr.form
     have n2:=kc hb3 (uh R3)
     obtain ⟨x0,x1,x2,x3,x4,x5,x6,x7⟩:=((uh R2).keep hb3 (by have:=uh R5;omega)).cells
     have CB:=hide (uh CBB u2 hb3))
  | (go_simp;go_at_call 15;refine (uh CB).mono ?_;rintro e u3 ⟨cs',pp',rfl,hr',hpn',hbl3⟩
     have hb4:Below W.heap.size W u3:=hb3.trans (hbl3.mono hb3.size)
     have n3:=kc hb4 (uh R3)
     have CS:=hide (uh CZ _ _ _ u3 ((uh HR).keep hbl3) hr'.vr (kc hb4 (uh R3)) (kc hb4 (uh R4))))
  | (go_simp;go_at_call 60;refine (uh CS).mono ?_;rintro e u4 ⟨bz,rfl,hbz,hb5⟩))
 all_goals clear y0 y1 y2 y3 y4 y5 y6 y7 z0 z1 z2 z3 z4 z5 z6 z7 r3
 all_goals
  go_wp2
  go_ret
  have hz:=uh R5
  exact ⟨bz,rfl,hbz,(uh R6).trans ((hb4.mono (by omega)).trans (hb5.mono (by have:=hb4.size;omega)))⟩
end Go.Proofs.YthakglomacijgaaGreatDoor.rd
