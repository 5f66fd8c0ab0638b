/- Texts in one: Pg3 Wl Lg Nrb Vf Pf2 De3 Lg2 Hv One Nrl -/
import Derived.Test.YthakglomacijgaaGreatDoorFo3PR
import Derived.Test.YthakglomacijgaaGreatDoorSqPR
import Derived.Test.YthakglomacijgaaGreatDoorPwPR
import Derived.Test.YthakglomacijgaaGreatDoorGtjPR
import Derived.Test.YthakglomacijgaaGreatDoorIePR
import Derived.Test.YthakglomacijgaaGreatDoorShPR
import Derived.Test.YthakglomacijgaaGreatDoorIiPR
import Derived.Lib.ItoaLen
import Derived.Deep.RegionHeld3
import Derived.Deep.RegionLaw
import Derived.Test.YthakglomacijgaaGreatDoorLlVPR
namespace Go.Proofs.YthakglomacijgaaGreatDoor.rd
open Go.RowKit
theorem cst_leaf (k:Int) (t:Bool) (d:Dn) (x:ByteArray):cst (leaf k t d x)=30+(textOf (norm d)).size+6*x.size:=by
 unfold leaf;rw [cst_mk];simp
theorem txt_zed:(textOf (norm zed)).size=1:=by rw [wh.norm_zed];rfl
def Good (s:ByteArray) (n:Nat) (vf:Nat→(JT × Nat) ⊕ (Nat × Nat)):Prop:=∀ k v k',k≤s.size→vf k=.inl (v,k')→Pf n v∧30000*k+cst v+100≤30000*k'
theorem ltc_clean {x:ByteArray} (h:Ltc x.data.toList):pt.clean x=x:=by
 unfold pt.clean;have h2:x.data.toList.length=x.size:=Array.length_toList;rw [clF_ltc x h x.size 0 rfl (by omega),Array.toArray_toList]
theorem pf_nrm {n:Nat}{v:JT} (h:Pf n v):nrm v=v:=by
 induction h with
 | null n=>unfold leaf;rw [nrm_mk];rfl
 | truth n b=>unfold leaf;rw [nrm_mk];rfl
 | num n h hz =>
   unfold leaf;rw [nrm_mk,if_neg (by decide),if_pos rfl,wh.whole_id h]
 | text n h hz =>
   unfold leaf;rw [nrm_mk,if_neg (by decide),if_neg (by decide),if_pos rfl,ltc_clean h]
 | @list n l h hz ih =>
   rw [nrm_mk,if_neg (by decide),if_neg (by decide),if_neg (by decide),if_pos rfl,List.map_congr_left ih,List.map_id']
 | @obj n f hn hr h hz ih =>
   have e:(f.map fun p=>(pt.clean p.1,nrm p.2))=f:=by
    conv=>rhs;rw [← List.map_id' f]
    exact List.map_congr_left fun p hp=>by rw [ltc_clean (hn p hp).1,ih p hp]
   rw [nrm_mk,if_neg (by decide),if_neg (by decide),if_neg (by decide),if_neg (by decide),if_pos rfl,e,jn.puts_ris f hr]
theorem pf_bd {n:Nat}{v:JT} (h:Pf n v):Bd v:=by
 have ez:zed.dg.size≤1099511627776∧(-9223372036854775808≤zed.ex∧zed.ex≤9223372036854775807):=by decide
 have e0:(⟨#[]⟩:ByteArray).size≤35184372088832:=by decide
 induction h with
 | null n=>exact .mk (by decide) ez.1 ez.2 e0 (by simp) (by simp) (by simp) (by simp) (by simp)
 | truth n b=>exact .mk (by decide) ez.1 ez.2 e0 (by simp) (by simp) (by simp) (by simp) (by simp)
 | @num n d h hz =>
   have hx:-9223372036854775808≤d.ex∧d.ex≤9223372036854775807:=by
    rcases h with rfl|h
    · exact ez.2
    · have:=h.e0;have:=h.e1;omega
   exact .mk (by decide) (by omega) hx e0 (by simp) (by simp) (by simp) (by simp) (by simp)
 | text n h hz=>exact .mk (by decide) ez.1 ez.2 (by omega) (by simp) (by simp) (by simp) (by simp) (by simp)
 | list h hz ih=>exact .mk (by decide) ez.1 ez.2 e0 (by omega) (by simp) ih (by simp) (by simp)
 | obj hn hr h hz ih=>exact .mk (by decide) ez.1 ez.2 e0 (by simp) (by omega) (by simp) (fun p hp=>by have:=(hn p hp).2;omega) ih
theorem pf_cl {f:List (ByteArray × JT)} (hn:∀ p∈f,Ltc p.1.data.toList∧p.1.size≤1000000000):(f.map fun p=>(pt.clean p.1,p.2))=f:=by
 conv=>rhs;rw [← List.map_id' f]
 exact List.map_congr_left fun p hp=>by rw [ltc_clean (hn p hp).1]
theorem fold_le {n:Nat}:∀ (l:List Nat) (m:Nat),m≤n→(∀ x∈l,x≤n)→l.foldl max m≤n
 | [],m,hm,_=>hm
 | x::l,m,hm,h=>fold_le l (max m x) (Nat.max_le.2 ⟨hm,h x (by simp)⟩) (fun y hy=>h y (by simp [hy]))
theorem pf_dpt {n:Nat}{v:JT} (h:Pf n v):dpt v≤n:=by
 induction h with
 | null n=>unfold leaf;rw [dpt_mk];exact Nat.zero_le _
 | truth n b=>unfold leaf;rw [dpt_mk];exact Nat.zero_le _
 | num n h hz=>unfold leaf;rw [dpt_mk];exact Nat.zero_le _
 | text n h hz=>unfold leaf;rw [dpt_mk];exact Nat.zero_le _
 | @list n l h hz ih =>
   rw [dpt_mk,if_pos rfl];have:=fold_le (n:=n) (l.map dpt) 0 (Nat.zero_le _) (fun x hx=>by obtain ⟨v,hv,rfl⟩:=List.mem_map.1 hx;exact ih v hv);omega
 | @obj n f hn hr h hz ih =>
   rw [dpt_mk,if_neg (by decide),if_pos rfl];have ec:cnt f=f:=by unfold cnt;rw [pf_cl hn,jn.puts_ris f hr]
   rw [ec]
   have:=fold_le (n:=n) ((f.map Prod.snd).map dpt) 0 (Nat.zero_le _) (fun x hx=>by
    obtain ⟨v,hv,rfl⟩:=List.mem_map.1 hx;obtain ⟨p,hp,rfl⟩:=List.mem_map.1 hv
    exact ih p hp)
   omega
end Go.Proofs.YthakglomacijgaaGreatDoor.rd
namespace Go.Proofs.YthakglomacijgaaGreatDoor.rd
open Go.RowKit Go.Proofs.YthakglomacijgaaGreatDoor.rd.wk
structure AE (E:Nat→Value) (A:Nat→Addr) (w:World):Prop where
 env:Env E w
 es:lw.ES A w
 pw:Pow w
 et:w.cell? ⟨2,0,none⟩=some (.iface 144 (.agg #[.pointer (some ⟨16,46,none⟩)]))
 ng:16≤w.heap.size
theorem AE.keep {E:Nat→Value}{A:Nat→Addr}{w w':World} (h:AE E A w) (hb:Below w.heap.size w w'):AE E A w' :=
 ⟨h.env.below hb,h.es.keep hb,h.pw.keep hb,kc hb h.et,Nat.le_trans h.ng hb.size⟩
theorem parse_ok {E:Nat→Value}{w w':World}{v:JT}{e:Ending} (h:ParsePost E w (.inl v) e w'):∃ cs p,e=.returned (.tuple #[.agg cs.toArray,.nilIface])∧VRep w' w.heap.size v cs p∧p.Nodup∧Below w.heap.size w w':=by
 obtain ⟨⟨v',cs,p,e1,e2,e3,e4⟩|⟨g,k,fb,e1,_⟩,hb⟩:=h
 · cases e1
   exact ⟨cs,p,e2,e3,e4,hb⟩
 · cases e1
theorem parse_bad {E:Nat→Value}{w w':World}{g k:Nat}{e:Ending} (h:ParsePost E w (.inr (g,k)) e w'):∃ fb,e=.returned (.tuple #[.agg vNull,.iface 92 (.pointer (some ⟨fb,0,none⟩))])∧FL w' fb (k:Nat) 231 (E g)∧Below w.heap.size w w':=by
 obtain ⟨⟨v',cs,p,e1,_⟩|⟨g',k',fb,e1,e2,_,e4⟩,hb⟩:=h
 · cases e1
 · cases e1
   exact ⟨fb,e2,e4,hb⟩
theorem norm9 (w:World):Calls Tryz.prog 15 #[.agg #[.int .i64 9,.bool false,.bool false,.string ⟨#[]⟩,.int .i64 0,.string ⟨#[120]⟩,.slice none 0 0,.slice none 0 0]] w fun e w'=>(∃ o1 c1 o2 c2,e=.returned (.agg #[.int .i64 0,.bool false,.bool false,.string ⟨#[]⟩,.int .i64 0,.string ⟨#[]⟩,.slice o1 0 c1,.slice o2 0 c2]))∧Below w.heap.size w w':=by
 have hv:=(vrep_flat w w.heap.size 9 false zed ⟨#[120]⟩).vr;refine (jnorm_any _ (bdL (by decide) (by decide) (by decide) (by decide)) (gdL (by decide)) _ w hv).mono ?_;rintro e w' ⟨cs,p,rfl,hr,_,hb⟩;have hn:nrm (JT.mk 9 false zed ⟨#[120]⟩ [] [])=null:=by rw [nrm_mk,if_neg (by decide),if_neg (by decide),if_neg (by decide),if_neg (by decide),if_neg (by decide)]
 rw [hn] at hr;refine ⟨?_,hb⟩;unfold null at hr
 cases hr with
 | mk hl hf _ _ _ _ _ _ =>
   obtain ⟨o1,c1,rfl,_⟩:=mm.SV.form (mm.own_sv hl);obtain ⟨o2,c2,rfl,_⟩:=mm.SV.form (mm.own_sv hf);exact ⟨o1,c1,o2,c2,rfl⟩
theorem get1 (cs:List Value) (w:World) (h:VR w T1 cs):Calls Tryz.prog 16 #[.agg cs.toArray,.string ⟨#[98]⟩] w fun e w'=>∃ cs' p,e=.returned (.tuple #[.agg cs'.toArray,.bool true])∧VRep w' w.heap.size wk.LB cs' p∧Below w.heap.size w w':=by
 have h':=h;unfold T1 at h
 cases h with
 | mk hl hf _ _ _ _ =>
   obtain ⟨oa,c,rfl,_⟩:=mm.SV.form hl;obtain ⟨ob,c',rfl,_⟩:=mm.SV.form hf
   have:=jget_hit false zed.neg zed.dg zed.ex ⟨#[]⟩ [] [((⟨#[97]⟩:ByteArray),TA),(⟨#[98]⟩,wk.LB)] ob c' (.slice oa 0 c) w h' ⟨#[98]⟩ (by decide)
    (fun p hp=>by
     simp only [List.mem_cons,List.not_mem_nil,or_false] at hp
     rcases hp with rfl|rfl <;> decide) (by decide) 1 (by decide) ⟨#[98]⟩ wk.LB rfl
    (fun j q hj hq=>by
     obtain rfl:j=0:=by omega
     simp only [List.getElem?_cons_zero,Option.some.injEq] at hq;subst hq
     exact sd_a) rfl (fun cs w hr=>jnorm_any wk.LB bdB gdB cs w hr)
   rw [nrmB] at this;refine this.mono ?_;rintro e w' ⟨cs',p,rfl,hr,_,hb⟩;exact ⟨cs',p,rfl,hr,hb⟩
theorem at1 (cs:List Value) (w:World) (h:VR w wk.LB cs):Calls Tryz.prog 17 #[.agg cs.toArray,.int .i64 1] w fun e w'=>∃ cs' p,e=.returned (.tuple #[.agg cs'.toArray,.bool true])∧VRep w' w.heap.size N0 cs' p∧Below w.heap.size w w':=by
 have h':=h;unfold wk.LB at h
 cases h with
 | mk hl hf _ _ _ _ =>
   obtain ⟨oa,c,rfl,_⟩:=mm.SV.form hl;obtain ⟨ob,c',rfl,_⟩:=mm.SV.form hf;have:=jat_hit false zed.neg zed.dg zed.ex ⟨#[]⟩ [N15,N0] [] oa c (.slice ob 0 c') w h' 1 (by decide) N0 rfl (fun cs w hr=>jnorm_any N0 bd0 gd0 cs w hr);rw [nrm0] at this;refine this.mono ?_;rintro e w' ⟨cs',p,rfl,hr,_,hb⟩;exact ⟨cs',p,rfl,hr,hb⟩
theorem print1 (cs:List Value) (w:World) (h:VR w T1 cs) (hp:Pow w):Calls Tryz.prog 12 #[.agg cs.toArray] w fun e w'=>e=.returned (.string ⟨#[123,34,97,34,58,34,195,169,47,34,44,34,98,34,58,91,49,53,101,45,49,44,48,93,125]⟩)∧Below w.heap.size w w':=by
 have:=jprint_any T1 bd1 gd1 (by rw [nrm1];exact bd1) (by rw [nrm1];exact Nat.le_trans cst1 (by decide)) cs w h hp;rw [nrm1,prt1] at this;exact this
theorem depth1 (cs:List Value) (w:World) (h:VR w T1 cs):Calls Tryz.prog 18 #[.agg cs.toArray] w fun e w'=>e=.returned (.int .i64 2)∧Below w.heap.size w w':=by
 have:=jdepth_any T1 bd1 gd1 (by rw [dpt1];decide) cs w h;rw [dpt1] at this;exact this
theorem same0 (ca cb:List Value) (w:World) (ha:VR w N0 ca) (hb:VR w N0 cb):Calls Tryz.prog 26 #[.agg ca.toArray,.agg cb.toArray] w fun e w'=>e=.returned (.bool true)∧Below w.heap.size w w' :=
 jsame_eq N0 N0 2 false zed.neg zed.dg zed.ex ⟨#[]⟩ nrm0 nrm0 bd0 bd0 gd0 gd0 ca cb w ha hb
theorem fld0 (o1:Option Addr) (c1:Nat) (o2:Option Addr) (c2:Nat) (u:World):(Instr.field 27 (.agg #[.int .i64 0,.bool false,.bool false,.string ⟨#[]⟩,.int .i64 0,.string ⟨#[]⟩,.slice o1 0 c1,.slice o2 0 c2]) 0).run Tryz.prog u=.ok (.int .i64 0) u:=by kernel_rfl
theorem box1 (u:World) (cs:List Value):∀ W,W=u.alloc (.cells cs.toArray 27)→BX W u.heap.size cs∧Below u.heap.size u W∧u.heap.size < W.heap.size:=by
 rintro W rfl;exact ⟨heap_alloc_new u _,(Below.refl _ u).alloc (Nat.le_refl _) _,by rw [World.size_alloc];omega⟩
set_option maxHeartbeats 6400000 in
set_option maxRecDepth 1000000 in
theorem jawake (E:Nat→Value) (A:Nat→Addr) (hEA:E 0=.pointer (some (A 0))) (w:World) (h:AE E A w):Calls Tryz.prog 10 #[] w fun e w'=>e=.returned (.bool true)∧Below w.heap.size w w':=by
 have P1:=jparse_any E S1 w h.env h.ng (by decide);rw [parse1] at P1;have PP1:=hide P1;unfold S1 at PP1;have HAE:=hide h;have HEA:=hide hEA;clear P1 h hEA
 go_enter Tryz.func10,Tryz.ntmps10
 go_upto_region 2 with (go_at_call 29;refine (uh PP1).mono ?_;rintro e u1 hp1
                        obtain ⟨cs1,p1,rfl,v1,n1,b1⟩:=parse_ok hp1;obtain ⟨a0,a1,a2,a3,a4,a5,a6,a7,a8,a9,aa,ab,rfl⟩:=v1.form
                        clear hp1 PP1)
 obtain ⟨x1,l1,z1⟩:=box1 u1 [.int .i64 a0,.bool a1,.bool a2,.string a3,.int .i64 a4,.string a5,.slice a6 a7 a8,.slice a9 aa ab] _ rfl;generalize u1.alloc (.cells [.int .i64 a0,.bool a1,.bool a2,.string a3,.int .i64 a4,.string a5,.slice a6 a7 a8,.slice a9 aa ab].toArray 27)=W1 at *;have bW1:Below w.heap.size w W1:=b1.trans (l1.mono b1.size);have hae1:=(uh HAE).keep bW1;have P2:=jparse_any E ⟨#[91,49,44,93]⟩ W1 hae1.env hae1.ng (by decide);rw [parse2] at P2;have PP2:=hide P2;have V1:=hide (v1.vr.keep l1);have X1:=hide x1;have BW1:=hide bW1;have Z1:=hide z1;clear P2 v1 n1 b1 l1 x1 bW1 hae1 z1
 go_upto_region 3 with (go_at_call 29;refine (uh PP2).mono ?_;rintro e u2 hp2
                        obtain ⟨fb,rfl,f2,b2⟩:=parse_bad hp2;simp only [vNull,vc,zed,nilS]
                        clear hp2 PP2)
 obtain ⟨_,l2,z2⟩:=box1 u2 [.int .i64 0,.bool false,.bool false,.string ByteArray.empty,.int .i64 0,.string ⟨#[]⟩,.slice none 0 0,.slice none 0 0] _ rfl;generalize u2.alloc (.cells [.int .i64 0,.bool false,.bool false,.string ByteArray.empty,.int .i64 0,.string ⟨#[]⟩,.slice none 0 0,.slice none 0 0].toArray 27)=W2 at *;have bW12:Below W1.heap.size W1 W2:=b2.trans (l2.mono b2.size);have bW2:Below w.heap.size w W2:=(uh BW1).trans (bW12.mono (uh BW1).size);have PF:=hide (lw.place_fault fb 3 231 (E 0) W2 ((l2.block fb (blk_lt f2)).trans f2) ((uh HAE).keep bW2).et);rw [uh HEA] at PF;have V2:=hide ((uh V1).keep bW12);have X2:=hide ((uh X1).keep bW12 (uh Z1));have Z2:Hid (u1.heap.size < W2.heap.size):=Nat.lt_of_lt_of_le (uh Z1) bW12.size;have BW2:=hide bW2;clear bW12 bW2 b2 l2 z2 f2 V1 X1 BW1 Z1
 go_upto_region 4 with (go_at_call 32;refine (uh PF).mono ?_;rintro e u3 ⟨rfl,b3⟩
                        clear PF)
 have bW3:Below w.heap.size w u3:=(uh BW2).trans (b3.mono (uh BW2).size);have x3:=(uh X2).keep b3 (uh Z2);have v3:=(uh V2).keep b3;have C4:=hide (get1 _ u3 v3);obtain ⟨y0,y1,y2,y3,y4,y5,y6,y7⟩:=x3.cells;have V3:=hide v3;have X3:=hide x3;have Z3:Hid (u1.heap.size < u3.heap.size):=Nat.lt_of_lt_of_le (uh Z2) b3.size;have BW3:=hide bW3;clear v3 x3 bW3 b3 V2 X2 BW2 Z2
 go_upto_region 5 with (go_at_call 16;refine (uh C4).mono ?_;rintro e u4 ⟨cs4,p4,rfl,v4,b4⟩
                        obtain ⟨c0,c1,c2,c3,c4,c5,c6,c7,c8',c9,ca,cb,rfl⟩:=v4.form
                        clear C4)
 clear y0 y1 y2 y3 y4 y5 y6 y7;obtain ⟨x4,l4,z4⟩:=box1 u4 [.int .i64 c0,.bool c1,.bool c2,.string c3,.int .i64 c4,.string c5,.slice c6 c7 c8',.slice c9 ca cb] _ rfl;generalize u4.alloc (.cells [.int .i64 c0,.bool c1,.bool c2,.string c3,.int .i64 c4,.string c5,.slice c6 c7 c8',.slice c9 ca cb].toArray 27)=W4 at *;have b34:Below u3.heap.size u3 W4:=b4.trans (l4.mono b4.size);have bW4:Below w.heap.size w W4:=(uh BW3).trans (b34.mono (uh BW3).size);have C5:=hide (at1 _ W4 (v4.vr.keep l4));obtain ⟨y0,y1,y2,y3,y4,y5,y6,y7⟩:=x4.cells;have V4:=hide ((uh V3).keep b34);have X4:=hide ((uh X3).keep b34 (uh Z3));have Z4:Hid (u1.heap.size < W4.heap.size):=Nat.lt_of_lt_of_le (uh Z3) b34.size;have BW4:=hide bW4;clear v4 x4 b4 l4 z4 b34 bW4 V3 X3 BW3 Z3
 go_upto_region 6 with (go_at_call 17;refine (uh C5).mono ?_;rintro e u5 ⟨cs5,p5,rfl,v5,b5⟩
                        obtain ⟨d0,d1,d2,d3,d4,d5,d6,d7,d8,d9,da,db,rfl⟩:=v5.form
                        clear C5)
 clear y0 y1 y2 y3 y4 y5 y6 y7;obtain ⟨x5,l5,z5⟩:=box1 u5 [.int .i64 d0,.bool d1,.bool d2,.string d3,.int .i64 d4,.string d5,.slice d6 d7 d8,.slice d9 da db] _ rfl;generalize u5.alloc (.cells [.int .i64 d0,.bool d1,.bool d2,.string d3,.int .i64 d4,.string d5,.slice d6 d7 d8,.slice d9 da db].toArray 27)=W5 at *;have b45:Below W4.heap.size W4 W5:=b5.trans (l5.mono b5.size);have bW5:Below w.heap.size w W5:=(uh BW4).trans (b45.mono (uh BW4).size);have C6:=hide (print1 _ W5 ((uh V4).keep b45) ((uh HAE).keep bW5).pw);obtain ⟨y0,y1,y2,y3,y4,y5,y6,y7⟩:=((uh X4).keep b45 (uh Z4)).cells;have V5:=hide ((uh V4).keep b45);have X5:=hide ((uh X4).keep b45 (uh Z4));have Z5:Hid (u1.heap.size < W5.heap.size):=Nat.lt_of_lt_of_le (uh Z4) b45.size;have N5:=hide (v5.vr.keep l5);have X5':=hide x5;have Z5':=hide z5;have BW5:=hide bW5;clear v5 x5 b5 l5 z5 b45 bW5 V4 X4 BW4 Z4
 go_upto_region 7 with (first
  | (go_at_call 12;refine (uh C6).mono ?_;rintro e u6 ⟨rfl,b6⟩
     have C7:=hide (depth1 _ u6 ((uh V5).keep b6));clear y0 y1 y2 y3 y4 y5 y6 y7
     obtain ⟨y0,y1,y2,y3,y4,y5,y6,y7⟩:=((uh X5).keep b6 (uh Z5)).cells)
  | (go_at_call 18;refine (uh C7).mono ?_;rintro e u7 ⟨rfl,b7⟩))
 clear y0 y1 y2 y3 y4 y5 y6 y7;have b57:Below W5.heap.size W5 u7:=b6.trans (b7.mono b6.size);have bW7:Below w.heap.size w u7:=(uh BW5).trans (b57.mono (uh BW5).size);have n7:=(uh N5).keep b57;have C8:=hide (same0 _ [.int .i64 2,.bool false,.bool false,.string ⟨#[]⟩,.int .i64 0,.string ⟨#[]⟩,.slice none 0 0,.slice none 0 0] u7 n7 (vrep_flat u7 u7.heap.size 2 false zed ⟨#[]⟩).vr);obtain ⟨y0,y1,y2,y3,y4,y5,y6,y7⟩:=((uh X5').keep b57 (uh Z5')).cells;have hdue:=((uh HAE).keep bW7).es.cell 0 (by simp [lw.isE]);have heq:=lw.eql_same u7 (A 0);have C9:=hide (fun u=>norm9 u);have hfl:=fld0;have BW7:=hide bW7;clear b57 bW7 n7 b6 b7
 go_wp2_with (first
  | (go_at_call 26;refine (uh C8).mono ?_;rintro e u8 ⟨rfl,b8⟩)
  | (go_at_call 15;refine (uh C9 _).mono ?_;rintro e u9 ⟨⟨o1,r1,o2,r2,rfl⟩,b9⟩))
 go_ret;exact ⟨rfl,(uh BW7).trans ((b8.mono (uh BW7).size).trans (b9.mono (Nat.le_trans (uh BW7).size b8.size)))⟩
end Go.Proofs.YthakglomacijgaaGreatDoor.rd
namespace Go.Proofs.YthakglomacijgaaGreatDoor.rd
open Go.RowKit
theorem sum_mem {α:Type}{g:α→Nat}:∀ {l:List α}{a:α},a∈l→g a≤(l.map g).sum
 | b::l,a,h=>by
   rw [List.map_cons,List.sum_cons]
   rcases List.mem_cons.1 h with rfl|h
   · omega
   · have:=sum_mem (g:=g) h;omega
theorem cnt_l {k:Int}{t:Bool}{d:Dn}{x:ByteArray}{l:List JT}{f:List (ByteArray × JT)}{v:JT} (h:v∈l):cntV v+1≤cntV (.mk k t d x l f):=by
 rw [cntV_mk];have:=sum_mem (g:=cntV) h;omega
theorem cnt_f {k:Int}{t:Bool}{d:Dn}{x:ByteArray}{l:List JT}{f:List (ByteArray × JT)}{p:ByteArray × JT} (h:p∈f):cntV p.2+p.1.size+1≤cntV (.mk k t d x l f):=by
 rw [cntV_mk];have:=sum_mem (g:=fun p:ByteArray × JT=>p.1.size+cntV p.2) h;omega
theorem light_gd (n:Nat):∀ v,SizeOf.sizeOf v < n→Bd v→cntV v≤1000000000→Gd v:=by
 induction n with
 | zero=>intro v h;omega
 | succ n IH =>
   intro v hn hb hc
   cases hb with
   | @mk k t d x l f hk h0 h1 h2 h3 h4 hl hnm hf =>
     have hfl:f.length≤1000000000:=by rw [cntV_mk] at hc;omega
     exact .mk (fun _=>fok_all f hfl hnm) (fun _ v hv=>IH v (by have:=sz_l (k:=k) (t:=t) (d:=d) (x:=x) (f:=f) hv;omega) (hl v hv) (by have:=cnt_l (k:=k) (t:=t) (d:=d) (x:=x) (f:=f) hv;omega))
      (fun _ p hp=>IH p.2 (by have:=sz_f (k:=k) (t:=t) (d:=d) (x:=x) (l:=l) hp;omega) (hf p hp) (by have:=cnt_f (k:=k) (t:=t) (d:=d) (x:=x) (l:=l) hp;omega))
theorem pf_mono {n:Nat}{v:JT} (h:Pf n v):∀ m,n≤m→Pf m v:=by
 induction h with
 | null n=>exact fun m _=>.null m
 | truth n b=>exact fun m _=>.truth m b
 | num n h hz=>exact fun m _=>.num m h hz
 | text n h hz=>exact fun m _=>.text m h hz
 | list h hz ih =>
   intro m hm;obtain ⟨m,rfl⟩:∃ q,m=q+1:=⟨m - 1,by omega⟩;exact .list (fun v hv=>ih v hv m (by omega)) hz
 | obj hn hr h hz ih =>
   intro m hm;obtain ⟨m,rfl⟩:∃ q,m=q+1:=⟨m - 1,by omega⟩;exact .obj hn hr (fun p hp=>ih p hp m (by omega)) hz
theorem clF_ok (s:ByteArray):∀ f k,Ltc (pt.clF s f k)∧(pt.clF s f k).length≤4*f
 | 0,k=>⟨.nil,by simp [pt.clF]⟩
 | f+1,k=>by
   rw [pt.clF]
   split
   · rename_i hk
     split
     · obtain ⟨h1,h2⟩:=clF_ok s f (k+1)
       refine ⟨.cons ?_ h1,by simp;omega⟩;have:=lt1_enc 65533;exact this
     · rename_i hz
       obtain ⟨h1,h2⟩:=clF_ok s f (k+pt.ltr s k)
       have e:(s.extract k (k+pt.ltr s k)).data.toList=(s.data.toList.drop k).take (ltrL (s.data.toList.drop k)):=by
        rw [pt.cut_take,ltr_drop s k hk]
       rw [e];have hl:=lt1_take (s.data.toList.drop k) (by rw [← ltr_drop s k hk];omega);refine ⟨.cons hl h1,?_⟩
       have h4:pt.ltr s k≤4:=by
        rcases pt.place_says s k hk with ⟨a,_⟩|⟨_,_,d2,d3⟩
        · omega
        · have:=enc_le ((Utf8.decode s k).1:Int)
          rw [d3,pt.cut_take] at this;have hle:=pt.ltr_le s k hk;have h2:s.data.toList.length=s.size:=Array.length_toList;simp only [List.length_take,List.length_drop] at this;omega
       rw [List.length_append,List.length_take,← ltr_drop s k hk];omega
   · exact ⟨.nil,by simp⟩
theorem clean_ltc (s:ByteArray):Ltc (pt.clean s).data.toList∧(pt.clean s).size≤4*s.size:=by
 obtain ⟨h1,h2⟩:=clF_ok s s.size 0;refine ⟨h1,?_⟩;show (pt.clF s s.size 0).toArray.size≤_;simpa using h2
theorem norm_ok (d:Dn):Whole1 (norm d)∧(norm d).dg.size≤d.dg.size:=by
 refine ⟨?_,?_⟩
 · unfold norm
   exact oneForm_formed _ _ _ (digs_dig _)
 · unfold norm
   exact wh.oneForm_size _ _ _
theorem putP_sum {α:Type} (g:ByteArray × α→Nat) (acc:List (ByteArray × α)) (p:ByteArray × α):((jn.putP acc p).map g).sum≤(acc.map g).sum+g p∧(jn.putP acc p).length≤acc.length+1:=by
 unfold jn.putP
 split
 · omega
 · have h:=jn.ins_perm acc p
   rw [(h.map g).sum_nat,h.length_eq,List.map_cons,List.sum_cons,List.length_cons];omega
theorem puts_sum {α:Type} (g:ByteArray × α→Nat) (F:List (ByteArray × α)):((jn.puts F).map g).sum≤(F.map g).sum∧(jn.puts F).length≤F.length:=by
 have key:∀ (F acc:List (ByteArray × α)),((F.foldl jn.putP acc).map g).sum≤(acc.map g).sum+(F.map g).sum∧(F.foldl jn.putP acc).length≤acc.length+F.length:=by
  intro F
  induction F with
  | nil=>intro acc;simp
  | cons p F ih =>
    intro acc;have h1:=ih (jn.putP acc p);have h2:=putP_sum g acc p;rw [List.foldl_cons,List.map_cons,List.sum_cons,List.length_cons];omega
 have:=key F [];simpa [jn.puts] using this
theorem sum_le {α:Type}{g h:α→Nat}:∀ {l:List α},(∀ a∈l,g a≤h a)→(l.map g).sum≤(l.map h).sum
 | [],_=>by simp
 | a::l,q=>by
   rw [List.map_cons,List.map_cons,List.sum_cons,List.sum_cons];have:=q a (by simp);have:=sum_le (l:=l) fun b hb=>q b (by simp [hb])
   omega
theorem sum_mul {α:Type}{g:α→Nat} (c:Nat):∀ l:List α,(l.map fun a=>c*g a).sum=c*(l.map g).sum
 | []=>by simp
 | a::l=>by
   rw [List.map_cons,List.map_cons,List.sum_cons,List.sum_cons,sum_mul c l,Nat.mul_add]
structure VB (u:World) (lo hi:Nat) (v:JT) (cs:List Value) (p:List Nat) (b:Nat):Prop where
 vr:VRep u lo v cs p
 bx:BX u b cs
 nd:p.Nodup
 hi:∀ x∈p,x < hi
 bl:lo≤b
theorem VB.keep {u u':World}{lo hi:Nat}{v:JT}{cs:List Value}{p:List Nat}{b:Nat} (h:VB u lo hi v cs p b) (hb:Below u.heap.size u u'):VB u' lo hi v cs p b :=
 ⟨h.vr.keep fun x hx=>hb.block x (h.vr.ge x hx).2,h.bx.keep hb (blk_lt h.bx),h.nd,h.hi,h.bl⟩
theorem VB.ex {u u':World}{lo hi:Nat}{v:JT}{cs:List Value}{p:List Nat}{b:Nat}{X:List Nat} (h:VB u lo hi v cs p b) (k:EX X u u') (hX:∀ x∈X,x < lo):VB u' lo hi v cs p b :=
 ⟨k.vrep h.vr fun x hx q=>by have:=(h.vr.ge x hx).1;have:=hX x q;omega,k.bx (fun q=>by have:=hX b q;have:=h.bl;omega) h.bx,h.nd,h.hi,h.bl⟩
theorem VB.box {w u:World}{v:JT}{cs:List Value}{p:List Nat} (h:VRep u w.heap.size v cs p) (hp:p.Nodup) (hs:w.heap.size≤u.heap.size):VB (u.alloc (.cells cs.toArray 27)) w.heap.size u.heap.size v cs p u.heap.size :=
 ⟨h.keep fun x hx=>Below.heap_alloc _ _ _ (h.ge x hx).2,heap_alloc_new u _,hp,fun x hx=>(h.ge x hx).2,hs⟩
theorem nds_zero:nds jz=1:=by
 unfold jz;rw [nds_mk];rfl
theorem nds_nrm (n:Nat):∀ v,SizeOf.sizeOf v < n→nds (nrm v)≤cntV v:=by
 induction n with
 | zero=>intro v h;omega
 | succ n IH =>
   intro v h
   cases v with
   | mk k t d x l f =>
     have hl:∀ e∈l,nds (nrm e)≤cntV e:=fun e he=>IH e (by have:=sz_l (k:=k) (t:=t) (d:=d) (x:=x) (f:=f) he;omega)
     have hf:∀ p∈f,nds (nrm p.2)≤p.1.size+cntV p.2:=fun p hp=>by
      have:=IH p.2 (by have:=sz_f (k:=k) (t:=t) (d:=d) (x:=x) (l:=l) hp;omega);omega
     rw [cntV_mk,nrm_mk]
     have h1:((l.map nrm).map nds).sum≤(l.map cntV).sum:=by
      rw [List.map_map];exact sum_le fun e he=>hl e he
     have h2:((jn.puts (f.map fun p=>(pt.clean p.1,nrm p.2))).map fun p=>nds p.2).sum≤(f.map fun p=>p.1.size+cntV p.2).sum:=by
      refine Nat.le_trans (puts_sum (fun p:ByteArray × JT=>nds p.2) _).1 ?_;rw [List.map_map];exact sum_le fun p hp=>hf p hp
     split
     · rw [nds_mk];simp only [List.map_nil,List.sum_nil];omega
     · split
       · rw [nds_mk];simp only [List.map_nil,List.sum_nil];omega
       · split
         · rw [nds_mk];simp only [List.map_nil,List.sum_nil];omega
         · split
           · rw [nds_mk];simp only [List.map_nil,List.sum_nil];omega
           · split
             · rw [nds_mk];simp only [List.map_nil,List.sum_nil];omega
             · unfold null
               rw [nds_mk];simp only [List.map_nil,List.sum_nil];omega
theorem nds_get (v:JT) (name:ByteArray):nds ((getJ v name).getD jz)≤cntV v:=by
 have h1:1≤cntV v:=by cases v;rw [cntV_mk];omega
 unfold getJ
 split
 · unfold getF
   cases h:((fieldsJ v).map fun p=>(pt.clean p.1,nrm p.2)).find? (fun p=>decide (p.1=pt.clean name)) with
   | none=>show nds jz≤_;rw [nds_zero];exact h1
   | some q =>
     show nds q.2≤_;obtain ⟨p,hp,rfl⟩:=List.mem_map.1 (List.mem_of_find?_eq_some h);have:=nds_nrm _ p.2 (Nat.lt_succ_self _)
     cases v with
     | mk k t d x l f =>
       have:=cnt_f (k:=k) (t:=t) (d:=d) (x:=x) (l:=l) (f:=f) hp;show nds (nrm p.2)≤_;omega
 · show nds jz≤_;rw [nds_zero];exact h1
theorem nds_at (v:JT) (i:Int):nds ((atJ v i).getD jz)≤cntV v:=by
 have h1:1≤cntV v:=by cases v;rw [cntV_mk];omega
 unfold atJ
 split
 · cases h:(listOf v)[i.toNat]? with
   | none=>show nds jz≤_;rw [nds_zero];exact h1
   | some e =>
     show nds (nrm e)≤_;have:=nds_nrm _ e (Nat.lt_succ_self _)
     cases v with
     | mk k t d x l f =>
       have:=cnt_l (k:=k) (t:=t) (d:=d) (x:=x) (l:=l) (f:=f) (List.mem_of_getElem? h);omega
 · show nds jz≤_;rw [nds_zero];exact h1
def Sub {α:Type} (a b:Nat→(α × Nat) ⊕ (Nat × Nat)):Prop:=∀ k r,a k=.inl r→b k=.inl r
theorem cnt_pf {F:List (ByteArray × JT)} (hn:∀ p∈F,Ltc p.1.data.toList∧p.1.size≤1000000000) (hr:jn.Ris F):cnt F=F:=by
 unfold cnt;rw [pf_cl hn,jn.puts_ris F hr]
theorem dpt_nrm (n:Nat):∀ v,SizeOf.sizeOf v < n→∀ m,Pf m (nrm v)→dpt (nrm v)=dpt v:=by
 induction n with
 | zero=>intro v h;omega
 | succ n IH =>
   intro v hn m hp
   cases v with
   | mk k t d x l f =>
     rw [nrm_mk] at hp ⊢
     by_cases e1:k=1
     · rw [if_pos e1]
       subst e1;rw [dpt_mk,dpt_mk,if_neg (by decide),if_neg (by decide),if_neg (by decide),if_neg (by decide)]
     rw [if_neg e1] at hp ⊢
     by_cases e2:k=2
     · rw [if_pos e2]
       subst e2;rw [dpt_mk,dpt_mk,if_neg (by decide),if_neg (by decide),if_neg (by decide),if_neg (by decide)]
     rw [if_neg e2] at hp ⊢
     by_cases e3:k=3
     · rw [if_pos e3]
       subst e3;rw [dpt_mk,dpt_mk,if_neg (by decide),if_neg (by decide),if_neg (by decide),if_neg (by decide)]
     rw [if_neg e3] at hp ⊢
     by_cases e4:k=4
     · rw [if_pos e4] at hp ⊢
       subst e4
       have hl:∀ v∈l,∃ q,Pf q (nrm v):=fun v hv=>by
        cases hp with
        | list h _=>exact ⟨_,h _ (List.mem_map.2 ⟨v,hv,rfl⟩)⟩
       rw [dpt_mk,dpt_mk,if_pos rfl,if_pos rfl,List.map_map]
       congr 2
       exact List.map_congr_left fun v hv=>by
        obtain ⟨q,hq⟩:=hl v hv;exact IH v (by have:=sz_l (k:=4) (t:=t) (d:=d) (x:=x) (f:=f) hv;omega) q hq
     rw [if_neg e4] at hp ⊢
     by_cases e5:k=5
     · rw [if_pos e5,← cnt_nrm] at hp ⊢
       subst e5;have hp2:=hp
       cases hp2 with
       | @obj q F hn hr h hz =>
         have ec:=cnt_pf hn hr;rw [dpt_mk,dpt_mk,if_neg (by decide),if_pos rfl,if_neg (by decide),if_pos rfl,ec,List.map_map,List.map_map,List.map_map]
         congr 2
         refine List.map_congr_left fun p hpm=>?_
         have hmem:∃ r∈f,r.2=p.2:=by
          unfold cnt at hpm;obtain ⟨r,hr1,e⟩:=List.mem_map.1 (mem_puts _ p hpm);exact ⟨r,hr1,by rw [← e]⟩
         obtain ⟨r,hr1,e⟩:=hmem;exact IH p.2 (by rw [← e];have:=sz_f (k:=5) (t:=t) (d:=d) (x:=x) (l:=l) hr1;omega) q (h _ (List.mem_map.2 ⟨p,hpm,rfl⟩))
     rw [if_neg e5];rw [dpt_mk,if_neg e4,if_neg e5];unfold null;rw [dpt_mk];rfl
theorem fold_snoc (l:List JT) (i:Nat) (v:JT) (m:Nat) (h:l[i]?=some v):((l.take (i+1)).map dpt).foldl max m=max (((l.take i).map dpt).foldl max m) (dpt v):=by
 rw [take_succ' h,List.map_append,List.foldl_append];rfl
theorem fold_take {n:Nat} (l:List JT) (i m:Nat) (hm:m≤n) (h:∀ v∈l,dpt v≤n):((l.take i).map dpt).foldl max m≤n :=
 fold_le _ m hm fun x hx=>by
  obtain ⟨v,hv,rfl⟩:=List.mem_map.1 hx;exact h v (List.mem_of_mem_take hv)
def dpL (l:List JT) (f:List (ByteArray × JT)):Nat:=((f.map Prod.snd).map dpt).foldl max ((l.map dpt).foldl max 0)
set_option maxRecDepth 1000000 in
set_option maxHeartbeats 3200000 in
theorem rdepth_step (v:JT) (k:Int) (t:Bool) (d:Dn) (xx:ByteArray) (l:List JT) (f:List (ByteArray × JT)) (hx:nrm v=JT.mk k t d xx l f) (hbv:Bd v) (hnl:l.length≤1000000000) (hnf:f.length≤1000000000)
 (hdl:∀ e∈l,dpt e≤1000000000) (hdf:∀ e∈f.map Prod.snd,dpt e≤1000000000) (cs:List Value) (w:World) (h:VR w v cs) (res:Nat) (hres:res=if k=4∨k=5 then 1+dpL l f else 0)
 (IHl:∀ e∈l,∀ (cs:List Value) (u:World),VR u e cs→Calls Tryz.prog 24 #[.agg cs.toArray] u (fun r w'=>r=.returned (.int .i64 (dpt e:Int))∧Below u.heap.size u w'))
 (IHf:∀ e∈f.map Prod.snd,∀ (cs:List Value) (u:World),VR u e cs→Calls Tryz.prog 24 #[.agg cs.toArray] u (fun r w'=>r=.returned (.int .i64 (dpt e:Int))∧Below u.heap.size u w')) :
 Calls Tryz.prog 24 #[.agg cs.toArray] w (fun r w'=>r=.returned (.int .i64 (res:Int))∧Below w.heap.size w w'):=by
 obtain ⟨a0,a1,a2,a3,a4,a5,a6,a7,rfl⟩:=h.eight;obtain ⟨x0,l0,_,z0⟩:=boxE w [a0,a1,a2,a3,a4,a5,a6,a7] _ w (Below.refl _ w) (Nat.le_refl _) _ rfl;have C1:=hide (rnrm_any _ v [a0,a1,a2,a3,a4,a5,a6,a7] _ (Nat.lt_succ_self _) hbv (h.keep l0));have HL0:=hide l0;have HRES:=hide hres;have HDL:=hide hdl;have HDF:=hide hdf;have I1:=hide IHl;have I2:=hide IHf;rw [hx] at C1;clear h hbv hx l0 hres hdl hdf IHl IHf;have hW0:=World.size_alloc w (.cells [a0,a1,a2,a3,a4,a5,a6,a7].toArray 27);obtain ⟨c0,c1,c2,c3,c4,c5,c6,c7⟩:=x0.cells;have HW0:=hide hW0;clear hW0
 go_enter Tryz.func24,Tryz.ntmps24
 go_upto_region 2 with (go_at_call 23;refine (uh C1).mono ?_;rintro e u1 ⟨cs1,p1,rfl,v1,n1,b1⟩
                        obtain ⟨oa,ca,ob,cb,rfl⟩:=v1.vr.parts
                        clear C1)
 clear c0 c1 c2 c3 c4 c5 c6 c7 n1;have bw1:Below w.heap.size w u1:=(uh HL0).trans (b1.mono (Nat.le_of_lt z0));obtain ⟨dn,dg,dx⟩:=d;obtain ⟨x2,l2,bW2,z2⟩:=boxE u1 [.int .i64 k,.bool t,.bool dn,.string dg,.int .i64 dx,.string xx,.slice oa l.length ca,.slice ob f.length cb] _ _ bw1 bw1.size _ rfl;generalize u1.alloc (.cells [.int .i64 k,.bool t,.bool dn,.string dg,.int .i64 dx,.string xx,.slice oa l.length ca,.slice ob f.length cb].toArray 27)=W2 at *;have V2:=hide (v1.vr.keep l2);have X2:=hide x2;have Z2:=hide z2;have BW2:=hide bW2;generalize u1.heap.size=m at *;clear v1 b1 bw1 l2 bW2 HL0 HW0 z0 x0;obtain ⟨y0,y1,y2,y3,y4,y5,y6,y7⟩:=x2.cells;clear x2 z2
 by_cases hk:k=4∨k=5
 · have hr:res=1+dpL l f:=by rw [uh HRES,if_pos hk]
   have HR:=hide hr;clear hr HRES
   rcases hk with rfl|rfl
   · go_upto_region 5 with fail
     clear y0 y1 y2 y3 y4 y5 y6 y7;go_wp2
     go_loopw [4,5] (fun mv iv wr=>∃ (i:Nat),iv=.int .i64 (i:Int)∧i≤l.length∧mv=.int .i64 ((((l.take i).map dpt).foldl max 0:Nat):Int)∧Hid (Below W2.heap.size W2 wr)) (fun _ iv _=>l.length - (intOf iv).toNat)
     case atStart=>exact ⟨0,rfl,by omega,rfl,Below.refl _ _⟩
     case round =>
      obtain ⟨i,rfl,hi,rfl,HB⟩:=hrel;obtain ⟨y0,y1,y2,y3,y4,y5,y6,y7⟩:=((uh X2).keep (uh HB) (uh Z2)).cells
      by_cases hc:i < l.length
      · have hi1:(i:Int) < (l.length:Int):=by omega
        have hi0:(0:Int)≤(i:Int):=by omega
        obtain ⟨ad,e,q0,q1,q2,q3,q4,q5,q6,q7,rfl,hev,hvr,hat⟩:=((uh V2).keep (uh HB)).el i hc;obtain ⟨x0,x1,x2,x3,x4,x5,x6,x7⟩:=cells8 hat;have hem:=List.mem_of_getElem? hev;have CI:=hide (uh I1 e hem _ wr hvr);have HM:=hide (fold_snoc l i e 0 hev);have hd1:=uh HDL e hem;have hd2:=fold_take l i 0 (Nat.zero_le _) (uh HDL);generalize hgm:((l.take i).map dpt).foldl max 0=mo at hd2 HM ⊢;generalize dpt e=de at hd1 HM CI ⊢;clear hat hvr hev hem hgm;go_upto_region 9 with (go_at_call 24;refine (uh CI).mono ?_;rintro r u2 ⟨rfl,b2⟩);clear CI x0 x1 x2 x3 x4 x5 x6 x7;have HB2:=hide ((uh HB).trans (b2.mono (uh HB).size));clear b2
        by_cases hgt:mo < de
        · have hgz:(mo:Int) < (de:Int):=by omega
          have hmx:max mo de=de:=by omega
          go_wp2;refine ⟨⟨i+1,by go_num,by omega,?_,HB2⟩,by simp [intOf];omega⟩;rw [uh HM,hmx]
        · have hgz:¬ (mo:Int) < (de:Int):=by omega
          have hmx:max mo de=mo:=by omega
          go_wp2;refine ⟨⟨i+1,by go_num,by omega,?_,HB2⟩,by simp [intOf];omega⟩;rw [uh HM,hmx]
      · obtain rfl:i=l.length:=by omega
        have hno:¬ (l.length:Int) < (l.length:Int):=by omega
        rw [List.take_of_length_le (Nat.le_refl _)];have hd2:=fold_le (n:=1000000000) (l.map dpt) 0 (Nat.zero_le _) (fun x hx=>by obtain ⟨v,hv,rfl⟩:=List.mem_map.1 hx;exact uh HDL v hv);have HR2:Hid (res=1+((f.map Prod.snd).map dpt).foldl max ((l.map dpt).foldl max 0)):=uh HR;generalize (l.map dpt).foldl max 0=m0 at hd2 HR2 ⊢;have HB1:=HB;clear HB I1 HDL;go_upto_region 11 with fail;clear y0 y1 y2 y3 y4 y5 y6 y7;go_wp2
        go_loopw [4,7] (fun mv iv wr'=>∃ (i:Nat),iv=.int .i64 (i:Int)∧i≤f.length∧mv=.int .i64 (((((f.map Prod.snd).take i).map dpt).foldl max m0:Nat):Int)∧Hid (Below W2.heap.size W2 wr')) (fun _ iv _=>f.length - (intOf iv).toNat)
        case atStart=>exact ⟨0,rfl,by omega,rfl,HB1⟩
        case round =>
         obtain ⟨i,rfl,hi,rfl,HB⟩:=hrel;obtain ⟨y0,y1,y2,y3,y4,y5,y6,y7⟩:=((uh X2).keep (uh HB) (uh Z2)).cells
         by_cases hc:i < f.length
         · have hi1:(i:Int) < (f.length:Int):=by omega
           have hi0:(0:Int)≤(i:Int):=by omega
           obtain ⟨ad,nm,e,q0,q1,q2,q3,q4,q5,q6,q7,rfl,hev,hvr,hat⟩:=((uh V2).keep (uh HB)).fl i hc;obtain ⟨x8,x0,x1,x2,x3,x4,x5,x6,x7⟩:=cells9 hat;have hev2:(f.map Prod.snd)[i]?=some e:=by rw [List.getElem?_map,hev];rfl
           have hem:=List.mem_of_getElem? hev2;have CI:=hide (uh I2 e hem _ wr hvr);have HM:=hide (fold_snoc (f.map Prod.snd) i e m0 hev2);have hd1:=uh HDF e hem;have hd3:=fold_take (f.map Prod.snd) i m0 hd2 (uh HDF);generalize hgm:(((f.map Prod.snd).take i).map dpt).foldl max m0=mo at hd3 HM ⊢;generalize dpt e=de at hd1 HM CI ⊢;clear hat hvr hev hev2 hem hgm;go_upto_region 15 with (go_at_call 24;refine (uh CI).mono ?_;rintro r u2 ⟨rfl,b2⟩);clear CI x0 x1 x2 x3 x4 x5 x6 x7 x8;have HB2:=hide ((uh HB).trans (b2.mono (uh HB).size));clear b2
           by_cases hgt:mo < de
           · have hgz:(mo:Int) < (de:Int):=by omega
             have hmx:max mo de=de:=by omega
             go_wp2;refine ⟨⟨i+1,by go_num,by omega,?_,HB2⟩,by simp [intOf];omega⟩;rw [uh HM,hmx]
           · have hgz:¬ (mo:Int) < (de:Int):=by omega
             have hmx:max mo de=mo:=by omega
             go_wp2;refine ⟨⟨i+1,by go_num,by omega,?_,HB2⟩,by simp [intOf];omega⟩;rw [uh HM,hmx]
         · obtain rfl:i=f.length:=by omega
           have hno:¬ (f.length:Int) < (f.length:Int):=by omega
           rw [List.take_of_length_le (by rw [List.length_map];exact Nat.le_refl _)];have hd3:=fold_le (n:=1000000000) ((f.map Prod.snd).map dpt) m0 hd2 (fun x hx=>by obtain ⟨v,hv,rfl⟩:=List.mem_map.1 hx;exact uh HDF v hv);generalize ((f.map Prod.snd).map dpt).foldl max m0=m1 at hd3 HR2 ⊢;go_wp2;go_ret;refine ⟨?_,(uh BW2).trans ((uh HB).mono (uh BW2).size)⟩;rw [uh HR2]
           first|rfl|(congr 2;omega)|go_num
   · go_upto_region 5 with fail
     clear y0 y1 y2 y3 y4 y5 y6 y7;go_wp2
     go_loopw [4,5] (fun mv iv wr=>∃ (i:Nat),iv=.int .i64 (i:Int)∧i≤l.length∧mv=.int .i64 ((((l.take i).map dpt).foldl max 0:Nat):Int)∧Hid (Below W2.heap.size W2 wr)) (fun _ iv _=>l.length - (intOf iv).toNat)
     case atStart=>exact ⟨0,rfl,by omega,rfl,Below.refl _ _⟩
     case round =>
      obtain ⟨i,rfl,hi,rfl,HB⟩:=hrel;obtain ⟨y0,y1,y2,y3,y4,y5,y6,y7⟩:=((uh X2).keep (uh HB) (uh Z2)).cells
      by_cases hc:i < l.length
      · have hi1:(i:Int) < (l.length:Int):=by omega
        have hi0:(0:Int)≤(i:Int):=by omega
        obtain ⟨ad,e,q0,q1,q2,q3,q4,q5,q6,q7,rfl,hev,hvr,hat⟩:=((uh V2).keep (uh HB)).el i hc;obtain ⟨x0,x1,x2,x3,x4,x5,x6,x7⟩:=cells8 hat;have hem:=List.mem_of_getElem? hev;have CI:=hide (uh I1 e hem _ wr hvr);have HM:=hide (fold_snoc l i e 0 hev);have hd1:=uh HDL e hem;have hd2:=fold_take l i 0 (Nat.zero_le _) (uh HDL);generalize hgm:((l.take i).map dpt).foldl max 0=mo at hd2 HM ⊢;generalize dpt e=de at hd1 HM CI ⊢;clear hat hvr hev hem hgm;go_upto_region 9 with (go_at_call 24;refine (uh CI).mono ?_;rintro r u2 ⟨rfl,b2⟩);clear CI x0 x1 x2 x3 x4 x5 x6 x7;have HB2:=hide ((uh HB).trans (b2.mono (uh HB).size));clear b2
        by_cases hgt:mo < de
        · have hgz:(mo:Int) < (de:Int):=by omega
          have hmx:max mo de=de:=by omega
          go_wp2;refine ⟨⟨i+1,by go_num,by omega,?_,HB2⟩,by simp [intOf];omega⟩;rw [uh HM,hmx]
        · have hgz:¬ (mo:Int) < (de:Int):=by omega
          have hmx:max mo de=mo:=by omega
          go_wp2;refine ⟨⟨i+1,by go_num,by omega,?_,HB2⟩,by simp [intOf];omega⟩;rw [uh HM,hmx]
      · obtain rfl:i=l.length:=by omega
        have hno:¬ (l.length:Int) < (l.length:Int):=by omega
        rw [List.take_of_length_le (Nat.le_refl _)];have hd2:=fold_le (n:=1000000000) (l.map dpt) 0 (Nat.zero_le _) (fun x hx=>by obtain ⟨v,hv,rfl⟩:=List.mem_map.1 hx;exact uh HDL v hv);have HR2:Hid (res=1+((f.map Prod.snd).map dpt).foldl max ((l.map dpt).foldl max 0)):=uh HR;generalize (l.map dpt).foldl max 0=m0 at hd2 HR2 ⊢;have HB1:=HB;clear HB I1 HDL;go_upto_region 11 with fail;clear y0 y1 y2 y3 y4 y5 y6 y7;go_wp2
        go_loopw [4,7] (fun mv iv wr'=>∃ (i:Nat),iv=.int .i64 (i:Int)∧i≤f.length∧mv=.int .i64 (((((f.map Prod.snd).take i).map dpt).foldl max m0:Nat):Int)∧Hid (Below W2.heap.size W2 wr')) (fun _ iv _=>f.length - (intOf iv).toNat)
        case atStart=>exact ⟨0,rfl,by omega,rfl,HB1⟩
        case round =>
         obtain ⟨i,rfl,hi,rfl,HB⟩:=hrel;obtain ⟨y0,y1,y2,y3,y4,y5,y6,y7⟩:=((uh X2).keep (uh HB) (uh Z2)).cells
         by_cases hc:i < f.length
         · have hi1:(i:Int) < (f.length:Int):=by omega
           have hi0:(0:Int)≤(i:Int):=by omega
           obtain ⟨ad,nm,e,q0,q1,q2,q3,q4,q5,q6,q7,rfl,hev,hvr,hat⟩:=((uh V2).keep (uh HB)).fl i hc;obtain ⟨x8,x0,x1,x2,x3,x4,x5,x6,x7⟩:=cells9 hat;have hev2:(f.map Prod.snd)[i]?=some e:=by rw [List.getElem?_map,hev];rfl
           have hem:=List.mem_of_getElem? hev2;have CI:=hide (uh I2 e hem _ wr hvr);have HM:=hide (fold_snoc (f.map Prod.snd) i e m0 hev2);have hd1:=uh HDF e hem;have hd3:=fold_take (f.map Prod.snd) i m0 hd2 (uh HDF);generalize hgm:(((f.map Prod.snd).take i).map dpt).foldl max m0=mo at hd3 HM ⊢;generalize dpt e=de at hd1 HM CI ⊢;clear hat hvr hev hev2 hem hgm;go_upto_region 15 with (go_at_call 24;refine (uh CI).mono ?_;rintro r u2 ⟨rfl,b2⟩);clear CI x0 x1 x2 x3 x4 x5 x6 x7 x8;have HB2:=hide ((uh HB).trans (b2.mono (uh HB).size));clear b2
           by_cases hgt:mo < de
           · have hgz:(mo:Int) < (de:Int):=by omega
             have hmx:max mo de=de:=by omega
             go_wp2;refine ⟨⟨i+1,by go_num,by omega,?_,HB2⟩,by simp [intOf];omega⟩;rw [uh HM,hmx]
           · have hgz:¬ (mo:Int) < (de:Int):=by omega
             have hmx:max mo de=mo:=by omega
             go_wp2;refine ⟨⟨i+1,by go_num,by omega,?_,HB2⟩,by simp [intOf];omega⟩;rw [uh HM,hmx]
         · obtain rfl:i=f.length:=by omega
           have hno:¬ (f.length:Int) < (f.length:Int):=by omega
           rw [List.take_of_length_le (by rw [List.length_map];exact Nat.le_refl _)];have hd3:=fold_le (n:=1000000000) ((f.map Prod.snd).map dpt) m0 hd2 (fun x hx=>by obtain ⟨v,hv,rfl⟩:=List.mem_map.1 hx;exact uh HDF v hv);generalize ((f.map Prod.snd).map dpt).foldl max m0=m1 at hd3 HR2 ⊢;go_wp2;go_ret;refine ⟨?_,(uh BW2).trans ((uh HB).mono (uh BW2).size)⟩;rw [uh HR2]
           first|rfl|(congr 2;omega)|go_num
 · have hr:res=0:=by rw [uh HRES,if_neg hk]
   subst hr;have k4:(k != 4)=true:=by simp;omega
   have k5:(k != 5)=true:=by simp;omega
   clear hk;go_wp2;go_ret;exact ⟨rfl,uh BW2⟩
theorem rdepth_any:∀ (n:Nat),n≤1000000000→∀ (v:JT),Bd v→Pf n (nrm v)→∀ (cs:List Value) (w:World),VR w v cs→Calls Tryz.prog 24 #[.agg cs.toArray] w (fun r w'=>r=.returned (.int .i64 (dpt (nrm v):Int))∧Below w.heap.size w w'):=by
 intro n
 induction n with
 | zero =>
   intro _ v hb hp cs w h;generalize hx:nrm v=x at hp ⊢
   cases hp with
   | null=>exact rdepth_step v 0 _ _ _ [] [] hx hb (by simp) (by simp) (by simp) (by simp) cs w h _ (by unfold leaf;rw [dpt_mk];rfl) (by simp) (by simp)
   | truth=>exact rdepth_step v 1 _ _ _ [] [] hx hb (by simp) (by simp) (by simp) (by simp) cs w h _ (by unfold leaf;rw [dpt_mk];rfl) (by simp) (by simp)
   | num=>exact rdepth_step v 2 _ _ _ [] [] hx hb (by simp) (by simp) (by simp) (by simp) cs w h _ (by unfold leaf;rw [dpt_mk];rfl) (by simp) (by simp)
   | text=>exact rdepth_step v 3 _ _ _ [] [] hx hb (by simp) (by simp) (by simp) (by simp) cs w h _ (by unfold leaf;rw [dpt_mk];rfl) (by simp) (by simp)
 | succ n ih =>
   intro hn v hb hp cs w h
   have step:∀ e,Pf n e→∀ (cs:List Value) (u:World),VR u e cs→Calls Tryz.prog 24 #[.agg cs.toArray] u (fun r w'=>r=.returned (.int .i64 (dpt e:Int))∧Below u.heap.size u w'):=fun e he cs u hu=>by
    have:=ih (by omega) e (pf_bd he) (by rw [pf_nrm he];exact he) cs u hu;rw [pf_nrm he] at this;exact this
   have dle:∀ e,Pf n e→dpt e≤1000000000:=fun e he=>by have:=pf_dpt he;omega
   generalize hx:nrm v=x at hp ⊢
   cases hp with
   | null=>exact rdepth_step v 0 _ _ _ [] [] hx hb (by simp) (by simp) (by simp) (by simp) cs w h _ (by unfold leaf;rw [dpt_mk];rfl) (by simp) (by simp)
   | truth=>exact rdepth_step v 1 _ _ _ [] [] hx hb (by simp) (by simp) (by simp) (by simp) cs w h _ (by unfold leaf;rw [dpt_mk];rfl) (by simp) (by simp)
   | num=>exact rdepth_step v 2 _ _ _ [] [] hx hb (by simp) (by simp) (by simp) (by simp) cs w h _ (by unfold leaf;rw [dpt_mk];rfl) (by simp) (by simp)
   | text=>exact rdepth_step v 3 _ _ _ [] [] hx hb (by simp) (by simp) (by simp) (by simp) cs w h _ (by unfold leaf;rw [dpt_mk];rfl) (by simp) (by simp)
   | @list _ l hl hz=>exact rdepth_step v 4 _ _ _ l [] hx hb (by omega) (by simp) (fun e he=>dle e (hl e he)) (by simp) cs w h _ (by rw [dpt_mk];rfl) (fun e he=>step e (hl e he)) (by simp)
   | @obj _ f hnm hr hf hz =>
     have ec:cnt f=f:=by unfold cnt;rw [pf_cl hnm,jn.puts_ris f hr]
     have hf2:∀ e∈f.map Prod.snd,Pf n e:=fun e he=>by obtain ⟨p,hp,rfl⟩:=List.mem_map.1 he;exact hf p hp
     exact rdepth_step v 5 _ _ _ [] f hx hb (by simp) (by omega) (by simp) (fun e he=>dle e (hf2 e he)) cs w h _ (by rw [dpt_mk,ec];rfl) (by simp) (fun e he=>step e (hf2 e he))
theorem itoaB_few (n:Int) (h0:-9999≤n) (h1:n≤9999):(itoaB n).size≤21:=by
 have e:(itoaB n).size=(Lib.itoa n).length:=by unfold itoaB;exact List.size_toArray
 rw [e];exact Lib.itoa_length_le n (by omega) (by omega)
theorem txt_few (n:Dn) (h:Whole1 n):(textOf n).size≤n.dg.size+30:=by
 have hx:-9999≤n.ex∧n.ex≤9999:=by
  rcases h with rfl|h
  · exact ⟨by decide,by decide⟩
  · exact ⟨h.e0,h.e1⟩
 have:=itoaB_few n.ex hx.1 hx.2;have e1:(⟨#[45]⟩:ByteArray).size=1:=rfl;have e2:(⟨#[101]⟩:ByteArray).size=1:=rfl;unfold textOf
 split
 · have:(⟨#[48]⟩:ByteArray).size=1:=rfl
   omega
 · split
   · split
     · rw [ByteArray.size_append];omega
     · omega
   · split
     · rw [ByteArray.size_append,ByteArray.size_append,ByteArray.size_append];omega
     · rw [ByteArray.size_append,ByteArray.size_append];omega
theorem light_few (n:Nat):∀ v,SizeOf.sizeOf v < n→cntV v≤100000000→Pf (cntV v) (nrm v)∧cst (nrm v)+100≤400*cntV v:=by
 induction n with
 | zero=>intro v h;omega
 | succ n IH =>
   intro v hn hc
   cases v with
   | mk k t d x l f =>
     have e0:(⟨#[]⟩:ByteArray).size=0:=rfl;have hlf:∀ v∈l,Pf (cntV v) (nrm v)∧cst (nrm v)+100≤400*cntV v:=fun v hv=>IH v (by have:=sz_l (k:=k) (t:=t) (d:=d) (x:=x) (f:=f) hv;omega) (by have:=cnt_l (k:=k) (t:=t) (d:=d) (x:=x) (f:=f) hv;omega)
     have hff:∀ p∈f,Pf (cntV p.2) (nrm p.2)∧cst (nrm p.2)+100≤400*cntV p.2:=fun p hp=>IH p.2 (by have:=sz_f (k:=k) (t:=t) (d:=d) (x:=x) (l:=l) hp;omega) (by have:=cnt_f (k:=k) (t:=t) (d:=d) (x:=x) (l:=l) hp;omega)
     have hcl:∀ v∈l,cntV v+1≤cntV (.mk k t d x l f):=fun v hv=>cnt_l hv
     have hcf:∀ p∈f,cntV p.2+p.1.size+1≤cntV (.mk k t d x l f):=fun p hp=>cnt_f hp
     have hmk:=cntV_mk k t d x l f;generalize cntV (.mk k t d x l f)=C at *;rw [nrm_mk]
     by_cases e1:k=1
     · rw [if_pos e1]
       refine ⟨.truth C t,?_⟩;show cst (leaf 1 t zed ⟨#[]⟩)+100≤_;rw [cst_leaf,txt_zed];omega
     rw [if_neg e1]
     by_cases e2:k=2
     · rw [if_pos e2]
       obtain ⟨w1,w2⟩:=norm_ok d;refine ⟨.num C w1 (by omega),?_⟩;show cst (leaf 2 false (norm d) ⟨#[]⟩)+100≤_;have:=txt_few _ w1;rw [cst_leaf,wh.whole_id w1];omega
     rw [if_neg e2]
     by_cases e3:k=3
     · rw [if_pos e3]
       obtain ⟨w1,w2⟩:=clean_ltc x;refine ⟨.text C w1 (by omega),?_⟩;show cst (leaf 3 false zed (pt.clean x))+100≤_;rw [cst_leaf,txt_zed];omega
     rw [if_neg e3]
     by_cases e4:k=4
     · rw [if_pos e4]
       refine ⟨?_,?_⟩
       · obtain ⟨C,rfl⟩:∃ q,C=q+1:=⟨C - 1,by omega⟩
         refine .list (fun v hv=>?_) (by rw [List.length_map];omega);obtain ⟨u,hu,rfl⟩:=List.mem_map.1 hv;exact pf_mono (hlf u hu).1 C (by have:=hcl u hu;omega)
       · rw [cst_mk,txt_zed]
         simp only [List.map_nil,List.sum_nil,List.length_nil,List.length_map,List.map_map];have h1:(l.map (cst ∘ nrm)).sum≤(l.map fun v=>400*cntV v).sum:=sum_le fun v hv=>by have:=(hlf v hv).2;simp only [Function.comp_def];omega
         rw [sum_mul] at h1;omega
     rw [if_neg e4]
     by_cases e5:k=5
     · rw [if_pos e5]
       obtain ⟨p1,p2⟩:=ss.puts_fst (f.map fun p=>(pt.clean p.1,nrm p.2))
       have hmem:∀ p∈jn.puts (f.map fun p=>(pt.clean p.1,nrm p.2)),∃ q∈f,p=(pt.clean q.1,nrm q.2):=fun p hp=>by
        obtain ⟨q,hq,e⟩:=List.mem_map.1 (mem_puts _ p hp);exact ⟨q,hq,e.symm⟩
       obtain ⟨s1,s2⟩:=puts_sum (fun p:ByteArray × JT=>cst p.2+6*p.1.size+30) (f.map fun p=>(pt.clean p.1,nrm p.2));rw [List.length_map] at s2;refine ⟨?_,?_⟩
       · obtain ⟨C,rfl⟩:∃ q,C=q+1:=⟨C - 1,by omega⟩
         refine .obj (fun p hp=>?_) p2 (fun p hp=>?_) (by omega)
         · obtain ⟨q,hq,rfl⟩:=hmem p hp
           obtain ⟨w1,w2⟩:=clean_ltc q.1;exact ⟨w1,by have:=hcf q hq;simp only;omega⟩
         · obtain ⟨q,hq,rfl⟩:=hmem p hp
           exact pf_mono (hff q hq).1 C (by have:=hcf q hq;omega)
       · rw [cst_mk,txt_zed]
         simp only [List.map_nil,List.sum_nil,List.length_nil];rw [List.map_map] at s1
         have h1:(f.map ((fun p:ByteArray × JT=>cst p.2+6*p.1.size+30) ∘ fun p=>(pt.clean p.1,nrm p.2))).sum≤(f.map fun p=>400*(p.1.size+cntV p.2)).sum:=sum_le fun p hp=>by
          have h3:=(hff p hp).2;have h4:=(clean_ltc p.1).2;simp only [Function.comp_def];omega
         rw [sum_mul] at h1;omega
     rw [if_neg e5];refine ⟨.null C,?_⟩;show cst (leaf 0 false zed ⟨#[]⟩)+100≤_;rw [cst_leaf,txt_zed];omega
theorem sum_snoc {α:Type} (g:α→Nat) (l:List α) (i:Nat) (v:α) (h:l[i]?=some v):((l.take (i+1)).map g).sum=((l.take i).map g).sum+g v:=by
 rw [take_succ' h,List.map_append,List.sum_append_nat];simp
def MP (n c:Nat) (w:World) (e:Ending) (w':World):Prop:=∃ r:Nat,e=.returned (.int .i64 (r:Int))∧(r≤4194304→r=n+c)∧r≤100000000000000∧Below w.heap.size w w'
set_option maxRecDepth 1000000 in
set_option maxHeartbeats 6400000 in
theorem many_any (N:Nat):∀ (v:JT),SizeOf.sizeOf v < N→Bd v→∀ (n ar:Nat) (cs:List Value) (w:World),n≤36000000000000→ar≤65537→VR w v cs→Calls Tryz.prog 31 #[.agg cs.toArray,.int .i64 (n:Int),.int .i64 (ar:Int)] w (MP n (cntV v) w):=by
 induction N with
 | zero=>intro v h;omega
 | succ N IH =>
   intro v hN hbd n ar cs w hn har h
   cases v with
   | mk k t d x l f =>
     obtain ⟨oa,ca,ob,cb,rfl⟩:=h.parts;obtain ⟨dn,dg,dx⟩:=d
     cases hbd with
     | mk hk h0 h1 h2 h3 h4 hl hnm hf =>
       obtain ⟨x2,l2,_,z2⟩:=boxE w [.int .i64 k,.bool t,.bool dn,.string dg,.int .i64 dx,.string x,.slice oa l.length ca,.slice ob f.length cb] _ w (Below.refl _ w) (Nat.le_refl _) _ rfl;have hcv:=cntV_mk k t ⟨dn,dg,dx⟩ x l f;have I1:=hide (fun v (hv:v∈l) (n ar:Nat) (cs:List Value) (w:World)=>IH v (by have:=sz_l (k:=k) (t:=t) (d:=⟨dn,dg,dx⟩) (x:=x) (f:=f) hv;omega) (hl v hv) n ar cs w);have I2:=hide (fun p (hp:p∈f) (n ar:Nat) (cs:List Value) (w:World)=>IH p.2 (by have:=sz_f (k:=k) (t:=t) (d:=⟨dn,dg,dx⟩) (x:=x) (l:=l) hp;omega) (hf p hp) n ar cs w);generalize cntV (JT.mk k t ⟨dn,dg,dx⟩ x l f)=C at *;have HCV:=hide hcv;have HNM:=hide hnm;have HV:=hide h;clear h hcv hnm hl hf IH hN
       by_cases ha:65536 < ar
       · have haz:(65536:Int) < (ar:Int):=by omega
         clear I1 I2 x2 z2 HCV HNM HV h0 h1 h2 h3 h4 hk
         go_enter Tryz.func31,Tryz.ntmps31
         go_wp2;go_ret;exact ⟨4194305,rfl,fun q=>by omega,by omega,l2⟩
       · have haz:¬ (65536:Int) < (ar:Int):=by omega
         obtain ⟨y0,y1,y2,y3,y4,y5,y6,y7⟩:=x2.cells;have V2:=hide ((uh HV).keep l2);have X2:=hide x2;have Z2:=hide z2;have L2:=hide l2;clear x2 z2 l2 HV;obtain ⟨b0,hb0⟩:∃ b0,b0=n+1+x.size+dg.size+l.length+f.length:=⟨_,rfl⟩;have HB0:=hide hb0;have hbz:(b0:Int)=(n:Int)+1+(x.size:Int)+(dg.size:Int)+(l.length:Int)+(f.length:Int):=by omega
         have h0':dg.size≤1099511627776:=h0;have hbb:b0≤80000000000000:=by omega
         have HBZ:=hide hbz;clear hb0 hbz
         go_enter Tryz.func31,Tryz.ntmps31
         go_upto_region 4 with fail;clear y0 y1 y2 y3 y4 y5 y6 y7;generalize w.alloc (.cells [.int .i64 k,.bool t,.bool dn,.string dg,.int .i64 dx,.string x,.slice oa l.length ca,.slice ob f.length cb].toArray 27)=W2 at *;go_wp2
         go_loopw [1,7] (fun mv iv wr=>∃ (m i:Nat),mv=.int .i64 (m:Int)∧iv=.int .i64 (i:Int)∧i≤l.length∧m≤100000000000000∧Hid (m≤4194304→m=b0+((l.take i).map cntV).sum)∧Hid (Below W2.heap.size W2 wr)) (fun _ iv _=>l.length - (intOf iv).toNat)
         case atStart=>exact ⟨b0,0,by rw [uh HBZ],rfl,Nat.zero_le _,by omega,fun _=>by simp,Below.refl _ _⟩
         case round =>
          obtain ⟨m,i,rfl,rfl,hi,hm2,HM,HB⟩:=hrel;obtain ⟨y0,y1,y2,y3,y4,y5,y6,y7⟩:=((uh X2).keep (uh HB) (uh Z2)).cells
          by_cases hc:i < l.length
          · have hi1:(i:Int) < (l.length:Int):=by omega
            by_cases hm:m≤4194304
            · have hmz:(m:Int)≤4194304:=by omega
              obtain ⟨ad,e,q0,q1,q2,q3,q4,q5,q6,q7,rfl,hev,hvr,hat⟩:=((uh V2).keep (uh HB)).el i hc;obtain ⟨x0,x1,x2,x3,x4,x5,x6,x7⟩:=cells8 hat;have hem:=List.mem_of_getElem? hev;have CI:=hide (uh I1 e hem m (ar+1) _ wr (by omega) (by omega) hvr);have HSN:=hide (sum_snoc cntV l i e hev);generalize cntV e=ce at CI HSN;clear hat hvr hev hem
              go_wp2_with (go_at_call 31;refine (uh CI).mono ?_;rintro e1 u2 ⟨r,rfl,hr1,hr2,b2⟩)
              have HB2:=hide ((uh HB).trans (b2.mono (uh HB).size));refine ⟨⟨r,i+1,rfl,by go_num,by omega,hr2,fun q9=>?_,HB2⟩,by simp [intOf];omega⟩;have h5:=hr1 q9;have h6:=uh HM (by omega);rw [uh HSN];omega
            · have hmz:¬ (m:Int)≤4194304:=by omega
              have E1:=hide (show m≤4194304→m=b0+(l.map cntV).sum from fun q9=>absurd q9 hm);have hmb:=hm2;have HB1:=HB;clear HM HB hm2 I1;go_upto_region 8 with fail;clear y0 y1 y2 y3 y4 y5 y6 y7;go_wp2
              go_loopw [1,8] (fun mv iv wr'=>∃ (q i:Nat),mv=.int .i64 (q:Int)∧iv=.int .i64 (i:Int)∧i≤f.length∧q≤100000000000000∧Hid (q≤4194304→q=b0+(l.map cntV).sum+((f.take i).map fun p=>p.1.size+cntV p.2).sum)∧Hid (Below W2.heap.size W2 wr')) (fun _ iv _=>f.length - (intOf iv).toNat)
              case atStart=>exact ⟨m,0,rfl,rfl,Nat.zero_le _,hmb,fun q=>by simpa using uh E1 q,HB1⟩
              case round =>
               obtain ⟨q,i,rfl,rfl,hi,hq2,HQ,HB⟩:=hrel;obtain ⟨y0,y1,y2,y3,y4,y5,y6,y7⟩:=((uh X2).keep (uh HB) (uh Z2)).cells;clear E1 HB1
               by_cases hc:i < f.length
               · have hi1:(i:Int) < (f.length:Int):=by omega
                 by_cases hm:q≤4194304
                 · have hmz:(q:Int)≤4194304:=by omega
                   obtain ⟨ad,nm,e,q0,q1,q2,q3,q4,q5,q6,q7,rfl,hev,hvr,hat⟩:=((uh V2).keep (uh HB)).fl i hc;obtain ⟨x8,x0,x1,x2,x3,x4,x5,x6,x7⟩:=cells9 hat;have hem:=List.mem_of_getElem? hev;have hns:=uh HNM _ hem;simp only at hns;have HSN:=hide (sum_snoc (fun p:ByteArray × JT=>p.1.size+cntV p.2) f i _ hev);have CI:=hide (fun u (hu:Below wr.heap.size wr u)=>uh I2 _ hem (q+nm.size) (ar+1) _ u (by omega) (by omega) (hvr.keep hu));simp only at CI HSN;generalize cntV e=ce at CI HSN;have hw0:Below wr.heap.size wr wr.drew:=⟨rfl,rfl,rfl,Nat.le_refl _,fun _ _=>rfl⟩;have HmkS:∀ u,Below wr.heap.size wr u→Below wr.heap.size wr u∧u.cell? ⟨w.heap.size,7,none⟩=some (.slice (some ad) f.length cb)∧u.cell? (ad.add (i*9))=some (.string nm)∧u.cell? ⟨(ad.add (i*9)).block,(ad.add (i*9)).off+1,none⟩=some q0∧u.cell? ⟨(ad.add (i*9)).block,(ad.add (i*9)).off+2,none⟩=some q1∧u.cell? ⟨(ad.add (i*9)).block,(ad.add (i*9)).off+3,none⟩=some q2∧u.cell? ⟨(ad.add (i*9)).block,(ad.add (i*9)).off+4,none⟩=some q3∧u.cell? ⟨(ad.add (i*9)).block,(ad.add (i*9)).off+5,none⟩=some q4∧u.cell? ⟨(ad.add (i*9)).block,(ad.add (i*9)).off+6,none⟩=some q5∧u.cell? ⟨(ad.add (i*9)).block,(ad.add (i*9)).off+7,none⟩=some q6∧u.cell? ⟨(ad.add (i*9)).block,(ad.add (i*9)).off+8,none⟩=some q7:=fun u hu=>⟨hu,kc hu y7,kc hu x8,kc hu x0,kc hu x1,kc hu x2,kc hu x3,kc hu x4,kc hu x5,kc hu x6,kc hu x7⟩
                   have wa:IntKind.i64.wrap ((q:Int)+(nm.size:Int))=((q+nm.size:Nat):Int):=by rw [IntKind.wrap_i64];omega
                   have wb:IntKind.i64.wrap ((ar:Int)+1)=((ar+1:Nat):Int):=by rw [IntKind.wrap_i64];omega
                   clear hat hvr hev hem
                   go_wp2_with fail
                   go_region_held3 (fun u=>Below wr.heap.size wr u∧u.cell? ⟨w.heap.size,7,none⟩=some (.slice (some ad) f.length cb)∧u.cell? (ad.add (i*9))=some (.string nm)∧u.cell? ⟨(ad.add (i*9)).block,(ad.add (i*9)).off+1,none⟩=some q0∧u.cell? ⟨(ad.add (i*9)).block,(ad.add (i*9)).off+2,none⟩=some q1∧u.cell? ⟨(ad.add (i*9)).block,(ad.add (i*9)).off+3,none⟩=some q2∧u.cell? ⟨(ad.add (i*9)).block,(ad.add (i*9)).off+4,none⟩=some q3∧u.cell? ⟨(ad.add (i*9)).block,(ad.add (i*9)).off+5,none⟩=some q4∧u.cell? ⟨(ad.add (i*9)).block,(ad.add (i*9)).off+6,none⟩=some q5∧u.cell? ⟨(ad.add (i*9)).block,(ad.add (i*9)).off+7,none⟩=some q6∧u.cell? ⟨(ad.add (i*9)).block,(ad.add (i*9)).off+8,none⟩=some q7) (with_reducible refine HmkS _ ?_;with_reducible first|assumption|exact Below.refl _ _) (first
                    | (go_at_call 31;refine (uh CI _ (by with_reducible assumption)).mono ?_;rintro e1 u5 ⟨r,rfl,hr1,hr2,b5⟩
                       have hB5:Below wr.heap.size wr u5:=hw0.trans (b5.mono (Nat.le_refl _))))
                   have HR1:=hide hr1;have HB5:=hide ((uh HB).trans (hB5.mono (uh HB).size));clear HmkS hw0 b5 hB5 hr1 CI x0 x1 x2 x3 x4 x5 x6 x7 x8 y0 y1 y2 y3 y4 y5 y6 y7;go_wp2;refine ⟨⟨r,i+1,rfl,by go_num,by omega,hr2,fun q9=>?_,HB5⟩,by simp [intOf];omega⟩;have h5:=uh HR1 q9;have h6:=uh HQ (by omega);rw [uh HSN];omega
                 · have hmz:¬ (q:Int)≤4194304:=by omega
                   go_wp2;go_ret;exact ⟨q,rfl,fun q9=>absurd q9 hm,hq2,(uh L2).trans ((uh HB).mono (uh L2).size)⟩
               · obtain rfl:i=f.length:=by omega
                 have hno:¬ (f.length:Int) < (f.length:Int):=by omega
                 rw [List.take_of_length_le (Nat.le_refl _)] at HQ;go_wp2;go_ret;refine ⟨q,rfl,fun q9=>?_,hq2,(uh L2).trans ((uh HB).mono (uh L2).size)⟩;have h6:=uh HQ q9;have h7:=uh HCV;have h8:=uh HB0;omega
          · obtain rfl:i=l.length:=by omega
            have hno:¬ (l.length:Int) < (l.length:Int):=by omega
            rw [List.take_of_length_le (Nat.le_refl _)] at HM;have E1:=hide (show m≤4194304→m=b0+(l.map cntV).sum from uh HM);have hmb:=hm2;have HB1:=HB;clear HM HB hm2 I1;go_upto_region 8 with fail;clear y0 y1 y2 y3 y4 y5 y6 y7;go_wp2
            go_loopw [1,8] (fun mv iv wr'=>∃ (q i:Nat),mv=.int .i64 (q:Int)∧iv=.int .i64 (i:Int)∧i≤f.length∧q≤100000000000000∧Hid (q≤4194304→q=b0+(l.map cntV).sum+((f.take i).map fun p=>p.1.size+cntV p.2).sum)∧Hid (Below W2.heap.size W2 wr')) (fun _ iv _=>f.length - (intOf iv).toNat)
            case atStart=>exact ⟨m,0,rfl,rfl,Nat.zero_le _,hmb,fun q=>by simpa using uh E1 q,HB1⟩
            case round =>
             obtain ⟨q,i,rfl,rfl,hi,hq2,HQ,HB⟩:=hrel;obtain ⟨y0,y1,y2,y3,y4,y5,y6,y7⟩:=((uh X2).keep (uh HB) (uh Z2)).cells;clear E1 HB1
             by_cases hc:i < f.length
             · have hi1:(i:Int) < (f.length:Int):=by omega
               by_cases hm:q≤4194304
               · have hmz:(q:Int)≤4194304:=by omega
                 obtain ⟨ad,nm,e,q0,q1,q2,q3,q4,q5,q6,q7,rfl,hev,hvr,hat⟩:=((uh V2).keep (uh HB)).fl i hc;obtain ⟨x8,x0,x1,x2,x3,x4,x5,x6,x7⟩:=cells9 hat;have hem:=List.mem_of_getElem? hev;have hns:=uh HNM _ hem;simp only at hns;have HSN:=hide (sum_snoc (fun p:ByteArray × JT=>p.1.size+cntV p.2) f i _ hev);have CI:=hide (fun u (hu:Below wr.heap.size wr u)=>uh I2 _ hem (q+nm.size) (ar+1) _ u (by omega) (by omega) (hvr.keep hu));simp only at CI HSN;generalize cntV e=ce at CI HSN;have hw0:Below wr.heap.size wr wr.drew:=⟨rfl,rfl,rfl,Nat.le_refl _,fun _ _=>rfl⟩;have HmkS:∀ u,Below wr.heap.size wr u→Below wr.heap.size wr u∧u.cell? ⟨w.heap.size,7,none⟩=some (.slice (some ad) f.length cb)∧u.cell? (ad.add (i*9))=some (.string nm)∧u.cell? ⟨(ad.add (i*9)).block,(ad.add (i*9)).off+1,none⟩=some q0∧u.cell? ⟨(ad.add (i*9)).block,(ad.add (i*9)).off+2,none⟩=some q1∧u.cell? ⟨(ad.add (i*9)).block,(ad.add (i*9)).off+3,none⟩=some q2∧u.cell? ⟨(ad.add (i*9)).block,(ad.add (i*9)).off+4,none⟩=some q3∧u.cell? ⟨(ad.add (i*9)).block,(ad.add (i*9)).off+5,none⟩=some q4∧u.cell? ⟨(ad.add (i*9)).block,(ad.add (i*9)).off+6,none⟩=some q5∧u.cell? ⟨(ad.add (i*9)).block,(ad.add (i*9)).off+7,none⟩=some q6∧u.cell? ⟨(ad.add (i*9)).block,(ad.add (i*9)).off+8,none⟩=some q7:=fun u hu=>⟨hu,kc hu y7,kc hu x8,kc hu x0,kc hu x1,kc hu x2,kc hu x3,kc hu x4,kc hu x5,kc hu x6,kc hu x7⟩
                 have wa:IntKind.i64.wrap ((q:Int)+(nm.size:Int))=((q+nm.size:Nat):Int):=by rw [IntKind.wrap_i64];omega
                 have wb:IntKind.i64.wrap ((ar:Int)+1)=((ar+1:Nat):Int):=by rw [IntKind.wrap_i64];omega
                 clear hat hvr hev hem
                 go_wp2_with fail
                 go_region_held3 (fun u=>Below wr.heap.size wr u∧u.cell? ⟨w.heap.size,7,none⟩=some (.slice (some ad) f.length cb)∧u.cell? (ad.add (i*9))=some (.string nm)∧u.cell? ⟨(ad.add (i*9)).block,(ad.add (i*9)).off+1,none⟩=some q0∧u.cell? ⟨(ad.add (i*9)).block,(ad.add (i*9)).off+2,none⟩=some q1∧u.cell? ⟨(ad.add (i*9)).block,(ad.add (i*9)).off+3,none⟩=some q2∧u.cell? ⟨(ad.add (i*9)).block,(ad.add (i*9)).off+4,none⟩=some q3∧u.cell? ⟨(ad.add (i*9)).block,(ad.add (i*9)).off+5,none⟩=some q4∧u.cell? ⟨(ad.add (i*9)).block,(ad.add (i*9)).off+6,none⟩=some q5∧u.cell? ⟨(ad.add (i*9)).block,(ad.add (i*9)).off+7,none⟩=some q6∧u.cell? ⟨(ad.add (i*9)).block,(ad.add (i*9)).off+8,none⟩=some q7) (with_reducible refine HmkS _ ?_;with_reducible first|assumption|exact Below.refl _ _) (first
                  | (go_at_call 31;refine (uh CI _ (by with_reducible assumption)).mono ?_;rintro e1 u5 ⟨r,rfl,hr1,hr2,b5⟩
                     have hB5:Below wr.heap.size wr u5:=hw0.trans (b5.mono (Nat.le_refl _))))
                 have HR1:=hide hr1;have HB5:=hide ((uh HB).trans (hB5.mono (uh HB).size));clear HmkS hw0 b5 hB5 hr1 CI x0 x1 x2 x3 x4 x5 x6 x7 x8 y0 y1 y2 y3 y4 y5 y6 y7;go_wp2;refine ⟨⟨r,i+1,rfl,by go_num,by omega,hr2,fun q9=>?_,HB5⟩,by simp [intOf];omega⟩;have h5:=uh HR1 q9;have h6:=uh HQ (by omega);rw [uh HSN];omega
               · have hmz:¬ (q:Int)≤4194304:=by omega
                 go_wp2;go_ret;exact ⟨q,rfl,fun q9=>absurd q9 hm,hq2,(uh L2).trans ((uh HB).mono (uh L2).size)⟩
             · obtain rfl:i=f.length:=by omega
               have hno:¬ (f.length:Int) < (f.length:Int):=by omega
               rw [List.take_of_length_le (Nat.le_refl _)] at HQ;go_wp2;go_ret;refine ⟨q,rfl,fun q9=>?_,hq2,(uh L2).trans ((uh HB).mono (uh L2).size)⟩;have h6:=uh HQ q9;have h7:=uh HCV;have h8:=uh HB0;omega
set_option maxHeartbeats 1600000 in
theorem heavy_any (v:JT) (hb:Bd v) (cs:List Value) (w:World) (h:VR w v cs):Calls Tryz.prog 9 #[.agg cs.toArray] w fun e w'=>∃ b:Bool,e=.returned (.bool b)∧(b=false→cntV v≤4194304)∧Below w.heap.size w w':=by
 obtain ⟨a0,a1,a2,a3,a4,a5,a6,a7,rfl⟩:=h.eight;obtain ⟨x2,l2,_,z2⟩:=boxE w [a0,a1,a2,a3,a4,a5,a6,a7] _ w (Below.refl _ w) (Nat.le_refl _) _ rfl;have CI:=hide (many_any _ v (Nat.lt_succ_self _) hb 0 0 _ _ (by omega) (by omega) (h.keep l2));have L2:=hide l2;have Z2:=hide z2;obtain ⟨y0,y1,y2,y3,y4,y5,y6,y7⟩:=x2.cells;generalize cntV v=C at *;clear h hb l2 x2 z2
 go_enter Tryz.func9,Tryz.ntmps9
 go_wp2_with (go_at_call 31;refine (uh CI).mono ?_;rintro e1 u2 ⟨r,rfl,hr1,hr2,b2⟩)
 go_ret;refine ⟨_,rfl,fun q=>?_,(uh L2).trans (b2.mono (Nat.le_of_lt (uh Z2)))⟩;have hq:¬ (4194304:Int) < (r:Int):=by simpa using q
 have:=hr1 (by omega);omega
structure Lit (v:JT):Prop where
 gd:Gd v
 pf:Pf (cntV v) (nrm v)
 bn:Bd (nrm v)
 cst:cst (nrm v)≤2000000000
 len:(prt (nrm v)).length≤2000000000
theorem lit_of {v:JT} (hb:Bd v) (hc:cntV v≤4194304):Lit v:=by
 obtain ⟨h1,h2⟩:=light_few _ v (Nat.lt_succ_self _) (by omega);have h3:=prt_le _ (nrm v) (Nat.lt_succ_self _);exact ⟨light_gd _ v (Nat.lt_succ_self _) hb (by omega),h1,pf_bd h1,by omega,by omega⟩
theorem bd_parts {v:JT} (h:Bd v):(listOf v).length≤100000000000∧∀ e∈listOf v,Bd e:=by
 cases h with
 | mk _ _ _ _ h3 _ hl _ _=>exact ⟨h3,hl⟩
theorem jat_of4 (v:JT) (hb:Bd v) (hg:Gd v) (cs:List Value) (w:World) (h:VR w v cs) (i:Int):Calls Tryz.prog 17 #[.agg cs.toArray,.int .i64 i] w (GtV w (atJ v i)):=by
 refine jat_of v (fun hk e he cs u hv=>jnorm_any e ((bd_parts hb).2 e he) ?_ cs u hv) cs w h (bd_parts hb).1 i
 cases hg with
 | mk _ hl _=>exact hl hk e he
theorem rat_of4 (v:JT) (hb:Bd v) (cs:List Value) (w:World) (h:VR w v cs) (i:Int):Calls Tryz.prog 21 #[.agg cs.toArray,.int .i64 i] w (GtV w (atJ v i)) :=
 rat_of v (fun _ e he cs u hv=>rnrm_any _ e cs u (Nat.lt_succ_self _) ((bd_parts hb).2 e he) hv) cs w h (bd_parts hb).1 i
theorem dpt_light {v:JT} (h:Lit v) (hc:cntV v≤4194304):dpt v≤4194304:=by
 rw [← dpt_nrm _ v (Nat.lt_succ_self _) _ h.pf];exact Nat.le_trans (pf_dpt h.pf) hc
theorem apart_four {u W:World}{a b c d:JT}{ca cb cc cd:List Value}{pa pb pc pd:List Nat}{la ha lb hb lc hc ld hd ba bb bc bd g:Nat} (hW:Below u.heap.size u W) (hsv:mm.SV W (.slice (some ⟨g,0,none⟩) 4 4) 4 8 (ca++cb++cc++cd))
 (A:VB u la ha a ca pa ba) (B:VB u lb hb b cb pb bb) (C:VB u lc hc c cc pc bc) (D:VB u ld hd d cd pd bd) (h1:ha≤lb) (h2:hb≤lc) (h3:hc≤ld) (h4:la≤ha) (h5:lb≤hb) (h6:lc≤hc) (hn:nds a+nds b+nds c+nds d≤1000000000) :
 Calls Tryz.prog 25 #[.slice (some ⟨g,0,none⟩) 4 4] W fun e u'=>e=.returned (.bool true)∧Below la W u':=by
 have A:=A.keep hW;have B:=B.keep hW;have C:=C.keep hW;have D:=D.keep hW;have ra:=A.vr.ge;have rb:=B.vr.ge;have rc:=C.vr.ge;have rd:=D.vr.ge;have hla:la≤W.heap.size:=Nat.le_trans A.bl (Nat.le_of_lt (blk_lt A.bx));refine rapart_any [a,b,c,d] [ca,cb,cc,cd] [pa,pb,pc,pd] (some ⟨g,0,none⟩) 4 la W (by simpa using hsv) rfl rfl (fun i v x p e1 e2 e3=>?_) ?_ hla (by simp;omega)
 · match i,e1,e2,e3 with
   | 0,e1,e2,e3=>cases e1;cases e2;cases e3;exact A.vr
   | 1,e1,e2,e3=>cases e1;cases e2;cases e3;exact B.vr.base (by omega)
   | 2,e1,e2,e3=>cases e1;cases e2;cases e3;exact C.vr.base (by omega)
   | 3,e1,e2,e3=>cases e1;cases e2;cases e3;exact D.vr.base (by omega)
   | n+4,e1,_,_=>simp at e1
 · simp only [List.flatten_cons,List.flatten_nil,List.append_nil]
   refine List.nodup_append.2 ⟨A.nd,List.nodup_append.2 ⟨B.nd,List.nodup_append.2 ⟨C.nd,D.nd,fun x hx y hy e=>?_⟩,fun x hx y hy e=>?_⟩,fun x hx y hy e=>?_⟩
   · have:=C.hi x hx;have:=(rd y hy).1;omega
   · have:=B.hi x hx
     rcases List.mem_append.1 hy with q|q
     · have:=(rc y q).1;omega
     · have:=(rd y q).1;omega
   · have:=A.hi x hx
     rcases List.mem_append.1 hy with q|q
     · have:=(rb y q).1;omega
     · rcases List.mem_append.1 q with q|q
       · have:=(rc y q).1;omega
       · have:=(rd y q).1;omega
set_option maxHeartbeats 25600000 in
set_option maxRecDepth 1000000 in
theorem norms_law (RC:CopyC) (E:Nat→Value) (A:Nat→Addr) (hEA:E 0=.pointer (some (A 0))) (v:JT) (bv:Bd v) (c:List Value) (name:ByteArray) (hnz:name.size≤1048576) (i:Int) (w:World) (h:AE E A w) (hv:VR w v c) :
 Calls Tryz.prog 4 #[.agg c.toArray,.string name,.int .i64 i] w fun e w'=>e=.returned (.bool true)∧Below w.heap.size w w':=by
 obtain ⟨a0,a1,a2,a3,a4,a5,a6,a7,a8,a9,aa,ab,rfl⟩:=hv.form;have B1:=hide (ss.one_box w [.int .i64 a0,.bool a1,.bool a2,.string a3,.int .i64 a4,.string a5,.slice a6 a7 a8,.slice a9 aa ab]);have HV:=hide (fun u (hu:Below w.heap.size w u)=>hv.keep hu);have CH:=hide (fun u (hu:Below w.heap.size w u)=>heavy_any v bv _ u (hv.keep hu));have BV:=hide bv;have CA:=hide (fun u (hu:Below w.heap.size w u)=>jawake E A hEA u (h.keep hu));have hnb:Hid (decide ((134217728:Int)≤(name.size:Int))=false):=decide_eq_false (by omega);have HNZ:Hid (name.size≤35184372088832):=by refine hide ?_;omega
 clear hnz;clear hv h hEA bv
 go_enter Tryz.func4,Tryz.ntmps4
 go_upto_region 1 with fail;obtain ⟨q0,q1,q2⟩:=uh B1 _ rfl;generalize w.alloc (.cells [.int .i64 a0,.bool a1,.bool a2,.string a3,.int .i64 a4,.string a5,.slice a6 a7 a8,.slice a9 aa ab].toArray 27)=W at *;obtain ⟨y0,y1,y2,y3,y4,y5,y6,y7⟩:=q0.cells;have HX:=hide q0;have L0:Hid (Below w.heap.size w W):=q1;have Y0:=hide (Below.refl W.heap.size W);have CW:=hide (uh CH W (uh L0));clear q0 q1 q2 B1 CH;go_upto_region 2 with (go_at_call 9;refine (uh CW).mono ?_;rintro e1 u1 ⟨h1,rfl,hh1,l1⟩);have HH:=hide hh1;have Y1:=hide ((uh Y0).trans (l1.mono (Nat.le_refl _)));have L1:=hide ((uh L0).trans (l1.mono (uh L0).size));clear l1 hh1 CW L0 Y0 y0 y1 y2 y3 y4 y5 y6 y7
 cases h1 with
 | true =>
   go_wp2;go_ret;exact ⟨rfl,uh L1⟩
 | false =>
   have hcn:=uh HH rfl;have G:=hide (lit_of (uh BV) hcn);have HCN:=hide hcn;have CAw:=hide (uh CA u1 (uh L1));have CLn:=hide (fun u (hu:Below w.heap.size w u)=>rlend_any RC v (uh BV) (by omega) _ u (uh HV u hu));clear hcn HH CA;go_upto_region 2 with fail
   go_upto_if 33 with fail
   rw [uh hnb];clear hnb;go_upto_region 5 with (go_at_call 10;refine (uh CAw).mono ?_;rintro e2 u2 ⟨rfl,l2⟩);have Y2:=hide ((uh Y1).trans (l2.mono (uh Y1).size));have L2:=hide ((uh L1).trans (l2.mono (uh L1).size));obtain ⟨y0,y1,y2,y3,y4,y5,y6,y7⟩:=((uh HX).keep (uh Y2) (blk_lt (uh HX))).cells;have CL2:=hide (uh CLn u2 (uh L2));clear l2 CAw CLn Y1 L1;go_upto_region 6 with (go_at_call 11;refine (uh CL2).mono ?_;rintro e3 u3 ⟨T,csV,csW,ls,fs,LS,FS,rfl,hT,hld,l3⟩);obtain ⟨d0,d1,d2,d3,d4,d5,d6,d7,d8,d9,da,db,rfl⟩:=hld.v1.form;have HLD3:=hide hld;have HT:=hide hT;have Y3:=hide ((uh Y2).trans (l3.mono (uh Y2).size));have L3:=hide ((uh L2).trans (l3.mono (uh L2).size));obtain ⟨n3,hn3⟩:∃ n,n=u3.heap.size:=⟨_,rfl⟩;have HN3:Hid (n3≤u3.heap.size):=Nat.le_of_eq hn3;have HWN:Hid (w.heap.size≤n3):=by have:=(uh L3).size;refine hide ?_;omega
   have hwt:=Nat.le_trans (uh L2).size hT;have HWT:Hid (w.heap.size≤T):=hwt
   have HOFF:Hid (∀ b∈(LS++FS).flatMap own,b < n3∧w.heap.size≤b):=fun b hb=>by
    obtain ⟨s,hs,hb2⟩:=List.mem_flatMap.1 hb;have:=hld.mb s hs b hb2;omega
   clear l3 hld hT hwt CL2 Y2 L2 hn3 y0 y1 y2 y3 y4 y5 y6 y7;have hbk:=(uh HLD3).bk;have k0:u3.cell? ⟨T,0,none⟩=some (.int .i64 d0):=blk_cell hbk 0;have k1:u3.cell? ⟨T,1,none⟩=some (.bool d1):=blk_cell hbk 1;have k2:u3.cell? ⟨T,2,none⟩=some (.bool d2):=blk_cell hbk 2;have k3:u3.cell? ⟨T,3,none⟩=some (.string d3):=blk_cell hbk 3;have k4:u3.cell? ⟨T,4,none⟩=some (.int .i64 d4):=blk_cell hbk 4;have k5:u3.cell? ⟨T,5,none⟩=some (.string d5):=blk_cell hbk 5;have k6:u3.cell? ⟨T,6,none⟩=some (.slice d6 d7 d8):=blk_cell hbk 6;have k7:u3.cell? ⟨T,7,none⟩=some (.slice d9 da db):=blk_cell hbk 7;have CN:=hide (jnorm_any v (uh BV) (uh G).gd _ u3 (uh HLD3).v1);clear hbk
   go_upto_region 7 with (
    go_at_call 15
    refine (uh CN).mono ?_;rintro e v4 ⟨cs,pp,rfl,hr,hp,hb⟩;obtain ⟨p0,p1,p2,p3,p4,p5,p6,p7,p8,p9,pa,pb,rfl⟩:=hr.form
    clear CN)
   have hbb:Below v4.heap.size v4 (v4.alloc (.cells [.int .i64 p0,.bool p1,.bool p2,.string p3,.int .i64 p4,.string p5,.slice p6 p7 p8,.slice p9 pa pb].toArray 27)):=(Below.refl _ v4).alloc (Nat.le_refl _) _;have VBp4:=hide (VB.box hr hp hb.size);have hba:=hb.trans (hbb.mono hb.size);generalize v4.alloc (.cells [.int .i64 p0,.bool p1,.bool p2,.string p3,.int .i64 p4,.string p5,.slice p6 p7 p8,.slice p9 pa pb].toArray 27)=u4 at *
   have hz0:u3.heap.size≤v4.heap.size∧v4.heap.size≤u4.heap.size∧n3≤u3.heap.size:=by
    have:=hb.size;have:=hbb.size;have:=uh HN3;exact ⟨by omega,by omega,by omega⟩
   generalize v4.heap.size=phi at *;generalize hplo:u3.heap.size=plo at VBp4 hz0;have HZp:=hide hz0;clear hz0;have HLD4:=hide ((uh HLD3).keep hba);have Y4:=hide ((uh Y3).trans (hba.mono (uh Y3).size));have L4:=hide ((uh L3).trans (hba.mono (uh L3).size));have HN4:Hid (n3≤u4.heap.size):=Nat.le_trans (uh HN3) hba.size;clear hbb hba hr hp hb hplo HLD3 Y3 L3 HN3  k0 k1 k2 k3 k4 k5 k6 k7;have hbk:=(uh HLD4).bk;have k0:u4.cell? ⟨T,0,none⟩=some (.int .i64 d0):=blk_cell hbk 0;have k1:u4.cell? ⟨T,1,none⟩=some (.bool d1):=blk_cell hbk 1;have k2:u4.cell? ⟨T,2,none⟩=some (.bool d2):=blk_cell hbk 2;have k3:u4.cell? ⟨T,3,none⟩=some (.string d3):=blk_cell hbk 3;have k4:u4.cell? ⟨T,4,none⟩=some (.int .i64 d4):=blk_cell hbk 4;have k5:u4.cell? ⟨T,5,none⟩=some (.string d5):=blk_cell hbk 5;have k6:u4.cell? ⟨T,6,none⟩=some (.slice d6 d7 d8):=blk_cell hbk 6;have k7:u4.cell? ⟨T,7,none⟩=some (.slice d9 da db):=blk_cell hbk 7;have CN:=hide (jnorm_any v (uh BV) (uh G).gd _ u4 (uh HLD4).v1);clear hbk
   go_upto_region 8 with (
    go_at_call 15
    refine (uh CN).mono ?_;rintro e v5 ⟨cs,qp,rfl,hr,hp,hb⟩;obtain ⟨q0,q1,q2,q3,q4,q5,q6,q7,q8,q9,qa,qb,rfl⟩:=hr.form
    clear CN)
   have hbb:Below v5.heap.size v5 (v5.alloc (.cells [.int .i64 q0,.bool q1,.bool q2,.string q3,.int .i64 q4,.string q5,.slice q6 q7 q8,.slice q9 qa qb].toArray 27)):=(Below.refl _ v5).alloc (Nat.le_refl _) _;have VBq5:=hide (VB.box hr hp hb.size);have hba:=hb.trans (hbb.mono hb.size);generalize v5.alloc (.cells [.int .i64 q0,.bool q1,.bool q2,.string q3,.int .i64 q4,.string q5,.slice q6 q7 q8,.slice q9 qa qb].toArray 27)=u5 at *
   have hz0:u4.heap.size≤v5.heap.size∧v5.heap.size≤u5.heap.size∧n3≤u4.heap.size:=by
    have:=hb.size;have:=hbb.size;have:=uh HN4;exact ⟨by omega,by omega,by omega⟩
   generalize v5.heap.size=qhi at *;generalize hqlo:u4.heap.size=qlo at VBq5 hz0;have HZq:=hide hz0;clear hz0;have HLD5:=hide ((uh HLD4).keep hba);have Y5:=hide ((uh Y4).trans (hba.mono (uh Y4).size));have L5:=hide ((uh L4).trans (hba.mono (uh L4).size));have HN5:Hid (n3≤u5.heap.size):=Nat.le_trans (uh HN4) hba.size;have VBp5:=hide ((uh VBp4).keep hba);have HSq:Hid (phi≤qlo):=by have:=(uh HZp).2.1;refine hide ?_;omega
   clear hbb hba hr hp hb hqlo HLD4 Y4 L4 HN4 VBp4 k0 k1 k2 k3 k4 k5 k6 k7;have hbk:=(uh HLD5).bk;have k0:u5.cell? ⟨T,0,none⟩=some (.int .i64 d0):=blk_cell hbk 0;have k1:u5.cell? ⟨T,1,none⟩=some (.bool d1):=blk_cell hbk 1;have k2:u5.cell? ⟨T,2,none⟩=some (.bool d2):=blk_cell hbk 2;have k3:u5.cell? ⟨T,3,none⟩=some (.string d3):=blk_cell hbk 3;have k4:u5.cell? ⟨T,4,none⟩=some (.int .i64 d4):=blk_cell hbk 4;have k5:u5.cell? ⟨T,5,none⟩=some (.string d5):=blk_cell hbk 5;have k6:u5.cell? ⟨T,6,none⟩=some (.slice d6 d7 d8):=blk_cell hbk 6;have k7:u5.cell? ⟨T,7,none⟩=some (.slice d9 da db):=blk_cell hbk 7;have CN:=hide (jget_any v (uh BV) (uh G).gd _ u5 (uh HLD5).v1 name (uh HNZ));clear hbk
   go_upto_region 9 with (
    go_at_call 16
    refine (uh CN).mono ?_;rintro e v6 ⟨cs,rp,rfl,hr,hp,hb⟩;obtain ⟨r0,r1,r2,r3,r4,r5,r6,r7,r8,r9,ra,rb,rfl⟩:=hr.form
    clear CN)
   have hbb:Below v6.heap.size v6 (v6.alloc (.cells [.int .i64 r0,.bool r1,.bool r2,.string r3,.int .i64 r4,.string r5,.slice r6 r7 r8,.slice r9 ra rb].toArray 27)):=(Below.refl _ v6).alloc (Nat.le_refl _) _;have VBr6:=hide (VB.box hr hp hb.size);have hba:=hb.trans (hbb.mono hb.size);generalize v6.alloc (.cells [.int .i64 r0,.bool r1,.bool r2,.string r3,.int .i64 r4,.string r5,.slice r6 r7 r8,.slice r9 ra rb].toArray 27)=u6 at *
   have hz0:u5.heap.size≤v6.heap.size∧v6.heap.size≤u6.heap.size∧n3≤u5.heap.size:=by
    have:=hb.size;have:=hbb.size;have:=uh HN5;exact ⟨by omega,by omega,by omega⟩
   generalize v6.heap.size=rhi at *;generalize hrlo:u5.heap.size=rlo at VBr6 hz0;have HZr:=hide hz0;clear hz0;have HLD6:=hide ((uh HLD5).keep hba);have Y6:=hide ((uh Y5).trans (hba.mono (uh Y5).size));have L6:=hide ((uh L5).trans (hba.mono (uh L5).size));have HN6:Hid (n3≤u6.heap.size):=Nat.le_trans (uh HN5) hba.size;have VBp6:=hide ((uh VBp5).keep hba);have VBq6:=hide ((uh VBq5).keep hba);have HSr:Hid (qhi≤rlo):=by have:=(uh HZq).2.1;refine hide ?_;omega
   clear hbb hba hr hp hb hrlo HLD5 Y5 L5 HN5 VBp5 VBq5 k0 k1 k2 k3 k4 k5 k6 k7;have hbk:=(uh HLD6).bk;have k0:u6.cell? ⟨T,0,none⟩=some (.int .i64 d0):=blk_cell hbk 0;have k1:u6.cell? ⟨T,1,none⟩=some (.bool d1):=blk_cell hbk 1;have k2:u6.cell? ⟨T,2,none⟩=some (.bool d2):=blk_cell hbk 2;have k3:u6.cell? ⟨T,3,none⟩=some (.string d3):=blk_cell hbk 3;have k4:u6.cell? ⟨T,4,none⟩=some (.int .i64 d4):=blk_cell hbk 4;have k5:u6.cell? ⟨T,5,none⟩=some (.string d5):=blk_cell hbk 5;have k6:u6.cell? ⟨T,6,none⟩=some (.slice d6 d7 d8):=blk_cell hbk 6;have k7:u6.cell? ⟨T,7,none⟩=some (.slice d9 da db):=blk_cell hbk 7;have BVL:Hid (∀ e∈listOf v,Bd e):=(bd_parts (uh BV)).2;have HLL:Hid ((listOf v).length≤100000000000):=(bd_parts (uh BV)).1;have CN:=hide (jat_of4 v (uh BV) (uh G).gd _ u6 (uh HLD6).v1 i);clear hbk
   go_upto_region 10 with (
    go_at_call 17
    refine (uh CN).mono ?_;rintro e v7 ⟨cs,sp,rfl,hr,hp,hb⟩;obtain ⟨s0,s1,s2,s3,s4,s5,s6,s7,s8,s9,sa,sb,rfl⟩:=hr.form
    clear CN)
   have hbb:Below v7.heap.size v7 (v7.alloc (.cells [.int .i64 s0,.bool s1,.bool s2,.string s3,.int .i64 s4,.string s5,.slice s6 s7 s8,.slice s9 sa sb].toArray 27)):=(Below.refl _ v7).alloc (Nat.le_refl _) _;have VBs7:=hide (VB.box hr hp hb.size);have hba:=hb.trans (hbb.mono hb.size);generalize v7.alloc (.cells [.int .i64 s0,.bool s1,.bool s2,.string s3,.int .i64 s4,.string s5,.slice s6 s7 s8,.slice s9 sa sb].toArray 27)=u7 at *
   have hz0:u6.heap.size≤v7.heap.size∧v7.heap.size≤u7.heap.size∧n3≤u6.heap.size:=by
    have:=hb.size;have:=hbb.size;have:=uh HN6;exact ⟨by omega,by omega,by omega⟩
   generalize v7.heap.size=shi at *;generalize hslo:u6.heap.size=slo at VBs7 hz0;have HZs:=hide hz0;clear hz0;have HLD7:=hide ((uh HLD6).keep hba);have Y7:=hide ((uh Y6).trans (hba.mono (uh Y6).size));have L7:=hide ((uh L6).trans (hba.mono (uh L6).size));have HN7:Hid (n3≤u7.heap.size):=Nat.le_trans (uh HN6) hba.size;have VBp7:=hide ((uh VBp6).keep hba);have VBq7:=hide ((uh VBq6).keep hba);have VBr7:=hide ((uh VBr6).keep hba);have HSs:Hid (rhi≤slo):=by have:=(uh HZr).2.1;refine hide ?_;omega
   clear hbb hba hr hp hb hslo HLD6 Y6 L6 HN6 VBp6 VBq6 VBr6 k0 k1 k2 k3 k4 k5 k6 k7;have hbk:=(uh HLD7).bk;have k0:u7.cell? ⟨T,0,none⟩=some (.int .i64 d0):=blk_cell hbk 0;have k1:u7.cell? ⟨T,1,none⟩=some (.bool d1):=blk_cell hbk 1;have k2:u7.cell? ⟨T,2,none⟩=some (.bool d2):=blk_cell hbk 2;have k3:u7.cell? ⟨T,3,none⟩=some (.string d3):=blk_cell hbk 3;have k4:u7.cell? ⟨T,4,none⟩=some (.int .i64 d4):=blk_cell hbk 4;have k5:u7.cell? ⟨T,5,none⟩=some (.string d5):=blk_cell hbk 5;have k6:u7.cell? ⟨T,6,none⟩=some (.slice d6 d7 d8):=blk_cell hbk 6;have k7:u7.cell? ⟨T,7,none⟩=some (.slice d9 da db):=blk_cell hbk 7;clear hbk;have CN:=hide (jdepth_any v (uh BV) (uh G).gd (by have:=dpt_light (uh G) (uh HCN);omega) _ u7 (uh HLD7).v1);go_upto_region 11 with (go_at_call 18;refine (uh CN).mono ?_;rintro e u8 ⟨rfl,ln⟩;clear CN);clear k0 k1 k2 k3 k4 k5 k6 k7;have Y8:=hide ((uh Y7).trans (ln.mono (uh Y7).size));have L8:=hide ((uh L7).trans (ln.mono (uh L7).size));have HLD8:=hide ((uh HLD7).keep ln);have VBp8:=hide ((uh VBp7).keep ln);have VBq8:=hide ((uh VBq7).keep ln);have VBr8:=hide ((uh VBr7).keep ln);have VBs8:=hide ((uh VBs7).keep ln);clear ln Y7 L7 HLD7 VBp7 VBq7 VBr7 VBs7;have CN:=hide (rkept_any (uh HLD8));go_upto_region 12 with (go_at_call 13;refine (uh CN).mono ?_;rintro e u9 ⟨rfl,ln⟩;clear CN);have Y9:=hide ((uh Y8).trans (ln.mono (uh Y8).size));have L9:=hide ((uh L8).trans (ln.mono (uh L8).size));have HLD9:=hide ((uh HLD8).keep ln);have VBp9:=hide ((uh VBp8).keep ln);have VBq9:=hide ((uh VBq8).keep ln);have VBr9:=hide ((uh VBr8).keep ln);have VBs9:=hide ((uh VBs8).keep ln);clear ln Y8 L8 HLD8 VBp8 VBq8 VBr8 VBs8;have CN:=hide (rturn_any (uh HLD9));go_upto_region 13 with (go_at_call 19;refine (uh CN).mono ?_;rintro e u10 ⟨rfl,kx⟩;clear CN);have hlw:=(uh L9).size;have hyw:=(uh Y9).size;have hbx:=blk_lt (uh HX);have hkb:Below w.heap.size u9 u10:=kx.below hlw fun b hb=>(uh HOFF b hb).2
   have L10:=hide ((uh L9).trans hkb)
   have hXw:w.heap.size ∉ (LS++FS).flatMap own:=fun q=>by
    obtain ⟨s,hs,hb2⟩:=List.mem_flatMap.1 q;have:=(uh HLD9).mb s hs _ hb2;have:=uh HWT;omega
   have X10:=hide (kx.bx hXw ((uh HX).keep (uh Y9) hbx));have VBp10:=hide ((uh VBp9).ex kx fun b hb=>by have:=(uh HOFF b hb).1;have:=(uh HZp).2.2;omega);have VBq10:=hide ((uh VBq9).ex kx fun b hb=>by have:=(uh HOFF b hb).1;have:=(uh HZq).2.2;omega);have VBr10:=hide ((uh VBr9).ex kx fun b hb=>by have:=(uh HOFF b hb).1;have:=(uh HZr).2.2;omega);have VBs10:=hide ((uh VBs9).ex kx fun b hb=>by have:=(uh HOFF b hb).1;have:=(uh HZs).2.2;omega);have Z10:=hide (Below.refl u10.heap.size u10);clear kx hkb hlw hyw hbx hXw L9 Y9 HLD9 HX HOFF HT VBp9 VBq9 VBr9 VBs9;obtain ⟨y0,y1,y2,y3,y4,y5,y6,y7⟩:=((uh X10).keep (uh Z10) (blk_lt (uh X10))).cells;have CN:=hide (rget_any v (uh BV) _ u10 (uh HV u10 (uh L10)) name (uh HNZ))
   go_upto_region 14 with (
    go_at_call 20
    refine (uh CN).mono ?_;rintro e v11 ⟨cs,rfl,hr,hb⟩;skip;obtain ⟨t0,t1,t2,t3,t4,t5,t6,t7,t8,t9,ta,tb,rfl⟩:=hr.form
    clear CN)
   have hbb:Below v11.heap.size v11 (v11.alloc (.cells [.int .i64 t0,.bool t1,.bool t2,.string t3,.int .i64 t4,.string t5,.slice t6 t7 t8,.slice t9 ta tb].toArray 27)):=(Below.refl _ v11).alloc (Nat.le_refl _) _;have BXt11:Hid (BX (v11.alloc (.cells [.int .i64 t0,.bool t1,.bool t2,.string t3,.int .i64 t4,.string t5,.slice t6 t7 t8,.slice t9 ta tb].toArray 27)) v11.heap.size [.int .i64 t0,.bool t1,.bool t2,.string t3,.int .i64 t4,.string t5,.slice t6 t7 t8,.slice t9 ta tb]∧VR (v11.alloc (.cells [.int .i64 t0,.bool t1,.bool t2,.string t3,.int .i64 t4,.string t5,.slice t6 t7 t8,.slice t9 ta tb].toArray 27)) ((getJ v name).getD jz) [.int .i64 t0,.bool t1,.bool t2,.string t3,.int .i64 t4,.string t5,.slice t6 t7 t8,.slice t9 ta tb]):=⟨heap_alloc_new v11 _,hr.keep hbb⟩;have hba:=hb.trans (hbb.mono hb.size);generalize v11.alloc (.cells [.int .i64 t0,.bool t1,.bool t2,.string t3,.int .i64 t4,.string t5,.slice t6 t7 t8,.slice t9 ta tb].toArray 27)=u11 at *;clear hbb hr hb  y0 y1 y2 y3 y4 y5 y6 y7;generalize v11.heap.size=bt at *;have Z11:=hide ((uh Z10).trans (hba.mono (uh Z10).size));have L11:=hide ((uh L10).trans (hba.mono (uh L10).size));have VBp11:=hide ((uh VBp10).keep hba);have VBq11:=hide ((uh VBq10).keep hba);have VBr11:=hide ((uh VBr10).keep hba);have VBs11:=hide ((uh VBs10).keep hba);clear hba Z10 L10 VBp10 VBq10 VBr10 VBs10;obtain ⟨y0,y1,y2,y3,y4,y5,y6,y7⟩:=((uh X10).keep (uh Z11) (blk_lt (uh X10))).cells;have CN:=hide (rat_of4 v (uh BV) _ u11 (uh HV u11 (uh L11)) i)
   go_upto_region 15 with (
    go_at_call 21
    refine (uh CN).mono ?_;rintro e v12 ⟨cs,xp,rfl,hr0,_,hb⟩;have hr:=hr0.vr;obtain ⟨x0,x1,x2,x3,x4,x5,x6,x7,x8,x9,xa,xb,rfl⟩:=hr.form
    clear CN)
   have hbb:Below v12.heap.size v12 (v12.alloc (.cells [.int .i64 x0,.bool x1,.bool x2,.string x3,.int .i64 x4,.string x5,.slice x6 x7 x8,.slice x9 xa xb].toArray 27)):=(Below.refl _ v12).alloc (Nat.le_refl _) _;have BXx12:Hid (BX (v12.alloc (.cells [.int .i64 x0,.bool x1,.bool x2,.string x3,.int .i64 x4,.string x5,.slice x6 x7 x8,.slice x9 xa xb].toArray 27)) v12.heap.size [.int .i64 x0,.bool x1,.bool x2,.string x3,.int .i64 x4,.string x5,.slice x6 x7 x8,.slice x9 xa xb]∧VR (v12.alloc (.cells [.int .i64 x0,.bool x1,.bool x2,.string x3,.int .i64 x4,.string x5,.slice x6 x7 x8,.slice x9 xa xb].toArray 27)) ((atJ v i).getD jz) [.int .i64 x0,.bool x1,.bool x2,.string x3,.int .i64 x4,.string x5,.slice x6 x7 x8,.slice x9 xa xb]):=⟨heap_alloc_new v12 _,hr.keep hbb⟩;have hba:=hb.trans (hbb.mono hb.size);generalize v12.alloc (.cells [.int .i64 x0,.bool x1,.bool x2,.string x3,.int .i64 x4,.string x5,.slice x6 x7 x8,.slice x9 xa xb].toArray 27)=u12 at *;clear hbb hr hb hr0 y0 y1 y2 y3 y4 y5 y6 y7;have BXt12:Hid (BX u12 bt _∧VR u12 _ _):=⟨(uh BXt11).1.keep hba (blk_lt (uh BXt11).1),(uh BXt11).2.keep hba⟩;clear BXt11;generalize v12.heap.size=bx at *;have Z12:=hide ((uh Z11).trans (hba.mono (uh Z11).size));have L12:=hide ((uh L11).trans (hba.mono (uh L11).size));have VBp12:=hide ((uh VBp11).keep hba);have VBq12:=hide ((uh VBq11).keep hba);have VBr12:=hide ((uh VBr11).keep hba);have VBs12:=hide ((uh VBs11).keep hba);clear hba Z11 L11 VBp11 VBq11 VBr11 VBs11;obtain ⟨y0,y1,y2,y3,y4,y5,y6,y7⟩:=((uh X10).keep (uh Z12) (blk_lt (uh X10))).cells;obtain ⟨k0,k1,k2,k3,k4,k5,k6,k7⟩:=(uh VBp12).bx.cells;have CN:=hide (rnrm_any _ v _ u12.drew (Nat.lt_succ_self _) (uh BV) (uh HV u12.drew (uh L12).drew));have HVB:=hide (uh VBp12);go_upto_region 15 with fail
   go_cut [22] from 26 (fun s wx=>s=.bool true∧Below u12.heap.size u12 wx)
   case first =>
    go_region_law (first
     | (go_simp;go_at_call 23;refine (uh CN).mono ?_;rintro e ux ⟨cs,pp',rfl,hr,_,hb0⟩
        obtain ⟨m0,m1,m2,m3,m4,m5,m6,m7,m8,m9,ma,mb,rfl⟩:=hr.form;have hb:Below u12.heap.size u12 ux:=⟨hb0.os,hb0.tape,hb0.output,hb0.size,hb0.block⟩;have hvb:=(uh HVB).keep hb;have CLk:=hide (rlike_any _ (nrm v) (nrm v) _ _ ux (Nat.lt_succ_self _) hvb.vr.vr hr.vr);obtain ⟨k0',k1',k2',k3',k4',k5',k6',k7'⟩:=hvb.bx.cells
        clear hr hb0 hvb)
     | (go_simp;go_at_call 22;refine (uh CLk).mono ?_;rintro e uz ⟨b,rfl,hbb,hl0⟩;have hbt:=hbb.2 rfl;subst hbt))
    all_goals go_wp2
    all_goals go_meet
    all_goals exact ⟨rfl,hb.trans (hl0.mono hb.size)⟩
   case rest =>
   obtain ⟨rfl,ln⟩:=hcut;obtain ⟨u13,hu⟩:∃ u,u=wc:=⟨_,rfl⟩;subst hu;clear CN HVB y0 y1 y2 y3 y4 y5 y6 y7 k0 k1 k2 k3 k4 k5 k6 k7;have BXt13:Hid (BX u13 bt _∧VR u13 _ _):=⟨(uh BXt12).1.keep ln (blk_lt (uh BXt12).1),(uh BXt12).2.keep ln⟩;clear BXt12;have BXx13:Hid (BX u13 bx _∧VR u13 _ _):=⟨(uh BXx12).1.keep ln (blk_lt (uh BXx12).1),(uh BXx12).2.keep ln⟩;clear BXx12;have Z13:=hide ((uh Z12).trans (ln.mono (uh Z12).size));have L13:=hide ((uh L12).trans (ln.mono (uh L12).size));have VBp13:=hide ((uh VBp12).keep ln);have VBq13:=hide ((uh VBq12).keep ln);have VBr13:=hide ((uh VBr12).keep ln);have VBs13:=hide ((uh VBs12).keep ln);clear ln Z12 L12 VBp12 VBq12 VBr12 VBs12;obtain ⟨y0,y1,y2,y3,y4,y5,y6,y7⟩:=((uh X10).keep (uh Z13) (blk_lt (uh X10))).cells;obtain ⟨k0,k1,k2,k3,k4,k5,k6,k7⟩:=(uh VBq13).bx.cells;have CN:=hide (rnrm_any _ v _ u13.drew (Nat.lt_succ_self _) (uh BV) (uh HV u13.drew (uh L13).drew));have HVB:=hide (uh VBq13);go_upto_region 16 with fail
   go_cut [23] from 26 (fun s wx=>s=.bool true∧Below u13.heap.size u13 wx)
   case first =>
    go_region_law (first
     | (go_simp;go_at_call 23;refine (uh CN).mono ?_;rintro e ux ⟨cs,pp',rfl,hr,_,hb0⟩
        obtain ⟨m0,m1,m2,m3,m4,m5,m6,m7,m8,m9,ma,mb,rfl⟩:=hr.form;have hb:Below u13.heap.size u13 ux:=⟨hb0.os,hb0.tape,hb0.output,hb0.size,hb0.block⟩;have hvb:=(uh HVB).keep hb;have CLk:=hide (rlike_any _ (nrm v) (nrm v) _ _ ux (Nat.lt_succ_self _) hvb.vr.vr hr.vr);obtain ⟨k0',k1',k2',k3',k4',k5',k6',k7'⟩:=hvb.bx.cells
        clear hr hb0 hvb)
     | (go_simp;go_at_call 22;refine (uh CLk).mono ?_;rintro e uz ⟨b,rfl,hbb,hl0⟩;have hbt:=hbb.2 rfl;subst hbt))
    all_goals go_wp2
    all_goals go_meet
    all_goals exact ⟨rfl,hb.trans (hl0.mono hb.size)⟩
   case rest =>
   obtain ⟨rfl,ln⟩:=hcut;obtain ⟨u14,hu⟩:∃ u,u=wc:=⟨_,rfl⟩;subst hu;clear CN HVB y0 y1 y2 y3 y4 y5 y6 y7 k0 k1 k2 k3 k4 k5 k6 k7;have BXt14:Hid (BX u14 bt _∧VR u14 _ _):=⟨(uh BXt13).1.keep ln (blk_lt (uh BXt13).1),(uh BXt13).2.keep ln⟩;clear BXt13;have BXx14:Hid (BX u14 bx _∧VR u14 _ _):=⟨(uh BXx13).1.keep ln (blk_lt (uh BXx13).1),(uh BXx13).2.keep ln⟩;clear BXx13;have Z14:=hide ((uh Z13).trans (ln.mono (uh Z13).size));have L14:=hide ((uh L13).trans (ln.mono (uh L13).size));have VBp14:=hide ((uh VBp13).keep ln);have VBq14:=hide ((uh VBq13).keep ln);have VBr14:=hide ((uh VBr13).keep ln);have VBs14:=hide ((uh VBs13).keep ln);clear ln Z13 L13 VBp13 VBq13 VBr13 VBs13;obtain ⟨k0,k1,k2,k3,k4,k5,k6,k7⟩:=(uh VBr14).bx.cells;obtain ⟨m0,m1,m2,m3,m4,m5,m6,m7⟩:=(uh BXt14).1.cells;have CN:=hide (rlike_any _ _ _ _ _ u14 (Nat.lt_succ_self _) (uh VBr14).vr.vr (uh BXt14).2);go_upto_region 18 with (go_at_call 22;refine (uh CN).mono ?_;rintro e u15 ⟨b,rfl,hbb,ln⟩;have hbt:=hbb.2 rfl;subst hbt;clear CN hbb);clear k0 k1 k2 k3 k4 k5 k6 k7 m0 m1 m2 m3 m4 m5 m6 m7;have BXt15:Hid (BX u15 bt _∧VR u15 _ _):=⟨(uh BXt14).1.keep ln (blk_lt (uh BXt14).1),(uh BXt14).2.keep ln⟩;clear BXt14;have BXx15:Hid (BX u15 bx _∧VR u15 _ _):=⟨(uh BXx14).1.keep ln (blk_lt (uh BXx14).1),(uh BXx14).2.keep ln⟩;clear BXx14;have Z15:=hide ((uh Z14).trans (ln.mono (uh Z14).size));have L15:=hide ((uh L14).trans (ln.mono (uh L14).size));have VBp15:=hide ((uh VBp14).keep ln);have VBq15:=hide ((uh VBq14).keep ln);have VBr15:=hide ((uh VBr14).keep ln);have VBs15:=hide ((uh VBs14).keep ln);clear ln Z14 L14 VBp14 VBq14 VBr14 VBs14;obtain ⟨k0,k1,k2,k3,k4,k5,k6,k7⟩:=(uh VBs15).bx.cells;obtain ⟨m0,m1,m2,m3,m4,m5,m6,m7⟩:=(uh BXx15).1.cells;have CN:=hide (rlike_any _ _ _ _ _ u15 (Nat.lt_succ_self _) (uh VBs15).vr.vr (uh BXx15).2);go_upto_region 19 with (go_at_call 22;refine (uh CN).mono ?_;rintro e u16 ⟨b,rfl,hbb,ln⟩;have hbt:=hbb.2 rfl;subst hbt;clear CN hbb);clear k0 k1 k2 k3 k4 k5 k6 k7 m0 m1 m2 m3 m4 m5 m6 m7;have BXt16:Hid (BX u16 bt _∧VR u16 _ _):=⟨(uh BXt15).1.keep ln (blk_lt (uh BXt15).1),(uh BXt15).2.keep ln⟩;clear BXt15;have BXx16:Hid (BX u16 bx _∧VR u16 _ _):=⟨(uh BXx15).1.keep ln (blk_lt (uh BXx15).1),(uh BXx15).2.keep ln⟩;clear BXx15;have Z16:=hide ((uh Z15).trans (ln.mono (uh Z15).size));have L16:=hide ((uh L15).trans (ln.mono (uh L15).size));have VBp16:=hide ((uh VBp15).keep ln);have VBq16:=hide ((uh VBq15).keep ln);have VBr16:=hide ((uh VBr15).keep ln);have VBs16:=hide ((uh VBs15).keep ln);clear ln Z15 L15 VBp15 VBq15 VBr15 VBs15;obtain ⟨y0,y1,y2,y3,y4,y5,y6,y7⟩:=((uh X10).keep (uh Z16) (blk_lt (uh X10))).cells;have hdp:dpt (nrm v)=dpt v:=dpt_nrm _ v (Nat.lt_succ_self _) _ (uh G).pf;have CD:=hide (rdepth_any (cntV v) (by have:=uh HCN;omega) v (uh BV) (uh G).pf _ u16 (uh HV u16 (uh L16)));rw [hdp] at CD;clear hdp;go_upto_region 21 with (go_at_call 24;refine (uh CD).mono ?_;rintro e u17 ⟨rfl,ln⟩;clear CD);clear y0 y1 y2 y3 y4 y5 y6 y7;clear BXt16;clear BXx16;have Z17:=hide ((uh Z16).trans (ln.mono (uh Z16).size));have L17:=hide ((uh L16).trans (ln.mono (uh L16).size));have VBp17:=hide ((uh VBp16).keep ln);have VBq17:=hide ((uh VBq16).keep ln);have VBr17:=hide ((uh VBr16).keep ln);have VBs17:=hide ((uh VBs16).keep ln);clear ln Z16 L16 VBp16 VBq16 VBr16 VBs16;obtain ⟨k0,k1,k2,k3,k4,k5,k6,k7⟩:=(uh VBp17).bx.cells;obtain ⟨m0,m1,m2,m3,m4,m5,m6,m7⟩:=(uh VBq17).bx.cells;obtain ⟨y0,y1,y2,y3,y4,y5,y6,y7⟩:=(uh VBr17).bx.cells;obtain ⟨z0,z1,z2,z3,z4,z5,z6,z7⟩:=(uh VBs17).bx.cells
   have CP:Hid (Calls Tryz.prog 25 #[.slice (some ⟨u17.heap.size,0,none⟩) 4 4] (u17.alloc (.cells #[.int .i64 p0,.bool p1,.bool p2,.string p3,.int .i64 p4,.string p5,.slice p6 p7 p8,.slice p9 pa pb,.int .i64 q0,.bool q1,.bool q2,.string q3,.int .i64 q4,.string q5,.slice q6 q7 q8,.slice q9 qa qb,.int .i64 r0,.bool r1,.bool r2,.string r3,.int .i64 r4,.string r5,.slice r6 r7 r8,.slice r9 ra rb,.int .i64 s0,.bool s1,.bool s2,.string s3,.int .i64 s4,.string s5,.slice s6 s7 s8,.slice s9 sa sb] 27)) fun e u'=>e=.returned (.bool true)∧Below plo (u17.alloc (.cells #[.int .i64 p0,.bool p1,.bool p2,.string p3,.int .i64 p4,.string p5,.slice p6 p7 p8,.slice p9 pa pb,.int .i64 q0,.bool q1,.bool q2,.string q3,.int .i64 q4,.string q5,.slice q6 q7 q8,.slice q9 qa qb,.int .i64 r0,.bool r1,.bool r2,.string r3,.int .i64 r4,.string r5,.slice r6 r7 r8,.slice r9 ra rb,.int .i64 s0,.bool s1,.bool s2,.string s3,.int .i64 s4,.string s5,.slice s6 s7 s8,.slice s9 sa sb] 27)) u'):=by
    have hbb:Below u17.heap.size u17 (u17.alloc (.cells #[.int .i64 p0,.bool p1,.bool p2,.string p3,.int .i64 p4,.string p5,.slice p6 p7 p8,.slice p9 pa pb,.int .i64 q0,.bool q1,.bool q2,.string q3,.int .i64 q4,.string q5,.slice q6 q7 q8,.slice q9 qa qb,.int .i64 r0,.bool r1,.bool r2,.string r3,.int .i64 r4,.string r5,.slice r6 r7 r8,.slice r9 ra rb,.int .i64 s0,.bool s1,.bool s2,.string s3,.int .i64 s4,.string s5,.slice s6 s7 s8,.slice s9 sa sb] 27)):=(Below.refl _ u17).alloc (Nat.le_refl _) _;exact apart_four hbb (mm.sv_cells (heap_alloc_new u17 _) 4 8 rfl (by unfold maxLen;omega)) (uh VBp17) (uh VBq17) (uh VBr17) (uh VBs17) (uh HSq) (uh HSr) (uh HSs) (uh HZp).1 (uh HZq).1 (uh HZr).1 (by have:=nds_nrm _ v (Nat.lt_succ_self _);have:=nds_get v name;have:=nds_at v i;have:=uh HCN;omega)
   have HBZ:Hid (Below u17.heap.size u17 (u17.alloc (.cells #[.int .i64 p0,.bool p1,.bool p2,.string p3,.int .i64 p4,.string p5,.slice p6 p7 p8,.slice p9 pa pb,.int .i64 q0,.bool q1,.bool q2,.string q3,.int .i64 q4,.string q5,.slice q6 q7 q8,.slice q9 qa qb,.int .i64 r0,.bool r1,.bool r2,.string r3,.int .i64 r4,.string r5,.slice r6 r7 r8,.slice r9 ra rb,.int .i64 s0,.bool s1,.bool s2,.string s3,.int .i64 s4,.string s5,.slice s6 s7 s8,.slice s9 sa sb] 27))):=(Below.refl _ u17).alloc (Nat.le_refl _) _
   have HPL:Hid (w.heap.size≤plo):=by
    have h1:=(uh HZp).2.2;have h2:=uh HWN;refine hide ?_;omega
   go_wp2_with (go_at_call 25;refine (uh CP).mono ?_;rintro e uf ⟨rfl,lf⟩)
   go_ret;exact ⟨rfl,(uh L17).trans (((uh HBZ).mono (uh L17).size).trans (lf.mono (uh HPL)))⟩
end Go.Proofs.YthakglomacijgaaGreatDoor.rd
