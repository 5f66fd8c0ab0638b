/- Texts in one: Wl -/
import Derived.Test.YthakglomacijgaaGreatDoorWkPG
import Derived.Test.YthakglomacijgaaGreatDoorPwPG
import Derived.Test.YthakglomacijgaaGreatDoorSqPG
namespace Go.Proofs.YthakglomacijgaaGreatDoor.rd
open Go.RowKit Go.Proofs.YthakglomacijgaaGreatDoor.rd.wk
structure AE (E:Nat→Value) (A:Nat→Addr) (w:World):Prop where
 env:Env E w
 es:lw.ES A w
 pw:Pow w
 et:w.cell? ⟨2,0,none⟩=some (.iface 144 (.agg #[.pointer (some ⟨16,46,none⟩)]))
 ng:16≤w.heap.size
theorem AE.keep {E:Nat→Value}{A:Nat→Addr}{w w':World} (h:AE E A w) (hb:Below w.heap.size w w'):AE E A w' :=
 ⟨h.env.below hb,h.es.keep hb,h.pw.keep hb,kc hb h.et,Nat.le_trans h.ng hb.size⟩
theorem parse_ok {E:Nat→Value}{w w':World}{v:JT}{e:Ending} (h:ParsePost E w (.inl v) e w'):∃ cs p,e=.returned (.tuple #[.agg cs.toArray,.nilIface])∧VRep w' w.heap.size v cs p∧p.Nodup∧Below w.heap.size w w':=by
 obtain ⟨⟨v',cs,p,e1,e2,e3,e4⟩|⟨g,k,fb,e1,_⟩,hb⟩:=h
 · cases e1
   exact ⟨cs,p,e2,e3,e4,hb⟩
 · cases e1
theorem parse_bad {E:Nat→Value}{w w':World}{g k:Nat}{e:Ending} (h:ParsePost E w (.inr (g,k)) e w'):∃ fb,e=.returned (.tuple #[.agg vNull,.iface 92 (.pointer (some ⟨fb,0,none⟩))])∧FL w' fb (k:Nat) 231 (E g)∧Below w.heap.size w w':=by
 obtain ⟨⟨v',cs,p,e1,_⟩|⟨g',k',fb,e1,e2,_,e4⟩,hb⟩:=h
 · cases e1
 · cases e1
   exact ⟨fb,e2,e4,hb⟩
theorem norm9 (w:World):Calls Tryz.prog 15 #[.agg #[.int .i64 9,.bool false,.bool false,.string ⟨#[]⟩,.int .i64 0,.string ⟨#[120]⟩,.slice none 0 0,.slice none 0 0]] w fun e w'=>(∃ o1 c1 o2 c2,e=.returned (.agg #[.int .i64 0,.bool false,.bool false,.string ⟨#[]⟩,.int .i64 0,.string ⟨#[]⟩,.slice o1 0 c1,.slice o2 0 c2]))∧Below w.heap.size w w':=by
 have hv:=(vrep_flat w w.heap.size 9 false zed ⟨#[120]⟩).vr
 refine (jnorm_any _ (bdL (by decide) (by decide) (by decide) (by decide)) (gdL (by decide)) _ w hv).mono ?_
 rintro e w' ⟨cs,p,rfl,hr,_,hb⟩
 have hn:nrm (JT.mk 9 false zed ⟨#[120]⟩ [] [])=null:=by rw [nrm_mk,if_neg (by decide),if_neg (by decide),if_neg (by decide),if_neg (by decide),if_neg (by decide)]
 rw [hn] at hr
 refine ⟨?_,hb⟩
 unfold null at hr
 cases hr with
 | mk hl hf _ _ _ _ _ _ =>
   obtain ⟨o1,c1,rfl,_⟩:=mm.SV.form (mm.own_sv hl)
   obtain ⟨o2,c2,rfl,_⟩:=mm.SV.form (mm.own_sv hf)
   exact ⟨o1,c1,o2,c2,rfl⟩
theorem get1 (cs:List Value) (w:World) (h:VR w T1 cs):Calls Tryz.prog 16 #[.agg cs.toArray,.string ⟨#[98]⟩] w fun e w'=>∃ cs' p,e=.returned (.tuple #[.agg cs'.toArray,.bool true])∧VRep w' w.heap.size wk.LB cs' p∧Below w.heap.size w w':=by
 have h':=h
 unfold T1 at h
 cases h with
 | mk hl hf _ _ _ _ =>
   obtain ⟨oa,c,rfl,_⟩:=mm.SV.form hl
   obtain ⟨ob,c',rfl,_⟩:=mm.SV.form hf
   have:=jget_hit false zed.neg zed.dg zed.ex ⟨#[]⟩ [] [((⟨#[97]⟩:ByteArray),TA),(⟨#[98]⟩,wk.LB)] ob c' (.slice oa 0 c) w h' ⟨#[98]⟩ (by decide)
    (fun p hp=>by
     simp only [List.mem_cons,List.not_mem_nil,or_false] at hp
     rcases hp with rfl|rfl <;> decide) (by decide) 1 (by decide) ⟨#[98]⟩ wk.LB rfl
    (fun j q hj hq=>by
     obtain rfl:j=0:=by omega
     simp only [List.getElem?_cons_zero,Option.some.injEq] at hq
     subst hq
     exact sd_a) rfl (fun cs w hr=>jnorm_any wk.LB bdB gdB cs w hr)
   rw [nrmB] at this
   refine this.mono ?_
   rintro e w' ⟨cs',p,rfl,hr,_,hb⟩
   exact ⟨cs',p,rfl,hr,hb⟩
theorem at1 (cs:List Value) (w:World) (h:VR w wk.LB cs):Calls Tryz.prog 17 #[.agg cs.toArray,.int .i64 1] w fun e w'=>∃ cs' p,e=.returned (.tuple #[.agg cs'.toArray,.bool true])∧VRep w' w.heap.size N0 cs' p∧Below w.heap.size w w':=by
 have h':=h
 unfold wk.LB at h
 cases h with
 | mk hl hf _ _ _ _ =>
   obtain ⟨oa,c,rfl,_⟩:=mm.SV.form hl
   obtain ⟨ob,c',rfl,_⟩:=mm.SV.form hf
   have:=jat_hit false zed.neg zed.dg zed.ex ⟨#[]⟩ [N15,N0] [] oa c (.slice ob 0 c') w h' 1 (by decide) N0 rfl (fun cs w hr=>jnorm_any N0 bd0 gd0 cs w hr)
   rw [nrm0] at this
   refine this.mono ?_
   rintro e w' ⟨cs',p,rfl,hr,_,hb⟩
   exact ⟨cs',p,rfl,hr,hb⟩
theorem print1 (cs:List Value) (w:World) (h:VR w T1 cs) (hp:Pow w):Calls Tryz.prog 12 #[.agg cs.toArray] w fun e w'=>e=.returned (.string ⟨#[123,34,97,34,58,34,195,169,47,34,44,34,98,34,58,91,49,53,101,45,49,44,48,93,125]⟩)∧Below w.heap.size w w':=by
 have:=jprint_any T1 bd1 gd1 (by rw [nrm1];exact bd1) (by rw [nrm1];exact Nat.le_trans cst1 (by decide)) cs w h hp
 rw [nrm1,prt1] at this
 exact this
theorem depth1 (cs:List Value) (w:World) (h:VR w T1 cs):Calls Tryz.prog 18 #[.agg cs.toArray] w fun e w'=>e=.returned (.int .i64 2)∧Below w.heap.size w w':=by
 have:=jdepth_any T1 bd1 gd1 (by rw [dpt1];decide) cs w h
 rw [dpt1] at this
 exact this
theorem same0 (ca cb:List Value) (w:World) (ha:VR w N0 ca) (hb:VR w N0 cb):Calls Tryz.prog 26 #[.agg ca.toArray,.agg cb.toArray] w fun e w'=>e=.returned (.bool true)∧Below w.heap.size w w' :=
 jsame_eq N0 N0 2 false zed.neg zed.dg zed.ex ⟨#[]⟩ nrm0 nrm0 bd0 bd0 gd0 gd0 ca cb w ha hb
theorem fld0 (o1:Option Addr) (c1:Nat) (o2:Option Addr) (c2:Nat) (u:World):(Instr.field 27 (.agg #[.int .i64 0,.bool false,.bool false,.string ⟨#[]⟩,.int .i64 0,.string ⟨#[]⟩,.slice o1 0 c1,.slice o2 0 c2]) 0).run Tryz.prog u=.ok (.int .i64 0) u:=by kernel_rfl
theorem box1 (u:World) (cs:List Value):∀ W,W=u.alloc (.cells cs.toArray 27)→BX W u.heap.size cs∧Below u.heap.size u W∧u.heap.size < W.heap.size:=by
 rintro W rfl
 exact ⟨heap_alloc_new u _,(Below.refl _ u).alloc (Nat.le_refl _) _,by rw [World.size_alloc];omega⟩
set_option maxHeartbeats 6400000 in
set_option maxRecDepth 1000000 in
theorem jawake (E:Nat→Value) (A:Nat→Addr) (hEA:E 0=.pointer (some (A 0))) (w:World) (h:AE E A w):Calls Tryz.prog 10 #[] w fun e w'=>e=.returned (.bool true)∧Below w.heap.size w w':=by
 have P1:=jparse_any E S1 w h.env h.ng (by decide)
 rw [parse1] at P1
 have PP1:=hide P1
 unfold S1 at PP1
 have HAE:=hide h
 have HEA:=hide hEA
 clear P1 h hEA
 go_enter Tryz.func10,Tryz.ntmps10
 go_upto_region 2 with (go_at_call 29;refine (uh PP1).mono ?_;rintro e u1 hp1
                        obtain ⟨cs1,p1,rfl,v1,n1,b1⟩:=parse_ok hp1
                        obtain ⟨a0,a1,a2,a3,a4,a5,a6,a7,a8,a9,aa,ab,rfl⟩:=v1.form
                        clear hp1 PP1)
 obtain ⟨x1,l1,z1⟩:=box1 u1 [.int .i64 a0,.bool a1,.bool a2,.string a3,.int .i64 a4,.string a5,.slice a6 a7 a8,.slice a9 aa ab] _ rfl
 generalize u1.alloc (.cells [.int .i64 a0,.bool a1,.bool a2,.string a3,.int .i64 a4,.string a5,.slice a6 a7 a8,.slice a9 aa ab].toArray 27)=W1 at *
 have bW1:Below w.heap.size w W1:=b1.trans (l1.mono b1.size)
 have hae1:=(uh HAE).keep bW1
 have P2:=jparse_any E ⟨#[91,49,44,93]⟩ W1 hae1.env hae1.ng (by decide)
 rw [parse2] at P2
 have PP2:=hide P2
 have V1:=hide (v1.vr.keep l1)
 have X1:=hide x1
 have BW1:=hide bW1
 have Z1:=hide z1
 clear P2 v1 n1 b1 l1 x1 bW1 hae1 z1
 go_upto_region 3 with (go_at_call 29;refine (uh PP2).mono ?_;rintro e u2 hp2
                        obtain ⟨fb,rfl,f2,b2⟩:=parse_bad hp2
                        simp only [vNull,vc,zed,nilS]
                        clear hp2 PP2)
 obtain ⟨_,l2,z2⟩:=box1 u2 [.int .i64 0,.bool false,.bool false,.string ByteArray.empty,.int .i64 0,.string ⟨#[]⟩,.slice none 0 0,.slice none 0 0] _ rfl
 generalize u2.alloc (.cells [.int .i64 0,.bool false,.bool false,.string ByteArray.empty,.int .i64 0,.string ⟨#[]⟩,.slice none 0 0,.slice none 0 0].toArray 27)=W2 at *
 have bW12:Below W1.heap.size W1 W2:=b2.trans (l2.mono b2.size)
 have bW2:Below w.heap.size w W2:=(uh BW1).trans (bW12.mono (uh BW1).size)
 have PF:=hide (lw.place_fault fb 3 231 (E 0) W2 ((l2.block fb (blk_lt f2)).trans f2) ((uh HAE).keep bW2).et)
 rw [uh HEA] at PF
 have V2:=hide ((uh V1).keep bW12)
 have X2:=hide ((uh X1).keep bW12 (uh Z1))
 have Z2:Hid (u1.heap.size < W2.heap.size):=Nat.lt_of_lt_of_le (uh Z1) bW12.size
 have BW2:=hide bW2
 clear bW12 bW2 b2 l2 z2 f2 V1 X1 BW1 Z1
 go_upto_region 4 with (go_at_call 32;refine (uh PF).mono ?_;rintro e u3 ⟨rfl,b3⟩
                        clear PF)
 have bW3:Below w.heap.size w u3:=(uh BW2).trans (b3.mono (uh BW2).size)
 have x3:=(uh X2).keep b3 (uh Z2)
 have v3:=(uh V2).keep b3
 have C4:=hide (get1 _ u3 v3)
 obtain ⟨y0,y1,y2,y3,y4,y5,y6,y7⟩:=x3.cells
 have V3:=hide v3
 have X3:=hide x3
 have Z3:Hid (u1.heap.size < u3.heap.size):=Nat.lt_of_lt_of_le (uh Z2) b3.size
 have BW3:=hide bW3
 clear v3 x3 bW3 b3 V2 X2 BW2 Z2
 go_upto_region 5 with (go_at_call 16;refine (uh C4).mono ?_;rintro e u4 ⟨cs4,p4,rfl,v4,b4⟩
                        obtain ⟨c0,c1,c2,c3,c4,c5,c6,c7,c8',c9,ca,cb,rfl⟩:=v4.form
                        clear C4)
 clear y0 y1 y2 y3 y4 y5 y6 y7
 obtain ⟨x4,l4,z4⟩:=box1 u4 [.int .i64 c0,.bool c1,.bool c2,.string c3,.int .i64 c4,.string c5,.slice c6 c7 c8',.slice c9 ca cb] _ rfl
 generalize u4.alloc (.cells [.int .i64 c0,.bool c1,.bool c2,.string c3,.int .i64 c4,.string c5,.slice c6 c7 c8',.slice c9 ca cb].toArray 27)=W4 at *
 have b34:Below u3.heap.size u3 W4:=b4.trans (l4.mono b4.size)
 have bW4:Below w.heap.size w W4:=(uh BW3).trans (b34.mono (uh BW3).size)
 have C5:=hide (at1 _ W4 (v4.vr.keep l4))
 obtain ⟨y0,y1,y2,y3,y4,y5,y6,y7⟩:=x4.cells
 have V4:=hide ((uh V3).keep b34)
 have X4:=hide ((uh X3).keep b34 (uh Z3))
 have Z4:Hid (u1.heap.size < W4.heap.size):=Nat.lt_of_lt_of_le (uh Z3) b34.size
 have BW4:=hide bW4
 clear v4 x4 b4 l4 z4 b34 bW4 V3 X3 BW3 Z3
 go_upto_region 6 with (go_at_call 17;refine (uh C5).mono ?_;rintro e u5 ⟨cs5,p5,rfl,v5,b5⟩
                        obtain ⟨d0,d1,d2,d3,d4,d5,d6,d7,d8,d9,da,db,rfl⟩:=v5.form
                        clear C5)
 clear y0 y1 y2 y3 y4 y5 y6 y7
 obtain ⟨x5,l5,z5⟩:=box1 u5 [.int .i64 d0,.bool d1,.bool d2,.string d3,.int .i64 d4,.string d5,.slice d6 d7 d8,.slice d9 da db] _ rfl
 generalize u5.alloc (.cells [.int .i64 d0,.bool d1,.bool d2,.string d3,.int .i64 d4,.string d5,.slice d6 d7 d8,.slice d9 da db].toArray 27)=W5 at *
 have b45:Below W4.heap.size W4 W5:=b5.trans (l5.mono b5.size)
 have bW5:Below w.heap.size w W5:=(uh BW4).trans (b45.mono (uh BW4).size)
 have C6:=hide (print1 _ W5 ((uh V4).keep b45) ((uh HAE).keep bW5).pw)
 obtain ⟨y0,y1,y2,y3,y4,y5,y6,y7⟩:=((uh X4).keep b45 (uh Z4)).cells
 have V5:=hide ((uh V4).keep b45)
 have X5:=hide ((uh X4).keep b45 (uh Z4))
 have Z5:Hid (u1.heap.size < W5.heap.size):=Nat.lt_of_lt_of_le (uh Z4) b45.size
 have N5:=hide (v5.vr.keep l5)
 have X5':=hide x5
 have Z5':=hide z5
 have BW5:=hide bW5
 clear v5 x5 b5 l5 z5 b45 bW5 V4 X4 BW4 Z4
 go_upto_region 7 with (first
  | (go_at_call 12;refine (uh C6).mono ?_;rintro e u6 ⟨rfl,b6⟩
     have C7:=hide (depth1 _ u6 ((uh V5).keep b6))
     clear y0 y1 y2 y3 y4 y5 y6 y7
     obtain ⟨y0,y1,y2,y3,y4,y5,y6,y7⟩:=((uh X5).keep b6 (uh Z5)).cells)
  | (go_at_call 18;refine (uh C7).mono ?_;rintro e u7 ⟨rfl,b7⟩))
 clear y0 y1 y2 y3 y4 y5 y6 y7
 have b57:Below W5.heap.size W5 u7:=b6.trans (b7.mono b6.size)
 have bW7:Below w.heap.size w u7:=(uh BW5).trans (b57.mono (uh BW5).size)
 have n7:=(uh N5).keep b57
 have C8:=hide (same0 _ [.int .i64 2,.bool false,.bool false,.string ⟨#[]⟩,.int .i64 0,.string ⟨#[]⟩,.slice none 0 0,.slice none 0 0] u7 n7 (vrep_flat u7 u7.heap.size 2 false zed ⟨#[]⟩).vr)
 obtain ⟨y0,y1,y2,y3,y4,y5,y6,y7⟩:=((uh X5').keep b57 (uh Z5')).cells
 have hdue:=((uh HAE).keep bW7).es.cell 0 (by simp [lw.isE])
 have heq:=lw.eql_same u7 (A 0)
 have C9:=hide (fun u=>norm9 u)
 have hfl:=fld0
 have BW7:=hide bW7
 clear b57 bW7 n7 b6 b7
 go_wp2_with (first
  | (go_at_call 26;refine (uh C8).mono ?_;rintro e u8 ⟨rfl,b8⟩)
  | (go_at_call 15;refine (uh C9 _).mono ?_;rintro e u9 ⟨⟨o1,r1,o2,r2,rfl⟩,b9⟩))
 go_ret
 exact ⟨rfl,(uh BW7).trans ((b8.mono (uh BW7).size).trans (b9.mono (Nat.le_trans (uh BW7).size b8.size)))⟩
end Go.Proofs.YthakglomacijgaaGreatDoor.rd
