/- Texts in one: Fo3 Wk Sk3 Pg2 Fo5 Pg3 -/
import Derived.Test.YthakglomacijgaaGreatDoorFo2PQ
import Derived.Test.YthakglomacijgaaGreatDoorSqPQ
import Derived.Test.YthakglomacijgaaGreatDoorScPQ
import Derived.Test.YthakglomacijgaaGreatDoorSkPQ
import Derived.Test.YthakglomacijgaaGreatDoorZzPQ
import Derived.Test.YthakglomacijgaaGreatDoorWhPQ
import Derived.Test.YthakglomacijgaaGreatDoorNuP
import Derived.Test.YthakglomacijgaaGreatDoorFo4PQ
namespace Go.Proofs.YthakglomacijgaaGreatDoor.rd
open Go.RowKit
end Go.Proofs.YthakglomacijgaaGreatDoor.rd
namespace Go.Proofs.YthakglomacijgaaGreatDoor.rd.wk
open Go.RowKit
def S1:ByteArray:=⟨#[32,123,34,98,34,32,58,32,91,49,46,53,48,44,32,45,48,93,44,32,34,97,34,58,34,92,117,48,48,101,57,92,47,34,125]⟩
def N15:JT:=JT.mk 2 false ⟨false,⟨#[49,53]⟩,-1⟩ ⟨#[]⟩ [] []
def N0:JT:=JT.mk 2 false zed ⟨#[]⟩ [] []
def LB:JT:=JT.mk 4 false zed ⟨#[]⟩ [N15,N0] []
def TA:JT:=JT.mk 3 false zed ⟨#[195,169,47]⟩ [] []
def T1:JT:=JT.mk 5 false zed ⟨#[]⟩ [] [(⟨#[97]⟩,TA),(⟨#[98]⟩,LB)]
theorem parse2:parseJ ⟨#[91,49,44,93]⟩=.inr (0,3):=by kernel_rfl
theorem row1:rowR (ostep (vfN S1 63) S1) 125 S1 (64 - ((63+1:Nat):Int)) [] 1=.inl ([(⟨#[98]⟩,LB),(⟨#[97]⟩,TA)],35):=by kernel_rfl
theorem gap1:gap S1 0=1:=by kernel_rfl
theorem nxt1:nxt S1 1=123:=by kernel_rfl
theorem num1:numB 123=false:=by kernel_rfl
theorem obj1:objR (vfN S1 63) S1 (64 - ((63+1:Nat):Int)) 1=.inl (T1,35):=by
 unfold objR
 rw [row1]
 have:[((⟨#[97]⟩:ByteArray),TA),(⟨#[98]⟩,LB)]=[((⟨#[98]⟩:ByteArray),LB),(⟨#[97]⟩,TA)].mergeSort leN:=obj_sorted (List.Perm.swap _ _ _) (by simp [Lib.compareBytes]) (by simp [nms])
 simp only [← this]
 rfl
theorem val1:vfN S1 64 0=.inl (T1,35):=by
 rw [vfN]
 unfold valR
 rw [gap1,nxt1,if_neg (by decide),if_neg (by decide),if_neg (by decide),num1,if_neg (by decide),if_neg (by decide),if_neg (by decide),if_pos rfl]
 exact obj1
theorem end1:nxt S1 (gap S1 35)=-1:=by kernel_rfl
theorem parse1:parseJ S1=.inl T1:=by
 unfold parseJ
 rw [if_neg (by decide),val1]
 simp only []
 rw [if_pos end1]
theorem cl_a:pt.clean ⟨#[97]⟩=⟨#[97]⟩:=by kernel_rfl
theorem cl_b:pt.clean ⟨#[98]⟩=⟨#[98]⟩:=by kernel_rfl
theorem cl_t:pt.clean ⟨#[195,169,47]⟩=⟨#[195,169,47]⟩:=by kernel_rfl
theorem nm_15:norm ⟨false,⟨#[49,53]⟩,-1⟩=⟨false,⟨#[49,53]⟩,-1⟩:=by kernel_rfl
theorem nm_0:norm zed=zed:=by kernel_rfl
theorem nrm15:nrm N15=N15:=by unfold N15;rw [nrm_mk,if_neg (by decide),if_pos rfl,nm_15]
theorem nrm0:nrm N0=N0:=by unfold N0;rw [nrm_mk,if_neg (by decide),if_pos rfl,nm_0]
theorem nrmA:nrm TA=TA:=by unfold TA;rw [nrm_mk,if_neg (by decide),if_neg (by decide),if_pos rfl,cl_t]
theorem nrmB:nrm LB=LB:=by
 unfold LB
 rw [nrm_mk,if_neg (by decide),if_neg (by decide),if_neg (by decide),if_pos rfl]
 simp only [List.map_cons,List.map_nil,nrm15,nrm0]
theorem ris1:jn.Ris ([((⟨#[97]⟩:ByteArray),TA),(⟨#[98]⟩,LB)].map fun p=>(pt.clean p.1,p.2)):=by
 simp [jn.Ris,cl_a,cl_b,Lib.compareBytes]
theorem cnt1:cnt [((⟨#[97]⟩:ByteArray),TA),(⟨#[98]⟩,LB)]=[((⟨#[97]⟩:ByteArray),TA),(⟨#[98]⟩,LB)]:=by
 unfold cnt
 rw [jn.puts_ris _ ris1]
 simp only [List.map_cons,List.map_nil,cl_a,cl_b]
theorem nrm1:nrm T1=T1:=by
 unfold T1
 rw [nrm_mk,if_neg (by decide),if_neg (by decide),if_neg (by decide),if_neg (by decide),if_pos rfl,← cnt_nrm,cnt1]
 simp only [List.map_cons,List.map_nil,nrmA,nrmB]
theorem tx15:(textOf ⟨false,⟨#[49,53]⟩,-1⟩).data.toList=[49,53,101,45,49]:=by kernel_rfl
theorem tx0:(textOf zed).data.toList=[48]:=by kernel_rfl
theorem txA:txtJ ⟨#[195,169,47]⟩=[34,195,169,47,34]:=by kernel_rfl
theorem txa:txtJ ⟨#[97]⟩=[34,97,34]:=by kernel_rfl
theorem txb:txtJ ⟨#[98]⟩=[34,98,34]:=by kernel_rfl
theorem prt15:prt N15=[49,53,101,45,49]:=by unfold N15;rw [prt_mk,if_neg (by decide),if_pos rfl,nm_15,tx15]
theorem prt0:prt N0=[48]:=by unfold N0;rw [prt_mk,if_neg (by decide),if_pos rfl,nm_0,tx0]
theorem prtA:prt TA=[34,195,169,47,34]:=by unfold TA;rw [prt_mk,if_neg (by decide),if_neg (by decide),if_pos rfl,txA]
theorem prtB:prt LB=[91,49,53,101,45,49,44,48,93]:=by
 unfold LB
 rw [prt_mk,if_neg (by decide),if_neg (by decide),if_neg (by decide),if_pos rfl]
 simp only [List.map_cons,List.map_nil,prt15,prt0]
 rfl
theorem prt1:prt T1=[123,34,97,34,58,34,195,169,47,34,44,34,98,34,58,91,49,53,101,45,49,44,48,93,125]:=by
 unfold T1
 rw [prt_mk,if_neg (by decide),if_neg (by decide),if_neg (by decide),if_neg (by decide),if_pos rfl]
 simp only [List.map_cons,List.map_nil,prtA,prtB,txa,txb]
 rfl
theorem dpt0:dpt N0=0:=by unfold N0;rw [dpt_mk,if_neg (by decide),if_neg (by decide)]
theorem dpt15:dpt N15=0:=by unfold N15;rw [dpt_mk,if_neg (by decide),if_neg (by decide)]
theorem dptA:dpt TA=0:=by unfold TA;rw [dpt_mk,if_neg (by decide),if_neg (by decide)]
theorem dptB:dpt LB=1:=by
 unfold LB
 rw [dpt_mk,if_pos rfl]
 simp only [List.map_cons,List.map_nil,dpt15,dpt0]
 rfl
theorem dpt1:dpt T1=2:=by
 unfold T1
 rw [dpt_mk,if_neg (by decide),if_pos rfl,cnt1]
 simp only [List.map_cons,List.map_nil,dptA,dptB]
 rfl
theorem sz15:(textOf ⟨false,⟨#[49,53]⟩,-1⟩).size=5:=by kernel_rfl
theorem sz0:(textOf zed).size=1:=by kernel_rfl
theorem cst1:cst T1≤1000:=by
 have h15:cst N15≤40:=by unfold N15;rw [cst_mk,nm_15,sz15];decide
 have h0:cst N0≤40:=by unfold N0;rw [cst_mk,nm_0,sz0];decide
 have hA:cst TA≤60:=by unfold TA;rw [cst_mk,nm_0,sz0];decide
 have hB:cst LB≤140:=by
  unfold LB
  rw [cst_mk,nm_0,sz0]
  simp only [List.map_cons,List.map_nil,List.sum_cons,List.sum_nil,List.length_cons,List.length_nil]
  have:(⟨#[]⟩:ByteArray).size=0:=rfl
  omega
 unfold T1
 rw [cst_mk,nm_0,sz0]
 simp only [List.map_cons,List.map_nil,List.sum_cons,List.sum_nil,List.length_cons,List.length_nil]
 have e0:(⟨#[]⟩:ByteArray).size=0:=rfl
 have e1:(⟨#[97]⟩:ByteArray).size=1:=rfl
 have e2:(⟨#[98]⟩:ByteArray).size=1:=rfl
 omega
theorem bdL {k:Int}{t:Bool}{d:Dn}{x:ByteArray} (hk:-9223372036854775808≤k∧k≤9223372036854775807) (h0:d.dg.size≤1099511627776) (h1:-9223372036854775808≤d.ex∧d.ex≤9223372036854775807) (h2:x.size≤35184372088832):Bd (JT.mk k t d x [] []) :=
 .mk hk h0 h1 h2 (by simp) (by simp) (fun v h=>by simp at h) (fun p h=>by simp at h) (fun p h=>by simp at h)
theorem bd15:Bd N15:=bdL (by decide) (by decide) (by decide) (by decide)
theorem bd0:Bd N0:=bdL (by decide) (by decide) (by decide) (by decide)
theorem bdA:Bd TA:=bdL (by decide) (by decide) (by decide) (by decide)
theorem bdB:Bd LB:=by
 refine .mk (by decide) (by decide) (by decide) (by decide) (by simp) (by simp) (fun v h=>?_) (fun p h=>by simp at h) (fun p h=>by simp at h)
 simp only [List.mem_cons,List.not_mem_nil,or_false] at h
 rcases h with rfl|rfl
 · exact bd15
 · exact bd0
theorem bd1:Bd T1:=by
 refine .mk (by decide) (by decide) (by decide) (by decide) (by simp) (by simp) (fun v h=>by simp at h) (fun p h=>?_) (fun p h=>?_)
 · simp only [List.mem_cons,List.not_mem_nil,or_false] at h
   rcases h with rfl|rfl <;> decide
 · simp only [List.mem_cons,List.not_mem_nil,or_false] at h
   rcases h with rfl|rfl
   · exact bdA
   · exact bdB
theorem gdL {k:Int}{t:Bool}{d:Dn}{x:ByteArray} (h5:k≠5):Gd (JT.mk k t d x [] []):=.mk (fun e=>absurd e h5) (fun _ v h=>by simp at h) (fun _ p h=>by simp at h)
theorem gd15:Gd N15:=gdL (by decide)
theorem gd0:Gd N0:=gdL (by decide)
theorem gdA:Gd TA:=gdL (by decide)
theorem gdB:Gd LB:=by
 refine .mk (fun e=>absurd e (by decide)) (fun _ v h=>?_) (fun e=>absurd e (by decide))
 simp only [List.mem_cons,List.not_mem_nil,or_false] at h
 rcases h with rfl|rfl
 · exact gd15
 · exact gd0
theorem gd1:Gd T1:=by
 refine .mk (fun _=>fok_few _ (by decide) (fun p h=>?_) ris1) (fun e=>absurd e (by decide)) (fun _ p h=>?_)
 · simp only [List.mem_cons,List.not_mem_nil,or_false] at h
   rcases h with rfl|rfl <;> decide
 · simp only [List.mem_cons,List.not_mem_nil,or_false] at h
   rcases h with rfl|rfl
   · exact gdA
   · exact gdB
theorem sd_a:said ⟨#[97]⟩≠said ⟨#[98]⟩:=by
 rw [pt.said_clean,pt.said_clean,cl_a,cl_b]
 decide
end Go.Proofs.YthakglomacijgaaGreatDoor.rd.wk
namespace Go.Proofs.YthakglomacijgaaGreatDoor.rd
open Go.RowKit
theorem prt_world (w:World) (cs:List Value) (ta tb:TypeId) (h1:ta≠5) (h2:tb≠5):∀ W,W=(((w.alloc (.cells cs.toArray 27)).alloc (.cells #[.pointer none,.slice none 0 0] 59)).alloc (.cells #[tellV (w.heap.size+1) (w.heap.size+1+1) (w.heap.size+1+1+1)] ta)).alloc (.cells #[tellFV (w.heap.size+1) (w.heap.size+1+1)] tb) →
 BX W w.heap.size cs∧Bld (w.heap.size+1) (w.heap.size+1) [] W∧PE w (w.heap.size+1) (w.heap.size+1+1) (w.heap.size+1+1+1) W∧W.heap.size=w.heap.size+4∧Below w.heap.size w W:=by
 rintro W rfl
 obtain ⟨w1,e1⟩:∃ w1,w1=w.alloc (.cells cs.toArray 27):=⟨_,rfl⟩
 have z1:w1.heap.size=w.heap.size+1:=by rw [e1,World.size_alloc]
 have b1:BX w1 w.heap.size cs:=by rw [e1];exact heap_alloc_new w _
 have l1:Below w.heap.size w w1:=by rw [e1];exact (Below.refl _ w).alloc (Nat.le_refl _) _
 rw [← e1]
 obtain ⟨w2,e2⟩:∃ w2,w2=w1.alloc (.cells #[.pointer none,.slice none 0 0] 59):=⟨_,rfl⟩
 have z2:w2.heap.size=w.heap.size+1+1:=by rw [e2,World.size_alloc,z1]
 have d2:Bld (w.heap.size+1) (w.heap.size+1) [] w2:=by
  have:=Lib.IsBuilderF.of (Lib.fresh_isBuilder 59 5 w1)
  rw [z1] at this
  rw [e2]
  exact this
 have l2:Below w1.heap.size w1 w2:=by rw [e2];exact (Below.refl _ w1).alloc (Nat.le_refl _) _
 rw [← e2]
 obtain ⟨w3,e3⟩:∃ w3,w3=w2.alloc (.cells #[tellV (w.heap.size+1) (w.heap.size+1+1) (w.heap.size+1+1+1)] ta):=⟨_,rfl⟩
 have z3:w3.heap.size=w.heap.size+1+1+1:=by rw [e3,World.size_alloc,z2]
 have l3:Below w2.heap.size w2 w3:=by rw [e3];exact (Below.refl _ w2).alloc (Nat.le_refl _) _
 have n3:w3.heap[w.heap.size+1+1]?=some (.cells #[tellV (w.heap.size+1) (w.heap.size+1+1) (w.heap.size+1+1+1)] ta (0,0)):=by rw [e3,← z2];exact heap_alloc_new w2 _
 rw [← e3]
 have l4:Below w3.heap.size w3 (w3.alloc (.cells #[tellFV (w.heap.size+1) (w.heap.size+1+1)] tb)):=(Below.refl _ w3).alloc (Nat.le_refl _) _
 have n4:(w3.alloc (.cells #[tellFV (w.heap.size+1) (w.heap.size+1+1)] tb)).heap[w.heap.size+1+1+1]?=some (.cells #[tellFV (w.heap.size+1) (w.heap.size+1+1)] tb (0,0)):=by rw [← z3];exact heap_alloc_new w3 _
 have z4:(w3.alloc (.cells #[tellFV (w.heap.size+1) (w.heap.size+1+1)] tb)).heap.size=w.heap.size+4:=by rw [World.size_alloc,z3]
 generalize w3.alloc (.cells #[tellFV (w.heap.size+1) (w.heap.size+1+1)] tb)=w4 at *
 have l14:Below w1.heap.size w1 w4:=(l2.trans (l3.mono (by omega))).trans (l4.mono (by omega))
 have l04:Below w.heap.size w w4:=l1.trans (l14.mono (by omega))
 refine ⟨b1.keep l14 (by omega),bld_keep (bld_keep d2 l3) l4,⟨⟨ta,h1,(l4.block _ (by omega)).trans n3⟩,⟨tb,h2,n4⟩,by omega,by omega,l04⟩,z4,l04⟩
set_option maxHeartbeats 4000000 in
set_option maxRecDepth 1000000 in
theorem jprint_any (v:JT) (hb:Bd v) (hg:Gd v) (hbn:Bd (nrm v)) (hc:cst (nrm v)≤140737488355328) (cs:List Value) (w:World) (h:VR w v cs) (hP:Pow w) :
 Calls Tryz.prog 12 #[.agg cs.toArray] w fun e w'=>e=.returned (.string ⟨(prt (nrm v)).toArray⟩)∧Below w.heap.size w w':=by
 obtain ⟨kk,tt,ng,dg,ex,xx,q1,n1,m1,q2,n2,m2,rfl⟩:=h.form
 have HC:=hide (fun u (hu:Below w.heap.size w u)=>jnorm_any v hb hg _ u (h.keep hu))
 have HT:=hide (fun B b nb fb (hB:w.heap.size≤B)=>tell_any w B b nb fb hP hB _ (nrm v) (Nat.lt_succ_self _) hbn)
 have PW:=hide (prt_world w [.int .i64 kk,.bool tt,.bool ng,.string dg,.int .i64 ex,.string xx,.slice q1 n1 m1,.slice q2 n2 m2] 60 65 (by decide) (by decide))
 unfold tellV tellFV at PW
 clear h hb hg hbn hP
 generalize nrm v=V at *
 go_enter Tryz.func12,Tryz.ntmps12
 go_upto_region 5 with fail
 obtain ⟨r1,r2,r3,r4,r5⟩:=uh PW _ rfl
 generalize (((w.alloc (.cells [.int .i64 kk,.bool tt,.bool ng,.string dg,.int .i64 ex,.string xx,.slice q1 n1 m1,.slice q2 n2 m2].toArray 27)).alloc (.cells #[.pointer none,.slice none 0 0] 59)).alloc (.cells #[.func (.func 38) #[] #[.pointer (some ⟨w.heap.size+1,0,none⟩),.pointer (some ⟨w.heap.size+1+1,0,none⟩),.pointer (some ⟨w.heap.size+1+1+1,0,none⟩)]] 60)).alloc (.cells #[.func (.func 35) #[] #[.pointer (some ⟨w.heap.size+1,0,none⟩),.pointer (some ⟨w.heap.size+1+1,0,none⟩)]] 65)=W at *
 obtain ⟨y0,y1,y2,y3,y4,y5,y6,y7⟩:=r1.cells
 have hdr:Below W.heap.size W W.drew:=⟨rfl,rfl,rfl,Nat.le_refl _,fun _ _=>rfl⟩
 have CN:=hide (uh HC W.drew (r5.trans (hdr.mono (by omega))))
 have hcn:W.cell? ⟨w.heap.size+1+1,0,none⟩=some (tellV (w.heap.size+1) (w.heap.size+1+1) (w.heap.size+1+1+1)):=by
  obtain ⟨ty,hy,hc⟩:=r3.n1
  exact blk_cell hc 0
 have CTT:=hide (fun (u2:World) (hb:Below W.heap.size W u2) (cs:List Value) (p:List Nat) (hv:VRep u2 W.heap.size V cs p)=>uh HT (w.heap.size+1) (w.heap.size+1) (w.heap.size+1+1) (w.heap.size+1+1+1) (Nat.le_succ _) [] cs p W.heap.size u2 (bld_keep r2 hb) (by simpa using hc) (by have:=hb.size;omega) (by have:=hb.size;omega)
  (r3.keep (B:=W.heap.size) (by omega) hb (kept_below hb)) hv (fun q=>by have:=(hv.ge _ q).1;omega))
 have R5:=hide r5
 have R4:=hide r4
 have eg:=enter_tell
 have hcn0:=hide hcn
 unfold tellV at hcn
 clear r1 r2 r3 r4 r5 PW HC HT hdr
 go_region_law (first
  | (go_simp;go_at_call 15;refine (uh CN).mono ?_;rintro e u2 ⟨cs,pp,rfl,hr,hpn,hbl2⟩
     have hb3:Below W.heap.size W u2:=⟨hbl2.os,hbl2.tape,hbl2.output,hbl2.size,hbl2.block⟩
     have hcn2:=kc hb3 (uh hcn0)
     unfold tellV at hcn2
     have CT:=hide (uh CTT u2 hb3 cs pp hr))
  | (go_simp;go_at_call 38;refine (uh CT).mono ?_;rintro e u3 ⟨rfl,hb4,hc4,hk4⟩))
 all_goals clear y0 y1 y2 y3 y4 y5 y6 y7 hcn
 all_goals
  rw [List.nil_append] at hb4
  have hsz3:w.heap.size+1≤u3.heap.size:=by have:=hb3.size;have:=uh R4;have:=hc4.size;omega
  go_wp2_with (go_at_call 44;refine (Tryz.Builder_String_any_k (w.heap.size+1) (w.heap.size+1) (prt V) _ hb4 (by omega)).mono ?_;rintro e u5 ⟨rfl,_,b5,_⟩)
  go_ret
  have hz:=uh R4
  exact ⟨rfl,(((uh R5).trans (hb3.mono (by omega))).trans (hc4.mono (Nat.le_succ _))).trans (b5.mono (Nat.le_succ _))⟩
inductive Pf:Nat→JT→Prop
 | null (n:Nat):Pf n (leaf 0 false zed ⟨#[]⟩)
 | truth (n:Nat) (b:Bool):Pf n (leaf 1 b zed ⟨#[]⟩)
 | num (n:Nat) {d:Dn} (h:Whole1 d) (hz:d.dg.size≤1000000000):Pf n (leaf 2 false d ⟨#[]⟩)
 | text (n:Nat) {x:ByteArray} (h:Ltc x.data.toList) (hz:x.size≤1000000000):Pf n (leaf 3 false zed x)
 | list {n:Nat}{l:List JT} (h:∀ v∈l,Pf n v) (hz:l.length≤1000000000):Pf (n+1) (JT.mk 4 false zed ⟨#[]⟩ l [])
 | obj {n:Nat}{f:List (ByteArray × JT)} (hn:∀ p∈f,Ltc p.1.data.toList∧p.1.size≤1000000000) (hr:jn.Ris f) (h:∀ p∈f,Pf n p.2) (hz:f.length≤1000000000):Pf (n+1) (JT.mk 5 false zed ⟨#[]⟩ [] f)
def hdB (c:UInt8):Prop:=c.toNat < 128∧inB gapB.data.toList c=false∧c≠93∧c≠125∧c≠44
def Ends (t:List UInt8):Prop:=∀ c,t.head?=some c→c=44∨c=93∨c=125
def Reads {α:Type} (s:ByteArray) (rf:Nat→(α × Nat) ⊕ (Nat × Nat)) (x:List UInt8) (v:α):Prop:=∀ k t,s.data.toList.drop k=x++t→Ends t→rf k=.inl (v,k+x.length)
theorem fd_of2:∀ (f:List (ByteArray × JT)) (gss:List (List Value)),gss.length=f.length→(∀ c∈gss,V8 c) →
 ∃ D:List Fd,D.length=f.length∧D.flatMap encF=fcs f gss∧∀ (i:Nat) (p:ByteArray × JT) (c:List Value),f[i]?=some p→gss[i]?=some c→∃ x,D[i]?=some x∧x.nm=p.1∧encF (ss.sd x)=.string (said p.1)::c
 | [],_,_,_=>⟨[],rfl,rfl,fun i p c h=>by simp at h⟩
 | _::_,[],h,_=>by simp at h
 | p::f,c::gss,h,hv=>by
   obtain ⟨D,e1,e2,e3⟩:=fd_of2 f gss (by simpa using h) (fun c hc=>hv c (by simp [hc]))
   obtain ⟨kk,tt,ng,dg,ex,xx,q1,n1,m1,q2,n2,m2,rfl⟩:=hv c (by simp)
   refine ⟨⟨p.1,kk,tt,ng,dg,ex,xx,q1,n1,m1,q2,n2,m2⟩::D,by simp [e1],?_,fun i p' c' h1 h2=>?_⟩
   · rw [List.flatMap_cons,e2,fcs_cons];rfl
   · cases i with
     | zero =>
       simp only [List.getElem?_cons_zero,Option.some.injEq] at h1 h2
       subst h1 h2
       exact ⟨_,rfl,rfl,rfl⟩
     | succ i =>
       simp only [List.getElem?_cons_succ] at h1 h2 ⊢
       exact e3 i p' c' h1 h2
theorem fcs_each {β:Type} (a:β→ByteArray × JT) (b:β→List Value):∀ K:List β,fcs (K.map a) (K.map b)=K.flatMap fun i=>.string (a i).1::b i
 | []=>rfl
 | i::K=>by rw [List.map_cons,List.map_cons,fcs_cons,fcs_each a b K,List.flatMap_cons]
theorem fok_all (f:List (ByteArray × JT)) (hl:f.length≤1000000000) (hn:∀ p∈f,p.1.size≤35184372088832):FOk f:=by
 intro k t d x l cs w u h hb
 cases h with
 | @mk k t d x l f lv fv css gss hlv hf h1 h3 hle hfe =>
   have hv8:∀ c∈gss,V8 c:=by
    intro c hcm
    obtain ⟨j,hj⟩:=List.getElem?_of_mem hcm
    obtain ⟨hlt,_⟩:=List.getElem?_eq_some_iff.1 hj
    exact (hfe j f[j].1 f[j].2 c (List.getElem?_eq_getElem (by omega)) hj).v8
   obtain ⟨D,e1,e2,e3⟩:=fd_of2 f gss h3 hv8
   have hsv:=hf.keep hb
   rw [← e1,← e2] at hsv
   have at_:∀ i,i < f.length→∃ x,D[i]?=some x∧x.nm=(f[i]?.getD (⟨#[]⟩,null)).1∧encF (ss.sd x)=.string (pt.clean (f[i]?.getD (⟨#[]⟩,null)).1)::gss[i]?.getD []:=fun i hi=>by
    obtain ⟨x,q1,q2,q3⟩:=e3 i f[i] gss[i] (List.getElem?_eq_getElem hi) (List.getElem?_eq_getElem (by omega))
    rw [List.getElem?_eq_getElem hi,List.getElem?_eq_getElem (show i < gss.length by omega)]
    exact ⟨x,q1,q2,by rw [q3,pt.said_clean];rfl⟩
   have hz:∀ y∈D,y.nm.size≤35184372088832:=by
    intro y hy
    obtain ⟨i,hi⟩:=List.getElem?_of_mem hy
    obtain ⟨hlt,_⟩:=List.getElem?_eq_some_iff.1 hi
    obtain ⟨x,q1,q2,_⟩:=at_ i (by omega)
    rw [hi] at q1
    cases q1
    rw [q2,List.getElem?_eq_getElem (show i < f.length by omega)]
    exact hn _ (List.getElem_mem _)
   have fdI_at:∀ i,i < f.length→encF (ss.fdI (D.map ss.sd) i)=.string (pt.clean (f[i]?.getD (⟨#[]⟩,null)).1)::gss[i]?.getD []∧(ss.fdI (D.map ss.sd) i).nm=pt.clean (f[i]?.getD (⟨#[]⟩,null)).1:=fun i hi=>by
    obtain ⟨x,q1,q2,q3⟩:=at_ i hi
    have e:ss.fdI (D.map ss.sd) i=ss.sd x:=by
     unfold ss.fdI
     rw [List.getD_eq_getElem?_getD,List.getElem?_map,q1]
     rfl
    rw [e]
    refine ⟨q3,?_⟩
    have:=(List.cons.inj q3).1
    simpa using this
   have hDl:(D.map ss.sd).length=f.length:=by rw [List.length_map,e1]
   have hkm:∀ i∈ss.kp (D.map ss.sd),i < f.length:=fun i hi=>by
    have:=((ss.keeps_iff (D.map ss.sd)).1 hi).1
    omega
   have hG:(ss.kp (D.map ss.sd)).map (fun i=>(pt.clean (f[i]?.getD (⟨#[]⟩,null)).1,(f[i]?.getD (⟨#[]⟩,null)).2))=cnt f:=by
    refine ss.kept_puts (D.map ss.sd) (F:=f.map fun p=>(pt.clean p.1,p.2)) (by rw [List.length_map,hDl]) (fun i p hp=>?_) _ ?_
    · rw [List.getElem?_map] at hp
      cases hq:f[i]? with
      | none=>rw [hq] at hp;simp at hp
      | some q =>
        obtain ⟨hlt,_⟩:=List.getElem?_eq_some_iff.1 hq
        have:=(fdI_at i hlt).2
        rw [hq] at hp this
        simp only [Option.map_some,Option.some.injEq] at hp
        subst hp
        exact this.symm
    · rw [List.map_map]
      refine List.map_congr_left fun i hi=>?_
      have hlt:=hkm i hi
      show some (pt.clean (f[i]?.getD (⟨#[]⟩,null)).1,(f[i]?.getD (⟨#[]⟩,null)).2)=(f.map fun p=>(pt.clean p.1,p.2))[i]?
      rw [List.getElem?_map,List.getElem?_eq_getElem hlt]
      rfl
   refine (ss.fieldsOf_all (.int .i64 k) (.bool t) (.bool d.neg) (.string d.dg) (.int .i64 d.ex) (.string x) lv fv u hsv (by omega) hz).mono ?_
   rintro e w' ⟨sv,rfl,ho,hbl⟩
   rw [← hG]
   refine ⟨sv,(ss.kp (D.map ss.sd)).map fun i=>gss[i]?.getD [],rfl,?_,by simp,?_,hbl⟩
   · rw [List.length_map,fcs_each]
     have e5:((ss.kp (D.map ss.sd)).map (ss.fdI (D.map ss.sd))).flatMap encF=(ss.kp (D.map ss.sd)).flatMap fun i=>.string (pt.clean (f[i]?.getD (⟨#[]⟩,null)).1)::gss[i]?.getD []:=by
      rw [List.flatMap_map]
      rw [List.flatMap_def,List.flatMap_def,List.map_congr_left fun i hi=>(fdI_at i (hkm i hi)).1]
     rw [← e5]
     exact owns_base ho (Nat.le_succ _)
   · intro j p c hp hc
     rw [List.getElem?_map] at hp hc
     cases hq:(ss.kp (D.map ss.sd))[j]? with
     | none=>rw [hq] at hp;simp at hp
     | some i =>
       rw [hq] at hp hc
       simp only [Option.map_some,Option.some.injEq] at hp hc
       have hlt:=hkm i (List.mem_of_getElem? hq)
       subst hp hc
       rw [List.getElem?_eq_getElem hlt,List.getElem?_eq_getElem (show i < gss.length by omega)]
       exact hfe i f[i].1 f[i].2 gss[i] (List.getElem?_eq_getElem hlt) (List.getElem?_eq_getElem (by omega))
theorem cst_leaf (k:Int) (t:Bool) (d:Dn) (x:ByteArray):cst (leaf k t d x)=30+(textOf (norm d)).size+6*x.size:=by
 unfold leaf
 rw [cst_mk]
 simp
theorem txt_zed:(textOf (norm zed)).size=1:=by rw [wh.norm_zed];rfl
def Good (s:ByteArray) (n:Nat) (vf:Nat→(JT × Nat) ⊕ (Nat × Nat)):Prop:=∀ k v k',k≤s.size→vf k=.inl (v,k')→Pf n v∧30000*k+cst v+100≤30000*k'
theorem pf_bd {n:Nat}{v:JT} (h:Pf n v):Bd v:=by
 have ez:zed.dg.size≤1099511627776∧(-9223372036854775808≤zed.ex∧zed.ex≤9223372036854775807):=by decide
 have e0:(⟨#[]⟩:ByteArray).size≤35184372088832:=by decide
 induction h with
 | null n=>exact .mk (by decide) ez.1 ez.2 e0 (by simp) (by simp) (by simp) (by simp) (by simp)
 | truth n b=>exact .mk (by decide) ez.1 ez.2 e0 (by simp) (by simp) (by simp) (by simp) (by simp)
 | @num n d h hz =>
   have hx:-9223372036854775808≤d.ex∧d.ex≤9223372036854775807:=by
    rcases h with rfl|h
    · exact ez.2
    · have:=h.e0;have:=h.e1;omega
   exact .mk (by decide) (by omega) hx e0 (by simp) (by simp) (by simp) (by simp) (by simp)
 | text n h hz=>exact .mk (by decide) ez.1 ez.2 (by omega) (by simp) (by simp) (by simp) (by simp) (by simp)
 | list h hz ih=>exact .mk (by decide) ez.1 ez.2 e0 (by omega) (by simp) ih (by simp) (by simp)
 | obj hn hr h hz ih=>exact .mk (by decide) ez.1 ez.2 e0 (by simp) (by omega) (by simp) (fun p hp=>by have:=(hn p hp).2;omega) ih
end Go.Proofs.YthakglomacijgaaGreatDoor.rd
