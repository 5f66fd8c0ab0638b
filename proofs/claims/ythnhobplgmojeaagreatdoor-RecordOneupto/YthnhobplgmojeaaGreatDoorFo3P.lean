/- Texts in one: Fo3 Sk3 Wk Pg2 -/
import Derived.Test.YthnhobplgmojeaaGreatDoorSfP
import Derived.Test.YthnhobplgmojeaaGreatDoorSqP
import Derived.Test.YthnhobplgmojeaaGreatDoorSkP
import Derived.Test.YthnhobplgmojeaaGreatDoorScP
import Derived.Test.YthnhobplgmojeaaGreatDoorZzP
import Derived.Test.YthnhobplgmojeaaGreatDoorWhP
import Derived.Test.YthnhobplgmojeaaGreatDoorNuP
namespace Go.Proofs.YthnhobplgmojeaaGreatDoor.rd
open Go.RowKit
theorem fok_ris (f:List (ByteArray × JT)) (hl:f.length≤1000000000) (hn:∀ p∈f,p.1.size≤35184372088832) (hr:jn.Ris (f.map fun p=>(pt.clean p.1,p.2))):FOk f:=by
 intro k t d x l cs w u h hb;have hc:cnt f=f.map fun p=>(pt.clean p.1,p.2):=jn.puts_ris _ hr
 cases h with
 | @mk k t d x l f lv fv css gss hlv hf h1 h3 hle hfe =>
   have hv8:∀ c∈gss,V8 c:=by
    intro c hcm;obtain ⟨j,hj⟩:=List.getElem?_of_mem hcm;obtain ⟨hlt,_⟩:=List.getElem?_eq_some_iff.1 hj;exact (hfe j f[j].1 f[j].2 c (List.getElem?_eq_getElem (by omega)) hj).v8
   obtain ⟨D,e1,e2,e3,e4⟩:=fd_of f gss h3 hv8;have hsv:=hf.keep hb;rw [← e1,← e2] at hsv
   have hp:(D.map ss.sd).Pairwise (fun a b=>cmpF a b < 0):=by
    have h2:(D.map ss.sd).map Fd.nm=f.map fun p=>pt.clean p.1:=by
     have:(D.map ss.sd).map Fd.nm=(D.map Fd.nm).map said:=by simp [ss.sd,Function.comp_def]
     rw [this,e3,List.map_map];exact List.map_congr_left fun p _=>pt.said_clean p.1
    have h4:((D.map ss.sd).map Fd.nm).Pairwise (fun a b=>Lib.compareBytes a.data.toList b.data.toList < 0):=by
     rw [h2];unfold jn.Ris at hr;rw [List.pairwise_map] at hr ⊢;exact hr
    rw [List.pairwise_map] at h4;exact h4
   have hz:∀ y∈D,y.nm.size≤35184372088832:=by
    intro y hy;have:y.nm∈f.map Prod.fst:=by rw [← e3];exact List.mem_map.2 ⟨y,hy,rfl⟩
    obtain ⟨p,hp,e⟩:=List.mem_map.1 this;rw [← e];exact hn p hp
   refine (ss.fieldsOf_ris (.int .i64 k) (.bool t) (.bool d.neg) (.string d.dg) (.int .i64 d.ex) (.string x) lv fv u hsv (by omega) hz hp).mono ?_;rintro e w' ⟨sv,rfl,ho,hbl⟩;have hcl:(f.map fun p=>(pt.clean p.1,p.2)).length=f.length:=List.length_map _;have hsc:(f.map fun p=>(said p.1,p.2))=f.map fun p=>(pt.clean p.1,p.2):=List.map_congr_left fun p _=>by rw [pt.said_clean]
   rw [hc];refine ⟨sv,gss,rfl,?_,by rw [hcl];exact h3,?_,hbl⟩
   · rw [hcl,← hsc,← e4,← e1]
     exact owns_base ho (Nat.le_succ _)
   · intro j p c hp2 hc2
     rw [List.getElem?_map] at hp2
     cases hq:f[j]? with
     | none=>rw [hq] at hp2;simp at hp2
     | some q =>
       rw [hq] at hp2;simp only [Option.map_some,Option.some.injEq] at hp2;subst hp2;exact hfe j q.1 q.2 c hq hc2
theorem prt_world (w:World) (cs:List Value) (ta tb:TypeId) (h1:ta≠5) (h2:tb≠5):∀ W,W=(((w.alloc (.cells cs.toArray 28)).alloc (.cells #[.pointer none,.slice none 0 0] 128)).alloc (.cells #[tellV (w.heap.size+1) (w.heap.size+1+1) (w.heap.size+1+1+1)] ta)).alloc (.cells #[tellFV (w.heap.size+1) (w.heap.size+1+1)] tb) →
 BX W w.heap.size cs∧Bld (w.heap.size+1) (w.heap.size+1) [] W∧PE w (w.heap.size+1) (w.heap.size+1+1) (w.heap.size+1+1+1) W∧W.heap.size=w.heap.size+4∧Below w.heap.size w W:=by
 rintro W rfl;obtain ⟨w1,e1⟩:∃ w1,w1=w.alloc (.cells cs.toArray 28):=⟨_,rfl⟩;have z1:w1.heap.size=w.heap.size+1:=by rw [e1,World.size_alloc]
 have b1:BX w1 w.heap.size cs:=by rw [e1];exact heap_alloc_new w _
 have l1:Below w.heap.size w w1:=by rw [e1];exact (Below.refl _ w).alloc (Nat.le_refl _) _
 rw [← e1];obtain ⟨w2,e2⟩:∃ w2,w2=w1.alloc (.cells #[.pointer none,.slice none 0 0] 128):=⟨_,rfl⟩;have z2:w2.heap.size=w.heap.size+1+1:=by rw [e2,World.size_alloc,z1]
 have d2:Bld (w.heap.size+1) (w.heap.size+1) [] w2:=by
  have:=Lib.IsBuilderF.of (Lib.fresh_isBuilder 128 5 w1);rw [z1] at this;rw [e2];exact this
 have l2:Below w1.heap.size w1 w2:=by rw [e2];exact (Below.refl _ w1).alloc (Nat.le_refl _) _
 rw [← e2];obtain ⟨w3,e3⟩:∃ w3,w3=w2.alloc (.cells #[tellV (w.heap.size+1) (w.heap.size+1+1) (w.heap.size+1+1+1)] ta):=⟨_,rfl⟩;have z3:w3.heap.size=w.heap.size+1+1+1:=by rw [e3,World.size_alloc,z2]
 have l3:Below w2.heap.size w2 w3:=by rw [e3];exact (Below.refl _ w2).alloc (Nat.le_refl _) _
 have n3:w3.heap[w.heap.size+1+1]?=some (.cells #[tellV (w.heap.size+1) (w.heap.size+1+1) (w.heap.size+1+1+1)] ta (0,0)):=by rw [e3,← z2];exact heap_alloc_new w2 _
 rw [← e3];have l4:Below w3.heap.size w3 (w3.alloc (.cells #[tellFV (w.heap.size+1) (w.heap.size+1+1)] tb)):=(Below.refl _ w3).alloc (Nat.le_refl _) _;have n4:(w3.alloc (.cells #[tellFV (w.heap.size+1) (w.heap.size+1+1)] tb)).heap[w.heap.size+1+1+1]?=some (.cells #[tellFV (w.heap.size+1) (w.heap.size+1+1)] tb (0,0)):=by rw [← z3];exact heap_alloc_new w3 _
 have z4:(w3.alloc (.cells #[tellFV (w.heap.size+1) (w.heap.size+1+1)] tb)).heap.size=w.heap.size+4:=by rw [World.size_alloc,z3]
 generalize w3.alloc (.cells #[tellFV (w.heap.size+1) (w.heap.size+1+1)] tb)=w4 at *;have l14:Below w1.heap.size w1 w4:=(l2.trans (l3.mono (by omega))).trans (l4.mono (by omega));have l04:Below w.heap.size w w4:=l1.trans (l14.mono (by omega));refine ⟨b1.keep l14 (by omega),bld_keep (bld_keep d2 l3) l4,⟨⟨ta,h1,(l4.block _ (by omega)).trans n3⟩,⟨tb,h2,n4⟩,by omega,by omega,l04⟩,z4,l04⟩
set_option maxHeartbeats 4000000 in
set_option maxRecDepth 1000000 in
theorem jprint_any (v:JT) (hb:Bd v) (hg:Gd v) (hbn:Bd (nrm v)) (hc:cst (nrm v)≤140737488355328) (cs:List Value) (w:World) (h:VR w v cs) (hP:Pow w) :
 Calls Tryz.prog 69 #[.agg cs.toArray] w fun e w'=>e=.returned (.string ⟨(prt (nrm v)).toArray⟩)∧Below w.heap.size w w':=by
 obtain ⟨kk,tt,ng,dg,ex,xx,q1,n1,m1,q2,n2,m2,rfl⟩:=h.form;have HC:=hide (fun u (hu:Below w.heap.size w u)=>jnorm_any v hb hg _ u (h.keep hu));have HT:=hide (fun B b nb fb (hB:w.heap.size≤B)=>tell_any w B b nb fb hP hB _ (nrm v) (Nat.lt_succ_self _) hbn);have PW:=hide (prt_world w [.int .i64 kk,.bool tt,.bool ng,.string dg,.int .i64 ex,.string xx,.slice q1 n1 m1,.slice q2 n2 m2] 129 132 (by decide) (by decide));unfold tellV tellFV at PW;clear h hb hg hbn hP;generalize nrm v=V at *
 go_enter Tryz.func69,Tryz.ntmps69
 go_upto_region 5 with fail;obtain ⟨r1,r2,r3,r4,r5⟩:=uh PW _ rfl;generalize (((w.alloc (.cells [.int .i64 kk,.bool tt,.bool ng,.string dg,.int .i64 ex,.string xx,.slice q1 n1 m1,.slice q2 n2 m2].toArray 28)).alloc (.cells #[.pointer none,.slice none 0 0] 128)).alloc (.cells #[.func (.func 90) #[] #[.pointer (some ⟨w.heap.size+1,0,none⟩),.pointer (some ⟨w.heap.size+1+1,0,none⟩),.pointer (some ⟨w.heap.size+1+1+1,0,none⟩)]] 129)).alloc (.cells #[.func (.func 87) #[] #[.pointer (some ⟨w.heap.size+1,0,none⟩),.pointer (some ⟨w.heap.size+1+1,0,none⟩)]] 132)=W at *;obtain ⟨y0,y1,y2,y3,y4,y5,y6,y7⟩:=r1.cells;have hdr:Below W.heap.size W W.drew:=⟨rfl,rfl,rfl,Nat.le_refl _,fun _ _=>rfl⟩;have CN:=hide (uh HC W.drew (r5.trans (hdr.mono (by omega))))
 have hcn:W.cell? ⟨w.heap.size+1+1,0,none⟩=some (tellV (w.heap.size+1) (w.heap.size+1+1) (w.heap.size+1+1+1)):=by
  obtain ⟨ty,hy,hc⟩:=r3.n1;exact blk_cell hc 0
 have CTT:=hide (fun (u2:World) (hb:Below W.heap.size W u2) (cs:List Value) (p:List Nat) (hv:VRep u2 W.heap.size V cs p)=>uh HT (w.heap.size+1) (w.heap.size+1) (w.heap.size+1+1) (w.heap.size+1+1+1) (Nat.le_succ _) [] cs p W.heap.size u2 (bld_keep r2 hb) (by simpa using hc) (by have:=hb.size;omega) (by have:=hb.size;omega)
  (r3.keep (B:=W.heap.size) (by omega) hb (kept_below hb)) hv (fun q=>by have:=(hv.ge _ q).1;omega))
 have R5:=hide r5;have R4:=hide r4;have eg:=enter_tell;have hcn0:=hide hcn;unfold tellV at hcn;clear r1 r2 r3 r4 r5 PW HC HT hdr
 go_region_law (first
  | (go_simp;go_at_call 96;refine (uh CN).mono ?_;rintro e u2 ⟨cs,pp,rfl,hr,hpn,hbl2⟩
     have hb3:Below W.heap.size W u2:=⟨hbl2.os,hbl2.tape,hbl2.output,hbl2.size,hbl2.block⟩;have hcn2:=kc hb3 (uh hcn0);unfold tellV at hcn2
     have CT:=hide (uh CTT u2 hb3 cs pp hr))
  | (go_simp;go_at_call 90;refine (uh CT).mono ?_;rintro e u3 ⟨rfl,hb4,hc4,hk4⟩))
 all_goals clear y0 y1 y2 y3 y4 y5 y6 y7 hcn
 all_goals
  rw [List.nil_append] at hb4;have hsz3:w.heap.size+1≤u3.heap.size:=by have:=hb3.size;have:=uh R4;have:=hc4.size;omega
  go_wp2_with (go_at_call 97;refine (Tryz.Builder_String_any_k (w.heap.size+1) (w.heap.size+1) (prt V) _ hb4 (by omega)).mono ?_;rintro e u5 ⟨rfl,_,b5,_⟩)
  go_ret;have hz:=uh R4;exact ⟨rfl,(((uh R5).trans (hb3.mono (by omega))).trans (hc4.mono (Nat.le_succ _))).trans (b5.mono (Nat.le_succ _))⟩
end Go.Proofs.YthnhobplgmojeaaGreatDoor.rd
namespace Go.Proofs.YthnhobplgmojeaaGreatDoor.rd.wk
open Go.RowKit
def S1:ByteArray:=⟨#[32,123,34,98,34,32,58,32,91,49,46,53,48,44,32,45,48,93,44,32,34,97,34,58,34,92,117,48,48,101,57,92,47,34,125]⟩
def N15:JT:=JT.mk 2 false ⟨false,⟨#[49,53]⟩,-1⟩ ⟨#[]⟩ [] []
def N0:JT:=JT.mk 2 false zed ⟨#[]⟩ [] []
def LB:JT:=JT.mk 4 false zed ⟨#[]⟩ [N15,N0] []
def TA:JT:=JT.mk 3 false zed ⟨#[195,169,47]⟩ [] []
def T1:JT:=JT.mk 5 false zed ⟨#[]⟩ [] [(⟨#[97]⟩,TA),(⟨#[98]⟩,LB)]
theorem bdL {k:Int}{t:Bool}{d:Dn}{x:ByteArray} (hk:-9223372036854775808≤k∧k≤9223372036854775807) (h0:d.dg.size≤1099511627776) (h1:-9223372036854775808≤d.ex∧d.ex≤9223372036854775807) (h2:x.size≤35184372088832):Bd (JT.mk k t d x [] []) :=
 .mk hk h0 h1 h2 (by simp) (by simp) (fun v h=>by simp at h) (fun p h=>by simp at h) (fun p h=>by simp at h)
theorem gdL {k:Int}{t:Bool}{d:Dn}{x:ByteArray} (h5:k≠5):Gd (JT.mk k t d x [] []):=.mk (fun e=>absurd e h5) (fun _ v h=>by simp at h) (fun _ p h=>by simp at h)
end Go.Proofs.YthnhobplgmojeaaGreatDoor.rd.wk
namespace Go.Proofs.YthnhobplgmojeaaGreatDoor.rd
open Go.RowKit
inductive Pf:Nat→JT→Prop
 | null (n:Nat):Pf n (leaf 0 false zed ⟨#[]⟩)
 | truth (n:Nat) (b:Bool):Pf n (leaf 1 b zed ⟨#[]⟩)
 | num (n:Nat) {d:Dn} (h:Whole1 d) (hz:d.dg.size≤1000000000):Pf n (leaf 2 false d ⟨#[]⟩)
 | text (n:Nat) {x:ByteArray} (h:Ltc x.data.toList) (hz:x.size≤1000000000):Pf n (leaf 3 false zed x)
 | list {n:Nat}{l:List JT} (h:∀ v∈l,Pf n v) (hz:l.length≤1000000000):Pf (n+1) (JT.mk 4 false zed ⟨#[]⟩ l [])
 | obj {n:Nat}{f:List (ByteArray × JT)} (hn:∀ p∈f,Ltc p.1.data.toList∧p.1.size≤1000000000) (hr:jn.Ris f) (h:∀ p∈f,Pf n p.2) (hz:f.length≤1000000000):Pf (n+1) (JT.mk 5 false zed ⟨#[]⟩ [] f)
theorem gap_here {s:ByteArray}{k:Nat}{c:UInt8}{t:List UInt8} (h:s.data.toList.drop k=c::t) (hc:inB gapB.data.toList c=false):gap s k=k:=by
 unfold gap skipTo;rw [h,List.takeWhile_cons,hc];rfl
theorem nxt_told {s:ByteArray}{k:Nat}{c:UInt8}{t:List UInt8} (h:s.data.toList.drop k=c::t) (hc:c.toNat < 128):nxt s k=(c.toNat:Int):=(nxt_low s k (drop_lt h) c.toNat hc).2 (drop_by h)
def hdB (c:UInt8):Prop:=c.toNat < 128∧inB gapB.data.toList c=false∧c≠93∧c≠125∧c≠44
theorem hd_dig {c:UInt8} (h:c=45∨nu.dig c=true):hdB c∧numB (c.toNat:Int)=true∧c≠110∧c≠116∧c≠102:=by
 have:c=45∨c=48∨c=49∨c=50∨c=51∨c=52∨c=53∨c=54∨c=55∨c=56∨c=57:=by
  rcases h with h|h
  · exact .inl h
  · have hc:48≤c.toNat∧c.toNat≤57:=by simpa [nu.dig] using h
    have e:c=c.toNat.toUInt8:=by simp
    rw [e];have:c.toNat=48∨c.toNat=49∨c.toNat=50∨c.toNat=51∨c.toNat=52∨c.toNat=53∨c.toNat=54∨c.toNat=55∨c.toNat=56∨c.toNat=57:=by omega
    rcases this with e|e|e|e|e|e|e|e|e|e <;> rw [e] <;> decide
 rcases this with rfl|rfl|rfl|rfl|rfl|rfl|rfl|rfl|rfl|rfl|rfl <;> exact ⟨⟨by decide,by decide,by decide,by decide,by decide⟩,by decide,by decide,by decide,by decide⟩
theorem prt_leaf (k:Int) (t:Bool) (d:Dn) (x:ByteArray):prt (leaf k t d x)=if k=1 then (if t then trueB else falseB) else if k=2 then (textOf (norm d)).data.toList else if k=3 then txtJ x else if k=4 then [91,93] else if k=5 then [123,125] else [110,117,108,108]:=by
 unfold leaf;rw [prt_mk];rfl
theorem prt_head {n:Nat}{v:JT} (h:Pf n v):∃ c t,prt v=c::t∧hdB c:=by
 cases h with
 | null=>exact ⟨110,_,by rw [prt_leaf];rfl,⟨by decide,by decide,by decide,by decide,by decide⟩⟩
 | truth n b =>
   cases b
   · exact ⟨102,_,by rw [prt_leaf];rfl,⟨by decide,by decide,by decide,by decide,by decide⟩⟩
   · exact ⟨116,_,by rw [prt_leaf];rfl,⟨by decide,by decide,by decide,by decide,by decide⟩⟩
 | num n h hz =>
   rename_i d
   obtain ⟨h1,h2,h3⟩:=bw.text_bytes h
   have e:prt (leaf 2 false d ⟨#[]⟩)=(textOf d).data.toList:=by
    rw [prt_leaf,if_neg (by decide),if_pos rfl,wh.whole_id h]
   rw [e]
   cases hx:(textOf d).data.toList with
   | nil=>exact absurd hx h1
   | cons c t=>exact ⟨c,t,rfl,(hd_dig (h3 c (by rw [hx];rfl))).1⟩
 | text n h hz=>exact ⟨34,_,by rw [prt_leaf];rfl,⟨by decide,by decide,by decide,by decide,by decide⟩⟩
 | list h hz=>exact ⟨91,_,by rw [prt_mk];rfl,⟨by decide,by decide,by decide,by decide,by decide⟩⟩
 | obj hn hr h hz=>exact ⟨123,_,by rw [prt_mk];rfl,⟨by decide,by decide,by decide,by decide,by decide⟩⟩
def Ends (t:List UInt8):Prop:=∀ c,t.head?=some c→c=44∨c=93∨c=125
def Reads {α:Type} (s:ByteArray) (rf:Nat→(α × Nat) ⊕ (Nat × Nat)) (x:List UInt8) (v:α):Prop:=∀ k t,s.data.toList.drop k=x++t→Ends t→rf k=.inl (v,k+x.length)
theorem num_told {s:ByteArray}{d:Dn} (h:Whole1 d) (hs:s.size≤40000000000):Reads s (numJ s) (textOf d).data.toList (leaf 2 false d ⟨#[]⟩):=by
 intro k t hd ht;obtain ⟨h1,h2,h3⟩:=bw.text_bytes h
 have hin:∀ c∈(textOf d).data.toList,inB numBytes.data.toList c=true:=fun c hc=>by
  rcases h2 c hc with rfl|rfl|q
  · decide
  · decide
  · have hc:48≤c.toNat∧c.toNat≤57:=by simpa [nu.dig] using q
    have e:c=c.toNat.toUInt8:=by simp
    rw [e];have:c.toNat=48∨c.toNat=49∨c.toNat=50∨c.toNat=51∨c.toNat=52∨c.toNat=53∨c.toNat=54∨c.toNat=55∨c.toNat=56∨c.toNat=57:=by omega
    rcases this with e|e|e|e|e|e|e|e|e|e <;> rw [e] <;> decide
 have hnt:numTo s k=k+(textOf d).data.toList.length:=by
  unfold numTo skipTo;rw [hd]
  congr 1
  have hout:∀ c,t.head?=some c→inB numBytes.data.toList c=false:=fun c hc=>by
   rcases ht c hc with rfl|rfl|rfl <;> decide
  generalize (textOf d).data.toList=x at hin;clear hd h1 h2 h3
  induction x with
  | nil =>
    cases t with
    | nil=>rfl
    | cons c t=>rw [List.nil_append,List.takeWhile_cons,hout c rfl];rfl
  | cons a x ih =>
    rw [List.cons_append,List.takeWhile_cons,hin a (by simp)];simp only [if_true,List.length_cons];rw [ih fun c hc=>hin c (by simp [hc])]
 have hz:=drop_size hd (by simp [h1])
 have he:s.extract k (numTo s k)=textOf d:=by
  rw [hnt,pt.cut_take,hd,List.take_left,Array.toArray_toList]
 have hl:(textOf d).data.toList.length=(textOf d).size:=Array.length_toList;unfold numJ numR;rw [he,bw.rparse_text h (by rw [← hl];rw [List.length_append] at hz;omega),if_pos rfl,hnt]
theorem word_told {s wd:ByteArray}{kd:Int}{tr:Bool}:Reads s (wordR wd kd tr s) wd.data.toList (leaf kd tr zed ⟨#[]⟩):=by
 intro k t hd ht;have h2:wd.data.toList.length=wd.size:=Array.length_toList;unfold wordR;rw [if_pos,h2];rw [ext_end,hd];unfold Lib.hasPrefix;exact List.isPrefixOf_iff_prefix.2 (List.prefix_append _ _)
theorem text_told {s X:ByteArray} (hX:Ltc X.data.toList):Reads s (textR s) (txtJ X) (leaf 3 false zed X):=by
 intro k t hd ht;unfold textR;rw [letts_told hX hd]
theorem rowF_told {σ α:Type}{step:σ→Nat→(σ × Nat) ⊕ (Nat × Nat)}{s:ByteArray}{ec:UInt8} (hec:ec=93∨ec=125) (T:α→List UInt8) (I:σ→List α→Prop)
 (hst:∀ st x r k t,I st (x::r)→s.data.toList.drop k=T x++t→(∃ c u,t=c::u∧(c=44∨c=ec))→∃ st',step st k=.inl (st',k+(T x).length)∧I st' r) :
 ∀ (l:List α) (fuel:Nat) (st:σ) (k:Nat) (t:List UInt8),l≠[]→l.length≤fuel→I st l→s.data.toList.drop k=comma (l.map T)++ec::t→∃ st',rowF step (ec.toNat:Int) s fuel st k=.inl (st',k+(comma (l.map T)).length)∧I st' []
 | [],_,_,_,_,h,_,_,_=>absurd rfl h
 | [x],fuel,st,k,t,_,hf,hI,hd=>by
   obtain ⟨g,rfl⟩:∃ g,fuel=g+1:=⟨fuel - 1,by simp at hf;omega⟩;have ec1:comma ([x].map T)=T x:=by simp [comma]
   rw [ec1] at hd ⊢;obtain ⟨st',h1,h2⟩:=hst st x [] k (ec::t) hI hd ⟨ec,t,rfl,.inr rfl⟩;have hd2:=drop_on hd;have hg:gap s (k+(T x).length)=k+(T x).length:=gap_here hd2 (by rcases hec with rfl|rfl <;> decide);have hn:nxt s (k+(T x).length)=(ec.toNat:Int):=nxt_told hd2 (by rcases hec with rfl|rfl <;> decide);refine ⟨st',?_,h2⟩;rw [rowF,h1];simp only;rw [hg,hn,if_neg (by rcases hec with rfl|rfl <;> decide),if_pos rfl]
 | x::y::l,fuel,st,k,t,_,hf,hI,hd=>by
   obtain ⟨g,rfl⟩:∃ g,fuel=g+1:=⟨fuel - 1,by simp at hf;omega⟩;have ec1:comma ((x::y::l).map T)=T x++44::comma ((y::l).map T):=by simp [comma]
   rw [ec1] at hd ⊢;rw [List.append_assoc] at hd;obtain ⟨st',h1,h2⟩:=hst st x (y::l) k _ hI hd ⟨44,_,rfl,.inl rfl⟩;have hd2:=drop_on hd;rw [List.cons_append] at hd2;have hg:gap s (k+(T x).length)=k+(T x).length:=gap_here hd2 (by decide);have hn:nxt s (k+(T x).length)=44:=nxt_told hd2 (by decide)
   have hd3:s.data.toList.drop (k+(T x).length+1)=comma ((y::l).map T)++ec::t:=by
    rw [← List.drop_drop,hd2];rfl
   obtain ⟨st2,h3,h4⟩:=rowF_told hec T I hst (y::l) g st' _ t (by simp) (by simp at hf ⊢;omega) h2 hd3;refine ⟨st2,?_,h4⟩;rw [rowF,h1];simp only;rw [hg,hn,if_pos rfl,h3]
   congr 2
   simp only [List.length_append,List.length_cons];omega
theorem rowR_told {σ α:Type}{step:σ→Nat→(σ × Nat) ⊕ (Nat × Nat)}{s:ByteArray}{ec op:UInt8}{o:Int} (ho:o≠64) (hec:ec=93∨ec=125) (T:α→List UInt8) (I:σ→List α→Prop)
 (hst:∀ st x r k t,I st (x::r)→s.data.toList.drop k=T x++t→(∃ c u,t=c::u∧(c=44∨c=ec))→∃ st',step st k=.inl (st',k+(T x).length)∧I st' r)
 (l:List α) (hT:∀ x∈l,∃ c t,T x=c::t∧hdB c) (st:σ) (k:Nat) (t:List UInt8) (hI:I st l) (hd:s.data.toList.drop k=op::(comma (l.map T)++[ec])++t) :
 ∃ st',rowR step (ec.toNat:Int) s o st k=.inl (st',k+(op::(comma (l.map T)++[ec])).length)∧I st' []:=by
 have hd1:s.data.toList.drop (k+1)=comma (l.map T)++ec::t:=by
  rw [← List.drop_drop,hd];simp
 cases l with
 | nil =>
   rw [show comma (([]:List α).map T)=[] from rfl,List.nil_append] at hd1;have hg:gap s (k+1)=k+1:=gap_here hd1 (by rcases hec with rfl|rfl <;> decide);have hn:nxt s (k+1)=(ec.toNat:Int):=nxt_told hd1 (by rcases hec with rfl|rfl <;> decide);refine ⟨st,?_,hI⟩;unfold rowR;rw [if_neg ho,hg,hn,if_pos rfl];rfl
 | cons x l =>
   obtain ⟨c,u,hx,hc1,hc2,hc3,hc4,hc5⟩:=hT x (by simp)
   have hd2:∃ u',s.data.toList.drop (k+1)=c::u':=by
    rw [hd1];simp only [List.map_cons,comma,hx,List.cons_append];exact ⟨_,rfl⟩
   obtain ⟨u',hd2⟩:=hd2;have hg:gap s (k+1)=k+1:=gap_here hd2 hc2;have hn:nxt s (k+1)=(c.toNat:Int):=nxt_told hd2 hc1
   have hne:¬ nxt s (k+1)=(ec.toNat:Int):=by
    rw [hn];intro e;have e2:c=ec:=UInt8.toNat_inj.1 (by omega)
    rcases hec with rfl|rfl
    · exact hc3 e2
    · exact hc4 e2
   have hz:=drop_size hd1 (by simp)
   have hl:(x::l).length≤s.size+1:=by
    have:∀ l:List α,(∀ x∈l,∃ c t,T x=c::t∧hdB c)→l.length≤(comma (l.map T)).length:=by
     intro l
     induction l with
     | nil=>intro _;simp
     | cons a l ih =>
       intro h;obtain ⟨c,t,e,_⟩:=h a (by simp);have:=ih fun b hb=>h b (by simp [hb])
       cases l with
       | nil=>simp [comma,e]
       | cons b l =>
         have ec1:comma ((a::b::l).map T)=T a++44::comma ((b::l).map T):=by simp [comma]
         rw [ec1,e];simp only [List.length_append,List.length_cons] at this ⊢;omega
    have:=this (x::l) hT;rw [List.length_append] at hz;omega
   obtain ⟨st',h1,h2⟩:=rowF_told hec T I hst (x::l) (s.size+1) st (k+1) t (by simp) hl hI hd1;refine ⟨st',?_,h2⟩;unfold rowR;rw [if_neg ho,hg,if_neg hne,h1];show Sum.inl (st',_+1)=_
   congr 2
   simp only [List.length_append,List.length_cons,List.length_nil];omega
theorem ends_cons {t:List UInt8}{ec:UInt8} (hec:ec=93∨ec=125) (h:∃ c u,t=c::u∧(c=44∨c=ec)):Ends t:=by
 obtain ⟨c,u,rfl,hc⟩:=h;intro c' hc';simp at hc';subst hc'
 rcases hc with rfl|rfl
 · exact .inl rfl
 · exact .inr hec
theorem list_told {s:ByteArray}{n:Nat}{o:Int} (ho:o≠64) {vf:Nat→(JT × Nat) ⊕ (Nat × Nat)}{l:List JT} (hl:∀ v∈l,Pf n v) (hv:∀ v∈l,Reads s vf (prt v) v):Reads s (listR vf s o) (91::(comma (l.map prt)++[93])) (JT.mk 4 false zed ⟨#[]⟩ l []):=by
 intro k t hd ht
 obtain ⟨st',h1,h2⟩:=rowR_told (step:=lstep vf) (ec:=93) (op:=91) ho (.inl rfl) prt (fun st r=>st++r=l) (fun st x r k t hI hd he=>by
  have hx:x∈l:=by rw [← hI];simp
  refine ⟨st++[x],?_,by rw [← hI];simp⟩;unfold lstep
  rw [hv x hx k t hd (ends_cons (.inl rfl) he)]) l (fun x hx=>prt_head (hl x hx)) [] k t rfl hd
 rw [List.append_nil] at h2;subst h2;unfold listR;have h1':rowR (lstep vf) 93 s o [] k=_:=h1;rw [h1']
theorem obj_told {s:ByteArray}{n:Nat}{o:Int} (ho:o≠64) {vf:Nat→(JT × Nat) ⊕ (Nat × Nat)}{f:List (ByteArray × JT)} (hn:∀ p∈f,Ltc p.1.data.toList) (hr:jn.Ris f) (hl:∀ p∈f,Pf n p.2) (hv:∀ p∈f,Reads s vf (prt p.2) p.2) :
 Reads s (objR vf s o) (123::(comma (f.map fun p=>txtJ p.1++[58]++prt p.2)++[125])) (JT.mk 5 false zed ⟨#[]⟩ [] f):=by
 intro k t hd ht
 have hnd:(nms f).Nodup:=by
  unfold nms;unfold jn.Ris at hr;rw [List.Nodup,List.pairwise_map];refine hr.imp fun {a b} q e=>?_
  rw [e,cb.self] at q;omega
 obtain ⟨st',h1,h2⟩:=rowR_told (step:=ostep vf s) (ec:=125) (op:=123) ho (.inr rfl) (fun p:ByteArray × JT=>txtJ p.1++[58]++prt p.2) (fun st r=>st++r=f) (fun st x r k t hI hd he=>by
  have hx:x∈f:=by rw [← hI];simp
  refine ⟨st++[x],?_,by rw [← hI];simp⟩;have hd':s.data.toList.drop k=txtJ x.1++(58::(prt x.2++t)):=by rw [hd];simp
  have hd0:s.data.toList.drop k=34::((ltsF x.1 x.1.size 0++[34])++(58::(prt x.2++t))):=by rw [hd'];rfl
  have hd2:=drop_on hd';have hd3:s.data.toList.drop (k+(txtJ x.1).length+1)=prt x.2++t:=by rw [← List.drop_drop,hd2];rfl
  have hni:¬ x.1.data.toList∈st.map fun p=>p.1.data.toList:=by
   rw [← hI] at hnd;unfold nms at hnd;rw [List.map_append,List.map_cons] at hnd;have:=(List.nodup_append.1 hnd).2.2;intro q;exact this _ q _ (by simp) rfl
  unfold ostep nmR;rw [gap_here hd0 (by decide),if_pos (show nxt s k=34 from nxt_told hd0 (by decide)),letts_told (hn x hx) hd'];simp only;rw [if_neg hni];simp only;unfold fvR;rw [gap_here hd2 (by decide),if_pos (show nxt s (k+(txtJ x.1).length)=58 from nxt_told hd2 (by decide)),hv x hx _ t hd3 (ends_cons (.inr rfl) he)];simp only [Array.toArray_toList]
  congr 2
  simp only [List.length_append,List.length_cons,List.length_nil]
  omega) f (fun x hx=>⟨34,_,rfl,⟨by decide,by decide,by decide,by decide,by decide⟩⟩) [] k t rfl hd
 rw [List.append_nil] at h2;subst h2;unfold objR;have h1':rowR (ostep vf s) 125 s o [] k=_:=h1;rw [h1'];simp only
 have hs:st'=st'.mergeSort leN:=obj_sorted (List.Perm.refl _) (by
  unfold jn.Ris at hr
  exact hr.imp fun {a b} q=>by omega) hnd
 rw [← hs]
theorem val_told {s:ByteArray} (hs:s.size≤40000000000):∀ (n:Nat),∀ v,Pf n v→Reads s (vfN s n) (prt v) v:=by
 have key:∀ (n:Nat) (lf of:Nat→(JT × Nat) ⊕ (Nat × Nat)) (v:JT),Pf n v→(∀ m l,n=m+1→v=JT.mk 4 false zed ⟨#[]⟩ l []→Reads s lf (prt v) v)→(∀ m f,n=m+1→v=JT.mk 5 false zed ⟨#[]⟩ [] f→Reads s of (prt v) v)→Reads s (valR lf of s) (prt v) v:=by
  intro n lf of v hv hL hO k t hd ht;have hv':=hv;obtain ⟨c,u,hc,hb1,hb2,_⟩:=prt_head hv;have hd0:s.data.toList.drop k=c::(u++t):=by rw [hd,hc];rfl
  have hg:=gap_here hd0 hb2;have hx:=nxt_told hd0 hb1;unfold valR;rw [hg,hx]
  cases hv with
  | null =>
    have e:prt (leaf 0 false zed ⟨#[]⟩)=[110,117,108,108]:=by rw [prt_leaf];rfl
    rw [e] at hc hd ⊢;have:c=110:=(List.cons.inj hc).1.symm;subst this;rw [if_pos (by decide)];exact word_told (wd:=⟨#[110,117,108,108]⟩) k t hd ht
  | truth n b =>
    cases b
    · have e:prt (leaf 1 false zed ⟨#[]⟩)=[102,97,108,115,101]:=by rw [prt_leaf];rfl
      rw [e] at hc hd ⊢;have:c=102:=(List.cons.inj hc).1.symm;subst this;rw [if_neg (by decide),if_neg (by decide),if_pos (by decide)];exact word_told (wd:=⟨#[102,97,108,115,101]⟩) k t hd ht
    · have e:prt (leaf 1 true zed ⟨#[]⟩)=[116,114,117,101]:=by rw [prt_leaf];rfl
      rw [e] at hc hd ⊢;have:c=116:=(List.cons.inj hc).1.symm;subst this;rw [if_neg (by decide),if_pos (by decide)];exact word_told (wd:=⟨#[116,114,117,101]⟩) k t hd ht
  | num n h hz =>
    rename_i d
    have e:prt (leaf 2 false d ⟨#[]⟩)=(textOf d).data.toList:=by rw [prt_leaf,if_neg (by decide),if_pos rfl,wh.whole_id h]
    rw [e] at hc hd ⊢;obtain ⟨_,h3,h4,h5,h6⟩:=hd_dig ((bw.text_bytes h).2.2 c (by rw [hc];rfl));have ne:∀ z:UInt8,c≠z→¬ ((c.toNat:Nat):Int)=((z.toNat:Nat):Int):=fun z hz e=>hz (UInt8.toNat_inj.1 (by omega))
    rw [if_neg (show ¬ ((c.toNat:Nat):Int)=110 from ne 110 h4),if_neg (show ¬ ((c.toNat:Nat):Int)=116 from ne 116 h5),if_neg (show ¬ ((c.toNat:Nat):Int)=102 from ne 102 h6),if_pos h3];exact num_told h hs k t hd ht
  | text n h hz =>
    rename_i x
    have e:prt (leaf 3 false zed x)=txtJ x:=by rw [prt_leaf];rfl
    rw [e] at hc hd ⊢;have:c=34:=(List.cons.inj hc).1.symm;subst this;rw [if_neg (by decide),if_neg (by decide),if_neg (by decide),if_neg (by decide),if_pos (by decide)];exact text_told h k t hd ht
  | @list m l h hz =>
    have:c=91:=by rw [prt_mk] at hc;exact (List.cons.inj hc).1.symm
    subst this;rw [if_neg (by decide),if_neg (by decide),if_neg (by decide),if_neg (by decide),if_neg (by decide),if_pos (by decide)];exact hL m l rfl rfl k t hd ht
  | @obj m f hn hr h hz =>
    have:c=123:=by rw [prt_mk] at hc;exact (List.cons.inj hc).1.symm
    subst this;rw [if_neg (by decide),if_neg (by decide),if_neg (by decide),if_neg (by decide),if_neg (by decide),if_neg (by decide),if_pos (by decide)];exact hO m f rfl rfl k t hd ht
 intro n
 induction n with
 | zero =>
   intro v hv;exact key 0 _ _ v hv (fun m _ e=>by omega) (fun m _ e=>by omega)
 | succ n ih =>
   intro v hv;refine key (n+1) _ _ v hv (fun m l e ev=>?_) (fun m f e ev=>?_)
   · subst ev
     cases hv with
     | list h hz =>
       have:=list_told (s:=s) (n:=n) (o:=64 - ((n+1:Nat):Int)) (by omega) h (fun v hv=>ih v (h v hv));rw [prt_mk];exact this
   · subst ev
     cases hv with
     | obj hnm hr h hz =>
       have:=obj_told (s:=s) (n:=n) (o:=64 - ((n+1:Nat):Int)) (by omega) (fun p hp=>(hnm p hp).1) hr h (fun p hp=>ih p.2 (h p hp));rw [prt_mk];exact this
theorem parse_prt {v:JT} (h:Pf 64 v) (hs:(prt v).length≤1048576):parseJ ⟨(prt v).toArray⟩=.inl v:=by
 have hz:(⟨(prt v).toArray⟩:ByteArray).size=(prt v).length:=List.size_toArray;have hd:(⟨(prt v).toArray⟩:ByteArray).data.toList.drop 0=prt v++[]:=by simp
 have h1:=val_told (s:=⟨(prt v).toArray⟩) (by omega) 64 v h 0 [] hd (fun c hc=>by simp at hc);unfold parseJ;rw [if_neg (by omega),h1];simp only
 have hg:gap ⟨(prt v).toArray⟩ (0+(prt v).length)=(prt v).length:=by
  unfold gap;rw [Nat.zero_add];exact skipTo_end _ _ _ (by omega)
 rw [hg,if_pos];unfold nxt;rw [if_pos hz.symm]
end Go.Proofs.YthnhobplgmojeaaGreatDoor.rd
