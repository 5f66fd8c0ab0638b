/- Texts in one: Ia Ua Ap ApV ApF -/
import Derived.Test.YthakglomacijgaaGreatDoorOdPG
import Derived.Test.YthakglomacijgaaGreatDoorMrPG
import Derived.Deep.AppendLies
import Derived.OwnWalk
namespace Go.Proofs.YthakglomacijgaaGreatDoor.rd
open Go.RowKit
inductive JT where
 | mk (k:Int) (t:Bool) (d:Dn) (x:ByteArray) (l:List JT) (f:List (ByteArray × JT))
def own (v:Value):List Nat:=v.ownBlock.toList
def fcs (f:List (ByteArray × JT)) (gss:List (List Value)):List Value:=(List.zipWith (fun p c=>Value.string p.1::c) f gss).flatten
inductive VRep (w:World) (B:Nat):JT→List Value→List Nat→Prop
 | mk {k:Int}{t:Bool}{d:Dn}{x:ByteArray}{l:List JT}{f:List (ByteArray × JT)}{lv fv:Value}{css gss:List (List Value)}{ps qs:List (List Nat)}
  (hl:w.ownsRow B 27 8 lv l.length css.flatten) (hf:w.ownsRow B 62 9 fv f.length (fcs f gss))
  (h1:css.length=l.length) (h2:ps.length=l.length) (h3:gss.length=f.length) (h4:qs.length=f.length)
  (hle:∀ (i:Nat) (v:JT) (c:List Value) (p:List Nat),l[i]?=some v→css[i]?=some c→ps[i]?=some p→VRep w B v c p)
  (hfe:∀ (i:Nat) (n:ByteArray) (v:JT) (c:List Value) (p:List Nat),f[i]?=some (n,v)→gss[i]?=some c→qs[i]?=some p→VRep w B v c p) :
  VRep w B (JT.mk k t d x l f) [.int .i64 k,.bool t,.bool d.neg,.string d.dg,.int .i64 d.ex,.string x,lv,fv] (own lv++own fv++ps.flatten++qs.flatten)
theorem owns_keep {w w':World}{B:Nat}{e:TypeId}{size:Nat}{v:Value}{n:Nat}{xs:List Value} (h:w.ownsRow B e size v n xs) (hk:∀ b∈own v,w'.heap[b]?=w.heap[b]?):w'.ownsRow B e size v n xs:=by
 refine ⟨h.1,?_⟩
 rcases h.2 with h2|⟨g,cap,cur,rfl,hb,hg,rest⟩
 · exact .inl h2
 · exact .inr ⟨g,cap,cur,rfl,hb,(hk g (by simp [own,Value.ownBlock])).trans hg,rest⟩
theorem owns_base {w:World}{B B':Nat}{e:TypeId}{size:Nat}{v:Value}{n:Nat}{xs:List Value} (h:w.ownsRow B e size v n xs) (hB:B'≤B):w.ownsRow B' e size v n xs:=by
 refine ⟨h.1,?_⟩
 rcases h.2 with h2|⟨g,cap,cur,rfl,hb,rest⟩
 · exact .inl h2
 · exact .inr ⟨g,cap,cur,rfl,by omega,rest⟩
theorem owns_ge {w:World}{B:Nat}{e:TypeId}{size:Nat}{v:Value}{n:Nat}{xs:List Value} (h:w.ownsRow B e size v n xs):∀ b∈own v,B≤b∧b < w.heap.size:=by
 intro b hbm
 rcases h.2 with ⟨rfl,_⟩|⟨g,cap,cur,rfl,hb,hg,rest⟩
 · simp [own,Value.ownBlock] at hbm
 · simp [own,Value.ownBlock] at hbm
   subst hbm
   exact ⟨hb,blk_lt hg⟩
theorem mem_flat {ps:List (List Nat)}{i:Nat}{p:List Nat} (h:ps[i]?=some p) {b:Nat} (hb:b∈p):b∈ps.flatten:=List.mem_flatten.2 ⟨p,List.mem_of_getElem? h,hb⟩
theorem VRep.keep {w w':World}{B:Nat}{v:JT}{cs:List Value}{p:List Nat} (h:VRep w B v cs p):(∀ b∈p,w'.heap[b]?=w.heap[b]?)→VRep w' B v cs p:=by
 induction h with
 | mk hl hf h1 h2 h3 h4 hle hfe ih1 ih2 =>
   intro hk
   refine .mk (owns_keep hl fun b hb=>hk b (by simp [hb])) (owns_keep hf fun b hb=>hk b (by simp [hb])) h1 h2 h3 h4 ?_ ?_
   · intro i v c p e1 e2 e3
     exact ih1 i v c p e1 e2 e3 fun b hb=>hk b (by have:=mem_flat e3 hb;simp [this])
   · intro i n v c p e1 e2 e3
     exact ih2 i n v c p e1 e2 e3 fun b hb=>hk b (by have:=mem_flat e3 hb;simp [this])
theorem VRep.base {w:World}{B B':Nat}{v:JT}{cs:List Value}{p:List Nat} (h:VRep w B v cs p) (hB:B'≤B):VRep w B' v cs p:=by
 induction h with
 | mk hl hf h1 h2 h3 h4 hle hfe ih1 ih2=>exact .mk (owns_base hl hB) (owns_base hf hB) h1 h2 h3 h4 ih1 ih2
theorem VRep.ge {w:World}{B:Nat}{v:JT}{cs:List Value}{p:List Nat} (h:VRep w B v cs p):∀ b∈p,B≤b∧b < w.heap.size:=by
 induction h with
 | mk hl hf h1 h2 h3 h4 hle hfe ih1 ih2 =>
   intro b hb
   simp only [List.mem_append] at hb
   rcases hb with ((hb|hb)|hb)|hb
   · exact owns_ge hl b hb
   · exact owns_ge hf b hb
   · obtain ⟨p,hp,hbp⟩:=List.mem_flatten.1 hb
     obtain ⟨i,hi⟩:=List.getElem?_of_mem hp
     obtain ⟨hlt,_⟩:=List.getElem?_eq_some_iff.1 hi
     exact ih1 i _ _ p (List.getElem?_eq_getElem (by omega)) (List.getElem?_eq_getElem (by omega)) hi b hbp
   · obtain ⟨p,hp,hbp⟩:=List.mem_flatten.1 hb
     obtain ⟨i,hi⟩:=List.getElem?_of_mem hp
     obtain ⟨hlt,_⟩:=List.getElem?_eq_some_iff.1 hi
     exact ih2 i _ _ _ p (List.getElem?_eq_getElem (by omega)) (List.getElem?_eq_getElem (by omega)) hi b hbp
theorem VRep.eight {w:World}{B:Nat}{v:JT}{cs:List Value}{p:List Nat} (h:VRep w B v cs p):∃ a0 a1 a2 a3 a4 a5 a6 a7,cs=[a0,a1,a2,a3,a4,a5,a6,a7]:=by
 cases h
 exact ⟨_,_,_,_,_,_,_,_,rfl⟩
inductive VR (w:World):JT→List Value→Prop
 | mk {k:Int}{t:Bool}{d:Dn}{x:ByteArray}{l:List JT}{f:List (ByteArray × JT)}{lv fv:Value}{css gss:List (List Value)}
  (hl:mm.SV w lv l.length 8 css.flatten) (hf:mm.SV w fv f.length 9 (fcs f gss))
  (h1:css.length=l.length) (h3:gss.length=f.length)
  (hle:∀ (i:Nat) (v:JT) (c:List Value),l[i]?=some v→css[i]?=some c→VR w v c)
  (hfe:∀ (i:Nat) (n:ByteArray) (v:JT) (c:List Value),f[i]?=some (n,v)→gss[i]?=some c→VR w v c) :
  VR w (JT.mk k t d x l f) [.int .i64 k,.bool t,.bool d.neg,.string d.dg,.int .i64 d.ex,.string x,lv,fv]
theorem VRep.vr {w:World}{B:Nat}{v:JT}{cs:List Value}{p:List Nat} (h:VRep w B v cs p):VR w v cs:=by
 induction h with
 | mk hl hf h1 h2 h3 h4 hle hfe ih1 ih2 =>
   refine .mk (mm.own_sv hl) (mm.own_sv hf) h1 h3 (fun i v c e1 e2=>?_) (fun i n v c e1 e2=>?_)
   · obtain ⟨hlt,_⟩:=List.getElem?_eq_some_iff.1 e1
     exact ih1 i v c _ e1 e2 (List.getElem?_eq_getElem (by omega))
   · obtain ⟨hlt,_⟩:=List.getElem?_eq_some_iff.1 e1
     exact ih2 i n v c _ e1 e2 (List.getElem?_eq_getElem (by omega))
theorem VR.keep {w w':World}{v:JT}{cs:List Value} (h:VR w v cs) (hb:Below w.heap.size w w'):VR w' v cs:=by
 induction h with
 | mk hl hf h1 h3 hle hfe ih1 ih2=>exact .mk (hl.keep hb) (hf.keep hb) h1 h3 ih1 ih2
theorem VR.drewN {w:World}{v:JT}{cs:List Value} (h:VR w v cs) (n:Nat):VR (w.drewN n) v cs:=h.keep (mm.below_drewN _ _ _)
theorem VR.eight {w:World}{v:JT}{cs:List Value} (h:VR w v cs):∃ a0 a1 a2 a3 a4 a5 a6 a7,cs=[a0,a1,a2,a3,a4,a5,a6,a7]:=by
 cases h
 exact ⟨_,_,_,_,_,_,_,_,rfl⟩
theorem VR.len {w:World}{v:JT}{cs:List Value} (h:VR w v cs):cs.length=8:=by
 cases h
 rfl
theorem VR.one {w:World}{v:JT}{cs:List Value} (h:VR w v cs):∀ u∈cs,u.oneCell'=true:=by
 cases h with
 | mk hl hf _ _ _ _ =>
   obtain ⟨oa,c,rfl,_⟩:=mm.SV.form hl
   obtain ⟨oa',c',rfl,_⟩:=mm.SV.form hf
   intro u hu
   simp only [List.mem_cons,List.not_mem_nil,or_false] at hu
   rcases hu with rfl|rfl|rfl|rfl|rfl|rfl|rfl|rfl <;> rfl
theorem flat_at {α:Type}{css:List (List α)}{s:Nat} (hs:∀ c∈css,c.length=s):∀ {i:Nat}{c:List α},css[i]?=some c→∀ {j:Nat},j < s→css.flatten[i*s+j]?=c[j]?:=by
 induction css with
 | nil=>intro i c h;simp at h
 | cons a css ih =>
   intro i c h j hj
   have ha:=hs a (by simp)
   cases i with
   | zero =>
     simp at h
     subst h
     rw [List.flatten_cons,Nat.zero_mul,Nat.zero_add,List.getElem?_append_left (by omega)]
   | succ i =>
     rw [List.getElem?_cons_succ] at h
     have:=ih (fun c hc=>hs c (by simp [hc])) h hj
     rw [List.flatten_cons,List.getElem?_append_right (by rw [ha,Nat.succ_mul];omega),ha]
     rw [show (i+1)*s+j - s=i*s+j by rw [Nat.succ_mul];omega]
     exact this
inductive Bd:JT→Prop
 | mk {k:Int}{t:Bool}{d:Dn}{x:ByteArray}{l:List JT}{f:List (ByteArray × JT)} (hk:-9223372036854775808≤k∧k≤9223372036854775807) (h0:d.dg.size≤1099511627776) (h1:-9223372036854775808≤d.ex∧d.ex≤9223372036854775807) (h2:x.size≤35184372088832)
  (h3:l.length≤100000000000) (h4:f.length≤100000000000) (hl:∀ v∈l,Bd v) (hn:∀ p∈f,p.1.size≤35184372088832) (hf:∀ p∈f,Bd p.2):Bd (JT.mk k t d x l f)
theorem cells8 {w:World}{ad:Addr}{a0 a1 a2 a3 a4 a5 a6 a7:Value} (h:∀ (j:Nat) (u:Value),[a0,a1,a2,a3,a4,a5,a6,a7][j]?=some u→w.cell? (ad.add j)=some u) :
 w.cell? ad=some a0∧w.cell? ⟨ad.block,ad.off+1,none⟩=some a1∧w.cell? ⟨ad.block,ad.off+2,none⟩=some a2∧w.cell? ⟨ad.block,ad.off+3,none⟩=some a3∧w.cell? ⟨ad.block,ad.off+4,none⟩=some a4∧w.cell? ⟨ad.block,ad.off+5,none⟩=some a5∧w.cell? ⟨ad.block,ad.off+6,none⟩=some a6∧w.cell? ⟨ad.block,ad.off+7,none⟩=some a7 :=
 ⟨h 0 a0 rfl,h 1 a1 rfl,h 2 a2 rfl,h 3 a3 rfl,h 4 a4 rfl,h 5 a5 rfl,h 6 a6 rfl,h 7 a7 rfl⟩
theorem sv_at {w:World}{a:Addr}{s:Nat}{css:List (List Value)} (hs:∀ c∈css,c.length=s) (h:∀ (j:Nat) (u:Value),css.flatten[j]?=some u→w.cell? (a.add j)=some u) {k:Nat}{c:List Value} (hc:css[k]?=some c) :
 ∀ (j:Nat) (u:Value),c[j]?=some u→w.cell? ((a.add (k*s)).add j)=some u:=by
 intro j u hu
 rw [mm.add_add]
 have hl:=hs c (List.mem_of_getElem? hc)
 obtain ⟨hj,_⟩:=List.getElem?_eq_some_iff.1 hu
 exact h _ u (by rw [flat_at hs hc (by omega)];exact hu)
end Go.Proofs.YthakglomacijgaaGreatDoor.rd
namespace Go.Proofs.YthakglomacijgaaGreatDoor.pt
open Go.RowKit
def fol (s:ByteArray) (k lo hi:Nat):Bool:=match s.data.toList[k]? with
 | some c=>decide (lo≤c.toNat∧c.toNat≤hi)
 | none=>false
theorem fol_end (s:ByteArray) (k lo hi:Nat) (h:s.size≤k):fol s k lo hi=false:=by
 unfold fol
 rw [List.getElem?_eq_none (by rw [Array.length_toList];exact h)]
theorem fol_at (s:ByteArray) (k lo hi:Nat) (h:k < s.size):fol s k lo hi=decide (lo≤s[k].toNat∧s[k].toNat≤hi):=by
 unfold fol
 have h2:k < s.data.toList.length:=by rw [Array.length_toList];exact h
 rw [List.getElem?_eq_getElem h2]
 rfl
def loC (c:Nat):Nat:=if c=224 then 160 else if c=240 then 144 else 128
def hiC (c:Nat):Nat:=if c=237 then 159 else if c=244 then 143 else 191
def ltrC (c:Nat) (b2 b3 b4:Bool):Nat :=
 if c < 128 then 1 else if c < 194∨244 < c then 0 else
 if c < 224 then (if b2=true then 2 else 0) else if c < 240 then (if b2=true∧b3=true then 3 else 0) else (if b2=true∧b3=true∧b4=true then 4 else 0)
def ltr (s:ByteArray) (k:Nat):Nat:=match s.data.toList[k]? with
 | some c=>ltrC c.toNat (fol s (k+1) (loC c.toNat) (hiC c.toNat)) (fol s (k+2) 128 191) (fol s (k+3) 128 191)
 | none=>0
end Go.Proofs.YthakglomacijgaaGreatDoor.pt
namespace Go.Proofs.YthakglomacijgaaGreatDoor.ap
open Go.RowKit
open Go.Proofs.YthakglomacijgaaGreatDoor.mm (row_keep row_lt row_set row_mono row_below Apd)
def sets (g:Nat):World→Nat→List Value→World
 | w,_,[]=>w
 | w,o,c::cs=>sets g (w.setCell ⟨g,o,none⟩ c) (o+1) cs
def lsets:List Value→Nat→List Value→List Value
 | xs,_,[]=>xs
 | xs,o,c::cs=>lsets (xs.set o c) (o+1) cs
def OP (e s:Nat) (w:World) (B:Nat) (v:Value) (l:List (List Value)):Prop:=w.ownsRow B e s v l.length l.flatten∧∀ c∈l,c.length=s
section
variable {e s:Nat}
end
end Go.Proofs.YthakglomacijgaaGreatDoor.ap
namespace Go.Proofs.YthakglomacijgaaGreatDoor.apv
open Go.RowKit Go.Proofs.YthakglomacijgaaGreatDoor.ap
open Go.Proofs.YthakglomacijgaaGreatDoor.mm (row_keep row_lt)
def p1 (i:Nat):List Value:=[.int .i64 (100+(i:Int)),.bool false,.bool false,.string ⟨#[]⟩,.int .i64 0,.string ⟨#[]⟩,.slice none 0 0,.slice none 0 0]
def p4 (i:Nat):List Value:=[.int .i64 (-100 - (i:Int)),.bool false,.bool false,.string ⟨#[]⟩,.int .i64 0,.string ⟨#[]⟩,.slice none 0 0,.slice none 0 0]
abbrev OB (w:World) (B:Nat) (v:Value) (l:List (List Value)):Prop:=OP 27 8 w B v l
def RF (w:World) (B:Nat) (vs:List Value) (ls:List (List (List Value))) (f:Nat→List (List Value)→List (List Value)):Prop :=
 ∀ (j:Nat) (x:Value) (l:List (List Value)),vs[j]?=some x→ls[j]?=some l→OB w B x (f j l)
def DS (vs:List Value):Prop:=∀ (i j:Nat) (x y:Value) (k:Nat),i≠j→vs[i]?=some x→vs[j]?=some y→x.ownBlock=some k→y.ownBlock≠some k
def HD (w:World) (oa:Option Addr) (vs:List Value):Prop:=∀ a,oa=some a→∀ (j:Nat) (u:Value),vs[j]?=some u→w.cell? (a.add j)=some u
def AW (oa:Option Addr) (vs:List Value):Prop:=∀ a,oa=some a→∀ (j:Nat) (x:Value) (k:Nat),vs[j]?=some x→x.ownBlock=some k→a.block≠k
def f1 (i:Nat) (j:Nat) (l:List (List Value)):List (List Value):=if j < i then List.replicate l.length (p1 j) else l
def f2 (i k:Nat) (j:Nat) (l:List (List Value)):List (List Value):=if j < i then List.replicate l.length (p1 j) else if j=i then List.replicate k (p1 i)++l.drop k else l
structure LG (w:World) (B F0:Nat) (vs:List Value) (ls:List (List (List Value))) (i:Nat) (lv:Value) (xs:List Value):Prop where
 row:w.ownsRow B 24 1 lv i xs
 len:xs.length=i
 own:∀ (j:Nat) (x:Value) (l:List (List Value)),xs[j]?=some x→ls[j]?=some l→OB w B x (List.replicate l.length (p1 j)++List.replicate 6 (p4 j))
 blk:∀ (j:Nat) (x y:Value) (k:Nat),xs[j]?=some x→vs[j]?=some y→x.ownBlock=some k→y.ownBlock=some k∨F0≤k
 new:∀ k,lv.ownBlock=some k→F0≤k
 sep:∀ (j:Nat) (x:Value) (k:Nat),xs[j]?=some x→x.ownBlock=some k→lv.ownBlock≠some k
def Oth (w w':World) (vs:List Value):Prop:=∀ q,q < w.heap.size→(∀ (j:Nat) (x:Value),vs[j]?=some x→x.ownBlock≠some q)→w'.heap[q]?=w.heap[q]?
structure C4 (B F0 Fi:Nat) (vs:List Value) (ls:List (List (List Value))) (oa:Option Addr) (i n:Nat) (l:List (List Value)) (lv:Value) (xs:List Value) (yv:Value):Prop where
 hy:vs[i]?=some yv
 hl:ls[i]?=some l
 ds:DS vs
 v0:∀ (j:Nat) (y:Value) (k:Nat),vs[j]?=some y→y.ownBlock=some k→k < F0
 p1:∀ k,lv.ownBlock=some k→k < Fi
 p2:∀ (j:Nat) (x:Value) (k:Nat),xs[j]?=some x→x.ownBlock=some k→k < Fi
 le:F0≤Fi
 aw:AW oa vs
 ho:∀ a,oa=some a→a.block < F0
 bf:B≤F0
 xl:xs.length=i
 vl:vs.length=ls.length
 ni:i < n
structure S4 (w:World) (B F0 Fi:Nat) (vs:List Value) (ls:List (List (List Value))) (oa:Option Addr) (i n k:Nat) (l:List (List Value)) (lv:Value) (xs:List Value) (yv xv:Value) (wq:World):Prop where
 x1:OB wq B xv (List.replicate l.length (p1 i)++List.replicate k (p4 i))
 x2:(∃ g cc,yv=.slice (some ⟨g,0,none⟩) l.length cc∧xv=.slice (some ⟨g,0,none⟩) (l.length+k) cc)∨(∀ q,xv.ownBlock=some q→Fi≤q)
 x3:RF wq B vs ls (f1 n)
 x4:LG wq B F0 vs ls i lv xs
 x5:HD wq oa vs
 x6:Below B w wq
 x7:Fi≤wq.heap.size
 x8:Oth w wq vs
 x9:w.heap.size≤F0
structure S3 (w:World) (B F0:Nat) (vs:List Value) (ls:List (List (List Value))) (oa:Option Addr) (n i:Nat) (lv:Value) (xs:List Value) (wr:World):Prop where
 x3:RF wr B vs ls (f1 n)
 x4:LG wr B F0 vs ls i lv xs
 x5:HD wr oa vs
 x6:Below B w wr
 x7:F0≤wr.heap.size
 x8:Oth w wr vs
 x9:w.heap.size≤F0
end Go.Proofs.YthakglomacijgaaGreatDoor.apv
namespace Go.Proofs.YthakglomacijgaaGreatDoor.apf
open Go.RowKit Go.Proofs.YthakglomacijgaaGreatDoor.ap
open Go.Proofs.YthakglomacijgaaGreatDoor.mm (row_keep row_lt)
def p1 (i:Nat):List Value:=[.string ⟨#[]⟩,.int .i64 (100+(i:Int)),.bool false,.bool false,.string ⟨#[]⟩,.int .i64 0,.string ⟨#[]⟩,.slice none 0 0,.slice none 0 0]
def p4 (i:Nat):List Value:=[.string ⟨#[]⟩,.int .i64 (-100 - (i:Int)),.bool false,.bool false,.string ⟨#[]⟩,.int .i64 0,.string ⟨#[]⟩,.slice none 0 0,.slice none 0 0]
abbrev OB (w:World) (B:Nat) (v:Value) (l:List (List Value)):Prop:=OP 62 9 w B v l
def RF (w:World) (B:Nat) (vs:List Value) (ls:List (List (List Value))) (f:Nat→List (List Value)→List (List Value)):Prop :=
 ∀ (j:Nat) (x:Value) (l:List (List Value)),vs[j]?=some x→ls[j]?=some l→OB w B x (f j l)
def DS (vs:List Value):Prop:=∀ (i j:Nat) (x y:Value) (k:Nat),i≠j→vs[i]?=some x→vs[j]?=some y→x.ownBlock=some k→y.ownBlock≠some k
def HD (w:World) (oa:Option Addr) (vs:List Value):Prop:=∀ a,oa=some a→∀ (j:Nat) (u:Value),vs[j]?=some u→w.cell? (a.add j)=some u
def AW (oa:Option Addr) (vs:List Value):Prop:=∀ a,oa=some a→∀ (j:Nat) (x:Value) (k:Nat),vs[j]?=some x→x.ownBlock=some k→a.block≠k
def f1 (i:Nat) (j:Nat) (l:List (List Value)):List (List Value):=if j < i then List.replicate l.length (p1 j) else l
def f2 (i k:Nat) (j:Nat) (l:List (List Value)):List (List Value):=if j < i then List.replicate l.length (p1 j) else if j=i then List.replicate k (p1 i)++l.drop k else l
structure LG (w:World) (B F0:Nat) (vs:List Value) (ls:List (List (List Value))) (i:Nat) (lv:Value) (xs:List Value):Prop where
 row:w.ownsRow B 25 1 lv i xs
 len:xs.length=i
 own:∀ (j:Nat) (x:Value) (l:List (List Value)),xs[j]?=some x→ls[j]?=some l→OB w B x (List.replicate l.length (p1 j)++List.replicate 6 (p4 j))
 blk:∀ (j:Nat) (x y:Value) (k:Nat),xs[j]?=some x→vs[j]?=some y→x.ownBlock=some k→y.ownBlock=some k∨F0≤k
 new:∀ k,lv.ownBlock=some k→F0≤k
 sep:∀ (j:Nat) (x:Value) (k:Nat),xs[j]?=some x→x.ownBlock=some k→lv.ownBlock≠some k
def Oth (w w':World) (vs:List Value):Prop:=∀ q,q < w.heap.size→(∀ (j:Nat) (x:Value),vs[j]?=some x→x.ownBlock≠some q)→w'.heap[q]?=w.heap[q]?
structure C4 (B F0 Fi:Nat) (vs:List Value) (ls:List (List (List Value))) (oa:Option Addr) (i n:Nat) (l:List (List Value)) (lv:Value) (xs:List Value) (yv:Value):Prop where
 hy:vs[i]?=some yv
 hl:ls[i]?=some l
 ds:DS vs
 v0:∀ (j:Nat) (y:Value) (k:Nat),vs[j]?=some y→y.ownBlock=some k→k < F0
 p1:∀ k,lv.ownBlock=some k→k < Fi
 p2:∀ (j:Nat) (x:Value) (k:Nat),xs[j]?=some x→x.ownBlock=some k→k < Fi
 le:F0≤Fi
 aw:AW oa vs
 ho:∀ a,oa=some a→a.block < F0
 bf:B≤F0
 xl:xs.length=i
 vl:vs.length=ls.length
 ni:i < n
structure S4 (w:World) (B F0 Fi:Nat) (vs:List Value) (ls:List (List (List Value))) (oa:Option Addr) (i n k:Nat) (l:List (List Value)) (lv:Value) (xs:List Value) (yv xv:Value) (wq:World):Prop where
 x1:OB wq B xv (List.replicate l.length (p1 i)++List.replicate k (p4 i))
 x2:(∃ g cc,yv=.slice (some ⟨g,0,none⟩) l.length cc∧xv=.slice (some ⟨g,0,none⟩) (l.length+k) cc)∨(∀ q,xv.ownBlock=some q→Fi≤q)
 x3:RF wq B vs ls (f1 n)
 x4:LG wq B F0 vs ls i lv xs
 x5:HD wq oa vs
 x6:Below B w wq
 x7:Fi≤wq.heap.size
 x8:Oth w wq vs
 x9:w.heap.size≤F0
structure S3 (w:World) (B F0:Nat) (vs:List Value) (ls:List (List (List Value))) (oa:Option Addr) (n i:Nat) (lv:Value) (xs:List Value) (wr:World):Prop where
 x3:RF wr B vs ls (f1 n)
 x4:LG wr B F0 vs ls i lv xs
 x5:HD wr oa vs
 x6:Below B w wr
 x7:F0≤wr.heap.size
 x8:Oth w wr vs
 x9:w.heap.size≤F0
end Go.Proofs.YthakglomacijgaaGreatDoor.apf
