/- Texts in one: Ia Ua Ap ApV ApF -/
import Derived.Test.YthakglomacijgaaGreatDoorOdPR
import Derived.Test.YthakglomacijgaaGreatDoorMrPR
import Derived.Deep.AppendLies
import Derived.OwnWalk
namespace Go.Proofs.YthakglomacijgaaGreatDoor.rd
open Go.RowKit
inductive JT where
 | mk (k:Int) (t:Bool) (d:Dn) (x:ByteArray) (l:List JT) (f:List (ByteArray × JT))
def own (v:Value):List Nat:=v.ownBlock.toList
def fcs (f:List (ByteArray × JT)) (gss:List (List Value)):List Value:=(List.zipWith (fun p c=>Value.string p.1::c) f gss).flatten
inductive VRep (w:World) (B:Nat):JT→List Value→List Nat→Prop
 | mk {k:Int}{t:Bool}{d:Dn}{x:ByteArray}{l:List JT}{f:List (ByteArray × JT)}{lv fv:Value}{css gss:List (List Value)}{ps qs:List (List Nat)}
  (hl:w.ownsRow B 27 8 lv l.length css.flatten) (hf:w.ownsRow B 62 9 fv f.length (fcs f gss))
  (h1:css.length=l.length) (h2:ps.length=l.length) (h3:gss.length=f.length) (h4:qs.length=f.length)
  (hle:∀ (i:Nat) (v:JT) (c:List Value) (p:List Nat),l[i]?=some v→css[i]?=some c→ps[i]?=some p→VRep w B v c p)
  (hfe:∀ (i:Nat) (n:ByteArray) (v:JT) (c:List Value) (p:List Nat),f[i]?=some (n,v)→gss[i]?=some c→qs[i]?=some p→VRep w B v c p) :
  VRep w B (JT.mk k t d x l f) [.int .i64 k,.bool t,.bool d.neg,.string d.dg,.int .i64 d.ex,.string x,lv,fv] (own lv++own fv++ps.flatten++qs.flatten)
theorem owns_keep {w w':World}{B:Nat}{e:TypeId}{size:Nat}{v:Value}{n:Nat}{xs:List Value} (h:w.ownsRow B e size v n xs) (hk:∀ b∈own v,w'.heap[b]?=w.heap[b]?):w'.ownsRow B e size v n xs:=by
 refine ⟨h.1,?_⟩
 rcases h.2 with h2|⟨g,cap,cur,rfl,hb,hg,rest⟩
 · exact .inl h2
 · exact .inr ⟨g,cap,cur,rfl,hb,(hk g (by simp [own,Value.ownBlock])).trans hg,rest⟩
theorem owns_base {w:World}{B B':Nat}{e:TypeId}{size:Nat}{v:Value}{n:Nat}{xs:List Value} (h:w.ownsRow B e size v n xs) (hB:B'≤B):w.ownsRow B' e size v n xs:=by
 refine ⟨h.1,?_⟩
 rcases h.2 with h2|⟨g,cap,cur,rfl,hb,rest⟩
 · exact .inl h2
 · exact .inr ⟨g,cap,cur,rfl,by omega,rest⟩
theorem owns_ge {w:World}{B:Nat}{e:TypeId}{size:Nat}{v:Value}{n:Nat}{xs:List Value} (h:w.ownsRow B e size v n xs):∀ b∈own v,B≤b∧b < w.heap.size:=by
 intro b hbm
 rcases h.2 with ⟨rfl,_⟩|⟨g,cap,cur,rfl,hb,hg,rest⟩
 · simp [own,Value.ownBlock] at hbm
 · simp [own,Value.ownBlock] at hbm
   subst hbm;exact ⟨hb,blk_lt hg⟩
theorem mem_flat {ps:List (List Nat)}{i:Nat}{p:List Nat} (h:ps[i]?=some p) {b:Nat} (hb:b∈p):b∈ps.flatten:=List.mem_flatten.2 ⟨p,List.mem_of_getElem? h,hb⟩
theorem VRep.keep {w w':World}{B:Nat}{v:JT}{cs:List Value}{p:List Nat} (h:VRep w B v cs p):(∀ b∈p,w'.heap[b]?=w.heap[b]?)→VRep w' B v cs p:=by
 induction h with
 | mk hl hf h1 h2 h3 h4 hle hfe ih1 ih2 =>
   intro hk;refine .mk (owns_keep hl fun b hb=>hk b (by simp [hb])) (owns_keep hf fun b hb=>hk b (by simp [hb])) h1 h2 h3 h4 ?_ ?_
   · intro i v c p e1 e2 e3
     exact ih1 i v c p e1 e2 e3 fun b hb=>hk b (by have:=mem_flat e3 hb;simp [this])
   · intro i n v c p e1 e2 e3
     exact ih2 i n v c p e1 e2 e3 fun b hb=>hk b (by have:=mem_flat e3 hb;simp [this])
theorem VRep.base {w:World}{B B':Nat}{v:JT}{cs:List Value}{p:List Nat} (h:VRep w B v cs p) (hB:B'≤B):VRep w B' v cs p:=by
 induction h with
 | mk hl hf h1 h2 h3 h4 hle hfe ih1 ih2=>exact .mk (owns_base hl hB) (owns_base hf hB) h1 h2 h3 h4 ih1 ih2
theorem VRep.ge {w:World}{B:Nat}{v:JT}{cs:List Value}{p:List Nat} (h:VRep w B v cs p):∀ b∈p,B≤b∧b < w.heap.size:=by
 induction h with
 | mk hl hf h1 h2 h3 h4 hle hfe ih1 ih2 =>
   intro b hb;simp only [List.mem_append] at hb
   rcases hb with ((hb|hb)|hb)|hb
   · exact owns_ge hl b hb
   · exact owns_ge hf b hb
   · obtain ⟨p,hp,hbp⟩:=List.mem_flatten.1 hb
     obtain ⟨i,hi⟩:=List.getElem?_of_mem hp;obtain ⟨hlt,_⟩:=List.getElem?_eq_some_iff.1 hi;exact ih1 i _ _ p (List.getElem?_eq_getElem (by omega)) (List.getElem?_eq_getElem (by omega)) hi b hbp
   · obtain ⟨p,hp,hbp⟩:=List.mem_flatten.1 hb
     obtain ⟨i,hi⟩:=List.getElem?_of_mem hp;obtain ⟨hlt,_⟩:=List.getElem?_eq_some_iff.1 hi;exact ih2 i _ _ _ p (List.getElem?_eq_getElem (by omega)) (List.getElem?_eq_getElem (by omega)) hi b hbp
theorem VRep.eight {w:World}{B:Nat}{v:JT}{cs:List Value}{p:List Nat} (h:VRep w B v cs p):∃ a0 a1 a2 a3 a4 a5 a6 a7,cs=[a0,a1,a2,a3,a4,a5,a6,a7]:=by
 cases h
 exact ⟨_,_,_,_,_,_,_,_,rfl⟩
inductive VR (w:World):JT→List Value→Prop
 | mk {k:Int}{t:Bool}{d:Dn}{x:ByteArray}{l:List JT}{f:List (ByteArray × JT)}{lv fv:Value}{css gss:List (List Value)}
  (hl:mm.SV w lv l.length 8 css.flatten) (hf:mm.SV w fv f.length 9 (fcs f gss))
  (h1:css.length=l.length) (h3:gss.length=f.length)
  (hle:∀ (i:Nat) (v:JT) (c:List Value),l[i]?=some v→css[i]?=some c→VR w v c)
  (hfe:∀ (i:Nat) (n:ByteArray) (v:JT) (c:List Value),f[i]?=some (n,v)→gss[i]?=some c→VR w v c) :
  VR w (JT.mk k t d x l f) [.int .i64 k,.bool t,.bool d.neg,.string d.dg,.int .i64 d.ex,.string x,lv,fv]
theorem VRep.vr {w:World}{B:Nat}{v:JT}{cs:List Value}{p:List Nat} (h:VRep w B v cs p):VR w v cs:=by
 induction h with
 | mk hl hf h1 h2 h3 h4 hle hfe ih1 ih2 =>
   refine .mk (mm.own_sv hl) (mm.own_sv hf) h1 h3 (fun i v c e1 e2=>?_) (fun i n v c e1 e2=>?_)
   · obtain ⟨hlt,_⟩:=List.getElem?_eq_some_iff.1 e1
     exact ih1 i v c _ e1 e2 (List.getElem?_eq_getElem (by omega))
   · obtain ⟨hlt,_⟩:=List.getElem?_eq_some_iff.1 e1
     exact ih2 i n v c _ e1 e2 (List.getElem?_eq_getElem (by omega))
theorem VR.keep {w w':World}{v:JT}{cs:List Value} (h:VR w v cs) (hb:Below w.heap.size w w'):VR w' v cs:=by
 induction h with
 | mk hl hf h1 h3 hle hfe ih1 ih2=>exact .mk (hl.keep hb) (hf.keep hb) h1 h3 ih1 ih2
theorem VR.drewN {w:World}{v:JT}{cs:List Value} (h:VR w v cs) (n:Nat):VR (w.drewN n) v cs:=h.keep (mm.below_drewN _ _ _)
theorem VR.eight {w:World}{v:JT}{cs:List Value} (h:VR w v cs):∃ a0 a1 a2 a3 a4 a5 a6 a7,cs=[a0,a1,a2,a3,a4,a5,a6,a7]:=by
 cases h
 exact ⟨_,_,_,_,_,_,_,_,rfl⟩
theorem VR.len {w:World}{v:JT}{cs:List Value} (h:VR w v cs):cs.length=8:=by
 cases h
 rfl
theorem VR.one {w:World}{v:JT}{cs:List Value} (h:VR w v cs):∀ u∈cs,u.oneCell'=true:=by
 cases h with
 | mk hl hf _ _ _ _ =>
   obtain ⟨oa,c,rfl,_⟩:=mm.SV.form hl;obtain ⟨oa',c',rfl,_⟩:=mm.SV.form hf;intro u hu;simp only [List.mem_cons,List.not_mem_nil,or_false] at hu
   rcases hu with rfl|rfl|rfl|rfl|rfl|rfl|rfl|rfl <;> rfl
theorem flat_at {α:Type}{css:List (List α)}{s:Nat} (hs:∀ c∈css,c.length=s):∀ {i:Nat}{c:List α},css[i]?=some c→∀ {j:Nat},j < s→css.flatten[i*s+j]?=c[j]?:=by
 induction css with
 | nil=>intro i c h;simp at h
 | cons a css ih =>
   intro i c h j hj;have ha:=hs a (by simp)
   cases i with
   | zero =>
     simp at h;subst h;rw [List.flatten_cons,Nat.zero_mul,Nat.zero_add,List.getElem?_append_left (by omega)]
   | succ i =>
     rw [List.getElem?_cons_succ] at h;have:=ih (fun c hc=>hs c (by simp [hc])) h hj;rw [List.flatten_cons,List.getElem?_append_right (by rw [ha,Nat.succ_mul];omega),ha];rw [show (i+1)*s+j - s=i*s+j by rw [Nat.succ_mul];omega];exact this
inductive Bd:JT→Prop
 | mk {k:Int}{t:Bool}{d:Dn}{x:ByteArray}{l:List JT}{f:List (ByteArray × JT)} (hk:-9223372036854775808≤k∧k≤9223372036854775807) (h0:d.dg.size≤1099511627776) (h1:-9223372036854775808≤d.ex∧d.ex≤9223372036854775807) (h2:x.size≤35184372088832)
  (h3:l.length≤100000000000) (h4:f.length≤100000000000) (hl:∀ v∈l,Bd v) (hn:∀ p∈f,p.1.size≤35184372088832) (hf:∀ p∈f,Bd p.2):Bd (JT.mk k t d x l f)
theorem cells8 {w:World}{ad:Addr}{a0 a1 a2 a3 a4 a5 a6 a7:Value} (h:∀ (j:Nat) (u:Value),[a0,a1,a2,a3,a4,a5,a6,a7][j]?=some u→w.cell? (ad.add j)=some u) :
 w.cell? ad=some a0∧w.cell? ⟨ad.block,ad.off+1,none⟩=some a1∧w.cell? ⟨ad.block,ad.off+2,none⟩=some a2∧w.cell? ⟨ad.block,ad.off+3,none⟩=some a3∧w.cell? ⟨ad.block,ad.off+4,none⟩=some a4∧w.cell? ⟨ad.block,ad.off+5,none⟩=some a5∧w.cell? ⟨ad.block,ad.off+6,none⟩=some a6∧w.cell? ⟨ad.block,ad.off+7,none⟩=some a7 :=
 ⟨h 0 a0 rfl,h 1 a1 rfl,h 2 a2 rfl,h 3 a3 rfl,h 4 a4 rfl,h 5 a5 rfl,h 6 a6 rfl,h 7 a7 rfl⟩
theorem sv_at {w:World}{a:Addr}{s:Nat}{css:List (List Value)} (hs:∀ c∈css,c.length=s) (h:∀ (j:Nat) (u:Value),css.flatten[j]?=some u→w.cell? (a.add j)=some u) {k:Nat}{c:List Value} (hc:css[k]?=some c) :
 ∀ (j:Nat) (u:Value),c[j]?=some u→w.cell? ((a.add (k*s)).add j)=some u:=by
 intro j u hu;rw [mm.add_add];have hl:=hs c (List.mem_of_getElem? hc);obtain ⟨hj,_⟩:=List.getElem?_eq_some_iff.1 hu;exact h _ u (by rw [flat_at hs hc (by omega)];exact hu)
end Go.Proofs.YthakglomacijgaaGreatDoor.rd
namespace Go.Proofs.YthakglomacijgaaGreatDoor.pt
open Go.RowKit
def fol (s:ByteArray) (k lo hi:Nat):Bool:=match s.data.toList[k]? with
 | some c=>decide (lo≤c.toNat∧c.toNat≤hi)
 | none=>false
theorem fol_end (s:ByteArray) (k lo hi:Nat) (h:s.size≤k):fol s k lo hi=false:=by
 unfold fol;rw [List.getElem?_eq_none (by rw [Array.length_toList];exact h)]
theorem fol_at (s:ByteArray) (k lo hi:Nat) (h:k < s.size):fol s k lo hi=decide (lo≤s[k].toNat∧s[k].toNat≤hi):=by
 unfold fol;have h2:k < s.data.toList.length:=by rw [Array.length_toList];exact h
 rw [List.getElem?_eq_getElem h2];rfl
set_option maxRecDepth 100000 in
set_option maxHeartbeats 1600000 in
theorem follows_any (s:ByteArray) (k lo hi:Nat) (ki loi hii:Int) (hki:ki=(k:Int)) (hlo:loi=(lo:Int)) (hhi:hii=(hi:Int)) (w:World) :
 Calls Tryz.prog 103 #[.string s,.int .i64 ki,.int .u8 loi,.int .u8 hii] w fun e w'=>e=.returned (.bool (fol s k lo hi))∧w'=w:=by
 subst hki hlo hhi
 by_cases h:k < s.size
 · have h':(k:Int) < (s.size:Int):=by omega
   have hk0:(0:Int)≤(k:Int):=by omega
   rw [fol_at s k lo hi h]
   by_cases h1:lo≤s[k].toNat
   · have h1':(lo:Int)≤(s[k].toNat:Int):=by omega
     by_cases h2:s[k].toNat≤hi
     · have h2':(s[k].toNat:Int)≤(hi:Int):=by omega
       have hd:decide (lo≤s[k].toNat∧s[k].toNat≤hi)=true:=decide_eq_true ⟨h1,h2⟩;rw [hd];clear hd
       go_enter Tryz.func103,Tryz.ntmps103
       go_wp2;go_ret;exact ⟨by simp,rfl⟩
     · have h2':decide ((s[k].toNat:Int)≤(hi:Int))=false:=decide_eq_false (by omega)
       have hd:decide (lo≤s[k].toNat∧s[k].toNat≤hi)=false:=decide_eq_false (by omega);rw [hd];clear hd
       go_enter Tryz.func103,Tryz.ntmps103
       go_wp2;go_ret;exact ⟨by simp,rfl⟩
   · have h1':decide ((lo:Int)≤(s[k].toNat:Int))=false:=decide_eq_false (by omega)
     have hd:decide (lo≤s[k].toNat∧s[k].toNat≤hi)=false:=decide_eq_false (by omega);rw [hd];clear hd
     go_enter Tryz.func103,Tryz.ntmps103
     go_wp2
     all_goals first|(exfalso;omega)|skip
     go_ret;exact ⟨by simp,rfl⟩
 · have h':¬ (k:Int) < (s.size:Int):=by omega
   rw [fol_end s k lo hi (by omega)]
   go_enter Tryz.func103,Tryz.ntmps103
   go_wp2;go_ret;exact ⟨rfl,rfl⟩
def loC (c:Nat):Nat:=if c=224 then 160 else if c=240 then 144 else 128
def hiC (c:Nat):Nat:=if c=237 then 159 else if c=244 then 143 else 191
def ltrC (c:Nat) (b2 b3 b4:Bool):Nat :=
 if c < 128 then 1 else if c < 194∨244 < c then 0 else
 if c < 224 then (if b2=true then 2 else 0) else if c < 240 then (if b2=true∧b3=true then 3 else 0) else (if b2=true∧b3=true∧b4=true then 4 else 0)
def ltr (s:ByteArray) (k:Nat):Nat:=match s.data.toList[k]? with
 | some c=>ltrC c.toNat (fol s (k+1) (loC c.toNat) (hiC c.toNat)) (fol s (k+2) 128 191) (fol s (k+3) 128 191)
 | none=>0
set_option maxRecDepth 100000 in
set_option maxHeartbeats 12800000 in
theorem letter_any (s:ByteArray) (k:Nat) (w:World) (hk:k < s.size) (hs:s.size≤4611686018427387904) :
 Calls Tryz.prog 81 #[.string s,.int .i64 (k:Int)] w fun e w'=>e=.returned (.int .i64 (ltr s k:Int))∧w'=w:=by
 have hk':(k:Int) < (s.size:Int):=by omega
 have hk0:(0:Int)≤(k:Int):=by omega
 have hr:ltr s k=ltrC s[k].toNat (fol s (k+1) (loC s[k].toNat) (hiC s[k].toNat)) (fol s (k+2) 128 191) (fol s (k+3) 128 191):=by
  unfold ltr;have h2:k < s.data.toList.length:=by rw [Array.length_toList];exact hk
  rw [List.getElem?_eq_getElem h2];rfl
 rw [hr];clear hr;have hx0:s[k].toNat < 256:=s[k].toNat_lt;have F3:=hide (fun u=>follows_any s (k+2) 128 191 ((k:Int)+2) 128 191 (by omega) rfl rfl u);have F4:=hide (fun u=>follows_any s (k+3) 128 191 ((k:Int)+3) 128 191 (by omega) rfl rfl u);have F2:=hide (fun (lo hi:Nat) (li hii:Int) h1 h2 u=>follows_any s (k+1) lo hi ((k:Int)+1) li hii (by omega) h1 h2 u);generalize hc:s[k].toNat=c at *;have hci:(s[k].toNat:Int)=(c:Int):=by rw [hc]
 have hcls:(c < 128)∨(128≤c∧c < 194)∨(194≤c∧c < 224)∨(c=224)∨(225≤c∧c≤236)∨(c=237)∨(c=238∨c=239)∨(c=240)∨(241≤c∧c≤243)∨(c=244)∨(245≤c):=by omega
 rcases hcls with hq|hq|hq|hq|hq|hq|hq|hq|hq|hq|hq
 · have a1:(c:Int) < 128:=by omega
   have hv:∀ x y z,ltrC c x y z=1:=fun x y z=>by unfold ltrC;rw [if_pos (by omega)]
   rw [hv];clear hv F2 F3 F4 hq hx0
   go_enter Tryz.func81,Tryz.ntmps81
   go_wp2;go_ret;exact ⟨rfl,rfl⟩
 · have a1:¬ (c:Int) < 128:=by omega
   have a2:(c:Int) < 194:=by omega
   have hv:∀ x y z,ltrC c x y z=0:=fun x y z=>by unfold ltrC;rw [if_neg (by omega),if_pos (by omega)]
   rw [hv];clear hv F2 F3 F4 hq hx0
   go_enter Tryz.func81,Tryz.ntmps81
   go_wp2;go_ret;exact ⟨rfl,rfl⟩
 · have a1:¬ (c:Int) < 128:=by omega
   have a2:¬ (c:Int) < 194:=by omega
   have a3:¬ (244:Int) < (c:Int):=by omega
   have e1:((c:Int) == 224)=false:=by simp;omega
   have e2:((c:Int) == 237)=false:=by simp;omega
   have e3:((c:Int) == 240)=false:=by simp;omega
   have e4:((c:Int) == 244)=false:=by simp;omega
   have a4:(c:Int) < 224:=by omega
   have b1:decide ((224:Int)≤(c:Int))=false:=decide_eq_false (by omega);have b2:decide ((240:Int)≤(c:Int))=false:=decide_eq_false (by omega);have hlo:loC c=128:=by unfold loC;rw [if_neg (by omega),if_neg (by omega)]
   have hhi:hiC c=191:=by unfold hiC;rw [if_neg (by omega),if_neg (by omega)]
   rw [hlo,hhi];have hv:∀ x y z,ltrC c x y z=(if x=true then 2 else 0):=fun x y z=>by unfold ltrC;rw [if_neg (by omega),if_neg (by omega),if_pos (by omega)]
   rw [hv];have G2:=hide (fun u=>uh F2 128 191 128 191 rfl rfl u);generalize fol s (k+1) 128 191=b2 at *;generalize fol s (k+2) 128 191=b3 at *;generalize fol s (k+3) 128 191=b4 at *;clear hv F2 hq hx0 hlo hhi
   go_enter Tryz.func81,Tryz.ntmps81
   go_wp2_with fail
   refine (uh G2 _).mono ?_;rintro e u ⟨rfl,hu⟩;obtain rfl:=hu.symm;clear hu
   go_wp2_with fail
   refine (uh F3 _).mono ?_;rintro e u ⟨rfl,hu⟩;obtain rfl:=hu.symm;clear hu
   go_wp2_with fail
   refine (uh F4 _).mono ?_;rintro e u ⟨rfl,hu⟩;obtain rfl:=hu.symm;clear hu G2 F3 F4
   cases b2
   all_goals
    go_wp2;go_ret;exact ⟨rfl,rfl⟩
 · have a1:¬ (c:Int) < 128:=by omega
   have a2:¬ (c:Int) < 194:=by omega
   have a3:¬ (244:Int) < (c:Int):=by omega
   have e1:((c:Int) == 224)=true:=by simp;omega
   have e2:((c:Int) == 237)=false:=by simp;omega
   have e3:((c:Int) == 240)=false:=by simp;omega
   have e4:((c:Int) == 244)=false:=by simp;omega
   have a4:¬ (c:Int) < 224:=by omega
   have b1:(224:Int)≤(c:Int):=by omega
   have a5:(c:Int) < 240:=by omega
   have b2:decide ((240:Int)≤(c:Int))=false:=decide_eq_false (by omega);have hlo:loC c=160:=by unfold loC;rw [if_pos (by omega)]
   have hhi:hiC c=191:=by unfold hiC;rw [if_neg (by omega),if_neg (by omega)]
   rw [hlo,hhi];have hv:∀ x y z,ltrC c x y z=(if x=true∧y=true then 3 else 0):=fun x y z=>by unfold ltrC;rw [if_neg (by omega),if_neg (by omega),if_neg (by omega),if_pos (by omega)]
   rw [hv];have G2:=hide (fun u=>uh F2 160 191 160 191 rfl rfl u);generalize fol s (k+1) 160 191=b2 at *;generalize fol s (k+2) 128 191=b3 at *;generalize fol s (k+3) 128 191=b4 at *;clear hv F2 hq hx0 hlo hhi
   go_enter Tryz.func81,Tryz.ntmps81
   go_wp2_with fail
   refine (uh G2 _).mono ?_;rintro e u ⟨rfl,hu⟩;obtain rfl:=hu.symm;clear hu
   go_wp2_with fail
   refine (uh F3 _).mono ?_;rintro e u ⟨rfl,hu⟩;obtain rfl:=hu.symm;clear hu
   go_wp2_with fail
   refine (uh F4 _).mono ?_;rintro e u ⟨rfl,hu⟩;obtain rfl:=hu.symm;clear hu G2 F3 F4
   cases b2 <;> cases b3
   all_goals
    go_wp2;go_ret;exact ⟨rfl,rfl⟩
 · have a1:¬ (c:Int) < 128:=by omega
   have a2:¬ (c:Int) < 194:=by omega
   have a3:¬ (244:Int) < (c:Int):=by omega
   have e1:((c:Int) == 224)=false:=by simp;omega
   have e2:((c:Int) == 237)=false:=by simp;omega
   have e3:((c:Int) == 240)=false:=by simp;omega
   have e4:((c:Int) == 244)=false:=by simp;omega
   have a4:¬ (c:Int) < 224:=by omega
   have b1:(224:Int)≤(c:Int):=by omega
   have a5:(c:Int) < 240:=by omega
   have b2:decide ((240:Int)≤(c:Int))=false:=decide_eq_false (by omega);have hlo:loC c=128:=by unfold loC;rw [if_neg (by omega),if_neg (by omega)]
   have hhi:hiC c=191:=by unfold hiC;rw [if_neg (by omega),if_neg (by omega)]
   rw [hlo,hhi];have hv:∀ x y z,ltrC c x y z=(if x=true∧y=true then 3 else 0):=fun x y z=>by unfold ltrC;rw [if_neg (by omega),if_neg (by omega),if_neg (by omega),if_pos (by omega)]
   rw [hv];have G2:=hide (fun u=>uh F2 128 191 128 191 rfl rfl u);generalize fol s (k+1) 128 191=b2 at *;generalize fol s (k+2) 128 191=b3 at *;generalize fol s (k+3) 128 191=b4 at *;clear hv F2 hq hx0 hlo hhi
   go_enter Tryz.func81,Tryz.ntmps81
   go_wp2_with fail
   refine (uh G2 _).mono ?_;rintro e u ⟨rfl,hu⟩;obtain rfl:=hu.symm;clear hu
   go_wp2_with fail
   refine (uh F3 _).mono ?_;rintro e u ⟨rfl,hu⟩;obtain rfl:=hu.symm;clear hu
   go_wp2_with fail
   refine (uh F4 _).mono ?_;rintro e u ⟨rfl,hu⟩;obtain rfl:=hu.symm;clear hu G2 F3 F4
   cases b2 <;> cases b3
   all_goals
    go_wp2;go_ret;exact ⟨rfl,rfl⟩
 · have a1:¬ (c:Int) < 128:=by omega
   have a2:¬ (c:Int) < 194:=by omega
   have a3:¬ (244:Int) < (c:Int):=by omega
   have e1:((c:Int) == 224)=false:=by simp;omega
   have e2:((c:Int) == 237)=true:=by simp;omega
   have e3:((c:Int) == 240)=false:=by simp;omega
   have e4:((c:Int) == 244)=false:=by simp;omega
   have a4:¬ (c:Int) < 224:=by omega
   have b1:(224:Int)≤(c:Int):=by omega
   have a5:(c:Int) < 240:=by omega
   have b2:decide ((240:Int)≤(c:Int))=false:=decide_eq_false (by omega);have hlo:loC c=128:=by unfold loC;rw [if_neg (by omega),if_neg (by omega)]
   have hhi:hiC c=159:=by unfold hiC;rw [if_pos (by omega)]
   rw [hlo,hhi];have hv:∀ x y z,ltrC c x y z=(if x=true∧y=true then 3 else 0):=fun x y z=>by unfold ltrC;rw [if_neg (by omega),if_neg (by omega),if_neg (by omega),if_pos (by omega)]
   rw [hv];have G2:=hide (fun u=>uh F2 128 159 128 159 rfl rfl u);generalize fol s (k+1) 128 159=b2 at *;generalize fol s (k+2) 128 191=b3 at *;generalize fol s (k+3) 128 191=b4 at *;clear hv F2 hq hx0 hlo hhi
   go_enter Tryz.func81,Tryz.ntmps81
   go_wp2_with fail
   refine (uh G2 _).mono ?_;rintro e u ⟨rfl,hu⟩;obtain rfl:=hu.symm;clear hu
   go_wp2_with fail
   refine (uh F3 _).mono ?_;rintro e u ⟨rfl,hu⟩;obtain rfl:=hu.symm;clear hu
   go_wp2_with fail
   refine (uh F4 _).mono ?_;rintro e u ⟨rfl,hu⟩;obtain rfl:=hu.symm;clear hu G2 F3 F4
   cases b2 <;> cases b3
   all_goals
    go_wp2;go_ret;exact ⟨rfl,rfl⟩
 · have a1:¬ (c:Int) < 128:=by omega
   have a2:¬ (c:Int) < 194:=by omega
   have a3:¬ (244:Int) < (c:Int):=by omega
   have e1:((c:Int) == 224)=false:=by simp;omega
   have e2:((c:Int) == 237)=false:=by simp;omega
   have e3:((c:Int) == 240)=false:=by simp;omega
   have e4:((c:Int) == 244)=false:=by simp;omega
   have a4:¬ (c:Int) < 224:=by omega
   have b1:(224:Int)≤(c:Int):=by omega
   have a5:(c:Int) < 240:=by omega
   have b2:decide ((240:Int)≤(c:Int))=false:=decide_eq_false (by omega);have hlo:loC c=128:=by unfold loC;rw [if_neg (by omega),if_neg (by omega)]
   have hhi:hiC c=191:=by unfold hiC;rw [if_neg (by omega),if_neg (by omega)]
   rw [hlo,hhi];have hv:∀ x y z,ltrC c x y z=(if x=true∧y=true then 3 else 0):=fun x y z=>by unfold ltrC;rw [if_neg (by omega),if_neg (by omega),if_neg (by omega),if_pos (by omega)]
   rw [hv];have G2:=hide (fun u=>uh F2 128 191 128 191 rfl rfl u);generalize fol s (k+1) 128 191=b2 at *;generalize fol s (k+2) 128 191=b3 at *;generalize fol s (k+3) 128 191=b4 at *;clear hv F2 hq hx0 hlo hhi
   go_enter Tryz.func81,Tryz.ntmps81
   go_wp2_with fail
   refine (uh G2 _).mono ?_;rintro e u ⟨rfl,hu⟩;obtain rfl:=hu.symm;clear hu
   go_wp2_with fail
   refine (uh F3 _).mono ?_;rintro e u ⟨rfl,hu⟩;obtain rfl:=hu.symm;clear hu
   go_wp2_with fail
   refine (uh F4 _).mono ?_;rintro e u ⟨rfl,hu⟩;obtain rfl:=hu.symm;clear hu G2 F3 F4
   cases b2 <;> cases b3
   all_goals
    go_wp2;go_ret;exact ⟨rfl,rfl⟩
 · have a1:¬ (c:Int) < 128:=by omega
   have a2:¬ (c:Int) < 194:=by omega
   have a3:¬ (244:Int) < (c:Int):=by omega
   have e1:((c:Int) == 224)=false:=by simp;omega
   have e2:((c:Int) == 237)=false:=by simp;omega
   have e3:((c:Int) == 240)=true:=by simp;omega
   have e4:((c:Int) == 244)=false:=by simp;omega
   have a4:¬ (c:Int) < 224:=by omega
   have b1:(224:Int)≤(c:Int):=by omega
   have a5:¬ (c:Int) < 240:=by omega
   have b2:(240:Int)≤(c:Int):=by omega
   have hlo:loC c=144:=by unfold loC;rw [if_neg (by omega),if_pos (by omega)]
   have hhi:hiC c=191:=by unfold hiC;rw [if_neg (by omega),if_neg (by omega)]
   rw [hlo,hhi];have hv:∀ x y z,ltrC c x y z=(if x=true∧y=true∧z=true then 4 else 0):=fun x y z=>by unfold ltrC;rw [if_neg (by omega),if_neg (by omega),if_neg (by omega),if_neg (by omega)]
   rw [hv];have G2:=hide (fun u=>uh F2 144 191 144 191 rfl rfl u);generalize fol s (k+1) 144 191=b2 at *;generalize fol s (k+2) 128 191=b3 at *;generalize fol s (k+3) 128 191=b4 at *;clear hv F2 hq hx0 hlo hhi
   go_enter Tryz.func81,Tryz.ntmps81
   go_wp2_with fail
   refine (uh G2 _).mono ?_;rintro e u ⟨rfl,hu⟩;obtain rfl:=hu.symm;clear hu
   go_wp2_with fail
   refine (uh F3 _).mono ?_;rintro e u ⟨rfl,hu⟩;obtain rfl:=hu.symm;clear hu
   go_wp2_with fail
   refine (uh F4 _).mono ?_;rintro e u ⟨rfl,hu⟩;obtain rfl:=hu.symm;clear hu G2 F3 F4
   cases b2 <;> cases b3 <;> cases b4
   all_goals
    go_wp2;go_ret;exact ⟨rfl,rfl⟩
 · have a1:¬ (c:Int) < 128:=by omega
   have a2:¬ (c:Int) < 194:=by omega
   have a3:¬ (244:Int) < (c:Int):=by omega
   have e1:((c:Int) == 224)=false:=by simp;omega
   have e2:((c:Int) == 237)=false:=by simp;omega
   have e3:((c:Int) == 240)=false:=by simp;omega
   have e4:((c:Int) == 244)=false:=by simp;omega
   have a4:¬ (c:Int) < 224:=by omega
   have b1:(224:Int)≤(c:Int):=by omega
   have a5:¬ (c:Int) < 240:=by omega
   have b2:(240:Int)≤(c:Int):=by omega
   have hlo:loC c=128:=by unfold loC;rw [if_neg (by omega),if_neg (by omega)]
   have hhi:hiC c=191:=by unfold hiC;rw [if_neg (by omega),if_neg (by omega)]
   rw [hlo,hhi];have hv:∀ x y z,ltrC c x y z=(if x=true∧y=true∧z=true then 4 else 0):=fun x y z=>by unfold ltrC;rw [if_neg (by omega),if_neg (by omega),if_neg (by omega),if_neg (by omega)]
   rw [hv];have G2:=hide (fun u=>uh F2 128 191 128 191 rfl rfl u);generalize fol s (k+1) 128 191=b2 at *;generalize fol s (k+2) 128 191=b3 at *;generalize fol s (k+3) 128 191=b4 at *;clear hv F2 hq hx0 hlo hhi
   go_enter Tryz.func81,Tryz.ntmps81
   go_wp2_with fail
   refine (uh G2 _).mono ?_;rintro e u ⟨rfl,hu⟩;obtain rfl:=hu.symm;clear hu
   go_wp2_with fail
   refine (uh F3 _).mono ?_;rintro e u ⟨rfl,hu⟩;obtain rfl:=hu.symm;clear hu
   go_wp2_with fail
   refine (uh F4 _).mono ?_;rintro e u ⟨rfl,hu⟩;obtain rfl:=hu.symm;clear hu G2 F3 F4
   cases b2 <;> cases b3 <;> cases b4
   all_goals
    go_wp2;go_ret;exact ⟨rfl,rfl⟩
 · have a1:¬ (c:Int) < 128:=by omega
   have a2:¬ (c:Int) < 194:=by omega
   have a3:¬ (244:Int) < (c:Int):=by omega
   have e1:((c:Int) == 224)=false:=by simp;omega
   have e2:((c:Int) == 237)=false:=by simp;omega
   have e3:((c:Int) == 240)=false:=by simp;omega
   have e4:((c:Int) == 244)=true:=by simp;omega
   have a4:¬ (c:Int) < 224:=by omega
   have b1:(224:Int)≤(c:Int):=by omega
   have a5:¬ (c:Int) < 240:=by omega
   have b2:(240:Int)≤(c:Int):=by omega
   have hlo:loC c=128:=by unfold loC;rw [if_neg (by omega),if_neg (by omega)]
   have hhi:hiC c=143:=by unfold hiC;rw [if_neg (by omega),if_pos (by omega)]
   rw [hlo,hhi];have hv:∀ x y z,ltrC c x y z=(if x=true∧y=true∧z=true then 4 else 0):=fun x y z=>by unfold ltrC;rw [if_neg (by omega),if_neg (by omega),if_neg (by omega),if_neg (by omega)]
   rw [hv];have G2:=hide (fun u=>uh F2 128 143 128 143 rfl rfl u);generalize fol s (k+1) 128 143=b2 at *;generalize fol s (k+2) 128 191=b3 at *;generalize fol s (k+3) 128 191=b4 at *;clear hv F2 hq hx0 hlo hhi
   go_enter Tryz.func81,Tryz.ntmps81
   go_wp2_with fail
   refine (uh G2 _).mono ?_;rintro e u ⟨rfl,hu⟩;obtain rfl:=hu.symm;clear hu
   go_wp2_with fail
   refine (uh F3 _).mono ?_;rintro e u ⟨rfl,hu⟩;obtain rfl:=hu.symm;clear hu
   go_wp2_with fail
   refine (uh F4 _).mono ?_;rintro e u ⟨rfl,hu⟩;obtain rfl:=hu.symm;clear hu G2 F3 F4
   cases b2 <;> cases b3 <;> cases b4
   all_goals
    go_wp2;go_ret;exact ⟨rfl,rfl⟩
 · have a1:¬ (c:Int) < 128:=by omega
   have a2:¬ (c:Int) < 194:=by omega
   have a3:(244:Int) < (c:Int):=by omega
   have hv:∀ x y z,ltrC c x y z=0:=fun x y z=>by unfold ltrC;rw [if_neg (by omega),if_pos (by omega)]
   rw [hv];clear hv F2 F3 F4 hq hx0
   go_enter Tryz.func81,Tryz.ntmps81
   go_wp2;go_ret;exact ⟨rfl,rfl⟩
end Go.Proofs.YthakglomacijgaaGreatDoor.pt
namespace Go.Proofs.YthakglomacijgaaGreatDoor.ap
open Go.RowKit
open Go.Proofs.YthakglomacijgaaGreatDoor.mm (row_keep row_lt row_set row_mono row_below Apd)
def sets (g:Nat):World→Nat→List Value→World
 | w,_,[]=>w
 | w,o,c::cs=>sets g (w.setCell ⟨g,o,none⟩ c) (o+1) cs
def lsets:List Value→Nat→List Value→List Value
 | xs,_,[]=>xs
 | xs,o,c::cs=>lsets (xs.set o c) (o+1) cs
theorem row_sets {B e s n m g c:Nat}:∀ (cs:List Value) (w:World) (o:Nat) (xs:List Value),w.ownsRow B e s (.slice (some ⟨g,0,none⟩) m c) n xs→(sets g w o cs).ownsRow B e s (.slice (some ⟨g,0,none⟩) m c) n (lsets xs o cs)
 | [],_,_,_,h=>h
 | c::cs,_,o,_,h=>row_sets cs _ (o+1) _ (row_set h o c)
theorem sets_block (g:Nat):∀ (cs:List Value) (w:World) (o k:Nat),k≠g→(sets g w o cs).heap[k]?=w.heap[k]?
 | [],_,_,_,_=>rfl
 | c::cs,w,o,k,h=>by
   rw [sets,sets_block g cs _ _ k h];exact Below.heap_setCell w _ _ k h
theorem sets_below {B g:Nat}{w0:World} (hg:B≤g):∀ (cs:List Value) (w:World) (o:Nat),Below B w0 w→Below B w0 (sets g w o cs)
 | [],_,_,h=>h
 | c::cs,_,o,h=>sets_below hg cs _ (o+1) (h.setCell (p:=⟨g,o,none⟩) hg c)
theorem lsets_app (d:List Value):∀ (cs a b:List Value),b.length=cs.length→lsets (a++b++d) a.length cs=a++cs++d
 | [],a,b,h=>by
   have:b=[]:=List.eq_nil_of_length_eq_zero h;subst this;simp [lsets]
 | c::cs,a,[],h=>by simp at h
 | c::cs,a,y::b,h=>by
   have ih:=lsets_app d cs (a++[c]) b (by simpa using h);rw [lsets]
   have e:(a++y::b++d).set a.length c=(a++[c])++b++d:=by
    rw [List.append_assoc,List.set_append_right _ _ (Nat.le_refl _),Nat.sub_self];simp
   rw [e];have e2:(a++[c]).length=a.length+1:=by simp
   rw [e2] at ih;rw [ih];simp
theorem flat_len {α:Type}{s:Nat}:∀ (l:List (List α)),(∀ c∈l,c.length=s)→l.flatten.length=l.length*s
 | [],_=>by simp
 | a::l,h=>by
   rw [List.flatten_cons,List.length_append,flat_len l (fun c hc=>h c (by simp [hc])),h a (by simp),List.length_cons,Nat.succ_mul];omega
theorem flat_set {s:Nat} (l:List (List Value)) (hs:∀ c∈l,c.length=s) (k:Nat) (hk:k < l.length) (c:List Value) (hc:c.length=s):lsets l.flatten (k*s) c=(l.set k c).flatten:=by
 have e1:l=l.take k++l[k]::l.drop (k+1):=by
  rw [← List.drop_eq_getElem_cons hk,List.take_append_drop]
 have e2:l.flatten=(l.take k).flatten++l[k]++(l.drop (k+1)).flatten:=(congrArg List.flatten e1).trans (by rw [List.flatten_append,List.flatten_cons,List.append_assoc])
 have e3:(l.take k).flatten.length=k*s:=by
  rw [flat_len (l.take k) (fun c hc=>hs c (List.mem_of_mem_take hc)),List.length_take,Nat.min_eq_left (by omega)]
 rw [e2,← e3,lsets_app _ c _ _ (by rw [hc];exact hs _ (List.getElem_mem hk)),List.set_eq_take_append_cons_drop,if_pos hk];simp
def OP (e s:Nat) (w:World) (B:Nat) (v:Value) (l:List (List Value)):Prop:=w.ownsRow B e s v l.length l.flatten∧∀ c∈l,c.length=s
section
variable {e s:Nat}
theorem OP.lt {w:World}{B:Nat}{v:Value}{l:List (List Value)} (h:OP e s w B v l):∀ k,v.ownBlock=some k→k < w.heap.size:=fun k hk=>(row_lt h.1 k hk).2
theorem OP.ge {w:World}{B:Nat}{v:Value}{l:List (List Value)} (h:OP e s w B v l):∀ k,v.ownBlock=some k→B≤k:=fun k hk=>(row_lt h.1 k hk).1
theorem OP.kp {w w':World}{B:Nat}{v:Value}{l:List (List Value)} (h:OP e s w B v l) (hk:∀ k,v.ownBlock=some k→w'.heap[k]?=w.heap[k]?):OP e s w' B v l:=⟨row_keep h.1 hk,h.2⟩
theorem OP.form {w:World}{B:Nat}{v:Value}{l:List (List Value)} (h:OP e s w B v l):∃ oa c,v=.slice oa l.length c:=by
 obtain ⟨oa,c,e,_⟩:=mm.SV.form (mm.own_sv h.1);exact ⟨oa,c,e⟩
theorem OP.get {w:World}{B:Nat}{v:Value}{l:List (List Value)} (h:OP e s w B v l) (hn:0 < l.length):∃ g c,v=.slice (some ⟨g,0,none⟩) l.length c∧B≤g:=by
 rcases h.1.2 with ⟨_,h0⟩|⟨g,cap,cur,e,hb,_⟩
 · omega
 · exact ⟨g,cap,e,hb⟩
theorem OP.set {w:World}{B g n c k:Nat}{l:List (List Value)}{p:List Value} (h:OP e s w B (.slice (some ⟨g,0,none⟩) n c) l) (hk:k < l.length) (hp:p.length=s):OP e s (sets g w (k*s) p) B (.slice (some ⟨g,0,none⟩) n c) (l.set k p):=by
 refine ⟨?_,fun c hc=>?_⟩
 · rw [List.length_set,← flat_set l h.2 k hk p hp]
   exact row_sets p w _ _ h.1
 · rcases List.mem_or_eq_of_mem_set hc with q|q
   · exact h.2 c q
   · rw [q];exact hp
theorem OP.cells {w:World}{B g n c:Nat}{l:List (List Value)} (h:OP e s w B (.slice (some ⟨g,0,none⟩) n c) l) {k:Nat}{p:List Value} (hp:l[k]?=some p):∀ (j:Nat) (u:Value),p[j]?=some u→w.cell? (((⟨g,0,none⟩:Addr).add (k*s)).add j)=some u:=by
 obtain ⟨_,oa,c',e',_,_,_,hat⟩:=mm.own_sv h.1;simp only [Value.slice.injEq] at e';obtain ⟨rfl,_,_⟩:=e';exact rd.sv_at h.2 (hat _ rfl) hp
end
theorem addz (g n j:Nat):(⟨g,n,none⟩:Addr).add j=⟨g,n+j,none⟩:=by
 unfold Addr.add
 split
 · rename_i h;subst h;rfl
 · rfl
theorem len8 {p:List Value} (h:p.length=8):∃ z0 z1 z2 z3 z4 z5 z6 z7,p=[z0,z1,z2,z3,z4,z5,z6,z7]:=by
 match p,h with
 | [z0,z1,z2,z3,z4,z5,z6,z7],_=>exact ⟨_,_,_,_,_,_,_,_,rfl⟩
theorem len9 {p:List Value} (h:p.length=9):∃ z0 z1 z2 z3 z4 z5 z6 z7 z8,p=[z0,z1,z2,z3,z4,z5,z6,z7,z8]:=by
 match p,h with
 | [z0,z1,z2,z3,z4,z5,z6,z7,z8],_=>exact ⟨_,_,_,_,_,_,_,_,_,rfl⟩
end Go.Proofs.YthakglomacijgaaGreatDoor.ap
namespace Go.Proofs.YthakglomacijgaaGreatDoor.apv
open Go.RowKit Go.Proofs.YthakglomacijgaaGreatDoor.ap
open Go.Proofs.YthakglomacijgaaGreatDoor.mm (row_keep row_lt)
def p1 (i:Nat):List Value:=[.int .i64 (100+(i:Int)),.bool false,.bool false,.string ⟨#[]⟩,.int .i64 0,.string ⟨#[]⟩,.slice none 0 0,.slice none 0 0]
def p4 (i:Nat):List Value:=[.int .i64 (-100 - (i:Int)),.bool false,.bool false,.string ⟨#[]⟩,.int .i64 0,.string ⟨#[]⟩,.slice none 0 0,.slice none 0 0]
abbrev OB (w:World) (B:Nat) (v:Value) (l:List (List Value)):Prop:=OP 27 8 w B v l
theorem rep_len (i m k:Nat):∀ c∈List.replicate m (p1 i)++List.replicate k (p4 i),c.length=8:=by
 intro c hc
 rcases List.mem_append.1 hc with q|q
 · rw [(List.mem_replicate.1 q).2];rfl
 · rw [(List.mem_replicate.1 q).2];rfl
def RF (w:World) (B:Nat) (vs:List Value) (ls:List (List (List Value))) (f:Nat→List (List Value)→List (List Value)):Prop :=
 ∀ (j:Nat) (x:Value) (l:List (List Value)),vs[j]?=some x→ls[j]?=some l→OB w B x (f j l)
def DS (vs:List Value):Prop:=∀ (i j:Nat) (x y:Value) (k:Nat),i≠j→vs[i]?=some x→vs[j]?=some y→x.ownBlock=some k→y.ownBlock≠some k
def HD (w:World) (oa:Option Addr) (vs:List Value):Prop:=∀ a,oa=some a→∀ (j:Nat) (u:Value),vs[j]?=some u→w.cell? (a.add j)=some u
def AW (oa:Option Addr) (vs:List Value):Prop:=∀ a,oa=some a→∀ (j:Nat) (x:Value) (k:Nat),vs[j]?=some x→x.ownBlock=some k→a.block≠k
theorem RF.congr {w:World}{B:Nat}{vs:List Value}{ls:List (List (List Value))}{f g:Nat→List (List Value)→List (List Value)} (h:RF w B vs ls f) (e:∀ (j:Nat) (l:List (List Value)),ls[j]?=some l→f j l=g j l):RF w B vs ls g :=
 fun j x l hx hl=>by rw [← e j l hl];exact h j x l hx hl
theorem HD.far {w w':World}{oa:Option Addr}{vs:List Value} (h:HD w oa vs) (hb:∀ a,oa=some a→a.block < w.heap.size→w'.heap[a.block]?=w.heap[a.block]?):HD w' oa vs:=by
 intro a ha j u hu;have q:=h a ha j u hu
 have hlt:a.block < w.heap.size:=by
  have:=mm.cell_lt q;unfold Addr.add at this
  split at this <;> exact this
 have e:(a.add j).block=a.block:=by unfold Addr.add;split <;> rfl
 rw [World.cell?_of_block (w:=w) (by rw [e];exact hb a ha hlt)];exact q
theorem RF.set {w:World}{B:Nat}{vs:List Value}{ls:List (List (List Value))}{f f':Nat→List (List Value)→List (List Value)} (h:RF w B vs ls f) (hD:DS vs) {i g n c k:Nat}{b:List Value} (hb:b.length=8) (hi:vs[i]?=some (.slice (some ⟨g,0,none⟩) n c)) (hk:∀ l,ls[i]?=some l→k < (f i l).length)
 (h1:∀ (j:Nat) (l:List (List Value)),ls[j]?=some l→j≠i→f' j l=f j l) (h2:∀ l,ls[i]?=some l→f' i l=(f i l).set k b):RF (sets g w (k*8) b) B vs ls f':=by
 intro j x l hx hl
 by_cases e:j=i
 · subst e
   rw [hi] at hx
   cases hx
   rw [h2 l hl];exact OP.set (h j _ l hi hl) (hk l hl) hb
 · rw [h1 j l hl e]
   refine (h j x l hx hl).kp (fun q hq=>sets_block g b w _ q (fun z=>?_));exact hD j i x _ q e hx hi hq (by rw [z];rfl)
def f1 (i:Nat) (j:Nat) (l:List (List Value)):List (List Value):=if j < i then List.replicate l.length (p1 j) else l
def f2 (i k:Nat) (j:Nat) (l:List (List Value)):List (List Value):=if j < i then List.replicate l.length (p1 j) else if j=i then List.replicate k (p1 i)++l.drop k else l
theorem f1_length (i j:Nat) (l:List (List Value)):(f1 i j l).length=l.length:=by unfold f1;split <;> simp
theorem f2_start (i j:Nat) (l:List (List Value)):f1 i j l=f2 i 0 j l:=by
 unfold f1 f2;split
 · rfl
 · split <;> simp
theorem f2_end (i j:Nat) (l:List (List Value)) (k:Nat) (h:j=i→l.length=k):f2 i k j l=f1 (i+1) j l:=by
 unfold f1 f2
 by_cases h1:j < i
 · rw [if_pos h1,if_pos (by omega)]
 · rw [if_neg h1]
   by_cases h2:j=i
   · rw [if_pos h2,if_pos (by omega),← h h2,h2];simp
   · rw [if_neg h2,if_neg (by omega)]
theorem f2_far (i k j:Nat) (l:List (List Value)) (h:j≠i):f2 i (k+1) j l=f2 i k j l:=by
 unfold f2;rw [if_neg h,if_neg h]
theorem f2_set (i k:Nat) (l:List (List Value)) (h:k < l.length):f2 i (k+1) i l=(f2 i k i l).set k (p1 i):=by
 unfold f2;rw [if_neg (Nat.lt_irrefl _),if_pos rfl,if_neg (Nat.lt_irrefl _),if_pos rfl];rw [List.set_append_right k _ (by simp),List.length_replicate,Nat.sub_self,List.drop_eq_getElem_cons h,List.set_cons_zero,List.replicate_succ'];simp
structure LG (w:World) (B F0:Nat) (vs:List Value) (ls:List (List (List Value))) (i:Nat) (lv:Value) (xs:List Value):Prop where
 row:w.ownsRow B 24 1 lv i xs
 len:xs.length=i
 own:∀ (j:Nat) (x:Value) (l:List (List Value)),xs[j]?=some x→ls[j]?=some l→OB w B x (List.replicate l.length (p1 j)++List.replicate 6 (p4 j))
 blk:∀ (j:Nat) (x y:Value) (k:Nat),xs[j]?=some x→vs[j]?=some y→x.ownBlock=some k→y.ownBlock=some k∨F0≤k
 new:∀ k,lv.ownBlock=some k→F0≤k
 sep:∀ (j:Nat) (x:Value) (k:Nat),xs[j]?=some x→x.ownBlock=some k→lv.ownBlock≠some k
theorem LG.nil (w:World) (B F0:Nat) (vs:List Value) (ls:List (List (List Value))):LG w B F0 vs ls 0 (.slice none 0 0) [] :=
 ⟨World.ownsRow_nil _ _ _ _,rfl,(fun j x l h=>by simp at h),(fun j x y k h=>by simp at h),(fun k h=>by cases h),fun j x k h=>by simp at h⟩
def Oth (w w':World) (vs:List Value):Prop:=∀ q,q < w.heap.size→(∀ (j:Nat) (x:Value),vs[j]?=some x→x.ownBlock≠some q)→w'.heap[q]?=w.heap[q]?
structure C4 (B F0 Fi:Nat) (vs:List Value) (ls:List (List (List Value))) (oa:Option Addr) (i n:Nat) (l:List (List Value)) (lv:Value) (xs:List Value) (yv:Value):Prop where
 hy:vs[i]?=some yv
 hl:ls[i]?=some l
 ds:DS vs
 v0:∀ (j:Nat) (y:Value) (k:Nat),vs[j]?=some y→y.ownBlock=some k→k < F0
 p1:∀ k,lv.ownBlock=some k→k < Fi
 p2:∀ (j:Nat) (x:Value) (k:Nat),xs[j]?=some x→x.ownBlock=some k→k < Fi
 le:F0≤Fi
 aw:AW oa vs
 ho:∀ a,oa=some a→a.block < F0
 bf:B≤F0
 xl:xs.length=i
 vl:vs.length=ls.length
 ni:i < n
structure S4 (w:World) (B F0 Fi:Nat) (vs:List Value) (ls:List (List (List Value))) (oa:Option Addr) (i n k:Nat) (l:List (List Value)) (lv:Value) (xs:List Value) (yv xv:Value) (wq:World):Prop where
 x1:OB wq B xv (List.replicate l.length (p1 i)++List.replicate k (p4 i))
 x2:(∃ g cc,yv=.slice (some ⟨g,0,none⟩) l.length cc∧xv=.slice (some ⟨g,0,none⟩) (l.length+k) cc)∨(∀ q,xv.ownBlock=some q→Fi≤q)
 x3:RF wq B vs ls (f1 n)
 x4:LG wq B F0 vs ls i lv xs
 x5:HD wq oa vs
 x6:Below B w wq
 x7:Fi≤wq.heap.size
 x8:Oth w wq vs
 x9:w.heap.size≤F0
theorem OB.pre {w:World}{B g n m c c':Nat}{l r:List (List Value)} (h:OB w B (.slice (some ⟨g,0,none⟩) n c) (l++r)) (hm:m=l.length) (hc:c'=c):OB w B (.slice (some ⟨g,0,none⟩) m c') l:=by
 subst hm hc;obtain ⟨oa,c',e⟩:=h.form;simp only [Value.slice.injEq] at e;obtain ⟨_,rfl,_⟩:=e;have:=mm.row_take h.1 l.length (by rw [List.length_append];omega);refine ⟨?_,fun c hc=>h.2 c (List.mem_append_left _ hc)⟩;rw [List.flatten_append,List.take_append_of_le_length (by rw [flat_len l (fun c hc=>h.2 c (List.mem_append_left _ hc))];exact Nat.le_refl _),List.take_of_length_le (by rw [flat_len l (fun c hc=>h.2 c (List.mem_append_left _ hc))];exact Nat.le_refl _)] at this;exact this
theorem same_cap {w:World}{B g n m c c' k k':Nat}{xs ys:List Value} (h:w.ownsRow B 27 8 (.slice (some ⟨g,0,none⟩) n c) k xs) (h':w.ownsRow B 27 8 (.slice (some ⟨g,0,none⟩) m c') k' ys):c=c':=by
 obtain ⟨_,⟨e,_⟩|⟨g1,cap1,cur1,e1,_,hg1,_,_,hs1,_⟩⟩:=h
 · cases e
 · obtain ⟨_,⟨e,_⟩|⟨g2,cap2,cur2,e2,_,hg2,_,_,hs2,_⟩⟩:=h'
   · cases e
   · simp only [Value.slice.injEq,Option.some.injEq,Addr.mk.injEq] at e1 e2
     obtain ⟨⟨rfl,_⟩,_,rfl⟩:=e1;obtain ⟨⟨rfl,_⟩,_,rfl⟩:=e2;rw [hg1] at hg2;simp only [Option.some.injEq,Obj.cells.injEq] at hg2;rw [hg2.1] at hs1;omega
theorem S4.step {w:World}{B F0 Fi:Nat}{vs:List Value}{ls:List (List (List Value))}{oa:Option Addr}{i n k:Nat}{l:List (List Value)}{lv:Value}{xs:List Value}{yv xv:Value}{wq:World} (C:C4 B F0 Fi vs ls oa i n l lv xs yv)
 (S:S4 w B F0 Fi vs ls oa i n k l lv xs yv xv wq) {o:Obj}{v':Value}{w2:World} (A:mm.Apd (wq.alloc o) w2 B 27 8 xv v' (l.length+k) 1 (List.replicate l.length (p1 i)++List.replicate k (p4 i)).flatten (p4 i)):S4 w B F0 Fi vs ls oa i n (k+1) l lv xs yv v' w2:=by
 have hlen:(List.replicate l.length (p1 i)++List.replicate k (p4 i)).length=l.length+k:=by simp
 have hsa:(wq.alloc o).heap.size=wq.heap.size+1:=World.size_alloc _ _
 have h2':OB w2 B v' (List.replicate l.length (p1 i)++List.replicate (k+1) (p4 i)):=by
  refine ⟨?_,rep_len i l.length (k+1)⟩;have:=A.row;rw [List.replicate_succ',← List.append_assoc,List.flatten_append,List.length_append,hlen];simpa using this
 have hold:OB w2 B xv (List.replicate l.length (p1 i)++List.replicate k (p4 i)):=⟨by rw [hlen];exact A.old,S.x1.2⟩;have hfy:f1 n i l=List.replicate l.length (p1 i):=by unfold f1;rw [if_pos C.ni]
 have hrow:∀ g,xv.ownBlock=some g→((∃ cc,yv=.slice (some ⟨g,0,none⟩) l.length cc∧xv=.slice (some ⟨g,0,none⟩) (l.length+k) cc)∨Fi≤g):=by
  intro g hg
  rcases S.x2 with ⟨g',cc,z1,z2⟩|z
  · rw [z2] at hg
    cases hg
    exact Or.inl ⟨cc,z1,z2⟩
  · exact Or.inr (z g hg)
 have hx2:(∃ g cc,yv=.slice (some ⟨g,0,none⟩) l.length cc∧v'=.slice (some ⟨g,0,none⟩) (l.length+(k+1)) cc)∨(∀ q,v'.ownBlock=some q→Fi≤q):=by
  rcases A.blk with hb|hb
  · rcases S.x2 with ⟨g,cc,z1,z2⟩|z
    · left
      have hvb:v'.ownBlock=some g:=by rw [hb,z2];rfl
      rcases A.row.2 with ⟨e,_⟩|⟨g',cap,cur,e,_⟩
      · rw [e] at hvb;cases hvb
      · rw [e] at hvb
        cases hvb
        have h1:=A.row;have h0:=A.old;rw [e] at h1;rw [z2] at h0;have:=same_cap h0 h1;subst this;exact ⟨g',cc,z1,by rw [e,Nat.add_assoc]⟩
    · right
      intro q hq;exact z q (hb ▸ hq)
  · right
    intro q hq;have:=hb q hq;have:=S.x7;omega
 have keep:∀ q,q < wq.heap.size→xv.ownBlock≠some q→w2.heap[q]?=wq.heap[q]?:=fun q hq hne=>(A.grow.block q (by omega) (fun z=>hne z.symm)).trans (Below.heap_alloc wq o q hq)
 have far:∀ q,q < Fi→(∀ y,vs[i]?=some y→y.ownBlock≠some q)→xv.ownBlock≠some q:=fun q hq hy z=>by
  rcases hrow q z with ⟨cc,e1,_⟩|e
  · exact hy yv C.hy (by rw [e1];rfl)
  · omega
 refine ⟨h2',hx2,fun j y lj hy hlj=>?_,⟨?_,S.x4.len,fun j x lj hx hlj=>?_,S.x4.blk,S.x4.new,S.x4.sep⟩,?_,?_,?_,fun q hq hn=>?_,S.x9⟩
 · have ob:=S.x3 j y lj hy hlj
   by_cases e:j=i
   · subst e
     cases C.hy.symm.trans hy
     cases C.hl.symm.trans hlj
     by_cases hr:∃ q,xv.ownBlock=some q∧yv.ownBlock=some q
     · obtain ⟨q,r1,r2⟩:=hr
       rcases hrow q r1 with ⟨cc,e1,e2⟩|e
       · rw [hfy,e1]
         rw [e2] at hold;exact hold.pre (by simp) rfl
       · have:=C.v0 j yv q C.hy r2;have:=C.le;omega
     · exact ob.kp (fun q hq=>keep q (ob.lt q hq) (fun z=>hr ⟨q,z,hq⟩))
   · exact ob.kp (fun q hq=>keep q (ob.lt q hq) (far q (by have:=C.v0 j y q hy hq;have:=C.le;omega) (fun y' hy'=>C.ds j i y y' q e hy hy' hq)))
 · exact row_keep S.x4.row (fun q hq=>keep q (row_lt S.x4.row q hq).2 (far q (C.p1 q hq) (fun y hy z=>by have:=C.v0 i y q hy z;have:=S.x4.new q hq;omega)))
 · have ob:=S.x4.own j x lj hx hlj
   have hji:j < i:=by have:=(List.getElem?_eq_some_iff.mp hx).1;rw [C.xl] at this;exact this
   refine ob.kp (fun q hq=>keep q (ob.lt q hq) (far q (C.p2 j x q hx hq) (fun y hy z=>?_)));obtain ⟨yj,hyj⟩:∃ y,vs[j]?=some y:=⟨_,List.getElem?_eq_getElem (by have:=(List.getElem?_eq_some_iff.mp hlj).1;rw [C.vl];exact this)⟩
   rcases S.x4.blk j x yj q hx hyj hq with b|b
   · exact C.ds j i yj y q (by omega) hyj hy b z
   · have:=C.v0 i y q hy z;omega
 · exact S.x5.far (fun a ha hlt=>keep _ hlt (far _ (by have:=C.ho a ha;have:=C.le;omega) (fun y hy z=>C.aw a ha i y _ hy z rfl)))
 · refine S.x6.trans ⟨A.grow.os,A.grow.tape,A.grow.output,by have:=A.grow.size;omega,fun q hq=>?_⟩
   have hb:B≤wq.heap.size:=by have:=C.bf;have:=C.le;have:=S.x7;omega
   exact keep q (by omega) (fun z=>by have:=S.x1.ge q z;omega)
 · have:=A.grow.size;have:=S.x7;omega
 · have h9:=S.x9
   have hle:=C.le;have h7:=S.x7;rw [keep q (by omega) (far q (by omega) (fun y hy=>hn i y hy))];exact S.x8 q hq hn
structure S3 (w:World) (B F0:Nat) (vs:List Value) (ls:List (List (List Value))) (oa:Option Addr) (n i:Nat) (lv:Value) (xs:List Value) (wr:World):Prop where
 x3:RF wr B vs ls (f1 n)
 x4:LG wr B F0 vs ls i lv xs
 x5:HD wr oa vs
 x6:Below B w wr
 x7:F0≤wr.heap.size
 x8:Oth w wr vs
 x9:w.heap.size≤F0
theorem S4.push {w:World}{B F0 Fi:Nat}{vs:List Value}{ls:List (List (List Value))}{oa:Option Addr}{i n:Nat}{l:List (List Value)}{lv:Value}{xs:List Value}{yv xv:Value}{wq:World} (C:C4 B F0 Fi vs ls oa i n l lv xs yv)
 (S:S4 w B F0 Fi vs ls oa i n 6 l lv xs yv xv wq) {o:Obj}{v':Value}{w4:World} (hr:w4.ownsRow B 24 1 v' (i+1) (xs++[xv])) (hg:(wq.alloc o).grownBy w4 lv.ownBlock) (hd:v'.ownBlock=lv.ownBlock∨v'.ownBlock=some (wq.heap.size+1)) :
 S3 w B F0 vs ls oa n (i+1) v' (xs++[xv]) w4:=by
 have hsa:(wq.alloc o).heap.size=wq.heap.size+1:=World.size_alloc _ _;have keep:∀ q,q < wq.heap.size→lv.ownBlock≠some q→w4.heap[q]?=wq.heap[q]?:=fun q hq hne=>(hg.block q (by omega) (fun z=>hne z.symm)).trans (Below.heap_alloc wq o q hq)
 have hx:∀ q,xv.ownBlock=some q→lv.ownBlock≠some q:=fun q hq z=>by
  rcases S.x2 with ⟨g,cc,e1,e2⟩|e
  · have h1:yv.ownBlock=some q:=by rw [e2] at hq;rw [e1];exact hq
    have:=C.v0 i yv q C.hy h1;have:=S.x4.new q z;omega
  · have:=e q hq;have:=C.p1 q z;omega
 have cs:∀ (j:Nat) (x:Value),(xs++[xv])[j]?=some x→(j < i∧xs[j]?=some x)∨(j=i∧x=xv):=fun j x hx=>by
  rcases Nat.lt_or_ge j xs.length with hj|hj
  · rw [List.getElem?_append_left hj] at hx;exact Or.inl ⟨by rw [← C.xl];exact hj,hx⟩
  · rw [List.getElem?_append_right hj] at hx
    have h0:j - xs.length=0:=by
     rcases Nat.eq_zero_or_pos (j - xs.length) with q|q
     · exact q
     · rw [List.getElem?_eq_none (by simp;omega)] at hx;cases hx
    rw [h0] at hx
    cases hx
    exact Or.inr ⟨by have:=C.xl;omega,rfl⟩
 have sp:∀ (j:Nat) (x:Value) (k:Nat),(xs++[xv])[j]?=some x→x.ownBlock=some k→lv.ownBlock≠some k∧k < wq.heap.size:=fun j x k hj hk=>by
  rcases cs j x hj with ⟨a,b⟩|⟨_,b⟩
  · obtain ⟨lj,hlj⟩:∃ l,ls[j]?=some l:=⟨_,List.getElem?_eq_getElem (by have:=(List.getElem?_eq_some_iff.mp C.hl).1;omega)⟩
    exact ⟨S.x4.sep j x k b hk,(S.x4.own j x lj b hlj).lt k hk⟩
  · subst b;exact ⟨hx k hk,S.x1.lt k hk⟩
 refine ⟨fun j y lj hy hlj=>?_,⟨hr,by rw [List.length_append,C.xl];rfl,fun j x lj hxj hlj=>?_,fun j x y k hxj hyj hk=>?_,fun k hk=>?_,fun j x k hxj hk=>?_⟩,?_,?_,?_,fun q hq hn=>?_,S.x9⟩
 · have ob:=S.x3 j y lj hy hlj
   exact ob.kp (fun q hq=>keep q (ob.lt q hq) (fun z=>by have:=C.v0 j y q hy hq;have:=S.x4.new q z;omega))
 · rcases cs j x hxj with ⟨a,b⟩|⟨a,b⟩
   · have ob:=S.x4.own j x lj b hlj
     exact ob.kp (fun q hq=>keep q (ob.lt q hq) (S.x4.sep j x q b hq))
   · subst a b
     cases C.hl.symm.trans hlj
     exact S.x1.kp (fun q hq=>keep q (S.x1.lt q hq) (hx q hq))
 · rcases cs j x hxj with ⟨a,b⟩|⟨a,b⟩
   · exact S.x4.blk j x y k b hyj hk
   · subst a b
     cases C.hy.symm.trans hyj
     rcases S.x2 with ⟨g,cc,e1,e2⟩|e
     · left;rw [e2] at hk;rw [e1];exact hk
     · right;have:=e k hk;have:=C.le;omega
 · rcases hd with hd|hd
   · rw [hd] at hk;exact S.x4.new k hk
   · rw [hd] at hk;cases hk;have:=S.x7;have:=C.le;omega
 · obtain ⟨s1,s2⟩:=sp j x k hxj hk
   rcases hd with hd|hd
   · rw [hd];exact s1
   · rw [hd];intro z;cases z;omega
 · exact S.x5.far (fun a ha hlt=>keep _ hlt (fun z=>by have:=C.ho a ha;have:=S.x4.new _ z;omega))
 · refine S.x6.trans ⟨hg.os,hg.tape,hg.output,by have:=hg.size;omega,fun q hq=>?_⟩
   exact keep q (by have:=C.bf;have:=C.le;have:=S.x7;omega) (fun z=>by have:=S.x4.new q z;have:=C.bf;omega)
 · have:=hg.size;have:=S.x7;have:=C.le;omega
 · have h9:=S.x9
   have hle:=C.le;have h7:=S.x7;rw [keep q (by omega) (fun z=>by have:=S.x4.new q z;omega)];exact S.x8 q hq hn
end Go.Proofs.YthakglomacijgaaGreatDoor.apv
namespace Go.Proofs.YthakglomacijgaaGreatDoor.apf
open Go.RowKit Go.Proofs.YthakglomacijgaaGreatDoor.ap
open Go.Proofs.YthakglomacijgaaGreatDoor.mm (row_keep row_lt)
def p1 (i:Nat):List Value:=[.string ⟨#[]⟩,.int .i64 (100+(i:Int)),.bool false,.bool false,.string ⟨#[]⟩,.int .i64 0,.string ⟨#[]⟩,.slice none 0 0,.slice none 0 0]
def p4 (i:Nat):List Value:=[.string ⟨#[]⟩,.int .i64 (-100 - (i:Int)),.bool false,.bool false,.string ⟨#[]⟩,.int .i64 0,.string ⟨#[]⟩,.slice none 0 0,.slice none 0 0]
abbrev OB (w:World) (B:Nat) (v:Value) (l:List (List Value)):Prop:=OP 62 9 w B v l
theorem rep_len (i m k:Nat):∀ c∈List.replicate m (p1 i)++List.replicate k (p4 i),c.length=9:=by
 intro c hc
 rcases List.mem_append.1 hc with q|q
 · rw [(List.mem_replicate.1 q).2];rfl
 · rw [(List.mem_replicate.1 q).2];rfl
def RF (w:World) (B:Nat) (vs:List Value) (ls:List (List (List Value))) (f:Nat→List (List Value)→List (List Value)):Prop :=
 ∀ (j:Nat) (x:Value) (l:List (List Value)),vs[j]?=some x→ls[j]?=some l→OB w B x (f j l)
def DS (vs:List Value):Prop:=∀ (i j:Nat) (x y:Value) (k:Nat),i≠j→vs[i]?=some x→vs[j]?=some y→x.ownBlock=some k→y.ownBlock≠some k
def HD (w:World) (oa:Option Addr) (vs:List Value):Prop:=∀ a,oa=some a→∀ (j:Nat) (u:Value),vs[j]?=some u→w.cell? (a.add j)=some u
def AW (oa:Option Addr) (vs:List Value):Prop:=∀ a,oa=some a→∀ (j:Nat) (x:Value) (k:Nat),vs[j]?=some x→x.ownBlock=some k→a.block≠k
theorem RF.congr {w:World}{B:Nat}{vs:List Value}{ls:List (List (List Value))}{f g:Nat→List (List Value)→List (List Value)} (h:RF w B vs ls f) (e:∀ (j:Nat) (l:List (List Value)),ls[j]?=some l→f j l=g j l):RF w B vs ls g :=
 fun j x l hx hl=>by rw [← e j l hl];exact h j x l hx hl
theorem HD.far {w w':World}{oa:Option Addr}{vs:List Value} (h:HD w oa vs) (hb:∀ a,oa=some a→a.block < w.heap.size→w'.heap[a.block]?=w.heap[a.block]?):HD w' oa vs:=by
 intro a ha j u hu;have q:=h a ha j u hu
 have hlt:a.block < w.heap.size:=by
  have:=mm.cell_lt q;unfold Addr.add at this
  split at this <;> exact this
 have e:(a.add j).block=a.block:=by unfold Addr.add;split <;> rfl
 rw [World.cell?_of_block (w:=w) (by rw [e];exact hb a ha hlt)];exact q
theorem RF.set {w:World}{B:Nat}{vs:List Value}{ls:List (List (List Value))}{f f':Nat→List (List Value)→List (List Value)} (h:RF w B vs ls f) (hD:DS vs) {i g n c k:Nat}{b:List Value} (hb:b.length=9) (hi:vs[i]?=some (.slice (some ⟨g,0,none⟩) n c)) (hk:∀ l,ls[i]?=some l→k < (f i l).length)
 (h1:∀ (j:Nat) (l:List (List Value)),ls[j]?=some l→j≠i→f' j l=f j l) (h2:∀ l,ls[i]?=some l→f' i l=(f i l).set k b):RF (sets g w (k*9) b) B vs ls f':=by
 intro j x l hx hl
 by_cases e:j=i
 · subst e
   rw [hi] at hx
   cases hx
   rw [h2 l hl];exact OP.set (h j _ l hi hl) (hk l hl) hb
 · rw [h1 j l hl e]
   refine (h j x l hx hl).kp (fun q hq=>sets_block g b w _ q (fun z=>?_));exact hD j i x _ q e hx hi hq (by rw [z];rfl)
def f1 (i:Nat) (j:Nat) (l:List (List Value)):List (List Value):=if j < i then List.replicate l.length (p1 j) else l
def f2 (i k:Nat) (j:Nat) (l:List (List Value)):List (List Value):=if j < i then List.replicate l.length (p1 j) else if j=i then List.replicate k (p1 i)++l.drop k else l
theorem f1_length (i j:Nat) (l:List (List Value)):(f1 i j l).length=l.length:=by unfold f1;split <;> simp
theorem f2_start (i j:Nat) (l:List (List Value)):f1 i j l=f2 i 0 j l:=by
 unfold f1 f2;split
 · rfl
 · split <;> simp
theorem f2_end (i j:Nat) (l:List (List Value)) (k:Nat) (h:j=i→l.length=k):f2 i k j l=f1 (i+1) j l:=by
 unfold f1 f2
 by_cases h1:j < i
 · rw [if_pos h1,if_pos (by omega)]
 · rw [if_neg h1]
   by_cases h2:j=i
   · rw [if_pos h2,if_pos (by omega),← h h2,h2];simp
   · rw [if_neg h2,if_neg (by omega)]
theorem f2_far (i k j:Nat) (l:List (List Value)) (h:j≠i):f2 i (k+1) j l=f2 i k j l:=by
 unfold f2;rw [if_neg h,if_neg h]
theorem f2_set (i k:Nat) (l:List (List Value)) (h:k < l.length):f2 i (k+1) i l=(f2 i k i l).set k (p1 i):=by
 unfold f2;rw [if_neg (Nat.lt_irrefl _),if_pos rfl,if_neg (Nat.lt_irrefl _),if_pos rfl];rw [List.set_append_right k _ (by simp),List.length_replicate,Nat.sub_self,List.drop_eq_getElem_cons h,List.set_cons_zero,List.replicate_succ'];simp
structure LG (w:World) (B F0:Nat) (vs:List Value) (ls:List (List (List Value))) (i:Nat) (lv:Value) (xs:List Value):Prop where
 row:w.ownsRow B 25 1 lv i xs
 len:xs.length=i
 own:∀ (j:Nat) (x:Value) (l:List (List Value)),xs[j]?=some x→ls[j]?=some l→OB w B x (List.replicate l.length (p1 j)++List.replicate 6 (p4 j))
 blk:∀ (j:Nat) (x y:Value) (k:Nat),xs[j]?=some x→vs[j]?=some y→x.ownBlock=some k→y.ownBlock=some k∨F0≤k
 new:∀ k,lv.ownBlock=some k→F0≤k
 sep:∀ (j:Nat) (x:Value) (k:Nat),xs[j]?=some x→x.ownBlock=some k→lv.ownBlock≠some k
theorem LG.nil (w:World) (B F0:Nat) (vs:List Value) (ls:List (List (List Value))):LG w B F0 vs ls 0 (.slice none 0 0) [] :=
 ⟨World.ownsRow_nil _ _ _ _,rfl,(fun j x l h=>by simp at h),(fun j x y k h=>by simp at h),(fun k h=>by cases h),fun j x k h=>by simp at h⟩
def Oth (w w':World) (vs:List Value):Prop:=∀ q,q < w.heap.size→(∀ (j:Nat) (x:Value),vs[j]?=some x→x.ownBlock≠some q)→w'.heap[q]?=w.heap[q]?
structure C4 (B F0 Fi:Nat) (vs:List Value) (ls:List (List (List Value))) (oa:Option Addr) (i n:Nat) (l:List (List Value)) (lv:Value) (xs:List Value) (yv:Value):Prop where
 hy:vs[i]?=some yv
 hl:ls[i]?=some l
 ds:DS vs
 v0:∀ (j:Nat) (y:Value) (k:Nat),vs[j]?=some y→y.ownBlock=some k→k < F0
 p1:∀ k,lv.ownBlock=some k→k < Fi
 p2:∀ (j:Nat) (x:Value) (k:Nat),xs[j]?=some x→x.ownBlock=some k→k < Fi
 le:F0≤Fi
 aw:AW oa vs
 ho:∀ a,oa=some a→a.block < F0
 bf:B≤F0
 xl:xs.length=i
 vl:vs.length=ls.length
 ni:i < n
structure S4 (w:World) (B F0 Fi:Nat) (vs:List Value) (ls:List (List (List Value))) (oa:Option Addr) (i n k:Nat) (l:List (List Value)) (lv:Value) (xs:List Value) (yv xv:Value) (wq:World):Prop where
 x1:OB wq B xv (List.replicate l.length (p1 i)++List.replicate k (p4 i))
 x2:(∃ g cc,yv=.slice (some ⟨g,0,none⟩) l.length cc∧xv=.slice (some ⟨g,0,none⟩) (l.length+k) cc)∨(∀ q,xv.ownBlock=some q→Fi≤q)
 x3:RF wq B vs ls (f1 n)
 x4:LG wq B F0 vs ls i lv xs
 x5:HD wq oa vs
 x6:Below B w wq
 x7:Fi≤wq.heap.size
 x8:Oth w wq vs
 x9:w.heap.size≤F0
theorem OB.pre {w:World}{B g n m c c':Nat}{l r:List (List Value)} (h:OB w B (.slice (some ⟨g,0,none⟩) n c) (l++r)) (hm:m=l.length) (hc:c'=c):OB w B (.slice (some ⟨g,0,none⟩) m c') l:=by
 subst hm hc;obtain ⟨oa,c',e⟩:=h.form;simp only [Value.slice.injEq] at e;obtain ⟨_,rfl,_⟩:=e;have:=mm.row_take h.1 l.length (by rw [List.length_append];omega);refine ⟨?_,fun c hc=>h.2 c (List.mem_append_left _ hc)⟩;rw [List.flatten_append,List.take_append_of_le_length (by rw [flat_len l (fun c hc=>h.2 c (List.mem_append_left _ hc))];exact Nat.le_refl _),List.take_of_length_le (by rw [flat_len l (fun c hc=>h.2 c (List.mem_append_left _ hc))];exact Nat.le_refl _)] at this;exact this
theorem same_cap {w:World}{B g n m c c' k k':Nat}{xs ys:List Value} (h:w.ownsRow B 62 9 (.slice (some ⟨g,0,none⟩) n c) k xs) (h':w.ownsRow B 62 9 (.slice (some ⟨g,0,none⟩) m c') k' ys):c=c':=by
 obtain ⟨_,⟨e,_⟩|⟨g1,cap1,cur1,e1,_,hg1,_,_,hs1,_⟩⟩:=h
 · cases e
 · obtain ⟨_,⟨e,_⟩|⟨g2,cap2,cur2,e2,_,hg2,_,_,hs2,_⟩⟩:=h'
   · cases e
   · simp only [Value.slice.injEq,Option.some.injEq,Addr.mk.injEq] at e1 e2
     obtain ⟨⟨rfl,_⟩,_,rfl⟩:=e1;obtain ⟨⟨rfl,_⟩,_,rfl⟩:=e2;rw [hg1] at hg2;simp only [Option.some.injEq,Obj.cells.injEq] at hg2;rw [hg2.1] at hs1;omega
theorem S4.step {w:World}{B F0 Fi:Nat}{vs:List Value}{ls:List (List (List Value))}{oa:Option Addr}{i n k:Nat}{l:List (List Value)}{lv:Value}{xs:List Value}{yv xv:Value}{wq:World} (C:C4 B F0 Fi vs ls oa i n l lv xs yv)
 (S:S4 w B F0 Fi vs ls oa i n k l lv xs yv xv wq) {o:Obj}{v':Value}{w2:World} (A:mm.Apd (wq.alloc o) w2 B 62 9 xv v' (l.length+k) 1 (List.replicate l.length (p1 i)++List.replicate k (p4 i)).flatten (p4 i)):S4 w B F0 Fi vs ls oa i n (k+1) l lv xs yv v' w2:=by
 have hlen:(List.replicate l.length (p1 i)++List.replicate k (p4 i)).length=l.length+k:=by simp
 have hsa:(wq.alloc o).heap.size=wq.heap.size+1:=World.size_alloc _ _
 have h2':OB w2 B v' (List.replicate l.length (p1 i)++List.replicate (k+1) (p4 i)):=by
  refine ⟨?_,rep_len i l.length (k+1)⟩;have:=A.row;rw [List.replicate_succ',← List.append_assoc,List.flatten_append,List.length_append,hlen];simpa using this
 have hold:OB w2 B xv (List.replicate l.length (p1 i)++List.replicate k (p4 i)):=⟨by rw [hlen];exact A.old,S.x1.2⟩;have hfy:f1 n i l=List.replicate l.length (p1 i):=by unfold f1;rw [if_pos C.ni]
 have hrow:∀ g,xv.ownBlock=some g→((∃ cc,yv=.slice (some ⟨g,0,none⟩) l.length cc∧xv=.slice (some ⟨g,0,none⟩) (l.length+k) cc)∨Fi≤g):=by
  intro g hg
  rcases S.x2 with ⟨g',cc,z1,z2⟩|z
  · rw [z2] at hg
    cases hg
    exact Or.inl ⟨cc,z1,z2⟩
  · exact Or.inr (z g hg)
 have hx2:(∃ g cc,yv=.slice (some ⟨g,0,none⟩) l.length cc∧v'=.slice (some ⟨g,0,none⟩) (l.length+(k+1)) cc)∨(∀ q,v'.ownBlock=some q→Fi≤q):=by
  rcases A.blk with hb|hb
  · rcases S.x2 with ⟨g,cc,z1,z2⟩|z
    · left
      have hvb:v'.ownBlock=some g:=by rw [hb,z2];rfl
      rcases A.row.2 with ⟨e,_⟩|⟨g',cap,cur,e,_⟩
      · rw [e] at hvb;cases hvb
      · rw [e] at hvb
        cases hvb
        have h1:=A.row;have h0:=A.old;rw [e] at h1;rw [z2] at h0;have:=same_cap h0 h1;subst this;exact ⟨g',cc,z1,by rw [e,Nat.add_assoc]⟩
    · right
      intro q hq;exact z q (hb ▸ hq)
  · right
    intro q hq;have:=hb q hq;have:=S.x7;omega
 have keep:∀ q,q < wq.heap.size→xv.ownBlock≠some q→w2.heap[q]?=wq.heap[q]?:=fun q hq hne=>(A.grow.block q (by omega) (fun z=>hne z.symm)).trans (Below.heap_alloc wq o q hq)
 have far:∀ q,q < Fi→(∀ y,vs[i]?=some y→y.ownBlock≠some q)→xv.ownBlock≠some q:=fun q hq hy z=>by
  rcases hrow q z with ⟨cc,e1,_⟩|e
  · exact hy yv C.hy (by rw [e1];rfl)
  · omega
 refine ⟨h2',hx2,fun j y lj hy hlj=>?_,⟨?_,S.x4.len,fun j x lj hx hlj=>?_,S.x4.blk,S.x4.new,S.x4.sep⟩,?_,?_,?_,fun q hq hn=>?_,S.x9⟩
 · have ob:=S.x3 j y lj hy hlj
   by_cases e:j=i
   · subst e
     cases C.hy.symm.trans hy
     cases C.hl.symm.trans hlj
     by_cases hr:∃ q,xv.ownBlock=some q∧yv.ownBlock=some q
     · obtain ⟨q,r1,r2⟩:=hr
       rcases hrow q r1 with ⟨cc,e1,e2⟩|e
       · rw [hfy,e1]
         rw [e2] at hold;exact hold.pre (by simp) rfl
       · have:=C.v0 j yv q C.hy r2;have:=C.le;omega
     · exact ob.kp (fun q hq=>keep q (ob.lt q hq) (fun z=>hr ⟨q,z,hq⟩))
   · exact ob.kp (fun q hq=>keep q (ob.lt q hq) (far q (by have:=C.v0 j y q hy hq;have:=C.le;omega) (fun y' hy'=>C.ds j i y y' q e hy hy' hq)))
 · exact row_keep S.x4.row (fun q hq=>keep q (row_lt S.x4.row q hq).2 (far q (C.p1 q hq) (fun y hy z=>by have:=C.v0 i y q hy z;have:=S.x4.new q hq;omega)))
 · have ob:=S.x4.own j x lj hx hlj
   have hji:j < i:=by have:=(List.getElem?_eq_some_iff.mp hx).1;rw [C.xl] at this;exact this
   refine ob.kp (fun q hq=>keep q (ob.lt q hq) (far q (C.p2 j x q hx hq) (fun y hy z=>?_)));obtain ⟨yj,hyj⟩:∃ y,vs[j]?=some y:=⟨_,List.getElem?_eq_getElem (by have:=(List.getElem?_eq_some_iff.mp hlj).1;rw [C.vl];exact this)⟩
   rcases S.x4.blk j x yj q hx hyj hq with b|b
   · exact C.ds j i yj y q (by omega) hyj hy b z
   · have:=C.v0 i y q hy z;omega
 · exact S.x5.far (fun a ha hlt=>keep _ hlt (far _ (by have:=C.ho a ha;have:=C.le;omega) (fun y hy z=>C.aw a ha i y _ hy z rfl)))
 · refine S.x6.trans ⟨A.grow.os,A.grow.tape,A.grow.output,by have:=A.grow.size;omega,fun q hq=>?_⟩
   have hb:B≤wq.heap.size:=by have:=C.bf;have:=C.le;have:=S.x7;omega
   exact keep q (by omega) (fun z=>by have:=S.x1.ge q z;omega)
 · have:=A.grow.size;have:=S.x7;omega
 · have h9:=S.x9
   have hle:=C.le;have h7:=S.x7;rw [keep q (by omega) (far q (by omega) (fun y hy=>hn i y hy))];exact S.x8 q hq hn
structure S3 (w:World) (B F0:Nat) (vs:List Value) (ls:List (List (List Value))) (oa:Option Addr) (n i:Nat) (lv:Value) (xs:List Value) (wr:World):Prop where
 x3:RF wr B vs ls (f1 n)
 x4:LG wr B F0 vs ls i lv xs
 x5:HD wr oa vs
 x6:Below B w wr
 x7:F0≤wr.heap.size
 x8:Oth w wr vs
 x9:w.heap.size≤F0
theorem S4.push {w:World}{B F0 Fi:Nat}{vs:List Value}{ls:List (List (List Value))}{oa:Option Addr}{i n:Nat}{l:List (List Value)}{lv:Value}{xs:List Value}{yv xv:Value}{wq:World} (C:C4 B F0 Fi vs ls oa i n l lv xs yv)
 (S:S4 w B F0 Fi vs ls oa i n 6 l lv xs yv xv wq) {o:Obj}{v':Value}{w4:World} (hr:w4.ownsRow B 25 1 v' (i+1) (xs++[xv])) (hg:(wq.alloc o).grownBy w4 lv.ownBlock) (hd:v'.ownBlock=lv.ownBlock∨v'.ownBlock=some (wq.heap.size+1)) :
 S3 w B F0 vs ls oa n (i+1) v' (xs++[xv]) w4:=by
 have hsa:(wq.alloc o).heap.size=wq.heap.size+1:=World.size_alloc _ _;have keep:∀ q,q < wq.heap.size→lv.ownBlock≠some q→w4.heap[q]?=wq.heap[q]?:=fun q hq hne=>(hg.block q (by omega) (fun z=>hne z.symm)).trans (Below.heap_alloc wq o q hq)
 have hx:∀ q,xv.ownBlock=some q→lv.ownBlock≠some q:=fun q hq z=>by
  rcases S.x2 with ⟨g,cc,e1,e2⟩|e
  · have h1:yv.ownBlock=some q:=by rw [e2] at hq;rw [e1];exact hq
    have:=C.v0 i yv q C.hy h1;have:=S.x4.new q z;omega
  · have:=e q hq;have:=C.p1 q z;omega
 have cs:∀ (j:Nat) (x:Value),(xs++[xv])[j]?=some x→(j < i∧xs[j]?=some x)∨(j=i∧x=xv):=fun j x hx=>by
  rcases Nat.lt_or_ge j xs.length with hj|hj
  · rw [List.getElem?_append_left hj] at hx;exact Or.inl ⟨by rw [← C.xl];exact hj,hx⟩
  · rw [List.getElem?_append_right hj] at hx
    have h0:j - xs.length=0:=by
     rcases Nat.eq_zero_or_pos (j - xs.length) with q|q
     · exact q
     · rw [List.getElem?_eq_none (by simp;omega)] at hx;cases hx
    rw [h0] at hx
    cases hx
    exact Or.inr ⟨by have:=C.xl;omega,rfl⟩
 have sp:∀ (j:Nat) (x:Value) (k:Nat),(xs++[xv])[j]?=some x→x.ownBlock=some k→lv.ownBlock≠some k∧k < wq.heap.size:=fun j x k hj hk=>by
  rcases cs j x hj with ⟨a,b⟩|⟨_,b⟩
  · obtain ⟨lj,hlj⟩:∃ l,ls[j]?=some l:=⟨_,List.getElem?_eq_getElem (by have:=(List.getElem?_eq_some_iff.mp C.hl).1;omega)⟩
    exact ⟨S.x4.sep j x k b hk,(S.x4.own j x lj b hlj).lt k hk⟩
  · subst b;exact ⟨hx k hk,S.x1.lt k hk⟩
 refine ⟨fun j y lj hy hlj=>?_,⟨hr,by rw [List.length_append,C.xl];rfl,fun j x lj hxj hlj=>?_,fun j x y k hxj hyj hk=>?_,fun k hk=>?_,fun j x k hxj hk=>?_⟩,?_,?_,?_,fun q hq hn=>?_,S.x9⟩
 · have ob:=S.x3 j y lj hy hlj
   exact ob.kp (fun q hq=>keep q (ob.lt q hq) (fun z=>by have:=C.v0 j y q hy hq;have:=S.x4.new q z;omega))
 · rcases cs j x hxj with ⟨a,b⟩|⟨a,b⟩
   · have ob:=S.x4.own j x lj b hlj
     exact ob.kp (fun q hq=>keep q (ob.lt q hq) (S.x4.sep j x q b hq))
   · subst a b
     cases C.hl.symm.trans hlj
     exact S.x1.kp (fun q hq=>keep q (S.x1.lt q hq) (hx q hq))
 · rcases cs j x hxj with ⟨a,b⟩|⟨a,b⟩
   · exact S.x4.blk j x y k b hyj hk
   · subst a b
     cases C.hy.symm.trans hyj
     rcases S.x2 with ⟨g,cc,e1,e2⟩|e
     · left;rw [e2] at hk;rw [e1];exact hk
     · right;have:=e k hk;have:=C.le;omega
 · rcases hd with hd|hd
   · rw [hd] at hk;exact S.x4.new k hk
   · rw [hd] at hk;cases hk;have:=S.x7;have:=C.le;omega
 · obtain ⟨s1,s2⟩:=sp j x k hxj hk
   rcases hd with hd|hd
   · rw [hd];exact s1
   · rw [hd];intro z;cases z;omega
 · exact S.x5.far (fun a ha hlt=>keep _ hlt (fun z=>by have:=C.ho a ha;have:=S.x4.new _ z;omega))
 · refine S.x6.trans ⟨hg.os,hg.tape,hg.output,by have:=hg.size;omega,fun q hq=>?_⟩
   exact keep q (by have:=C.bf;have:=C.le;have:=S.x7;omega) (fun z=>by have:=S.x4.new q z;have:=C.bf;omega)
 · have:=hg.size;have:=S.x7;have:=C.le;omega
 · have h9:=S.x9
   have hle:=C.le;have h7:=S.x7;rw [keep q (by omega) (fun z=>by have:=S.x4.new q z;omega)];exact S.x8 q hq hn
end Go.Proofs.YthakglomacijgaaGreatDoor.apf
