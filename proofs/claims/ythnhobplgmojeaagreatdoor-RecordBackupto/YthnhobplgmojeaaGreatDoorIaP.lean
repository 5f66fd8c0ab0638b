/- Texts in one: Ia Ua -/
import Derived.Test.YthnhobplgmojeaaGreatDoorOdP
import Derived.Test.YthnhobplgmojeaaGreatDoorMrP
import Derived.Deep.AppendLies
import Derived.OwnWalk
namespace Go.Proofs.YthnhobplgmojeaaGreatDoor.rd
open Go.RowKit
inductive JT where
 | mk (k:Int) (t:Bool) (d:Dn) (x:ByteArray) (l:List JT) (f:List (ByteArray × JT))
def own (v:Value):List Nat:=v.ownBlock.toList
def fcs (f:List (ByteArray × JT)) (gss:List (List Value)):List Value:=(List.zipWith (fun p c=>Value.string p.1::c) f gss).flatten
inductive VRep (w:World) (B:Nat):JT→List Value→List Nat→Prop
 | mk {k:Int}{t:Bool}{d:Dn}{x:ByteArray}{l:List JT}{f:List (ByteArray × JT)}{lv fv:Value}{css gss:List (List Value)}{ps qs:List (List Nat)}
  (hl:w.ownsRow B 28 8 lv l.length css.flatten) (hf:w.ownsRow B 70 9 fv f.length (fcs f gss))
  (h1:css.length=l.length) (h2:ps.length=l.length) (h3:gss.length=f.length) (h4:qs.length=f.length)
  (hle:∀ (i:Nat) (v:JT) (c:List Value) (p:List Nat),l[i]?=some v→css[i]?=some c→ps[i]?=some p→VRep w B v c p)
  (hfe:∀ (i:Nat) (n:ByteArray) (v:JT) (c:List Value) (p:List Nat),f[i]?=some (n,v)→gss[i]?=some c→qs[i]?=some p→VRep w B v c p) :
  VRep w B (JT.mk k t d x l f) [.int .i64 k,.bool t,.bool d.neg,.string d.dg,.int .i64 d.ex,.string x,lv,fv] (own lv++own fv++ps.flatten++qs.flatten)
theorem owns_keep {w w':World}{B:Nat}{e:TypeId}{size:Nat}{v:Value}{n:Nat}{xs:List Value} (h:w.ownsRow B e size v n xs) (hk:∀ b∈own v,w'.heap[b]?=w.heap[b]?):w'.ownsRow B e size v n xs:=by
 refine ⟨h.1,?_⟩
 rcases h.2 with h2|⟨g,cap,cur,rfl,hb,hg,rest⟩
 · exact .inl h2
 · exact .inr ⟨g,cap,cur,rfl,hb,(hk g (by simp [own,Value.ownBlock])).trans hg,rest⟩
theorem owns_base {w:World}{B B':Nat}{e:TypeId}{size:Nat}{v:Value}{n:Nat}{xs:List Value} (h:w.ownsRow B e size v n xs) (hB:B'≤B):w.ownsRow B' e size v n xs:=by
 refine ⟨h.1,?_⟩
 rcases h.2 with h2|⟨g,cap,cur,rfl,hb,rest⟩
 · exact .inl h2
 · exact .inr ⟨g,cap,cur,rfl,by omega,rest⟩
theorem owns_ge {w:World}{B:Nat}{e:TypeId}{size:Nat}{v:Value}{n:Nat}{xs:List Value} (h:w.ownsRow B e size v n xs):∀ b∈own v,B≤b∧b < w.heap.size:=by
 intro b hbm
 rcases h.2 with ⟨rfl,_⟩|⟨g,cap,cur,rfl,hb,hg,rest⟩
 · simp [own,Value.ownBlock] at hbm
 · simp [own,Value.ownBlock] at hbm
   subst hbm;exact ⟨hb,blk_lt hg⟩
theorem mem_flat {ps:List (List Nat)}{i:Nat}{p:List Nat} (h:ps[i]?=some p) {b:Nat} (hb:b∈p):b∈ps.flatten:=List.mem_flatten.2 ⟨p,List.mem_of_getElem? h,hb⟩
theorem VRep.keep {w w':World}{B:Nat}{v:JT}{cs:List Value}{p:List Nat} (h:VRep w B v cs p):(∀ b∈p,w'.heap[b]?=w.heap[b]?)→VRep w' B v cs p:=by
 induction h with
 | mk hl hf h1 h2 h3 h4 hle hfe ih1 ih2 =>
   intro hk;refine .mk (owns_keep hl fun b hb=>hk b (by simp [hb])) (owns_keep hf fun b hb=>hk b (by simp [hb])) h1 h2 h3 h4 ?_ ?_
   · intro i v c p e1 e2 e3
     exact ih1 i v c p e1 e2 e3 fun b hb=>hk b (by have:=mem_flat e3 hb;simp [this])
   · intro i n v c p e1 e2 e3
     exact ih2 i n v c p e1 e2 e3 fun b hb=>hk b (by have:=mem_flat e3 hb;simp [this])
theorem VRep.base {w:World}{B B':Nat}{v:JT}{cs:List Value}{p:List Nat} (h:VRep w B v cs p) (hB:B'≤B):VRep w B' v cs p:=by
 induction h with
 | mk hl hf h1 h2 h3 h4 hle hfe ih1 ih2=>exact .mk (owns_base hl hB) (owns_base hf hB) h1 h2 h3 h4 ih1 ih2
theorem VRep.ge {w:World}{B:Nat}{v:JT}{cs:List Value}{p:List Nat} (h:VRep w B v cs p):∀ b∈p,B≤b∧b < w.heap.size:=by
 induction h with
 | mk hl hf h1 h2 h3 h4 hle hfe ih1 ih2 =>
   intro b hb;simp only [List.mem_append] at hb
   rcases hb with ((hb|hb)|hb)|hb
   · exact owns_ge hl b hb
   · exact owns_ge hf b hb
   · obtain ⟨p,hp,hbp⟩:=List.mem_flatten.1 hb
     obtain ⟨i,hi⟩:=List.getElem?_of_mem hp;obtain ⟨hlt,_⟩:=List.getElem?_eq_some_iff.1 hi;exact ih1 i _ _ p (List.getElem?_eq_getElem (by omega)) (List.getElem?_eq_getElem (by omega)) hi b hbp
   · obtain ⟨p,hp,hbp⟩:=List.mem_flatten.1 hb
     obtain ⟨i,hi⟩:=List.getElem?_of_mem hp;obtain ⟨hlt,_⟩:=List.getElem?_eq_some_iff.1 hi;exact ih2 i _ _ _ p (List.getElem?_eq_getElem (by omega)) (List.getElem?_eq_getElem (by omega)) hi b hbp
theorem VRep.eight {w:World}{B:Nat}{v:JT}{cs:List Value}{p:List Nat} (h:VRep w B v cs p):∃ a0 a1 a2 a3 a4 a5 a6 a7,cs=[a0,a1,a2,a3,a4,a5,a6,a7]:=by
 cases h
 exact ⟨_,_,_,_,_,_,_,_,rfl⟩
inductive VR (w:World):JT→List Value→Prop
 | mk {k:Int}{t:Bool}{d:Dn}{x:ByteArray}{l:List JT}{f:List (ByteArray × JT)}{lv fv:Value}{css gss:List (List Value)}
  (hl:mm.SV w lv l.length 8 css.flatten) (hf:mm.SV w fv f.length 9 (fcs f gss))
  (h1:css.length=l.length) (h3:gss.length=f.length)
  (hle:∀ (i:Nat) (v:JT) (c:List Value),l[i]?=some v→css[i]?=some c→VR w v c)
  (hfe:∀ (i:Nat) (n:ByteArray) (v:JT) (c:List Value),f[i]?=some (n,v)→gss[i]?=some c→VR w v c) :
  VR w (JT.mk k t d x l f) [.int .i64 k,.bool t,.bool d.neg,.string d.dg,.int .i64 d.ex,.string x,lv,fv]
theorem VRep.vr {w:World}{B:Nat}{v:JT}{cs:List Value}{p:List Nat} (h:VRep w B v cs p):VR w v cs:=by
 induction h with
 | mk hl hf h1 h2 h3 h4 hle hfe ih1 ih2 =>
   refine .mk (mm.own_sv hl) (mm.own_sv hf) h1 h3 (fun i v c e1 e2=>?_) (fun i n v c e1 e2=>?_)
   · obtain ⟨hlt,_⟩:=List.getElem?_eq_some_iff.1 e1
     exact ih1 i v c _ e1 e2 (List.getElem?_eq_getElem (by omega))
   · obtain ⟨hlt,_⟩:=List.getElem?_eq_some_iff.1 e1
     exact ih2 i n v c _ e1 e2 (List.getElem?_eq_getElem (by omega))
theorem VR.keep {w w':World}{v:JT}{cs:List Value} (h:VR w v cs) (hb:Below w.heap.size w w'):VR w' v cs:=by
 induction h with
 | mk hl hf h1 h3 hle hfe ih1 ih2=>exact .mk (hl.keep hb) (hf.keep hb) h1 h3 ih1 ih2
theorem VR.drewN {w:World}{v:JT}{cs:List Value} (h:VR w v cs) (n:Nat):VR (w.drewN n) v cs:=h.keep (mm.below_drewN _ _ _)
theorem VR.eight {w:World}{v:JT}{cs:List Value} (h:VR w v cs):∃ a0 a1 a2 a3 a4 a5 a6 a7,cs=[a0,a1,a2,a3,a4,a5,a6,a7]:=by
 cases h
 exact ⟨_,_,_,_,_,_,_,_,rfl⟩
theorem VR.len {w:World}{v:JT}{cs:List Value} (h:VR w v cs):cs.length=8:=by
 cases h
 rfl
theorem VR.one {w:World}{v:JT}{cs:List Value} (h:VR w v cs):∀ u∈cs,u.oneCell'=true:=by
 cases h with
 | mk hl hf _ _ _ _ =>
   obtain ⟨oa,c,rfl,_⟩:=mm.SV.form hl;obtain ⟨oa',c',rfl,_⟩:=mm.SV.form hf;intro u hu;simp only [List.mem_cons,List.not_mem_nil,or_false] at hu
   rcases hu with rfl|rfl|rfl|rfl|rfl|rfl|rfl|rfl <;> rfl
theorem flat_at {α:Type}{css:List (List α)}{s:Nat} (hs:∀ c∈css,c.length=s):∀ {i:Nat}{c:List α},css[i]?=some c→∀ {j:Nat},j < s→css.flatten[i*s+j]?=c[j]?:=by
 induction css with
 | nil=>intro i c h;simp at h
 | cons a css ih =>
   intro i c h j hj;have ha:=hs a (by simp)
   cases i with
   | zero =>
     simp at h;subst h;rw [List.flatten_cons,Nat.zero_mul,Nat.zero_add,List.getElem?_append_left (by omega)]
   | succ i =>
     rw [List.getElem?_cons_succ] at h;have:=ih (fun c hc=>hs c (by simp [hc])) h hj;rw [List.flatten_cons,List.getElem?_append_right (by rw [ha,Nat.succ_mul];omega),ha];rw [show (i+1)*s+j - s=i*s+j by rw [Nat.succ_mul];omega];exact this
inductive Bd:JT→Prop
 | mk {k:Int}{t:Bool}{d:Dn}{x:ByteArray}{l:List JT}{f:List (ByteArray × JT)} (hk:-9223372036854775808≤k∧k≤9223372036854775807) (h0:d.dg.size≤1099511627776) (h1:-9223372036854775808≤d.ex∧d.ex≤9223372036854775807) (h2:x.size≤35184372088832)
  (h3:l.length≤100000000000) (h4:f.length≤100000000000) (hl:∀ v∈l,Bd v) (hn:∀ p∈f,p.1.size≤35184372088832) (hf:∀ p∈f,Bd p.2):Bd (JT.mk k t d x l f)
theorem cells8 {w:World}{ad:Addr}{a0 a1 a2 a3 a4 a5 a6 a7:Value} (h:∀ (j:Nat) (u:Value),[a0,a1,a2,a3,a4,a5,a6,a7][j]?=some u→w.cell? (ad.add j)=some u) :
 w.cell? ad=some a0∧w.cell? ⟨ad.block,ad.off+1,none⟩=some a1∧w.cell? ⟨ad.block,ad.off+2,none⟩=some a2∧w.cell? ⟨ad.block,ad.off+3,none⟩=some a3∧w.cell? ⟨ad.block,ad.off+4,none⟩=some a4∧w.cell? ⟨ad.block,ad.off+5,none⟩=some a5∧w.cell? ⟨ad.block,ad.off+6,none⟩=some a6∧w.cell? ⟨ad.block,ad.off+7,none⟩=some a7 :=
 ⟨h 0 a0 rfl,h 1 a1 rfl,h 2 a2 rfl,h 3 a3 rfl,h 4 a4 rfl,h 5 a5 rfl,h 6 a6 rfl,h 7 a7 rfl⟩
theorem sv_at {w:World}{a:Addr}{s:Nat}{css:List (List Value)} (hs:∀ c∈css,c.length=s) (h:∀ (j:Nat) (u:Value),css.flatten[j]?=some u→w.cell? (a.add j)=some u) {k:Nat}{c:List Value} (hc:css[k]?=some c) :
 ∀ (j:Nat) (u:Value),c[j]?=some u→w.cell? ((a.add (k*s)).add j)=some u:=by
 intro j u hu;rw [mm.add_add];have hl:=hs c (List.mem_of_getElem? hc);obtain ⟨hj,_⟩:=List.getElem?_eq_some_iff.1 hu;exact h _ u (by rw [flat_at hs hc (by omega)];exact hu)
end Go.Proofs.YthnhobplgmojeaaGreatDoor.rd
namespace Go.Proofs.YthnhobplgmojeaaGreatDoor.pt
open Go.RowKit
def fol (s:ByteArray) (k lo hi:Nat):Bool:=match s.data.toList[k]? with
 | some c=>decide (lo≤c.toNat∧c.toNat≤hi)
 | none=>false
theorem fol_end (s:ByteArray) (k lo hi:Nat) (h:s.size≤k):fol s k lo hi=false:=by
 unfold fol;rw [List.getElem?_eq_none (by rw [Array.length_toList];exact h)]
theorem fol_at (s:ByteArray) (k lo hi:Nat) (h:k < s.size):fol s k lo hi=decide (lo≤s[k].toNat∧s[k].toNat≤hi):=by
 unfold fol;have h2:k < s.data.toList.length:=by rw [Array.length_toList];exact h
 rw [List.getElem?_eq_getElem h2];rfl
set_option maxRecDepth 100000 in
set_option maxHeartbeats 1600000 in
theorem follows_any (s:ByteArray) (k lo hi:Nat) (ki loi hii:Int) (hki:ki=(k:Int)) (hlo:loi=(lo:Int)) (hhi:hii=(hi:Int)) (w:World) :
 Calls Tryz.prog 99 #[.string s,.int .i64 ki,.int .u8 loi,.int .u8 hii] w fun e w'=>e=.returned (.bool (fol s k lo hi))∧w'=w:=by
 subst hki hlo hhi
 by_cases h:k < s.size
 · have h':(k:Int) < (s.size:Int):=by omega
   have hk0:(0:Int)≤(k:Int):=by omega
   rw [fol_at s k lo hi h]
   by_cases h1:lo≤s[k].toNat
   · have h1':(lo:Int)≤(s[k].toNat:Int):=by omega
     by_cases h2:s[k].toNat≤hi
     · have h2':(s[k].toNat:Int)≤(hi:Int):=by omega
       have hd:decide (lo≤s[k].toNat∧s[k].toNat≤hi)=true:=decide_eq_true ⟨h1,h2⟩;rw [hd];clear hd
       go_enter Tryz.func99,Tryz.ntmps99
       go_wp2;go_ret;exact ⟨by simp,rfl⟩
     · have h2':decide ((s[k].toNat:Int)≤(hi:Int))=false:=decide_eq_false (by omega)
       have hd:decide (lo≤s[k].toNat∧s[k].toNat≤hi)=false:=decide_eq_false (by omega);rw [hd];clear hd
       go_enter Tryz.func99,Tryz.ntmps99
       go_wp2;go_ret;exact ⟨by simp,rfl⟩
   · have h1':decide ((lo:Int)≤(s[k].toNat:Int))=false:=decide_eq_false (by omega)
     have hd:decide (lo≤s[k].toNat∧s[k].toNat≤hi)=false:=decide_eq_false (by omega);rw [hd];clear hd
     go_enter Tryz.func99,Tryz.ntmps99
     go_wp2
     all_goals first|(exfalso;omega)|skip
     go_ret;exact ⟨by simp,rfl⟩
 · have h':¬ (k:Int) < (s.size:Int):=by omega
   rw [fol_end s k lo hi (by omega)]
   go_enter Tryz.func99,Tryz.ntmps99
   go_wp2;go_ret;exact ⟨rfl,rfl⟩
def loC (c:Nat):Nat:=if c=224 then 160 else if c=240 then 144 else 128
def hiC (c:Nat):Nat:=if c=237 then 159 else if c=244 then 143 else 191
def ltrC (c:Nat) (b2 b3 b4:Bool):Nat :=
 if c < 128 then 1 else if c < 194∨244 < c then 0 else
 if c < 224 then (if b2=true then 2 else 0) else if c < 240 then (if b2=true∧b3=true then 3 else 0) else (if b2=true∧b3=true∧b4=true then 4 else 0)
def ltr (s:ByteArray) (k:Nat):Nat:=match s.data.toList[k]? with
 | some c=>ltrC c.toNat (fol s (k+1) (loC c.toNat) (hiC c.toNat)) (fol s (k+2) 128 191) (fol s (k+3) 128 191)
 | none=>0
set_option maxRecDepth 100000 in
set_option maxHeartbeats 12800000 in
theorem letter_any (s:ByteArray) (k:Nat) (w:World) (hk:k < s.size) (hs:s.size≤4611686018427387904) :
 Calls Tryz.prog 72 #[.string s,.int .i64 (k:Int)] w fun e w'=>e=.returned (.int .i64 (ltr s k:Int))∧w'=w:=by
 have hk':(k:Int) < (s.size:Int):=by omega
 have hk0:(0:Int)≤(k:Int):=by omega
 have hr:ltr s k=ltrC s[k].toNat (fol s (k+1) (loC s[k].toNat) (hiC s[k].toNat)) (fol s (k+2) 128 191) (fol s (k+3) 128 191):=by
  unfold ltr;have h2:k < s.data.toList.length:=by rw [Array.length_toList];exact hk
  rw [List.getElem?_eq_getElem h2];rfl
 rw [hr];clear hr;have hx0:s[k].toNat < 256:=s[k].toNat_lt;have F3:=hide (fun u=>follows_any s (k+2) 128 191 ((k:Int)+2) 128 191 (by omega) rfl rfl u);have F4:=hide (fun u=>follows_any s (k+3) 128 191 ((k:Int)+3) 128 191 (by omega) rfl rfl u);have F2:=hide (fun (lo hi:Nat) (li hii:Int) h1 h2 u=>follows_any s (k+1) lo hi ((k:Int)+1) li hii (by omega) h1 h2 u);generalize hc:s[k].toNat=c at *;have hci:(s[k].toNat:Int)=(c:Int):=by rw [hc]
 have hcls:(c < 128)∨(128≤c∧c < 194)∨(194≤c∧c < 224)∨(c=224)∨(225≤c∧c≤236)∨(c=237)∨(c=238∨c=239)∨(c=240)∨(241≤c∧c≤243)∨(c=244)∨(245≤c):=by omega
 rcases hcls with hq|hq|hq|hq|hq|hq|hq|hq|hq|hq|hq
 · have a1:(c:Int) < 128:=by omega
   have hv:∀ x y z,ltrC c x y z=1:=fun x y z=>by unfold ltrC;rw [if_pos (by omega)]
   rw [hv];clear hv F2 F3 F4 hq hx0
   go_enter Tryz.func72,Tryz.ntmps72
   go_wp2;go_ret;exact ⟨rfl,rfl⟩
 · have a1:¬ (c:Int) < 128:=by omega
   have a2:(c:Int) < 194:=by omega
   have hv:∀ x y z,ltrC c x y z=0:=fun x y z=>by unfold ltrC;rw [if_neg (by omega),if_pos (by omega)]
   rw [hv];clear hv F2 F3 F4 hq hx0
   go_enter Tryz.func72,Tryz.ntmps72
   go_wp2;go_ret;exact ⟨rfl,rfl⟩
 · have a1:¬ (c:Int) < 128:=by omega
   have a2:¬ (c:Int) < 194:=by omega
   have a3:¬ (244:Int) < (c:Int):=by omega
   have e1:((c:Int) == 224)=false:=by simp;omega
   have e2:((c:Int) == 237)=false:=by simp;omega
   have e3:((c:Int) == 240)=false:=by simp;omega
   have e4:((c:Int) == 244)=false:=by simp;omega
   have a4:(c:Int) < 224:=by omega
   have b1:decide ((224:Int)≤(c:Int))=false:=decide_eq_false (by omega);have b2:decide ((240:Int)≤(c:Int))=false:=decide_eq_false (by omega);have hlo:loC c=128:=by unfold loC;rw [if_neg (by omega),if_neg (by omega)]
   have hhi:hiC c=191:=by unfold hiC;rw [if_neg (by omega),if_neg (by omega)]
   rw [hlo,hhi];have hv:∀ x y z,ltrC c x y z=(if x=true then 2 else 0):=fun x y z=>by unfold ltrC;rw [if_neg (by omega),if_neg (by omega),if_pos (by omega)]
   rw [hv];have G2:=hide (fun u=>uh F2 128 191 128 191 rfl rfl u);generalize fol s (k+1) 128 191=b2 at *;generalize fol s (k+2) 128 191=b3 at *;generalize fol s (k+3) 128 191=b4 at *;clear hv F2 hq hx0 hlo hhi
   go_enter Tryz.func72,Tryz.ntmps72
   go_wp2_with fail
   refine (uh G2 _).mono ?_;rintro e u ⟨rfl,hu⟩;obtain rfl:=hu.symm;clear hu
   go_wp2_with fail
   refine (uh F3 _).mono ?_;rintro e u ⟨rfl,hu⟩;obtain rfl:=hu.symm;clear hu
   go_wp2_with fail
   refine (uh F4 _).mono ?_;rintro e u ⟨rfl,hu⟩;obtain rfl:=hu.symm;clear hu G2 F3 F4
   cases b2
   all_goals
    go_wp2;go_ret;exact ⟨rfl,rfl⟩
 · have a1:¬ (c:Int) < 128:=by omega
   have a2:¬ (c:Int) < 194:=by omega
   have a3:¬ (244:Int) < (c:Int):=by omega
   have e1:((c:Int) == 224)=true:=by simp;omega
   have e2:((c:Int) == 237)=false:=by simp;omega
   have e3:((c:Int) == 240)=false:=by simp;omega
   have e4:((c:Int) == 244)=false:=by simp;omega
   have a4:¬ (c:Int) < 224:=by omega
   have b1:(224:Int)≤(c:Int):=by omega
   have a5:(c:Int) < 240:=by omega
   have b2:decide ((240:Int)≤(c:Int))=false:=decide_eq_false (by omega);have hlo:loC c=160:=by unfold loC;rw [if_pos (by omega)]
   have hhi:hiC c=191:=by unfold hiC;rw [if_neg (by omega),if_neg (by omega)]
   rw [hlo,hhi];have hv:∀ x y z,ltrC c x y z=(if x=true∧y=true then 3 else 0):=fun x y z=>by unfold ltrC;rw [if_neg (by omega),if_neg (by omega),if_neg (by omega),if_pos (by omega)]
   rw [hv];have G2:=hide (fun u=>uh F2 160 191 160 191 rfl rfl u);generalize fol s (k+1) 160 191=b2 at *;generalize fol s (k+2) 128 191=b3 at *;generalize fol s (k+3) 128 191=b4 at *;clear hv F2 hq hx0 hlo hhi
   go_enter Tryz.func72,Tryz.ntmps72
   go_wp2_with fail
   refine (uh G2 _).mono ?_;rintro e u ⟨rfl,hu⟩;obtain rfl:=hu.symm;clear hu
   go_wp2_with fail
   refine (uh F3 _).mono ?_;rintro e u ⟨rfl,hu⟩;obtain rfl:=hu.symm;clear hu
   go_wp2_with fail
   refine (uh F4 _).mono ?_;rintro e u ⟨rfl,hu⟩;obtain rfl:=hu.symm;clear hu G2 F3 F4
   cases b2 <;> cases b3
   all_goals
    go_wp2;go_ret;exact ⟨rfl,rfl⟩
 · have a1:¬ (c:Int) < 128:=by omega
   have a2:¬ (c:Int) < 194:=by omega
   have a3:¬ (244:Int) < (c:Int):=by omega
   have e1:((c:Int) == 224)=false:=by simp;omega
   have e2:((c:Int) == 237)=false:=by simp;omega
   have e3:((c:Int) == 240)=false:=by simp;omega
   have e4:((c:Int) == 244)=false:=by simp;omega
   have a4:¬ (c:Int) < 224:=by omega
   have b1:(224:Int)≤(c:Int):=by omega
   have a5:(c:Int) < 240:=by omega
   have b2:decide ((240:Int)≤(c:Int))=false:=decide_eq_false (by omega);have hlo:loC c=128:=by unfold loC;rw [if_neg (by omega),if_neg (by omega)]
   have hhi:hiC c=191:=by unfold hiC;rw [if_neg (by omega),if_neg (by omega)]
   rw [hlo,hhi];have hv:∀ x y z,ltrC c x y z=(if x=true∧y=true then 3 else 0):=fun x y z=>by unfold ltrC;rw [if_neg (by omega),if_neg (by omega),if_neg (by omega),if_pos (by omega)]
   rw [hv];have G2:=hide (fun u=>uh F2 128 191 128 191 rfl rfl u);generalize fol s (k+1) 128 191=b2 at *;generalize fol s (k+2) 128 191=b3 at *;generalize fol s (k+3) 128 191=b4 at *;clear hv F2 hq hx0 hlo hhi
   go_enter Tryz.func72,Tryz.ntmps72
   go_wp2_with fail
   refine (uh G2 _).mono ?_;rintro e u ⟨rfl,hu⟩;obtain rfl:=hu.symm;clear hu
   go_wp2_with fail
   refine (uh F3 _).mono ?_;rintro e u ⟨rfl,hu⟩;obtain rfl:=hu.symm;clear hu
   go_wp2_with fail
   refine (uh F4 _).mono ?_;rintro e u ⟨rfl,hu⟩;obtain rfl:=hu.symm;clear hu G2 F3 F4
   cases b2 <;> cases b3
   all_goals
    go_wp2;go_ret;exact ⟨rfl,rfl⟩
 · have a1:¬ (c:Int) < 128:=by omega
   have a2:¬ (c:Int) < 194:=by omega
   have a3:¬ (244:Int) < (c:Int):=by omega
   have e1:((c:Int) == 224)=false:=by simp;omega
   have e2:((c:Int) == 237)=true:=by simp;omega
   have e3:((c:Int) == 240)=false:=by simp;omega
   have e4:((c:Int) == 244)=false:=by simp;omega
   have a4:¬ (c:Int) < 224:=by omega
   have b1:(224:Int)≤(c:Int):=by omega
   have a5:(c:Int) < 240:=by omega
   have b2:decide ((240:Int)≤(c:Int))=false:=decide_eq_false (by omega);have hlo:loC c=128:=by unfold loC;rw [if_neg (by omega),if_neg (by omega)]
   have hhi:hiC c=159:=by unfold hiC;rw [if_pos (by omega)]
   rw [hlo,hhi];have hv:∀ x y z,ltrC c x y z=(if x=true∧y=true then 3 else 0):=fun x y z=>by unfold ltrC;rw [if_neg (by omega),if_neg (by omega),if_neg (by omega),if_pos (by omega)]
   rw [hv];have G2:=hide (fun u=>uh F2 128 159 128 159 rfl rfl u);generalize fol s (k+1) 128 159=b2 at *;generalize fol s (k+2) 128 191=b3 at *;generalize fol s (k+3) 128 191=b4 at *;clear hv F2 hq hx0 hlo hhi
   go_enter Tryz.func72,Tryz.ntmps72
   go_wp2_with fail
   refine (uh G2 _).mono ?_;rintro e u ⟨rfl,hu⟩;obtain rfl:=hu.symm;clear hu
   go_wp2_with fail
   refine (uh F3 _).mono ?_;rintro e u ⟨rfl,hu⟩;obtain rfl:=hu.symm;clear hu
   go_wp2_with fail
   refine (uh F4 _).mono ?_;rintro e u ⟨rfl,hu⟩;obtain rfl:=hu.symm;clear hu G2 F3 F4
   cases b2 <;> cases b3
   all_goals
    go_wp2;go_ret;exact ⟨rfl,rfl⟩
 · have a1:¬ (c:Int) < 128:=by omega
   have a2:¬ (c:Int) < 194:=by omega
   have a3:¬ (244:Int) < (c:Int):=by omega
   have e1:((c:Int) == 224)=false:=by simp;omega
   have e2:((c:Int) == 237)=false:=by simp;omega
   have e3:((c:Int) == 240)=false:=by simp;omega
   have e4:((c:Int) == 244)=false:=by simp;omega
   have a4:¬ (c:Int) < 224:=by omega
   have b1:(224:Int)≤(c:Int):=by omega
   have a5:(c:Int) < 240:=by omega
   have b2:decide ((240:Int)≤(c:Int))=false:=decide_eq_false (by omega);have hlo:loC c=128:=by unfold loC;rw [if_neg (by omega),if_neg (by omega)]
   have hhi:hiC c=191:=by unfold hiC;rw [if_neg (by omega),if_neg (by omega)]
   rw [hlo,hhi];have hv:∀ x y z,ltrC c x y z=(if x=true∧y=true then 3 else 0):=fun x y z=>by unfold ltrC;rw [if_neg (by omega),if_neg (by omega),if_neg (by omega),if_pos (by omega)]
   rw [hv];have G2:=hide (fun u=>uh F2 128 191 128 191 rfl rfl u);generalize fol s (k+1) 128 191=b2 at *;generalize fol s (k+2) 128 191=b3 at *;generalize fol s (k+3) 128 191=b4 at *;clear hv F2 hq hx0 hlo hhi
   go_enter Tryz.func72,Tryz.ntmps72
   go_wp2_with fail
   refine (uh G2 _).mono ?_;rintro e u ⟨rfl,hu⟩;obtain rfl:=hu.symm;clear hu
   go_wp2_with fail
   refine (uh F3 _).mono ?_;rintro e u ⟨rfl,hu⟩;obtain rfl:=hu.symm;clear hu
   go_wp2_with fail
   refine (uh F4 _).mono ?_;rintro e u ⟨rfl,hu⟩;obtain rfl:=hu.symm;clear hu G2 F3 F4
   cases b2 <;> cases b3
   all_goals
    go_wp2;go_ret;exact ⟨rfl,rfl⟩
 · have a1:¬ (c:Int) < 128:=by omega
   have a2:¬ (c:Int) < 194:=by omega
   have a3:¬ (244:Int) < (c:Int):=by omega
   have e1:((c:Int) == 224)=false:=by simp;omega
   have e2:((c:Int) == 237)=false:=by simp;omega
   have e3:((c:Int) == 240)=true:=by simp;omega
   have e4:((c:Int) == 244)=false:=by simp;omega
   have a4:¬ (c:Int) < 224:=by omega
   have b1:(224:Int)≤(c:Int):=by omega
   have a5:¬ (c:Int) < 240:=by omega
   have b2:(240:Int)≤(c:Int):=by omega
   have hlo:loC c=144:=by unfold loC;rw [if_neg (by omega),if_pos (by omega)]
   have hhi:hiC c=191:=by unfold hiC;rw [if_neg (by omega),if_neg (by omega)]
   rw [hlo,hhi];have hv:∀ x y z,ltrC c x y z=(if x=true∧y=true∧z=true then 4 else 0):=fun x y z=>by unfold ltrC;rw [if_neg (by omega),if_neg (by omega),if_neg (by omega),if_neg (by omega)]
   rw [hv];have G2:=hide (fun u=>uh F2 144 191 144 191 rfl rfl u);generalize fol s (k+1) 144 191=b2 at *;generalize fol s (k+2) 128 191=b3 at *;generalize fol s (k+3) 128 191=b4 at *;clear hv F2 hq hx0 hlo hhi
   go_enter Tryz.func72,Tryz.ntmps72
   go_wp2_with fail
   refine (uh G2 _).mono ?_;rintro e u ⟨rfl,hu⟩;obtain rfl:=hu.symm;clear hu
   go_wp2_with fail
   refine (uh F3 _).mono ?_;rintro e u ⟨rfl,hu⟩;obtain rfl:=hu.symm;clear hu
   go_wp2_with fail
   refine (uh F4 _).mono ?_;rintro e u ⟨rfl,hu⟩;obtain rfl:=hu.symm;clear hu G2 F3 F4
   cases b2 <;> cases b3 <;> cases b4
   all_goals
    go_wp2;go_ret;exact ⟨rfl,rfl⟩
 · have a1:¬ (c:Int) < 128:=by omega
   have a2:¬ (c:Int) < 194:=by omega
   have a3:¬ (244:Int) < (c:Int):=by omega
   have e1:((c:Int) == 224)=false:=by simp;omega
   have e2:((c:Int) == 237)=false:=by simp;omega
   have e3:((c:Int) == 240)=false:=by simp;omega
   have e4:((c:Int) == 244)=false:=by simp;omega
   have a4:¬ (c:Int) < 224:=by omega
   have b1:(224:Int)≤(c:Int):=by omega
   have a5:¬ (c:Int) < 240:=by omega
   have b2:(240:Int)≤(c:Int):=by omega
   have hlo:loC c=128:=by unfold loC;rw [if_neg (by omega),if_neg (by omega)]
   have hhi:hiC c=191:=by unfold hiC;rw [if_neg (by omega),if_neg (by omega)]
   rw [hlo,hhi];have hv:∀ x y z,ltrC c x y z=(if x=true∧y=true∧z=true then 4 else 0):=fun x y z=>by unfold ltrC;rw [if_neg (by omega),if_neg (by omega),if_neg (by omega),if_neg (by omega)]
   rw [hv];have G2:=hide (fun u=>uh F2 128 191 128 191 rfl rfl u);generalize fol s (k+1) 128 191=b2 at *;generalize fol s (k+2) 128 191=b3 at *;generalize fol s (k+3) 128 191=b4 at *;clear hv F2 hq hx0 hlo hhi
   go_enter Tryz.func72,Tryz.ntmps72
   go_wp2_with fail
   refine (uh G2 _).mono ?_;rintro e u ⟨rfl,hu⟩;obtain rfl:=hu.symm;clear hu
   go_wp2_with fail
   refine (uh F3 _).mono ?_;rintro e u ⟨rfl,hu⟩;obtain rfl:=hu.symm;clear hu
   go_wp2_with fail
   refine (uh F4 _).mono ?_;rintro e u ⟨rfl,hu⟩;obtain rfl:=hu.symm;clear hu G2 F3 F4
   cases b2 <;> cases b3 <;> cases b4
   all_goals
    go_wp2;go_ret;exact ⟨rfl,rfl⟩
 · have a1:¬ (c:Int) < 128:=by omega
   have a2:¬ (c:Int) < 194:=by omega
   have a3:¬ (244:Int) < (c:Int):=by omega
   have e1:((c:Int) == 224)=false:=by simp;omega
   have e2:((c:Int) == 237)=false:=by simp;omega
   have e3:((c:Int) == 240)=false:=by simp;omega
   have e4:((c:Int) == 244)=true:=by simp;omega
   have a4:¬ (c:Int) < 224:=by omega
   have b1:(224:Int)≤(c:Int):=by omega
   have a5:¬ (c:Int) < 240:=by omega
   have b2:(240:Int)≤(c:Int):=by omega
   have hlo:loC c=128:=by unfold loC;rw [if_neg (by omega),if_neg (by omega)]
   have hhi:hiC c=143:=by unfold hiC;rw [if_neg (by omega),if_pos (by omega)]
   rw [hlo,hhi];have hv:∀ x y z,ltrC c x y z=(if x=true∧y=true∧z=true then 4 else 0):=fun x y z=>by unfold ltrC;rw [if_neg (by omega),if_neg (by omega),if_neg (by omega),if_neg (by omega)]
   rw [hv];have G2:=hide (fun u=>uh F2 128 143 128 143 rfl rfl u);generalize fol s (k+1) 128 143=b2 at *;generalize fol s (k+2) 128 191=b3 at *;generalize fol s (k+3) 128 191=b4 at *;clear hv F2 hq hx0 hlo hhi
   go_enter Tryz.func72,Tryz.ntmps72
   go_wp2_with fail
   refine (uh G2 _).mono ?_;rintro e u ⟨rfl,hu⟩;obtain rfl:=hu.symm;clear hu
   go_wp2_with fail
   refine (uh F3 _).mono ?_;rintro e u ⟨rfl,hu⟩;obtain rfl:=hu.symm;clear hu
   go_wp2_with fail
   refine (uh F4 _).mono ?_;rintro e u ⟨rfl,hu⟩;obtain rfl:=hu.symm;clear hu G2 F3 F4
   cases b2 <;> cases b3 <;> cases b4
   all_goals
    go_wp2;go_ret;exact ⟨rfl,rfl⟩
 · have a1:¬ (c:Int) < 128:=by omega
   have a2:¬ (c:Int) < 194:=by omega
   have a3:(244:Int) < (c:Int):=by omega
   have hv:∀ x y z,ltrC c x y z=0:=fun x y z=>by unfold ltrC;rw [if_neg (by omega),if_pos (by omega)]
   rw [hv];clear hv F2 F3 F4 hq hx0
   go_enter Tryz.func72,Tryz.ntmps72
   go_wp2;go_ret;exact ⟨rfl,rfl⟩
end Go.Proofs.YthnhobplgmojeaaGreatDoor.pt
