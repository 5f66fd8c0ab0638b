/- Texts in one: Lg Vf Gq Gq2 Tq Gs Gc1 Gc2 Gc3 Pf2 De3 Lg2 -/
import Derived.Test.YthakglomacijgaaGreatDoorFo5PG
import Derived.Test.YthakglomacijgaaGreatDoorIePG
import Derived.Test.YthakglomacijgaaGreatDoorWlPG
import Derived.Test.YthakglomacijgaaGreatDoorIhPG
import Derived.Lib.ItoaLen
namespace Go.Proofs.YthakglomacijgaaGreatDoor.rd
open Go.RowKit
theorem sum_mem {α:Type}{g:α→Nat}:∀ {l:List α}{a:α},a∈l→g a≤(l.map g).sum
 | b::l,a,h=>by
   rw [List.map_cons,List.sum_cons]
   rcases List.mem_cons.1 h with rfl|h
   · omega
   · have:=sum_mem (g:=g) h;omega
theorem cnt_l {k:Int}{t:Bool}{d:Dn}{x:ByteArray}{l:List JT}{f:List (ByteArray × JT)}{v:JT} (h:v∈l):cntV v+1≤cntV (.mk k t d x l f):=by
 rw [cntV_mk]
 have:=sum_mem (g:=cntV) h
 omega
theorem cnt_f {k:Int}{t:Bool}{d:Dn}{x:ByteArray}{l:List JT}{f:List (ByteArray × JT)}{p:ByteArray × JT} (h:p∈f):cntV p.2+p.1.size+1≤cntV (.mk k t d x l f):=by
 rw [cntV_mk]
 have:=sum_mem (g:=fun p:ByteArray × JT=>p.1.size+cntV p.2) h
 omega
theorem light_gd (n:Nat):∀ v,SizeOf.sizeOf v < n→Bd v→cntV v≤1000000000→Gd v:=by
 induction n with
 | zero=>intro v h;omega
 | succ n IH =>
   intro v hn hb hc
   cases hb with
   | @mk k t d x l f hk h0 h1 h2 h3 h4 hl hnm hf =>
     have hfl:f.length≤1000000000:=by rw [cntV_mk] at hc;omega
     exact .mk (fun _=>fok_all f hfl hnm) (fun _ v hv=>IH v (by have:=sz_l (k:=k) (t:=t) (d:=d) (x:=x) (f:=f) hv;omega) (hl v hv) (by have:=cnt_l (k:=k) (t:=t) (d:=d) (x:=x) (f:=f) hv;omega))
      (fun _ p hp=>IH p.2 (by have:=sz_f (k:=k) (t:=t) (d:=d) (x:=x) (l:=l) hp;omega) (hf p hp) (by have:=cnt_f (k:=k) (t:=t) (d:=d) (x:=x) (l:=l) hp;omega))
theorem pf_mono {n:Nat}{v:JT} (h:Pf n v):∀ m,n≤m→Pf m v:=by
 induction h with
 | null n=>exact fun m _=>.null m
 | truth n b=>exact fun m _=>.truth m b
 | num n h hz=>exact fun m _=>.num m h hz
 | text n h hz=>exact fun m _=>.text m h hz
 | list h hz ih =>
   intro m hm
   obtain ⟨m,rfl⟩:∃ q,m=q+1:=⟨m - 1,by omega⟩
   exact .list (fun v hv=>ih v hv m (by omega)) hz
 | obj hn hr h hz ih =>
   intro m hm
   obtain ⟨m,rfl⟩:∃ q,m=q+1:=⟨m - 1,by omega⟩
   exact .obj hn hr (fun p hp=>ih p hp m (by omega)) hz
theorem clF_ok (s:ByteArray):∀ f k,Ltc (pt.clF s f k)∧(pt.clF s f k).length≤4*f
 | 0,k=>⟨.nil,by simp [pt.clF]⟩
 | f+1,k=>by
   rw [pt.clF]
   split
   · rename_i hk
     split
     · obtain ⟨h1,h2⟩:=clF_ok s f (k+1)
       refine ⟨.cons ?_ h1,by simp;omega⟩
       have:=lt1_enc 65533
       exact this
     · rename_i hz
       obtain ⟨h1,h2⟩:=clF_ok s f (k+pt.ltr s k)
       have e:(s.extract k (k+pt.ltr s k)).data.toList=(s.data.toList.drop k).take (ltrL (s.data.toList.drop k)):=by
        rw [pt.cut_take,ltr_drop s k hk]
       rw [e]
       have hl:=lt1_take (s.data.toList.drop k) (by rw [← ltr_drop s k hk];omega)
       refine ⟨.cons hl h1,?_⟩
       have h4:pt.ltr s k≤4:=by
        rcases pt.place_says s k hk with ⟨a,_⟩|⟨_,_,d2,d3⟩
        · omega
        · have:=enc_le ((Utf8.decode s k).1:Int)
          rw [d3,pt.cut_take] at this
          have hle:=pt.ltr_le s k hk
          have h2:s.data.toList.length=s.size:=Array.length_toList
          simp only [List.length_take,List.length_drop] at this
          omega
       rw [List.length_append,List.length_take,← ltr_drop s k hk]
       omega
   · exact ⟨.nil,by simp⟩
theorem clean_ltc (s:ByteArray):Ltc (pt.clean s).data.toList∧(pt.clean s).size≤4*s.size:=by
 obtain ⟨h1,h2⟩:=clF_ok s s.size 0
 refine ⟨h1,?_⟩
 show (pt.clF s s.size 0).toArray.size≤_
 simpa using h2
theorem norm_ok (d:Dn):Whole1 (norm d)∧(norm d).dg.size≤d.dg.size:=by
 refine ⟨?_,?_⟩
 · unfold norm
   exact oneForm_formed _ _ _ (digs_dig _)
 · unfold norm
   exact wh.oneForm_size _ _ _
theorem putP_sum {α:Type} (g:ByteArray × α→Nat) (acc:List (ByteArray × α)) (p:ByteArray × α):((jn.putP acc p).map g).sum≤(acc.map g).sum+g p∧(jn.putP acc p).length≤acc.length+1:=by
 unfold jn.putP
 split
 · omega
 · have h:=jn.ins_perm acc p
   rw [(h.map g).sum_nat,h.length_eq,List.map_cons,List.sum_cons,List.length_cons]
   omega
theorem puts_sum {α:Type} (g:ByteArray × α→Nat) (F:List (ByteArray × α)):((jn.puts F).map g).sum≤(F.map g).sum∧(jn.puts F).length≤F.length:=by
 have key:∀ (F acc:List (ByteArray × α)),((F.foldl jn.putP acc).map g).sum≤(acc.map g).sum+(F.map g).sum∧(F.foldl jn.putP acc).length≤acc.length+F.length:=by
  intro F
  induction F with
  | nil=>intro acc;simp
  | cons p F ih =>
    intro acc
    have h1:=ih (jn.putP acc p)
    have h2:=putP_sum g acc p
    rw [List.foldl_cons,List.map_cons,List.sum_cons,List.length_cons]
    omega
 have:=key F []
 simpa [jn.puts] using this
theorem sum_le {α:Type}{g h:α→Nat}:∀ {l:List α},(∀ a∈l,g a≤h a)→(l.map g).sum≤(l.map h).sum
 | [],_=>by simp
 | a::l,q=>by
   rw [List.map_cons,List.map_cons,List.sum_cons,List.sum_cons]
   have:=q a (by simp)
   have:=sum_le (l:=l) fun b hb=>q b (by simp [hb])
   omega
theorem sum_mul {α:Type}{g:α→Nat} (c:Nat):∀ l:List α,(l.map fun a=>c*g a).sum=c*(l.map g).sum
 | []=>by simp
 | a::l=>by
   rw [List.map_cons,List.map_cons,List.sum_cons,List.sum_cons,sum_mul c l,Nat.mul_add]
def Sub {α:Type} (a b:Nat→(α × Nat) ⊕ (Nat × Nat)):Prop:=∀ k r,a k=.inl r→b k=.inl r
theorem rowF_sub {σ:Type}{s1 s2:σ→Nat→(σ × Nat) ⊕ (Nat × Nat)}{endc:Int}{s:ByteArray} (h:∀ st,Sub (s1 st) (s2 st)):∀ (f:Nat) (st:σ),Sub (rowF s1 endc s f st) (rowF s2 endc s f st)
 | 0,st,k,r,e=>by unfold rowF at e;cases e
 | f+1,st,k,r,e=>by
   unfold rowF at e ⊢
   split at e
   · cases e
   · rename_i st1 k1 hq
     rw [h st k _ hq]
     simp only
     split at e
     · rename_i h44
       rw [if_pos h44]
       exact rowF_sub h f st1 _ _ e
     · rename_i h44
       rw [if_neg h44]
       exact e
theorem rowR_sub {σ:Type}{s1 s2:σ→Nat→(σ × Nat) ⊕ (Nat × Nat)}{endc:Int}{s:ByteArray}{o1 o2:Int}{st:σ} (h:o1≠64→∀ st,Sub (s1 st) (s2 st)) (ho:o2≠64):Sub (rowR s1 endc s o1 st) (rowR s2 endc s o2 st):=by
 intro k r e
 unfold rowR at e ⊢
 split at e
 · cases e
 · rename_i h1
   rw [if_neg ho]
   split at e
   · rename_i h2
     rw [if_pos h2]
     exact e
   · rename_i h2
     rw [if_neg h2]
     unfold rowE at e ⊢
     split at e
     · cases e
     · rename_i st1 k1 hq
       rw [rowF_sub (h h1) _ _ _ _ hq]
       exact e
theorem list_sub {a b:Nat→(JT × Nat) ⊕ (Nat × Nat)}{s:ByteArray}{o1 o2:Int} (h:o1≠64→Sub a b) (ho:o2≠64):Sub (listR a s o1) (listR b s o2):=by
 intro k r e
 unfold listR at e ⊢
 split at e
 · rename_i l k' hq
   rw [rowR_sub (fun h1 st k r e=>by
    unfold lstep at e ⊢
    split at e
    · rename_i v k2 hv
      rw [h h1 _ _ hv]
      exact e
    · cases e) ho k _ hq]
   exact e
 · cases e
theorem obj_sub {a b:Nat→(JT × Nat) ⊕ (Nat × Nat)}{s:ByteArray}{o1 o2:Int} (h:o1≠64→Sub a b) (ho:o2≠64):Sub (objR a s o1) (objR b s o2):=by
 intro k r e
 unfold objR at e ⊢
 split at e
 · rename_i l k' hq
   rw [rowR_sub (fun h1 st k r e=>by
    unfold ostep at e ⊢
    split at e
    · cases e
    · rename_i n k1 hn
      split at e
      · cases e
      · rename_i v k2 hv
        have hv2:fvR b s k1=.inl (v,k2):=by
         unfold fvR at hv ⊢
         split at hv
         · rename_i h58
           rw [if_pos h58]
           exact h h1 _ _ hv
         · cases hv
        rw [hv2]
        exact e) ho k _ hq]
   exact e
 · cases e
theorem val_sub {l1 l2 o1 o2:Nat→(JT × Nat) ⊕ (Nat × Nat)}{s:ByteArray} (hl:Sub l1 l2) (ho:Sub o1 o2):Sub (valR l1 o1 s) (valR l2 o2 s):=by
 intro k r e
 unfold valR at e ⊢
 by_cases a1:nxt s (gap s k)=110
 · rw [if_pos a1] at e ⊢;exact e
 rw [if_neg a1] at e ⊢
 by_cases a2:nxt s (gap s k)=116
 · rw [if_pos a2] at e ⊢;exact e
 rw [if_neg a2] at e ⊢
 by_cases a3:nxt s (gap s k)=102
 · rw [if_pos a3] at e ⊢;exact e
 rw [if_neg a3] at e ⊢
 by_cases a4:numB (nxt s (gap s k))=true
 · rw [if_pos a4] at e ⊢;exact e
 rw [if_neg a4] at e ⊢
 by_cases a5:nxt s (gap s k)=34
 · rw [if_pos a5] at e ⊢;exact e
 rw [if_neg a5] at e ⊢
 by_cases a6:nxt s (gap s k)=91
 · rw [if_pos a6] at e ⊢;exact hl _ _ e
 rw [if_neg a6] at e ⊢
 by_cases a7:nxt s (gap s k)=123
 · rw [if_pos a7] at e ⊢;exact ho _ _ e
 rw [if_neg a7] at e
 cases e
theorem vfN_sub (s:ByteArray):∀ n,Sub (vfN s n) (vfN s (n+1))
 | 0=>val_sub (list_sub (fun q=>absurd rfl q) (by omega)) (obj_sub (fun q=>absurd rfl q) (by omega))
 | n+1=>val_sub (list_sub (fun _=>vfN_sub s n) (by omega)) (obj_sub (fun _=>vfN_sub s n) (by omega))
theorem vfN_le (s:ByteArray) (n:Nat):∀ m,n≤m→Sub (vfN s n) (vfN s m):=by
 intro m h
 induction h with
 | refl=>exact fun k r e=>e
 | step h ih=>exact fun k r e=>vfN_sub s _ k r (ih k r e)
theorem parse_deep {n:Nat}{v:JT} (h:Pf n v) (hd:64 < dpt v):∃ e,parseJ ⟨(prt v).toArray⟩=.inr e:=by
 cases hp:parseJ ⟨(prt v).toArray⟩ with
 | inr e=>exact ⟨e,rfl⟩
 | inl w =>
   exfalso
   have hg:=(parseJ_good hp).1
   have hz:(⟨(prt v).toArray⟩:ByteArray).size=(prt v).length:=List.size_toArray
   have hdr:(⟨(prt v).toArray⟩:ByteArray).data.toList.drop 0=prt v++[]:=by simp
   unfold parseJ at hp
   split at hp
   · cases hp
   · rename_i hs
     split at hp
     · cases hp
     · rename_i v2 k hv
       split at hp
       · cases hp
         have h1:=val_told (s:=⟨(prt v).toArray⟩) (by omega) (max n 64) v (pf_mono h _ (Nat.le_max_left _ _)) 0 [] hdr (fun c hc=>by simp at hc)
         have h2:=vfN_le ⟨(prt v).toArray⟩ 64 (max n 64) (Nat.le_max_right _ _) 0 _ hv
         rw [h1] at h2
         have e:=(Prod.mk.inj (Sum.inl.inj h2)).1
         rw [← e] at hg
         have:=pf_dpt hg
         omega
       · cases hp
def AG (g:List UInt8):Prop:=∀ c∈g,inB gapB.data.toList c=true
theorem ag_nil:AG []:=fun c h=>by simp at h
theorem ag_app {a b:List UInt8} (h1:AG a) (h2:AG b):AG (a++b):=fun c h=>(List.mem_append.1 h).elim (h1 c) (h2 c)
def GEnds (t:List UInt8):Prop:=∀ c,t.head?=some c→c=44∨c=93∨c=125∨c=58∨inB gapB.data.toList c=true
def NG (t:List UInt8):Prop:=∀ c,t.head?=some c→inB gapB.data.toList c=false
set_option maxRecDepth 100000 in
theorem gap_four {c:UInt8} (h:inB gapB.data.toList c=true):c=32∨c=9∨c=10∨c=13:=by
 have key:∀ n:Fin 256,inB gapB.data.toList (UInt8.ofNat n.1)=true→UInt8.ofNat n.1=32∨UInt8.ofNat n.1=9∨UInt8.ofNat n.1=10∨UInt8.ofNat n.1=13:=by decide
 have:=key ⟨c.toNat,c.toNat_lt⟩
 simp only [UInt8.ofNat_toNat] at this
 exact this h
theorem gap_skip {s:ByteArray}{k:Nat}{g t:List UInt8} (h:s.data.toList.drop k=g++t) (hg:AG g) (ht:NG t):gap s k=k+g.length:=by
 unfold gap skipTo
 rw [h]
 congr 1
 clear h
 induction g with
 | nil =>
   cases t with
   | nil=>rfl
   | cons c t=>rw [List.nil_append,List.takeWhile_cons,ht c rfl];rfl
 | cons a g ih =>
   rw [List.cons_append,List.takeWhile_cons,hg a (by simp)]
   simp only [if_true,List.length_cons]
   rw [ih fun c hc=>hg c (by simp [hc])]
theorem gends_app {g t:List UInt8}{ec:UInt8} (hg:AG g) (hec:ec=44∨ec=93∨ec=125∨ec=58):GEnds (g++ec::t):=by
 intro c hc
 cases g with
 | nil =>
   simp at hc
   subst hc
   rcases hec with h|h|h|h
   · exact .inl h
   · exact .inr (.inl h)
   · exact .inr (.inr (.inl h))
   · exact .inr (.inr (.inr (.inl h)))
 | cons a g =>
   simp at hc
   subst hc
   exact .inr (.inr (.inr (.inr (hg a (by simp)))))
def RG {α:Type} (s:ByteArray) (rf:Nat→(α × Nat) ⊕ (Nat × Nat)) (x:List UInt8) (v:α):Prop:=∀ k g t,s.data.toList.drop k=g++(x++t)→AG g→GEnds t→rf k=.inl (v,k+g.length+x.length)
theorem gnum_told {s:ByteArray}{d:Dn} (h:Whole1 d) (hs:s.size≤40000000000) {k:Nat}{t:List UInt8} (hd:s.data.toList.drop k=(textOf d).data.toList++t) (ht:GEnds t):numJ s k=.inl (leaf 2 false d ⟨#[]⟩,k+(textOf d).data.toList.length):=by
 obtain ⟨h1,h2,h3⟩:=bw.text_bytes h
 have hin:∀ c∈(textOf d).data.toList,inB numBytes.data.toList c=true:=fun c hc=>by
  rcases h2 c hc with rfl|rfl|q
  · decide
  · decide
  · have hc:48≤c.toNat∧c.toNat≤57:=by simpa [nu.dig] using q
    have e:c=c.toNat.toUInt8:=by simp
    rw [e]
    have:c.toNat=48∨c.toNat=49∨c.toNat=50∨c.toNat=51∨c.toNat=52∨c.toNat=53∨c.toNat=54∨c.toNat=55∨c.toNat=56∨c.toNat=57:=by omega
    rcases this with e|e|e|e|e|e|e|e|e|e <;> rw [e] <;> decide
 have hnt:numTo s k=k+(textOf d).data.toList.length:=by
  unfold numTo skipTo
  rw [hd]
  congr 1
  have hout:∀ c,t.head?=some c→inB numBytes.data.toList c=false:=fun c hc=>by
   rcases ht c hc with rfl|rfl|rfl|rfl|q
   · decide
   · decide
   · decide
   · decide
   · rcases gap_four q with rfl|rfl|rfl|rfl <;> decide
  generalize (textOf d).data.toList=x at hin
  clear hd h1 h2 h3
  induction x with
  | nil =>
    cases t with
    | nil=>rfl
    | cons c t=>rw [List.nil_append,List.takeWhile_cons,hout c rfl];rfl
  | cons a x ih =>
    rw [List.cons_append,List.takeWhile_cons,hin a (by simp)]
    simp only [if_true,List.length_cons]
    rw [ih fun c hc=>hin c (by simp [hc])]
 have hz:=drop_size hd (by simp [h1])
 have he:s.extract k (numTo s k)=textOf d:=by
  rw [hnt,pt.cut_take,hd,List.take_left,Array.toArray_toList]
 have hl:(textOf d).data.toList.length=(textOf d).size:=Array.length_toList
 unfold numJ numR
 rw [he,bw.rparse_text h (by rw [← hl];rw [List.length_append] at hz;omega),if_pos rfl,hnt]
theorem gword_told {s wd:ByteArray}{kd:Int}{tr:Bool}{k:Nat}{t:List UInt8} (hd:s.data.toList.drop k=wd.data.toList++t):wordR wd kd tr s k=.inl (leaf kd tr zed ⟨#[]⟩,k+wd.data.toList.length):=by
 have h2:wd.data.toList.length=wd.size:=Array.length_toList
 unfold wordR
 rw [if_pos,h2]
 rw [ext_end,hd]
 unfold Lib.hasPrefix
 exact List.isPrefixOf_iff_prefix.2 (List.prefix_append _ _)
theorem gtext_told {s X:ByteArray} (hX:Ltc X.data.toList) {k:Nat}{t:List UInt8} (hd:s.data.toList.drop k=txtJ X++t):textR s k=.inl (leaf 3 false zed X,k+(txtJ X).length):=by
 unfold textR
 rw [letts_told hX hd]
inductive GRow {α:Type} (R:α→List UInt8→Prop):List α→List UInt8→Prop
 | one {x:α}{y g:List UInt8} (h:R x y) (hg:AG g):GRow R [x] (y++g)
 | more {x:α}{l:List α}{y g g' u:List UInt8} (h:R x y) (hg:AG g) (hg':AG g') (hu:GRow R l u):GRow R (x::l) (y++g++44::(g'++u))
theorem GRow.imp {α:Type}{R Q:α→List UInt8→Prop}{l:List α}{u:List UInt8} (h:GRow R l u) (hq:∀ x∈l,∀ y,R x y→Q x y):GRow Q l u:=by
 induction h with
 | one h hg=>exact .one (hq _ (by simp) _ h) hg
 | more h hg hg' hu ih=>exact .more (hq _ (by simp) _ h) hg hg' (ih fun x hx=>hq x (by simp [hx]))
theorem GRow.len {α:Type}{R:α→List UInt8→Prop}{l:List α}{u:List UInt8} (h:GRow R l u) (hT:∀ x∈l,∀ y,R x y→∃ c t,y=c::t∧hdB c):l.length≤u.length:=by
 induction h with
 | @one x y g h hg =>
   obtain ⟨c,t,rfl,_⟩:=hT _ (by simp) _ h
   simp
 | @more x l y g g' u h hg hg' hu ih =>
   obtain ⟨c,t,rfl,_⟩:=hT _ (by simp) _ h
   have:=ih fun x hx=>hT x (by simp [hx])
   simp only [List.length_cons,List.length_append]
   omega
theorem GRow.head {α:Type}{R:α→List UInt8→Prop}{l:List α}{u:List UInt8} (h:GRow R l u) (hT:∀ x∈l,∀ y,R x y→∃ c t,y=c::t∧hdB c):∃ c t,u=c::t∧hdB c:=by
 cases h with
 | one h hg =>
   obtain ⟨c,t,rfl,hc⟩:=hT _ (by simp) _ h
   exact ⟨c,_,rfl,hc⟩
 | more h hg hg' hu =>
   obtain ⟨c,t,rfl,hc⟩:=hT _ (by simp) _ h
   exact ⟨c,_,rfl,hc⟩
theorem growF_told {σ α:Type}{step:σ→Nat→(σ × Nat) ⊕ (Nat × Nat)}{s:ByteArray}{ec:UInt8} (hec:ec=93∨ec=125) (R:α→List UInt8→Prop) (I:σ→List α→Prop)
 (hst:∀ st x r y k g t,I st (x::r)→R x y→s.data.toList.drop k=g++(y++t)→AG g→GEnds t→∃ st',step st k=.inl (st',k+g.length+y.length)∧I st' r)
 {l:List α}{u:List UInt8} (hu:GRow R l u):∀ (fuel:Nat) (st:σ) (k:Nat) (g t:List UInt8),l.length≤fuel→I st l→s.data.toList.drop k=g++(u++ec::t)→AG g→∃ st',rowF step (ec.toNat:Int) s fuel st k=.inl (st',k+g.length+u.length)∧I st' []:=by
 have hec':ec=44∨ec=93∨ec=125∨ec=58:=by rcases hec with h|h <;> simp [h]
 have hng:inB gapB.data.toList ec=false:=by rcases hec with rfl|rfl <;> decide
 induction hu with
 | @one x y g1 h hg1 =>
   intro fuel st k g t hf hI hd hg
   obtain ⟨f,rfl⟩:∃ f,fuel=f+1:=⟨fuel - 1,by simp at hf;omega⟩
   rw [List.append_assoc] at hd
   obtain ⟨st',h1,h2⟩:=hst st x [] y k g _ hI h hd hg (gends_app hg1 hec')
   have hd1:s.data.toList.drop (k+g.length+y.length)=g1++ec::t:=drop_on (drop_on hd)
   have hgp:gap s (k+g.length+y.length)=k+g.length+y.length+g1.length:=gap_skip hd1 hg1 (fun c hc=>by simp at hc;subst hc;exact hng)
   have hn:nxt s (k+g.length+y.length+g1.length)=(ec.toNat:Int):=nxt_told (drop_on hd1) (by rcases hec with rfl|rfl <;> decide)
   refine ⟨st',?_,h2⟩
   rw [rowF,h1]
   simp only
   rw [hgp,hn,if_neg (by rcases hec with rfl|rfl <;> decide),if_pos rfl]
   congr 2
   rw [List.length_append]
   omega
 | @more x l y g1 g2 u' h hg1 hg2 hu' ih =>
   intro fuel st k g t hf hI hd hg
   obtain ⟨f,rfl⟩:∃ f,fuel=f+1:=⟨fuel - 1,by simp at hf;omega⟩
   have hd0:s.data.toList.drop k=g++(y++(g1++44::(g2++(u'++ec::t)))):=by rw [hd];simp
   obtain ⟨st',h1,h2⟩:=hst st x l y k g _ hI h hd0 hg (gends_app hg1 (.inl rfl))
   have hd1:=drop_on (drop_on hd0)
   have hgp:gap s (k+g.length+y.length)=k+g.length+y.length+g1.length:=gap_skip hd1 hg1 (fun c hc=>by simp at hc;subst hc;decide)
   have hd2:=drop_on hd1
   have hn:nxt s (k+g.length+y.length+g1.length)=44:=nxt_told hd2 (by decide)
   have hd3:s.data.toList.drop (k+g.length+y.length+g1.length+1)=g2++(u'++ec::t):=by rw [← List.drop_drop,hd2];rfl
   obtain ⟨st2,h3,h4⟩:=ih f st' _ g2 t (by simp at hf;omega) h2 hd3 hg2
   refine ⟨st2,?_,h4⟩
   rw [rowF,h1]
   simp only
   rw [hgp,hn,if_pos rfl,h3]
   congr 2
   simp only [List.length_append,List.length_cons]
   omega
theorem growR_told {σ α:Type}{step:σ→Nat→(σ × Nat) ⊕ (Nat × Nat)}{s:ByteArray}{ec op:UInt8}{o:Int} (ho:o≠64) (hec:ec=93∨ec=125) (R:α→List UInt8→Prop) (I:σ→List α→Prop)
 (hst:∀ st x r y k g t,I st (x::r)→R x y→s.data.toList.drop k=g++(y++t)→AG g→GEnds t→∃ st',step st k=.inl (st',k+g.length+y.length)∧I st' r)
 {l:List α}{u:List UInt8} (hu:(l=[]∧u=[])∨GRow R l u) (hT:∀ x∈l,∀ y,R x y→∃ c t,y=c::t∧hdB c) (st:σ) (k:Nat) (g t:List UInt8) (hI:I st l) (hg:AG g) (hd:s.data.toList.drop k=op::(g++u++[ec])++t) :
 ∃ st',rowR step (ec.toNat:Int) s o st k=.inl (st',k+(op::(g++u++[ec])).length)∧I st' []:=by
 have hng:inB gapB.data.toList ec=false:=by rcases hec with rfl|rfl <;> decide
 have hd1:s.data.toList.drop (k+1)=g++(u++ec::t):=by
  rw [← List.drop_drop,hd]
  simp
 rcases hu with ⟨rfl,rfl⟩|hu
 · have hgp:gap s (k+1)=k+1+g.length:=gap_skip hd1 hg (fun c hc=>by simp at hc;subst hc;exact hng)
   have hn:nxt s (k+1+g.length)=(ec.toNat:Int):=nxt_told (drop_on hd1) (by rcases hec with rfl|rfl <;> decide)
   refine ⟨st,?_,hI⟩
   unfold rowR
   rw [if_neg ho,hgp,hn,if_pos rfl]
   congr 2
   simp only [List.length_append,List.length_cons,List.length_nil]
   omega
 · obtain ⟨c,u',rfl,hc1,hc2,hc3,hc4,hc5⟩:=hu.head hT
   have hgp:gap s (k+1)=k+1+g.length:=gap_skip hd1 hg (fun c' hc'=>by simp at hc';subst hc';exact hc2)
   have hd2:=drop_on hd1
   have hn:nxt s (k+1+g.length)=(c.toNat:Int):=nxt_told hd2 hc1
   have hne:¬ (c.toNat:Int)=(ec.toNat:Int):=by
    intro e
    have e2:c=ec:=UInt8.toNat_inj.1 (by omega)
    rcases hec with rfl|rfl
    · exact hc3 e2
    · exact hc4 e2
   have hz:=drop_size hd (by simp)
   have hl:l.length≤s.size+1:=by
    have:=hu.len hT
    simp only [List.length_append,List.length_cons] at hz this
    omega
   obtain ⟨st',h1,h2⟩:=growF_told hec R I hst hu (s.size+1) st (k+1+g.length) [] t hl hI (by simpa using hd2) ag_nil
   refine ⟨st',?_,h2⟩
   unfold rowR
   rw [if_neg ho,hgp,hn,if_neg hne,h1]
   show Sum.inl (st',_+1)=_
   congr 2
   simp only [List.length_append,List.length_cons,List.length_nil]
   omega
def GT:Nat→JT→List UInt8→Prop
 | 0,v,t=>t=prt v
 | n+1,.mk k b d x l f,t =>
   if k=4 then ∃ g u,AG g∧((l=[]∧u=[])∨GRow (GT n) l u)∧t=91::(g++u++[93])
   else if k=5 then ∃ g u,AG g∧((f=[]∧u=[])∨GRow (fun p y=>∃ g g' z,AG g∧AG g'∧GT n p.2 z∧y=txtJ p.1++g++58::(g'++z)) f u)∧t=123::(g++u++[125])
   else t=prt (.mk k b d x l f)
theorem gt_leaf {n:Nat}{k:Int}{b:Bool}{d:Dn}{x:ByteArray}{l:List JT}{f:List (ByteArray × JT)}{t:List UInt8} (h:GT n (.mk k b d x l f) t) (h4:k≠4) (h5:k≠5):t=prt (.mk k b d x l f):=by
 cases n with
 | zero=>exact h
 | succ n =>
   unfold GT at h
   rwa [if_neg h4,if_neg h5] at h
theorem gt_head {n:Nat}{v:JT}{t:List UInt8} (hv:Pf n v) (h:GT n v t):∃ c u,t=c::u∧hdB c:=by
 have hp:=prt_head hv
 cases hv with
 | null=>rw [show t=_ from gt_leaf h (by decide) (by decide)];exact hp
 | truth n b=>rw [show t=_ from gt_leaf h (by decide) (by decide)];exact hp
 | num n _ _=>rw [show t=_ from gt_leaf h (by decide) (by decide)];exact hp
 | text n _ _=>rw [show t=_ from gt_leaf h (by decide) (by decide)];exact hp
 | list _ _ =>
   unfold GT at h
   rw [if_pos rfl] at h
   obtain ⟨g,u,_,_,rfl⟩:=h
   exact ⟨91,_,rfl,⟨by decide,by decide,by decide,by decide,by decide⟩⟩
 | obj _ _ _ _ =>
   unfold GT at h
   rw [if_neg (by decide),if_pos rfl] at h
   obtain ⟨g,u,_,_,rfl⟩:=h
   exact ⟨123,_,rfl,⟨by decide,by decide,by decide,by decide,by decide⟩⟩
theorem glist_told {s:ByteArray}{n:Nat}{o:Int} (ho:o≠64) {vf:Nat→(JT × Nat) ⊕ (Nat × Nat)}{l:List JT} (hl:∀ v∈l,Pf n v) {g u:List UInt8} (hg:AG g) (hu:(l=[]∧u=[])∨GRow (GT n) l u) (hv:∀ v∈l,∀ y,GT n v y→RG s vf y v) {k:Nat}{t:List UInt8} (hd:s.data.toList.drop k=91::(g++u++[93])++t) :
 listR vf s o k=.inl (JT.mk 4 false zed ⟨#[]⟩ l [],k+(91::(g++u++[93])).length):=by
 have hu':(l=[]∧u=[])∨GRow (fun v y=>v∈l∧GT n v y) l u:=hu.imp id fun h=>h.imp fun x hx y hy=>⟨hx,hy⟩
 obtain ⟨st',h1,h2⟩:=growR_told (step:=lstep vf) (ec:=93) (op:=91) ho (.inl rfl) (fun v y=>v∈l∧GT n v y) (fun st r=>st++r=l) (fun st x r y k g t hI hR hd hg he=>by
  refine ⟨st++[x],?_,by rw [← hI];simp⟩
  unfold lstep
  rw [hv x hR.1 y hR.2 k g t hd hg he]) hu' (fun x hx y hy=>gt_head (hl x hx) hy.2) [] k g t rfl hg hd
 rw [List.append_nil] at h2
 subst h2
 unfold listR
 have h1':rowR (lstep vf) 93 s o [] k=_:=h1
 rw [h1']
theorem gobj_told {s:ByteArray}{n:Nat}{o:Int} (ho:o≠64) {vf:Nat→(JT × Nat) ⊕ (Nat × Nat)}{f:List (ByteArray × JT)} (hn:∀ p∈f,Ltc p.1.data.toList) (hr:jn.Ris f) {g u:List UInt8} (hg:AG g)
 (hu:(f=[]∧u=[])∨GRow (fun p y=>∃ g g' z,AG g∧AG g'∧GT n p.2 z∧y=txtJ p.1++g++58::(g'++z)) f u) (hv:∀ p∈f,∀ y,GT n p.2 y→RG s vf y p.2) {k:Nat}{t:List UInt8} (hd:s.data.toList.drop k=123::(g++u++[125])++t) :
 objR vf s o k=.inl (JT.mk 5 false zed ⟨#[]⟩ [] f,k+(123::(g++u++[125])).length):=by
 have hnd:(nms f).Nodup:=by
  unfold nms
  unfold jn.Ris at hr
  rw [List.Nodup,List.pairwise_map]
  refine hr.imp fun {a b} q e=>?_
  rw [e,cb.self] at q
  omega
 have hu':=hu.imp id fun h=>h.imp (Q:=fun p y=>p∈f∧∃ g g' z,AG g∧AG g'∧GT n p.2 z∧y=txtJ p.1++g++58::(g'++z)) fun x hx y hy=>⟨hx,hy⟩
 obtain ⟨st',h1,h2⟩:=growR_told (step:=ostep vf s) (ec:=125) (op:=123) ho (.inr rfl) (fun p y=>p∈f∧∃ g g' z,AG g∧AG g'∧GT n p.2 z∧y=txtJ p.1++g++58::(g'++z)) (fun st r=>st++r=f) (fun st x r y k g t hI hR hd hg he=>by
  obtain ⟨hx,g1,g2,z,hg1,hg2,hz,rfl⟩:=hR
  refine ⟨st++[x],?_,by rw [← hI];simp⟩
  have hd':s.data.toList.drop k=g++(txtJ x.1++(g1++58::(g2++(z++t)))):=by rw [hd];simp
  have ha:=drop_on hd'
  have hb:=drop_on ha
  have hc:=drop_on hb
  have hd3:s.data.toList.drop (k+g.length+(txtJ x.1).length+g1.length+1)=g2++(z++t):=by rw [← List.drop_drop,hc];rfl
  have hni:¬ x.1.data.toList∈st.map fun p=>p.1.data.toList:=by
   rw [← hI] at hnd
   unfold nms at hnd
   rw [List.map_append,List.map_cons] at hnd
   have:=(List.nodup_append.1 hnd).2.2
   intro q
   exact this _ q _ (by simp) rfl
  have hg0:gap s k=k+g.length:=gap_skip hd' hg (fun c hc=>by
   have:c=34:=by
    unfold txtJ at hc
    simp at hc
    exact hc.symm
   subst this
   decide)
  have ha0:s.data.toList.drop (k+g.length)=34::((ltsF x.1 x.1.size 0++[34])++(g1++58::(g2++(z++t)))):=by rw [ha];rfl
  have hg1':gap s (k+g.length+(txtJ x.1).length)=k+g.length+(txtJ x.1).length+g1.length:=gap_skip hb hg1 (fun c hc=>by simp at hc;subst hc;decide)
  unfold ostep nmR
  rw [hg0,if_pos (show nxt s (k+g.length)=34 from nxt_told ha0 (by decide)),letts_told (hn x hx) ha]
  simp only
  rw [if_neg hni]
  simp only
  unfold fvR
  rw [hg1',if_pos (show nxt s (k+g.length+(txtJ x.1).length+g1.length)=58 from nxt_told hc (by decide)),hv x hx z hz _ g2 t hd3 hg2 he]
  simp only [Array.toArray_toList]
  congr 2
  simp only [List.length_append,List.length_cons]
  omega) hu' (fun x hx y hy=>by
   obtain ⟨_,g1,g2,z,_,_,_,rfl⟩:=hy
   exact ⟨34,_,rfl,⟨by decide,by decide,by decide,by decide,by decide⟩⟩) [] k g t rfl hg hd
 rw [List.append_nil] at h2
 subst h2
 unfold objR
 have h1':rowR (ostep vf s) 125 s o [] k=_:=h1
 rw [h1']
 simp only
 have hs:st'=st'.mergeSort leN:=obj_sorted (List.Perm.refl _) (by
  unfold jn.Ris at hr
  exact hr.imp fun {a b} q=>by omega) hnd
 rw [← hs]
theorem ng_hd {c:UInt8}{u:List UInt8} (h:hdB c):NG (c::u):=fun c' hc=>by
 simp at hc
 subst hc
 exact h.2.1
theorem gval_told {s:ByteArray} (hs:s.size≤40000000000):∀ (n:Nat),∀ v,Pf n v→∀ x,GT n v x→RG s (vfN s n) x v:=by
 have key:∀ (n:Nat) (lf of:Nat→(JT × Nat) ⊕ (Nat × Nat)) (v:JT),Pf n v→∀ x,GT n v x→(∀ m l,n=m+1→v=JT.mk 4 false zed ⟨#[]⟩ l []→∀ k t,s.data.toList.drop k=x++t→lf k=.inl (v,k+x.length))→(∀ m f,n=m+1→v=JT.mk 5 false zed ⟨#[]⟩ [] f→∀ k t,s.data.toList.drop k=x++t→of k=.inl (v,k+x.length))→RG s (valR lf of s) x v:=by
  intro n lf of v hv x hx hL hO k g t hd hg ht
  obtain ⟨c,u,hc,hb⟩:=gt_head hv hx
  have hb1:=hb.1
  have hb2:=hb.2.1
  have hgp:gap s k=k+g.length:=gap_skip hd hg (by rw [hc];exact ng_hd hb)
  have hd1:=drop_on hd
  have hd0:s.data.toList.drop (k+g.length)=c::(u++t):=by rw [hd1,hc];rfl
  have hx1:=nxt_told hd0 hb1
  unfold valR
  rw [hgp,hx1]
  cases hv with
  | null =>
    have e:=gt_leaf hx (by decide) (by decide)
    rw [show prt (JT.mk 0 false zed ⟨#[]⟩ [] [])=[110,117,108,108] from by rw [show JT.mk 0 false zed ⟨#[]⟩ [] []=leaf 0 false zed ⟨#[]⟩ from rfl,prt_leaf];rfl] at e
    subst e
    have:c=110:=(List.cons.inj hc).1.symm
    subst this
    rw [if_pos (by decide)]
    exact gword_told (wd:=⟨#[110,117,108,108]⟩) hd1
  | truth n b =>
    have e:=gt_leaf hx (by decide) (by decide)
    cases b
    · rw [show prt (JT.mk 1 false zed ⟨#[]⟩ [] [])=[102,97,108,115,101] from by rw [show JT.mk 1 false zed ⟨#[]⟩ [] []=leaf 1 false zed ⟨#[]⟩ from rfl,prt_leaf];rfl] at e
      subst e
      have:c=102:=(List.cons.inj hc).1.symm
      subst this
      rw [if_neg (by decide),if_neg (by decide),if_pos (by decide)]
      exact gword_told (wd:=⟨#[102,97,108,115,101]⟩) hd1
    · rw [show prt (JT.mk 1 true zed ⟨#[]⟩ [] [])=[116,114,117,101] from by rw [show JT.mk 1 true zed ⟨#[]⟩ [] []=leaf 1 true zed ⟨#[]⟩ from rfl,prt_leaf];rfl] at e
      subst e
      have:c=116:=(List.cons.inj hc).1.symm
      subst this
      rw [if_neg (by decide),if_pos (by decide)]
      exact gword_told (wd:=⟨#[116,114,117,101]⟩) hd1
  | num n h hz =>
    rename_i d
    have e:=gt_leaf hx (by decide) (by decide)
    rw [show prt (JT.mk 2 false d ⟨#[]⟩ [] [])=(textOf d).data.toList from by rw [show JT.mk 2 false d ⟨#[]⟩ [] []=leaf 2 false d ⟨#[]⟩ from rfl,prt_leaf,if_neg (by decide),if_pos rfl,wh.whole_id h]] at e
    subst e
    obtain ⟨_,h3,h4,h5,h6⟩:=hd_dig ((bw.text_bytes h).2.2 c (by rw [hc];rfl))
    have ne:∀ z:UInt8,c≠z→¬ ((c.toNat:Nat):Int)=((z.toNat:Nat):Int):=fun z hz e=>hz (UInt8.toNat_inj.1 (by omega))
    rw [if_neg (show ¬ ((c.toNat:Nat):Int)=110 from ne 110 h4),if_neg (show ¬ ((c.toNat:Nat):Int)=116 from ne 116 h5),if_neg (show ¬ ((c.toNat:Nat):Int)=102 from ne 102 h6),if_pos h3]
    exact gnum_told h hs hd1 ht
  | text n h hz =>
    rename_i y
    have e:=gt_leaf hx (by decide) (by decide)
    rw [show prt (JT.mk 3 false zed y [] [])=txtJ y from by rw [show JT.mk 3 false zed y [] []=leaf 3 false zed y from rfl,prt_leaf];rfl] at e
    subst e
    have:c=34:=(List.cons.inj hc).1.symm
    subst this
    rw [if_neg (by decide),if_neg (by decide),if_neg (by decide),if_neg (by decide),if_pos (by decide)]
    exact gtext_told h hd1
  | @list m l h hz =>
    have hx':=hx
    unfold GT at hx'
    rw [if_pos rfl] at hx'
    obtain ⟨_,_,_,_,ex⟩:=hx'
    have:c=91:=by rw [ex] at hc;exact (List.cons.inj hc).1.symm
    subst this
    rw [if_neg (by decide),if_neg (by decide),if_neg (by decide),if_neg (by decide),if_neg (by decide),if_pos (by decide)]
    exact hL m l rfl rfl _ t hd1
  | @obj m f hn hr h hz =>
    have hx':=hx
    unfold GT at hx'
    rw [if_neg (by decide),if_pos rfl] at hx'
    obtain ⟨_,_,_,_,ex⟩:=hx'
    have:c=123:=by rw [ex] at hc;exact (List.cons.inj hc).1.symm
    subst this
    rw [if_neg (by decide),if_neg (by decide),if_neg (by decide),if_neg (by decide),if_neg (by decide),if_neg (by decide),if_pos (by decide)]
    exact hO m f rfl rfl _ t hd1
 intro n
 induction n with
 | zero =>
   intro v hv x hx
   exact key 0 _ _ v hv x hx (fun m _ e=>by omega) (fun m _ e=>by omega)
 | succ n ih =>
   intro v hv x hx
   refine key (n+1) _ _ v hv x hx (fun m l e ev k t hd=>?_) (fun m f e ev k t hd=>?_)
   · subst ev
     unfold GT at hx
     rw [if_pos rfl] at hx
     obtain ⟨g,u,hg,hu,rfl⟩:=hx
     cases hv with
     | list h hz=>exact glist_told (s:=s) (n:=n) (o:=64 - ((n+1:Nat):Int)) (by omega) h hg hu (fun v hv y hy=>ih v (h v hv) y hy) hd
   · subst ev
     unfold GT at hx
     rw [if_neg (by decide),if_pos rfl] at hx
     obtain ⟨g,u,hg,hu,rfl⟩:=hx
     cases hv with
     | obj hnm hr h hz=>exact gobj_told (s:=s) (n:=n) (o:=64 - ((n+1:Nat):Int)) (by omega) (fun p hp=>(hnm p hp).1) hr hg hu (fun p hp y hy=>ih p.2 (h p hp) y hy) hd
theorem gt_mono {n:Nat}{v:JT} (hv:Pf n v):∀ {x:List UInt8},GT n v x→∀ m,n≤m→GT m v x:=by
 have leafy:∀ (m:Nat) (k:Int) (b:Bool) (d:Dn) (y:ByteArray) (x:List UInt8),k≠4→k≠5→x=prt (JT.mk k b d y [] [])→GT m (JT.mk k b d y [] []) x:=by
  intro m k b d y x h4 h5 e
  cases m with
  | zero=>exact e
  | succ m=>unfold GT;rw [if_neg h4,if_neg h5];exact e
 induction hv with
 | null n=>exact fun h m _=>leafy m _ _ _ _ _ (by decide) (by decide) (gt_leaf h (by decide) (by decide))
 | truth n b=>exact fun h m _=>leafy m _ _ _ _ _ (by decide) (by decide) (gt_leaf h (by decide) (by decide))
 | num n _ _=>exact fun h m _=>leafy m _ _ _ _ _ (by decide) (by decide) (gt_leaf h (by decide) (by decide))
 | text n _ _=>exact fun h m _=>leafy m _ _ _ _ _ (by decide) (by decide) (gt_leaf h (by decide) (by decide))
 | list hl hz ih =>
   intro x h m hm
   obtain ⟨m,rfl⟩:∃ q,m=q+1:=⟨m - 1,by omega⟩
   unfold GT at h ⊢
   rw [if_pos rfl] at h ⊢
   obtain ⟨g,u,hg,hu,e⟩:=h
   exact ⟨g,u,hg,hu.imp id fun q=>q.imp fun v hv y hy=>ih v hv hy m (by omega),e⟩
 | obj hn hr hl hz ih =>
   intro x h m hm
   obtain ⟨m,rfl⟩:∃ q,m=q+1:=⟨m - 1,by omega⟩
   unfold GT at h ⊢
   rw [if_neg (by decide),if_pos rfl] at h ⊢
   obtain ⟨g,u,hg,hu,e⟩:=h
   exact ⟨g,u,hg,hu.imp id fun q=>q.imp fun p hp y hy=>by
    obtain ⟨g1,g2,z,h1,h2,h3,h4⟩:=hy
    exact ⟨g1,g2,z,h1,h2,ih p hp h3 m (by omega),h4⟩,e⟩
theorem gparse {v:JT} (h:Pf 64 v) {x g0 g1:List UInt8} (hx:GT 64 v x) (h0:AG g0) (h1:AG g1) (hs:(g0++x++g1).length≤1048576):parseJ ⟨(g0++x++g1).toArray⟩=.inl v:=by
 have hz:(⟨(g0++x++g1).toArray⟩:ByteArray).size=(g0++x++g1).length:=List.size_toArray
 have hd:(⟨(g0++x++g1).toArray⟩:ByteArray).data.toList.drop 0=g0++(x++g1):=by simp
 have he:GEnds g1:=fun c hc=>by
  cases g1 with
  | nil=>simp at hc
  | cons a g1 =>
    simp at hc
    subst hc
    exact .inr (.inr (.inr (.inr (h1 a (by simp)))))
 have hr:=gval_told (s:=⟨(g0++x++g1).toArray⟩) (by omega) 64 v h x hx 0 g0 g1 hd h0 he
 unfold parseJ
 rw [if_neg (by omega),hr]
 simp only
 have hd2:(⟨(g0++x++g1).toArray⟩:ByteArray).data.toList.drop (0+g0.length+x.length)=g1++[]:=by rw [drop_on (drop_on hd)];simp
 rw [gap_skip hd2 h1 (fun c hc=>by simp at hc)]
 have e:0+g0.length+x.length+g1.length=(⟨(g0++x++g1).toArray⟩:ByteArray).size:=by
  rw [hz]
  simp only [List.length_append]
  omega
 rw [e,if_pos]
 unfold nxt
 rw [if_pos rfl]
theorem gparse_deep {n:Nat}{v:JT} (h:Pf n v) {x g0 g1:List UInt8} (hx:GT n v x) (h0:AG g0) (h1:AG g1) (hd:64 < dpt v):∃ e,parseJ ⟨(g0++x++g1).toArray⟩=.inr e:=by
 cases hp:parseJ ⟨(g0++x++g1).toArray⟩ with
 | inr e=>exact ⟨e,rfl⟩
 | inl w =>
   exfalso
   have hg:=(parseJ_good hp).1
   have hz:(⟨(g0++x++g1).toArray⟩:ByteArray).size=(g0++x++g1).length:=List.size_toArray
   have hdr:(⟨(g0++x++g1).toArray⟩:ByteArray).data.toList.drop 0=g0++(x++g1):=by simp
   have he:GEnds g1:=fun c hc=>by
    cases g1 with
    | nil=>simp at hc
    | cons a g1 =>
      simp at hc
      subst hc
      exact .inr (.inr (.inr (.inr (h1 a (by simp)))))
   unfold parseJ at hp
   split at hp
   · cases hp
   · rename_i hs
     split at hp
     · cases hp
     · rename_i v2 k hv
       split at hp
       · cases hp
         have h3:=gval_told (s:=⟨(g0++x++g1).toArray⟩) (by omega) (max n 64) v (pf_mono h _ (Nat.le_max_left _ _)) x (gt_mono h hx _ (Nat.le_max_left _ _)) 0 g0 g1 hdr h0 he
         have h2:=vfN_le ⟨(g0++x++g1).toArray⟩ 64 (max n 64) (Nat.le_max_right _ _) 0 _ hv
         rw [h3] at h2
         have e:=(Prod.mk.inj (Sum.inl.inj h2)).1
         rw [← e] at hg
         have:=pf_dpt hg
         omega
       · cases hp
def escB (c:UInt8):List UInt8 :=
 if c=34∨c=92 then [92,c] else if c=8 then [92,98] else if c=9 then [92,116] else if c=10 then [92,110] else if c=12 then [92,102] else if c=13 then [92,114]
 else if c.toNat < 32 then [92,117,48,48,hxd (c.toNat / 16),hxd (c.toNat % 16)] else [c]
theorem escB_high {c:UInt8} (h:128≤c.toNat):escB c=[c]:=by
 have ne:∀ z:UInt8,z.toNat < 128→c≠z:=fun z hz e=>by rw [e] at h;omega
 unfold escB
 rw [if_neg (fun q=>q.elim (ne 34 (by decide)) (ne 92 (by decide))),if_neg (ne 8 (by decide)),if_neg (ne 9 (by decide)),if_neg (ne 10 (by decide)),if_neg (ne 12 (by decide)),if_neg (ne 13 (by decide)),if_neg (by omega)]
theorem enc_all (r:Nat) (h:128≤r):∀ c∈Lib.encodeRune (r:Int),128≤c.toNat:=by
 have key:∀ l:List Int,Lib.encodeRuneZ (r:Int)=l→(∀ a∈l,128≤a∧a≤255)→∀ c∈Lib.encodeRune (r:Int),128≤c.toNat:=fun l e hl c hc=>by
  unfold Lib.encodeRune at hc
  rw [e] at hc
  obtain ⟨a,ha,rfl⟩:=List.mem_map.1 hc
  obtain ⟨h1,h2⟩:=hl a ha
  rw [u8_nat a (by omega) h2]
  omega
 by_cases h2:r≤2047
 · refine key _ (Lib.encodeRuneZ_two (by omega) (by omega)) fun a ha=>?_
   simp only [List.mem_cons,List.not_mem_nil,or_false] at ha
   rcases ha with rfl|rfl <;> omega
 by_cases h3:(2048≤(r:Int)∧(r:Int) < 55296)∨(57343 < (r:Int)∧(r:Int)≤65535)
 · refine key _ (Lib.encodeRuneZ_three h3) fun a ha=>?_
   simp only [List.mem_cons,List.not_mem_nil,or_false] at ha
   rcases ha with rfl|rfl|rfl <;> omega
 by_cases h4:65536≤r∧r≤1114111
 · refine key _ (Lib.encodeRuneZ_four (by omega) (by omega)) fun a ha=>?_
   simp only [List.mem_cons,List.not_mem_nil,or_false] at ha
   rcases ha with rfl|rfl|rfl|rfl <;> omega
 · refine key _ (Lib.encodeRuneZ_bad (by omega)) fun a ha=>?_
   simp only [List.mem_cons,List.not_mem_nil,or_false] at ha
   rcases ha with rfl|rfl|rfl <;> omega
theorem flat_high:∀ l:List UInt8,(∀ c∈l,128≤c.toNat)→l.flatMap escB=l
 | [],_=>rfl
 | c::l,h=>by rw [List.flatMap_cons,escB_high (h c (by simp)),flat_high l fun d hd=>h d (by simp [hd])];rfl
theorem ltt_esc (r:Nat):ltt r=(Lib.encodeRune (r:Int)).flatMap escB:=by
 by_cases h:r < 128
 · have hu:=nat_u8 r (by omega)
   have eqv:∀ z:Nat,z < 128→(r.toUInt8=z.toUInt8↔r=z):=fun z hz=>by
    constructor
    · intro e
      have:=congrArg UInt8.toNat e
      rwa [hu,nat_u8 z (by omega)] at this
    · intro e;rw [e]
   have e34:=eqv 34 (by omega)
   have e92:=eqv 92 (by omega)
   have e8:=eqv 8 (by omega)
   have e9:=eqv 9 (by omega)
   have e10:=eqv 10 (by omega)
   have e12:=eqv 12 (by omega)
   have e13:=eqv 13 (by omega)
   rw [enc_low r h,List.flatMap_cons,List.flatMap_nil,List.append_nil]
   unfold ltt escB
   by_cases q1:r=34∨r=92
   · rw [if_pos q1,if_pos (show r.toUInt8=34∨r.toUInt8=92 from q1.imp e34.2 e92.2),enc_low r h]
   rw [if_neg q1,if_neg (show ¬ (r.toUInt8=34∨r.toUInt8=92) from fun q=>q1 (q.imp e34.1 e92.1))]
   by_cases q2:r=8
   · rw [if_pos q2,if_pos (show r.toUInt8=8 from e8.2 q2)]
   rw [if_neg q2,if_neg (show ¬ r.toUInt8=8 from fun q=>q2 (e8.1 q))]
   by_cases q3:r=9
   · rw [if_pos q3,if_pos (show r.toUInt8=9 from e9.2 q3)]
   rw [if_neg q3,if_neg (show ¬ r.toUInt8=9 from fun q=>q3 (e9.1 q))]
   by_cases q4:r=10
   · rw [if_pos q4,if_pos (show r.toUInt8=10 from e10.2 q4)]
   rw [if_neg q4,if_neg (show ¬ r.toUInt8=10 from fun q=>q4 (e10.1 q))]
   by_cases q5:r=12
   · rw [if_pos q5,if_pos (show r.toUInt8=12 from e12.2 q5)]
   rw [if_neg q5,if_neg (show ¬ r.toUInt8=12 from fun q=>q5 (e12.1 q))]
   by_cases q6:r=13
   · rw [if_pos q6,if_pos (show r.toUInt8=13 from e13.2 q6)]
   rw [if_neg q6,if_neg (show ¬ r.toUInt8=13 from fun q=>q6 (e13.1 q)),hu]
   by_cases q7:32≤r
   · rw [if_pos q7,if_neg (by omega),enc_low r h]
   · rw [if_neg q7,if_pos (by omega)]
 · rw [flat_high _ (enc_all r (by omega))]
   unfold ltt
   rw [if_neg (by omega),if_neg (by omega),if_neg (by omega),if_neg (by omega),if_neg (by omega),if_neg (by omega),if_pos (by omega)]
theorem lts_esc (X:ByteArray) {l:List UInt8} (hl:Ltc l):∀ (fuel pos:Nat),X.data.toList.drop pos=l→l.length≤fuel→ltsF X fuel pos=l.flatMap escB:=by
 induction hl with
 | nil =>
   intro fuel pos hX _
   have h2:X.data.toList.length=X.size:=Array.length_toList
   have hz:=congrArg List.length hX
   rw [List.length_drop,h2,List.length_nil] at hz
   rw [ltsF_end X fuel pos (by omega)]
   rfl
 | @cons x l hx hl ih =>
   intro fuel pos hX hfu
   have h2:X.data.toList.length=X.size:=Array.length_toList
   have hz:=congrArg List.length hX
   have hp:=hx.1
   rw [List.length_append] at hfu
   rw [List.length_drop,h2,List.length_append] at hz
   have hlt:pos < X.size:=by omega
   have hr:pt.ltr X pos=x.length:=by rw [ltr_drop X pos hlt,hX];exact hx.2 l
   obtain ⟨g,rfl⟩:∃ g,fuel=g+1:=⟨fuel - 1,by omega⟩
   rcases pt.place_says X pos hlt with ⟨a,_⟩|⟨_,_,d1,d2⟩
   · omega
   rw [hr] at d1 d2
   have d3:Lib.encodeRune ((Utf8.decode X pos).1:Int)=x:=by
    rw [d2,pt.cut_take,hX]
    simp
   rw [ltsF,if_pos hlt,d1,ltt_esc,d3,List.flatMap_append,ih g (pos+x.length) (by rw [← List.drop_drop,hX,List.drop_left]) (by omega)]
theorem txtJ_esc {X:ByteArray} (h:Ltc X.data.toList):txtJ X=34::(X.data.toList.flatMap escB++[34]):=by
 unfold txtJ
 have h2:X.data.toList.length=X.size:=Array.length_toList
 rw [lts_esc X h X.size 0 rfl (by omega)]
def stB (c:UInt8):Bool:=c == 91 || c == 93 || c == 123 || c == 125 || c == 44 || c == 58
def gp (o:Option (List UInt8 × List UInt8)) (c:UInt8):List UInt8:=match o with
 | some (a,b)=>a++c::b
 | none=>[c]
def scan (G:Nat→Option (List UInt8 × List UInt8)) (i:Nat) (w:Bool) (l:List UInt8):List UInt8:=match l with
 | []=>[]
 | c::r =>
   if w=true∧c=92 then (match r with
    | []=>[92]
    | d::r'=>92::d::scan G (i+2) true r')
   else if (if c=34 then !w else w)=false∧stB c=true then gp (G i) c++scan G (i+1) (if c=34 then !w else w) r
   else c::scan G (i+1) (if c=34 then !w else w) r
 termination_by l.length
section
variable (G:Nat→Option (List UInt8 × List UInt8))
theorem scan_cons (i:Nat) (w:Bool) (c:UInt8) (r:List UInt8):scan G i w (c::r)=if w=true∧c=92 then (match r with
 | []=>[92]
 | d::r'=>92::d::scan G (i+2) true r')
 else if (if c=34 then !w else w)=false∧stB c=true then gp (G i) c++scan G (i+1) (if c=34 then !w else w) r
 else c::scan G (i+1) (if c=34 then !w else w) r:=by
 rw [scan.eq_def]
theorem scan_esc (i:Nat) (d:UInt8) (r:List UInt8):scan G i true (92::d::r)=92::d::scan G (i+2) true r:=by
 rw [scan_cons,if_pos ⟨rfl,rfl⟩]
theorem scan_in {i:Nat}{c:UInt8}{r:List UInt8} (h1:c≠34) (h2:c≠92):scan G i true (c::r)=c::scan G (i+1) true r:=by
 rw [scan_cons,if_neg (fun q=>h2 q.2),if_neg (fun q=>by rw [if_neg h1] at q;exact absurd q.1 (by decide)),if_neg h1]
theorem scan_quote (i:Nat) (w:Bool) (r:List UInt8):scan G i w (34::r)=34::scan G (i+1) (!w) r:=by
 rw [scan_cons,if_neg (fun q=>absurd q.2 (by decide)),if_neg (fun q=>absurd q.2 (by decide)),if_pos rfl]
theorem scan_st {i:Nat}{c:UInt8}{r:List UInt8} (h:stB c=true):scan G i false (c::r)=gp (G i) c++scan G (i+1) false r:=by
 have h1:c≠34:=fun e=>by rw [e] at h;exact absurd h (by decide)
 rw [scan_cons,if_neg (fun q=>absurd q.1 (by decide)),if_neg h1,if_pos ⟨rfl,h⟩]
theorem scan_out {i:Nat}{c:UInt8}{r:List UInt8} (h1:c≠34) (h:stB c=false):scan G i false (c::r)=c::scan G (i+1) false r:=by
 rw [scan_cons,if_neg (fun q=>absurd q.1 (by decide)),if_neg h1,if_neg (fun q=>by rw [h] at q;exact absurd q.2 (by decide))]
theorem scan_plain:∀ (p:List UInt8) (i:Nat) (r:List UInt8),(∀ c∈p,c≠34∧stB c=false)→scan G i false (p++r)=p++scan G (i+p.length) false r
 | [],i,r,_=>by simp
 | c::p,i,r,h=>by
   obtain ⟨h1,h2⟩:=h c (by simp)
   rw [List.cons_append,scan_out G h1 h2,scan_plain p (i+1) r fun d hd=>h d (by simp [hd]),List.cons_append,List.length_cons,show i+1+p.length=i+(p.length+1) by omega]
theorem hxd_plain (n:Nat) (h:n < 16):hxd n≠34∧hxd n≠92:=by
 have:∀ n:Fin 16,hxd n.1≠34∧hxd n.1≠92:=by decide
 exact this ⟨n,h⟩
theorem scan_unit (c:UInt8) (i:Nat) (r:List UInt8):scan G i true (escB c++r)=escB c++scan G (i+(escB c).length) true r:=by
 unfold escB
 split
 · simp only [List.cons_append,List.nil_append];rw [scan_esc];rfl
 rename_i q0
 split
 · simp only [List.cons_append,List.nil_append];rw [scan_esc];rfl
 split
 · simp only [List.cons_append,List.nil_append];rw [scan_esc];rfl
 split
 · simp only [List.cons_append,List.nil_append];rw [scan_esc];rfl
 split
 · simp only [List.cons_append,List.nil_append];rw [scan_esc];rfl
 split
 · simp only [List.cons_append,List.nil_append];rw [scan_esc];rfl
 split
 · rename_i h
   have h1:=hxd_plain (c.toNat / 16) (by omega)
   have h2:=hxd_plain (c.toNat % 16) (by omega)
   simp only [List.cons_append,List.nil_append]
   rw [scan_esc,scan_in G (by decide) (by decide),scan_in G (by decide) (by decide),scan_in G h1.1 h1.2,scan_in G h2.1 h2.2]
   rfl
 · simp only [List.cons_append,List.nil_append]
   rw [scan_in G (fun e=>q0 (.inl e)) (fun e=>q0 (.inr e))]
   rfl
theorem scan_flat:∀ (X:List UInt8) (i:Nat) (r:List UInt8),scan G i true (X.flatMap escB++34::r)=X.flatMap escB++34::scan G (i+(X.flatMap escB).length+1) false r
 | [],i,r=>by
   rw [List.flatMap_nil,List.nil_append,List.nil_append,scan_quote];rfl
 | c::X,i,r=>by
   rw [List.flatMap_cons,List.append_assoc,scan_unit,scan_flat X,List.append_assoc,List.length_append,show i+(escB c).length+(X.flatMap escB).length+1=i+((escB c).length+(X.flatMap escB).length)+1 by omega]
end
theorem GRow.pad {α:Type}{R:α→List UInt8→Prop}{l:List α}{u a:List UInt8} (h:GRow R l u) (ha:AG a):GRow R l (u++a):=by
 induction h with
 | one h hg =>
   rw [List.append_assoc]
   exact .one h (ag_app hg ha)
 | @more x l y g g' u h hg hg' hu ih =>
   have:=GRow.more h hg hg' ih
   simpa using this
def ScP {α:Type} (G:Nat→Option (List UInt8 × List UInt8)) (T:α→List UInt8) (R:α→List UInt8→Prop) (x:α):Prop :=
 ∀ i r,∃ g0 y g1,AG g0∧AG g1∧R x y∧scan G i false (T x++r)=g0++(y++(g1++scan G (i+(T x).length) false r))
theorem gp_gaps {G:Nat→Option (List UInt8 × List UInt8)} (hG:∀ i a b,G i=some (a,b)→AG a∧AG b) (i:Nat) (c:UInt8):∃ a b,AG a∧AG b∧gp (G i) c=a++c::b:=by
 cases h:G i with
 | none=>exact ⟨[],[],ag_nil,ag_nil,rfl⟩
 | some p =>
   obtain ⟨a,b⟩:=p
   obtain ⟨h1,h2⟩:=hG i a b h
   exact ⟨a,b,h1,h2,rfl⟩
theorem scan_row {α:Type}{G:Nat→Option (List UInt8 × List UInt8)} (hG:∀ i a b,G i=some (a,b)→AG a∧AG b) {T:α→List UInt8}{R:α→List UInt8→Prop} :
 ∀ (l:List α),l≠[]→(∀ x∈l,ScP G T R x)→∀ i r,∃ g u,AG g∧GRow R l u∧scan G i false (comma (l.map T)++r)=g++(u++scan G (i+(comma (l.map T)).length) false r)
 | [],h,_,_,_=>absurd rfl h
 | [x],_,hx,i,r=>by
   obtain ⟨g0,y,g1,h0,h1,hR,e⟩:=hx x (by simp) i r
   have ec:comma ([x].map T)=T x:=by simp [comma]
   rw [ec]
   exact ⟨g0,y++g1,h0,.one hR h1,by rw [e];simp⟩
 | x::y::l,_,hx,i,r=>by
   have ec:comma ((x::y::l).map T)=T x++44::comma ((y::l).map T):=by simp [comma]
   rw [ec,List.append_assoc,List.cons_append]
   obtain ⟨g0,z,g1,h0,h1,hR,e⟩:=hx x (by simp) i (44::(comma ((y::l).map T)++r))
   rw [e,scan_st G (show stB 44=true by decide)]
   obtain ⟨a,b,ha,hb,eg⟩:=gp_gaps hG (i+(T x).length) 44
   obtain ⟨g,u,hg,hu,e2⟩:=scan_row hG (y::l) (by simp) (fun q hq=>hx q (by simp [hq])) (i+(T x).length+1) r
   rw [eg,e2]
   refine ⟨g0,z++(g1++a)++44::((b++g)++u),h0,.more hR (ag_app h1 ha) (ag_app hb hg) hu,?_⟩
   simp only [List.append_assoc,List.cons_append,List.length_append,List.length_cons]
   rw [show i+(T x).length+1+(comma ((y::l).map T)).length=i+((T x).length+((comma ((y::l).map T)).length+1)) by omega]
theorem scan_rows {α:Type}{G:Nat→Option (List UInt8 × List UInt8)} (hG:∀ i a b,G i=some (a,b)→AG a∧AG b) {T:α→List UInt8}{R:α→List UInt8→Prop}{op ec:UInt8} (hop:stB op=true) (hec:stB ec=true)
 (l:List α) (hx:∀ x∈l,ScP G T R x) (i:Nat) (r:List UInt8):∃ g0 g u g1,AG g0∧AG g∧AG g1∧((l=[]∧u=[])∨GRow R l u) ∧
  scan G i false (op::(comma (l.map T)++[ec])++r)=g0++((op::(g++u++[ec]))++(g1++scan G (i+(op::(comma (l.map T)++[ec])).length) false r)):=by
 obtain ⟨a,b,ha,hb,eg⟩:=gp_gaps hG i op
 rw [List.cons_append,scan_st G hop,eg]
 cases l with
 | nil =>
   rw [show comma (([]:List α).map T)=[] from rfl,List.nil_append,List.cons_append,List.nil_append,scan_st G hec]
   obtain ⟨a2,b2,ha2,hb2,eg2⟩:=gp_gaps hG (i+1) ec
   rw [eg2]
   exact ⟨a,b++a2,[],b2,ha,ag_app hb ha2,hb2,.inl ⟨rfl,rfl⟩,by simp⟩
 | cons x l =>
   rw [show comma ((x::l).map T)++[ec]++r=comma ((x::l).map T)++(ec::r) from by simp]
   obtain ⟨g,u,hg,hu,e2⟩:=scan_row hG (x::l) (by simp) hx (i+1) (ec::r)
   rw [e2,scan_st G hec]
   obtain ⟨a2,b2,ha2,hb2,eg2⟩:=gp_gaps hG (i+1+(comma ((x::l).map T)).length) ec
   rw [eg2]
   refine ⟨a,b++g,u++a2,b2,ha,ag_app hb hg,hb2,.inr (hu.pad ha2),?_⟩
   simp only [List.append_assoc,List.cons_append,List.nil_append,List.length_append,List.length_cons,List.length_nil]
   rw [show i+1+(comma ((x::l).map T)).length+1=i+((comma ((x::l).map T)).length+(0+1)+1) by omega]
theorem scan_txt (G:Nat→Option (List UInt8 × List UInt8)) {X:ByteArray} (hX:Ltc X.data.toList) (i:Nat) (r:List UInt8):scan G i false (txtJ X++r)=txtJ X++scan G (i+(txtJ X).length) false r:=by
 rw [txtJ_esc hX]
 simp only [List.cons_append,List.append_assoc,List.nil_append,List.length_cons,List.length_append,List.length_nil]
 rw [scan_quote]
 simp only [Bool.not_false]
 rw [scan_flat,show i+1+(X.data.toList.flatMap escB).length+1=i+((X.data.toList.flatMap escB).length+(0+1)+1) by omega]
theorem scan_val {G:Nat→Option (List UInt8 × List UInt8)} (hG:∀ i a b,G i=some (a,b)→AG a∧AG b) {n:Nat}{v:JT} (hv:Pf n v):ScP G prt (GT n) v:=by
 have flat:∀ (n:Nat) (k:Int) (b:Bool) (d:Dn) (y:ByteArray),k≠4→k≠5→(∀ c∈prt (JT.mk k b d y [] []),c≠34∧stB c=false)→ScP G prt (GT n) (JT.mk k b d y [] []):=by
  intro n k b d y h4 h5 hp i r
  refine ⟨[],prt (JT.mk k b d y [] []),[],ag_nil,ag_nil,?_,?_⟩
  · cases n with
    | zero=>rfl
    | succ m=>unfold GT;rw [if_neg h4,if_neg h5]
  · rw [scan_plain G _ i r hp];rfl
 induction hv with
 | null n =>
   refine flat n _ _ _ _ (by decide) (by decide) ?_
   rw [show prt (JT.mk 0 false zed ⟨#[]⟩ [] [])=[110,117,108,108] from by rw [show JT.mk 0 false zed ⟨#[]⟩ [] []=leaf 0 false zed ⟨#[]⟩ from rfl,prt_leaf];rfl]
   decide
 | truth n b =>
   refine flat n _ _ _ _ (by decide) (by decide) ?_
   cases b
   · rw [show prt (JT.mk 1 false zed ⟨#[]⟩ [] [])=[102,97,108,115,101] from by rw [show JT.mk 1 false zed ⟨#[]⟩ [] []=leaf 1 false zed ⟨#[]⟩ from rfl,prt_leaf];rfl]
     decide
   · rw [show prt (JT.mk 1 true zed ⟨#[]⟩ [] [])=[116,114,117,101] from by rw [show JT.mk 1 true zed ⟨#[]⟩ [] []=leaf 1 true zed ⟨#[]⟩ from rfl,prt_leaf];rfl]
     decide
 | num n h hz =>
   rename_i d
   refine flat n _ _ _ _ (by decide) (by decide) ?_
   rw [show prt (JT.mk 2 false d ⟨#[]⟩ [] [])=(textOf d).data.toList from by rw [show JT.mk 2 false d ⟨#[]⟩ [] []=leaf 2 false d ⟨#[]⟩ from rfl,prt_leaf,if_neg (by decide),if_pos rfl,wh.whole_id h]]
   intro c hc
   rcases (bw.text_bytes h).2.1 c hc with rfl|rfl|q
   · decide
   · decide
   · have hc:48≤c.toNat∧c.toNat≤57:=by simpa [nu.dig] using q
     have e:c=c.toNat.toUInt8:=by simp
     rw [e]
     have:c.toNat=48∨c.toNat=49∨c.toNat=50∨c.toNat=51∨c.toNat=52∨c.toNat=53∨c.toNat=54∨c.toNat=55∨c.toNat=56∨c.toNat=57:=by omega
     rcases this with e|e|e|e|e|e|e|e|e|e <;> rw [e] <;> decide
 | text n h hz =>
   rename_i y
   intro i r
   have e:prt (leaf 3 false zed y)=txtJ y:=by rw [prt_leaf];rfl
   refine ⟨[],txtJ y,[],ag_nil,ag_nil,?_,?_⟩
   · cases n with
     | zero=>exact e.symm
     | succ m=>show GT (m+1) (JT.mk 3 false zed y [] []) _;unfold GT;rw [if_neg (by decide),if_neg (by decide)];exact e.symm
   · rw [e,scan_txt G h i r];rfl
 | @list n l hl hz ih =>
   intro i r
   have e:prt (JT.mk 4 false zed ⟨#[]⟩ l [])=91::(comma (l.map prt)++[93]):=by rw [prt_mk];rfl
   rw [e]
   obtain ⟨g0,g,u,g1,h0,hg,h1,hu,es⟩:=scan_rows hG (op:=91) (ec:=93) (by decide) (by decide) l ih i r
   refine ⟨g0,91::(g++u++[93]),g1,h0,h1,?_,es⟩
   unfold GT
   rw [if_pos rfl]
   exact ⟨g,u,hg,hu,rfl⟩
 | @obj n f hn hr hl hz ih =>
   intro i r
   have e:prt (JT.mk 5 false zed ⟨#[]⟩ [] f)=123::(comma (f.map fun p=>txtJ p.1++[58]++prt p.2)++[125]):=by rw [prt_mk];rfl
   rw [e]
   obtain ⟨g0,g,u,g1,h0,hg,h1,hu,es⟩:=scan_rows hG (T:=fun p:ByteArray × JT=>txtJ p.1++[58]++prt p.2) (R:=fun p y=>∃ g g' z,AG g∧AG g'∧GT n p.2 z∧y=txtJ p.1++g++58::(g'++z)) (op:=123) (ec:=125) (by decide) (by decide) f (fun p hp j t=>by
    obtain ⟨a,b,ha,hb,eg⟩:=gp_gaps hG (j+(txtJ p.1).length) 58
    obtain ⟨q0,z,q1,hq0,hq1,hz,e2⟩:=ih p hp (j+(txtJ p.1).length+1) t
    refine ⟨[],txtJ p.1++a++58::((b++q0)++z),q1,ag_nil,hq1,⟨a,b++q0,z,ha,ag_app hb hq0,hz,rfl⟩,?_⟩
    simp only [List.append_assoc,List.cons_append,List.nil_append,List.length_append,List.length_cons]
    rw [scan_txt G (hn p hp).1,scan_st G (show stB 58=true by decide),eg,e2]
    simp only [List.append_assoc,List.cons_append]
    rw [show j+(txtJ p.1).length+1+(prt p.2).length=j+((txtJ p.1).length+((prt p.2).length+1)) by omega]) i r
   refine ⟨g0,123::(g++u++[125]),g1,h0,h1,?_,es⟩
   unfold GT
   rw [if_neg (by decide),if_pos rfl]
   exact ⟨g,u,hg,hu,rfl⟩
theorem drop_nil {s:ByteArray}{k:Nat} (h:s.data.toList.drop k=[]) (hk:k≤s.size):k=s.size:=by
 have h2:s.data.toList.length=s.size:=Array.length_toList
 have:=congrArg List.length h
 rw [List.length_drop,h2,List.length_nil] at this
 omega
theorem ltr_cut {x p z:List UInt8} (hx:Lt1 x) (e:x=p++z) (hz:z≠[]):ltrL p=0:=by
 rcases Nat.eq_zero_or_pos (ltrL p) with h|h
 · exact h
 · exfalso
   have h1:=lt1_take p h
   have h2:=h1.2 (p.drop (ltrL p)++z)
   rw [← List.append_assoc,List.take_append_drop,← e] at h2
   have h3:=hx.2 []
   rw [List.append_nil] at h3
   have h4:(p.take (ltrL p)).length≤p.length:=by rw [List.length_take];omega
   have h5:x.length=p.length+z.length:=by rw [e,List.length_append]
   have:=List.length_pos_iff.2 hz
   omega
theorem lett_cut (s:ByteArray) (f k r:Nat) (acc p z:List UInt8) (e:ltt r=p++z) (hz:z≠[]) (hd:s.data.toList.drop k=p) (hk:k≤s.size):∃ j,lettF s f k acc=.inr j:=by
 cases f with
 | zero=>exact ⟨k,rfl⟩
 | succ f =>
   cases p with
   | nil =>
     obtain rfl:=drop_nil hd hk
     exact ⟨_,lettF_end s (f+1) acc⟩
   | cons c p =>
     have h0:=drop_lt hd
     have b0:=drop_by hd
     have hsz:=drop_size hd (by simp)
     have two:∀ c2:UInt8,ltt r=[92,c2]→∃ j,lettF s (f+1) k acc=.inr j:=fun c2 e2=>by
      rw [e2] at e
      cases p with
      | nil =>
        obtain rfl:c=92:=(List.cons.inj e).1.symm
        refine ⟨k,lettF_esc0 s f k acc h0 b0 ?_⟩
        unfold escS
        rw [if_pos (by rw [hsz];simp)]
      | cons d p =>
        exfalso
        have:=congrArg List.length e
        have:=List.length_pos_iff.2 hz
        simp only [List.length_cons,List.length_append,List.length_nil] at *
        omega
     by_cases q1:r=34
     · subst q1;exact two 34 rfl
     by_cases q2:r=92
     · subst q2;exact two 92 rfl
     by_cases q3:r=8
     · subst q3;exact two 98 rfl
     by_cases q4:r=9
     · subst q4;exact two 116 rfl
     by_cases q5:r=10
     · subst q5;exact two 110 rfl
     by_cases q6:r=12
     · subst q6;exact two 102 rfl
     by_cases q7:r=13
     · subst q7;exact two 114 rfl
     by_cases q8:32≤r
     · have e2:ltt r=Lib.encodeRune (r:Int):=by
        unfold ltt
        rw [if_neg (by omega),if_neg q3,if_neg q4,if_neg q5,if_neg q6,if_neg q7,if_pos q8]
       rw [e2] at e
       by_cases hl:r < 128
       · exfalso
         rw [enc_low r hl] at e
         have:=congrArg List.length e
         have:=List.length_pos_iff.2 hz
         simp only [List.length_cons,List.length_append,List.length_nil] at *
         omega
       · obtain ⟨c',x,ex,hc⟩:=enc_high r (by omega)
         obtain rfl:c'=c:=by rw [ex] at e;exact (List.cons.inj e).1
         refine ⟨k,lettF_bad s f k acc h0 (by rw [b0];omega) ?_⟩
         rw [ltr_drop s k h0,hd]
         exact ltr_cut (lt1_enc (r:Int)) e hz
     · have e2:ltt r=[92,117,48,48,hxd (r / 16),hxd (r % 16)]:=by
        unfold ltt
        rw [if_neg (by omega),if_neg q3,if_neg q4,if_neg q5,if_neg q6,if_neg q7,if_neg q8]
       rw [e2] at e
       obtain rfl:c=92:=(List.cons.inj e).1.symm
       have hlen:=congrArg List.length e
       have hzl:=List.length_pos_iff.2 hz
       simp only [List.length_cons,List.length_append,List.length_nil] at hlen hsz
       refine ⟨k,lettF_esc0 s f k acc h0 b0 ?_⟩
       unfold escS
       split
       · rfl
       · cases p with
         | nil=>simp at hsz;omega
         | cons d p =>
           obtain rfl:d=117:=(List.cons.inj (List.cons.inj e).2).1.symm
           have b1:=drop_by' (j:=1) (c:=117) hd (by simp)
           rw [b1]
           show (numS s k).2=0
           unfold numS hexR
           rw [if_neg (by simp only [List.length_cons] at *;omega)]
theorem lett_cut_all (s X:ByteArray) {l:List UInt8} (hl:Ltc l):∀ (fuel pos f k:Nat) (acc p z:List UInt8),X.data.toList.drop pos=l→l.length≤fuel→ltsF X fuel pos++[34]=p++z→z≠[]→s.data.toList.drop k=p→k≤s.size →
 ∃ j,lettF s f k acc=.inr j:=by
 induction hl with
 | nil =>
   intro fuel pos f k acc p z hX _ e hz hd hk
   have h2:X.data.toList.length=X.size:=Array.length_toList
   have hzz:=congrArg List.length hX
   rw [List.length_drop,h2,List.length_nil] at hzz
   rw [ltsF_end X fuel pos (by omega),List.nil_append] at e
   cases p with
   | nil =>
     obtain rfl:=drop_nil hd hk
     exact ⟨_,lettF_end s f acc⟩
   | cons c p =>
     exfalso
     have:=congrArg List.length e
     have:=List.length_pos_iff.2 hz
     simp only [List.length_cons,List.length_append,List.length_nil] at *
     omega
 | @cons x l hx hl ih =>
   intro fuel pos f k acc p z hX hfu he hz hd hk
   have h2:X.data.toList.length=X.size:=Array.length_toList
   have hzz:=congrArg List.length hX
   have hp:=hx.1
   rw [List.length_append] at hfu
   rw [List.length_drop,h2,List.length_append] at hzz
   have hlt:pos < X.size:=by omega
   have hr:pt.ltr X pos=x.length:=by rw [ltr_drop X pos hlt,hX];exact hx.2 l
   obtain ⟨g,rfl⟩:∃ g,fuel=g+1:=⟨fuel - 1,by omega⟩
   rcases pt.place_says X pos hlt with ⟨a,_⟩|⟨_,_,d1,d2⟩
   · omega
   rw [hr] at d1 d2
   have e:ltsF X (g+1) pos=ltt (Utf8.decode X pos).1++ltsF X g (pos+x.length):=by
    rw [ltsF,if_pos hlt,d1]
   rw [e,List.append_assoc] at he
   rcases List.append_eq_append_iff.1 he with ⟨p',e1,e2⟩|⟨c',e1,e2⟩
   · cases f with
     | zero=>exact ⟨k,rfl⟩
     | succ f =>
       subst e1
       rw [lett_one s f k _ acc _ hd]
       exact ih g (pos+x.length) f _ _ p' z (by rw [← List.drop_drop,hX,List.drop_left]) (by omega) e2 hz (drop_on hd) (by
        have h3:s.data.toList.length=s.size:=Array.length_toList
        have:=congrArg List.length hd
        rw [List.length_drop,h3,List.length_append] at this
        omega)
   · cases c' with
     | nil =>
       rw [List.append_nil] at e1
       rw [List.nil_append] at e2
       cases f with
       | zero=>exact ⟨k,rfl⟩
       | succ f =>
         rw [lett_one s f k _ acc [] (by rw [hd,← e1,List.append_nil])]
         exact ih g (pos+x.length) f _ _ [] z (by rw [← List.drop_drop,hX,List.drop_left]) (by omega) (by rw [← e2];rfl) hz (by
          rw [e1]
          exact drop_on (x:=p) (t:=[]) (by rw [hd,List.append_nil])) (by
          have h3:s.data.toList.length=s.size:=Array.length_toList
          have:=congrArg List.length hd
          rw [List.length_drop,h3,← e1] at this
          omega)
     | cons a c'=>exact lett_cut s f k _ acc p (a::c') e1 (by simp) hd hk
theorem text_cut {s X:ByteArray} (hX:Ltc X.data.toList) {k:Nat}{p z:List UInt8} (e:txtJ X=p++z) (hz:z≠[]) (hp:p≠[]) (hd:s.data.toList.drop k=p):∃ j,letts s k=.inr j:=by
 cases p with
 | nil=>exact absurd rfl hp
 | cons c p =>
   have h2:X.data.toList.length=X.size:=Array.length_toList
   have e':34::(ltsF X X.size 0++[34])=c::(p++z):=e
   obtain ⟨_,e2⟩:=List.cons.inj e'
   have hd1:s.data.toList.drop (k+1)=p:=by rw [← List.drop_drop,hd];rfl
   exact lett_cut_all s X hX X.size 0 _ (k+1) [] p z rfl (by omega) e2 hz hd1 (by have:=drop_lt hd;omega)
def AtEnd {α:Type} (s:ByteArray) (r:(α × Nat) ⊕ (Nat × Nat)):Prop:=(∃ e,r=.inr e)∨∃ v,r=.inl (v,s.size)
theorem nxt_end (s:ByteArray):nxt s s.size=-1:=if_pos rfl
theorem gapE (s:ByteArray):gap s s.size=s.size:=skipTo_end _ _ _ (Nat.le_refl _)
theorem rowF_cut {σ α:Type}{step:σ→Nat→(σ × Nat) ⊕ (Nat × Nat)}{s:ByteArray}{ec:UInt8} (T:α→List UInt8)
 (htold:∀ st x k t,s.data.toList.drop k=T x++t→(∀ c,t.head?=some c→c=44)→(∃ e,step st k=.inr e)∨∃ st',step st k=.inl (st',k+(T x).length))
 (hcut:∀ st x k y z,T x=y++z→z≠[]→s.data.toList.drop k=y→k≤s.size→AtEnd s (step st k)) :
 ∀ (l:List α) (fuel:Nat) (st:σ) (k:Nat) (y z:List UInt8),l≠[]→comma (l.map T)++[ec]=y++z→z≠[]→s.data.toList.drop k=y→k≤s.size→∃ e,rowF step (ec.toNat:Int) s fuel st k=.inr e:=by
 have hne:¬ (-1:Int)=(ec.toNat:Int):=by omega
 have fin:∀ (fuel:Nat) (st:σ) (k:Nat),AtEnd s (step st k)→∃ e,rowF step (ec.toNat:Int) s (fuel+1) st k=.inr e:=fun fuel st k h=>by
  rcases h with ⟨e,h⟩|⟨st',h⟩
  · exact ⟨e,by rw [rowF,h]⟩
  · exact ⟨_,by rw [rowF,h];simp only;rw [gapE,nxt_end,if_neg (by decide),if_neg hne]⟩
 intro l
 induction l with
 | nil=>intro _ _ _ _ _ h;exact absurd rfl h
 | cons x l ih =>
   intro fuel st k y z _ e hz hd hk
   cases fuel with
   | zero=>exact ⟨_,rfl⟩
   | succ fuel =>
     have e':T x++((if l=[] then [] else 44::comma (l.map T))++[ec])=y++z:=by
      rw [← e]
      cases l with
      | nil=>simp [comma]
      | cons b l=>simp [comma]
     rcases List.append_eq_append_iff.1 e' with ⟨p',e1,e2⟩|⟨c',e1,e2⟩
     ·
      subst e1
      have hsz:s.size=k+((T x).length+p'.length):=by
       have h3:s.data.toList.length=s.size:=Array.length_toList
       have:=congrArg List.length hd
       rw [List.length_drop,h3,List.length_append] at this
       omega
      cases p' with
      | nil =>
        refine fin fuel st k ?_
        rcases htold st x k [] hd (fun c hc=>by simp at hc) with h|⟨st',h⟩
        · exact .inl h
        · refine .inr ⟨st',?_⟩
          rw [h,hsz]
          simp
      | cons c p' =>
        cases l with
        | nil =>
          exfalso
          rw [if_pos rfl] at e2
          have h1:=congrArg List.length e2
          have h2:=List.length_pos_iff.2 hz
          simp only [List.nil_append,List.length_cons,List.length_append,List.length_nil] at h1
          omega
        | cons b l =>
          rw [if_neg (by simp),List.cons_append,List.cons_append] at e2
          obtain ⟨rfl,e3⟩:=List.cons.inj e2
          rcases htold st x k _ hd (fun c hc=>by simpa using hc.symm) with ⟨e,h⟩|⟨st',h⟩
          · exact ⟨e,by rw [rowF,h]⟩
          · have hd2:=drop_on hd
            have hg:gap s (k+(T x).length)=k+(T x).length:=gap_here hd2 (by decide)
            have hn:nxt s (k+(T x).length)=44:=nxt_told hd2 (by decide)
            obtain ⟨e,h2⟩:=ih fuel st' (k+(T x).length+1) p' z (by simp) e3 hz (by rw [← List.drop_drop,hd2];rfl) (by rw [hsz];simp;omega)
            exact ⟨e,by rw [rowF,h];simp only;rw [hg,hn,if_pos rfl,h2]⟩
     · cases c' with
       | nil =>
         rw [List.append_nil] at e1
         refine fin fuel st k ?_
         have hsz:s.size=k+(T x).length:=by
          have h3:s.data.toList.length=s.size:=Array.length_toList
          have:=congrArg List.length hd
          rw [List.length_drop,h3,← e1] at this
          omega
         rcases htold st x k [] (by rw [hd,← e1,List.append_nil]) (fun c hc=>by simp at hc) with h|⟨st',h⟩
         · exact .inl h
         · exact .inr ⟨st',by rw [h,hsz]⟩
       | cons a c'=>exact fin fuel st k (hcut st x k y (a::c') e1 (by simp) hd hk)
theorem rowR_cut {σ α:Type}{step:σ→Nat→(σ × Nat) ⊕ (Nat × Nat)}{s:ByteArray}{ec op:UInt8}{o:Int} (hec:ec=93∨ec=125) (T:α→List UInt8) (hT:∀ x,∃ c t,T x=c::t∧hdB c)
 (htold:o≠64→∀ st x k t,s.data.toList.drop k=T x++t→(∀ c,t.head?=some c→c=44)→(∃ e,step st k=.inr e)∨∃ st',step st k=.inl (st',k+(T x).length))
 (hcut:o≠64→∀ st x k y z,T x=y++z→z≠[]→s.data.toList.drop k=y→k≤s.size→AtEnd s (step st k)) (hend:o≠64→∀ st,∃ e,step st s.size=.inr e)
 (l:List α) (st:σ) (k:Nat) (y z:List UInt8) (e:op::(comma (l.map T)++[ec])=y++z) (hz:z≠[]) (hy:y≠[]) (hd:s.data.toList.drop k=y):∃ e,rowR step (ec.toNat:Int) s o st k=.inr e:=by
 unfold rowR
 by_cases ho:o=64
 · rw [if_pos ho];exact ⟨_,rfl⟩
 rw [if_neg ho]
 have hne:¬ (-1:Int)=(ec.toNat:Int):=by omega
 cases y with
 | nil=>exact absurd rfl hy
 | cons c y =>
   obtain ⟨rfl,e2⟩:=List.cons.inj e
   have hd1:s.data.toList.drop (k+1)=y:=by rw [← List.drop_drop,hd];rfl
   have hk1:k+1≤s.size:=by have:=drop_lt hd;omega
   cases y with
   | nil =>
     have hk:=drop_nil hd1 hk1
     rw [hk,gapE,nxt_end,if_neg hne]
     obtain ⟨e,h⟩:=hend ho st
     exact ⟨e,by rw [rowF,h];rfl⟩
   | cons a y =>
     cases l with
     | nil =>
       exfalso
       have e3:comma ((([]:List α)).map T)++[ec]=(a::y)++z:=e2
       have h1:=congrArg List.length e3
       have h2:=List.length_pos_iff.2 hz
       simp only [List.map_nil,comma,List.nil_append,List.length_cons,List.length_append,List.length_nil] at h1
       omega
     | cons x l =>
       obtain ⟨c2,u,hx,hc1,hc2,hc3,hc4,_⟩:=hT x
       have ea:a=c2:=by
        have:comma ((x::l).map T)++[ec]=c2::(comma ((x::l).map T)++[ec]).tail:=by
         simp only [List.map_cons,comma,hx,List.cons_append,List.tail_cons]
        rw [this] at e2
        exact (List.cons.inj e2).1.symm
       subst ea
       have hg:gap s (k+1)=k+1:=gap_here hd1 hc2
       have hn:nxt s (k+1)=(a.toNat:Int):=nxt_told hd1 hc1
       have hne2:¬ (a.toNat:Int)=(ec.toNat:Int):=by
        intro e
        have e3:a=ec:=UInt8.toNat_inj.1 (by omega)
        rcases hec with rfl|rfl
        · exact hc3 e3
        · exact hc4 e3
       rw [hg,hn,if_neg hne2]
       obtain ⟨e,h⟩:=rowF_cut T (htold ho) (hcut ho) (x::l) (s.size+1) st (k+1) (a::y) z (by simp) e2 hz hd1 hk1
       exact ⟨e,by rw [h];rfl⟩
theorem val_end (lf of:Nat→(JT × Nat) ⊕ (Nat × Nat)) (s:ByteArray):∃ e,valR lf of s s.size=.inr e:=by
 unfold valR
 rw [gapE,nxt_end,if_neg (by decide),if_neg (by decide),if_neg (by decide),if_neg (by decide),if_neg (by decide),if_neg (by decide),if_neg (by decide)]
 exact ⟨_,rfl⟩
theorem vf_end (s:ByteArray):∀ m,∃ e,vfN s m s.size=.inr e
 | 0=>val_end _ _ s
 | _+1=>val_end _ _ s
theorem vf_told {s:ByteArray} (hs:s.size≤40000000000) {n:Nat}{v:JT} (hv:Pf n v) (m k:Nat) (t:List UInt8) (hd:s.data.toList.drop k=prt v++t) (ht:Ends t):(∃ e,vfN s m k=.inr e)∨vfN s m k=.inl (v,k+(prt v).length):=by
 cases h:vfN s m k with
 | inr e=>exact .inl ⟨e,rfl⟩
 | inl r =>
   right
   have h1:=vfN_le s m (max n m) (Nat.le_max_right _ _) k r h
   have h2:=val_told hs (max n m) v (pf_mono hv _ (Nat.le_max_left _ _)) k t hd ht
   rw [h2] at h1
   rw [← Sum.inl.inj h1]
theorem ends_44 {t:List UInt8} (h:∀ c,t.head?=some c→c=44):Ends t:=fun c hc=>.inl (h c hc)
theorem word_cut {s wd:ByteArray}{kd:Int}{tr:Bool}{k:Nat}{y z:List UInt8} (e:wd.data.toList=y++z) (hz:z≠[]) (hd:s.data.toList.drop k=y):∃ e,wordR wd kd tr s k=.inr e:=by
 unfold wordR
 rw [if_neg]
 · exact ⟨_,rfl⟩
 · rw [ext_end,hd]
   intro h
   have h1:=prefix_le _ _ h
   have h2:=congrArg List.length e
   have h3:=List.length_pos_iff.2 hz
   rw [List.length_append] at h2
   omega
theorem num_cut {s:ByteArray}{k:Nat}{y:List UInt8} (hy:∀ c∈y,inB numBytes.data.toList c=true) (hd:s.data.toList.drop k=y) (hne:y≠[]):AtEnd s (numJ s k):=by
 have hnt:numTo s k=s.size:=by
  have hz:=drop_size hd hne
  unfold numTo skipTo
  rw [hd,hz]
  congr 1
  clear hd hz hne
  induction y with
  | nil=>rfl
  | cons a y ih =>
    rw [List.takeWhile_cons,hy a (by simp)]
    simp only [if_true,List.length_cons]
    rw [ih fun c hc=>hy c (by simp [hc])]
 unfold numJ
 rw [hnt]
 split
 · exact .inr ⟨_,rfl⟩
 · exact .inl ⟨_,rfl⟩
theorem num_bytes {d:Dn} (h:Whole1 d):∀ c∈(textOf d).data.toList,inB numBytes.data.toList c=true:=fun c hc=>by
 rcases (bw.text_bytes h).2.1 c hc with rfl|rfl|q
 · decide
 · decide
 · have hc:48≤c.toNat∧c.toNat≤57:=by simpa [nu.dig] using q
   have e:c=c.toNat.toUInt8:=by simp
   rw [e]
   have:c.toNat=48∨c.toNat=49∨c.toNat=50∨c.toNat=51∨c.toNat=52∨c.toNat=53∨c.toNat=54∨c.toNat=55∨c.toNat=56∨c.toNat=57:=by omega
   rcases this with e|e|e|e|e|e|e|e|e|e <;> rw [e] <;> decide
def isNum:JT→Prop
 | .mk k _ _ _ _ _=>k=2
theorem vf_shape (s:ByteArray) (m:Nat):∃ (vf:Nat→(JT × Nat) ⊕ (Nat × Nat)) (o:Int),vfN s m=valR (listR vf s o) (objR vf s o) s∧(o≠64→∃ m',vf=vfN s m'):=by
 cases m with
 | zero=>exact ⟨_,64,rfl,fun h=>absurd rfl h⟩
 | succ m=>exact ⟨vfN s m,_,rfl,fun _=>⟨m,rfl⟩⟩
theorem prt0:prt (leaf 0 false zed ⟨#[]⟩)=[110,117,108,108]:=by rw [prt_leaf];rfl
theorem prt1 (b:Bool):prt (leaf 1 b zed ⟨#[]⟩)=if b then [116,114,117,101] else [102,97,108,115,101]:=by cases b <;> (rw [prt_leaf];rfl)
theorem prt2 {d:Dn} (h:Whole1 d):prt (leaf 2 false d ⟨#[]⟩)=(textOf d).data.toList:=by rw [prt_leaf,if_neg (by decide),if_pos rfl,wh.whole_id h]
theorem prt3 (x:ByteArray):prt (leaf 3 false zed x)=txtJ x:=by rw [prt_leaf];rfl
theorem lstep_end {vf:Nat→(JT × Nat) ⊕ (Nat × Nat)}{s:ByteArray} (h:∃ e,vf s.size=.inr e) (st:List JT):∃ e,lstep vf st s.size=.inr e:=by
 obtain ⟨e,h⟩:=h
 exact ⟨e,by unfold lstep;rw [h]⟩
theorem ostep_end {vf:Nat→(JT × Nat) ⊕ (Nat × Nat)}{s:ByteArray} (st:List (ByteArray × JT)):∃ e,ostep vf s st s.size=.inr e:=by
 refine ⟨(0,s.size),?_⟩
 unfold ostep nmR
 rw [gapE,nxt_end,if_neg (by decide)]
theorem val_cut {s:ByteArray} (hs:s.size≤40000000000) {n:Nat}{v:JT} (hv:Pf n v):∀ (m k:Nat) (y z:List UInt8),prt v=y++z→z≠[]→s.data.toList.drop k=y→k≤s.size→(∃ e,vfN s m k=.inr e)∨(isNum v∧∃ w,vfN s m k=.inl (w,s.size)):=by
 have start:∀ (m k:Nat) (y z:List UInt8) (c:UInt8) (u:List UInt8),s.data.toList.drop k=y→k≤s.size→c::u=y++z→hdB c→(∃ e,vfN s m k=.inr e)∨(gap s k=k∧nxt s k=(c.toNat:Int)∧y≠[]):=by
  intro m k y z c u hd hk e hb
  cases y with
  | nil =>
    obtain rfl:=drop_nil hd hk
    exact .inl (vf_end s m)
  | cons a y =>
    obtain rfl:c=a:=(List.cons.inj e).1
    exact .inr ⟨gap_here hd hb.2.1,nxt_told hd hb.1,by simp⟩
 induction hv with
 | null n =>
   intro m k y z e hz hd hk
   rw [prt0] at e
   rcases start m k y z 110 [117,108,108] hd hk e ⟨by decide,by decide,by decide,by decide,by decide⟩ with h|⟨hg,hx,_⟩
   · exact .inl h
   · obtain ⟨vf,o,hsh,_⟩:=vf_shape s m
     left
     rw [hsh]
     unfold valR
     rw [hg,hx,if_pos (by decide)]
     exact word_cut (wd:=⟨#[110,117,108,108]⟩) e hz hd
 | truth n b =>
   intro m k y z e hz hd hk
   rw [prt1] at e
   obtain ⟨vf,o,hsh,_⟩:=vf_shape s m
   cases b
   · rw [if_neg (by decide)] at e
     rcases start m k y z 102 [97,108,115,101] hd hk e ⟨by decide,by decide,by decide,by decide,by decide⟩ with h|⟨hg,hx,_⟩
     · exact .inl h
     · left
       rw [hsh]
       unfold valR
       rw [hg,hx,if_neg (by decide),if_neg (by decide),if_pos (by decide)]
       exact word_cut (wd:=⟨#[102,97,108,115,101]⟩) e hz hd
   · rw [if_pos rfl] at e
     rcases start m k y z 116 [114,117,101] hd hk e ⟨by decide,by decide,by decide,by decide,by decide⟩ with h|⟨hg,hx,_⟩
     · exact .inl h
     · left
       rw [hsh]
       unfold valR
       rw [hg,hx,if_neg (by decide),if_pos (by decide)]
       exact word_cut (wd:=⟨#[116,114,117,101]⟩) e hz hd
 | @num n d h hzz =>
   intro m k y z e hz hd hk
   rw [prt2 h] at e
   obtain ⟨h1,_,h3⟩:=bw.text_bytes h
   cases hx:(textOf d).data.toList with
   | nil=>exact absurd hx h1
   | cons c u =>
     obtain ⟨hb,n3,n4,n5,n6⟩:=hd_dig (h3 c (by rw [hx];rfl))
     have e':=e
     rw [hx] at e'
     rcases start m k y z c u hd hk e' hb with h|⟨hg,hxx,hy⟩
     · exact .inl h
     · obtain ⟨vf,o,hsh,_⟩:=vf_shape s m
       have ne:∀ w:UInt8,c≠w→¬ ((c.toNat:Nat):Int)=((w.toNat:Nat):Int):=fun w hw e=>hw (UInt8.toNat_inj.1 (by omega))
       have hn:=num_cut (s:=s) (k:=k) (y:=y) (fun c hc=>num_bytes h c (by rw [e];exact List.mem_append_left _ hc)) hd hy
       rw [hsh]
       unfold valR
       rw [hg,hxx,if_neg (show ¬ ((c.toNat:Nat):Int)=110 from ne 110 n4),if_neg (show ¬ ((c.toNat:Nat):Int)=116 from ne 116 n5),if_neg (show ¬ ((c.toNat:Nat):Int)=102 from ne 102 n6),if_pos n3]
       rcases hn with h|⟨w,h⟩
       · exact .inl h
       · exact .inr ⟨rfl,w,h⟩
 | @text n x h hzz =>
   intro m k y z e hz hd hk
   rw [prt3] at e
   rcases start m k y z 34 _ hd hk e ⟨by decide,by decide,by decide,by decide,by decide⟩ with h|⟨hg,hx,hy⟩
   · exact .inl h
   · obtain ⟨vf,o,hsh,_⟩:=vf_shape s m
     obtain ⟨j,hj⟩:=text_cut h e hz hy hd
     left
     rw [hsh]
     unfold valR
     rw [hg,hx,if_neg (by decide),if_neg (by decide),if_neg (by decide),if_neg (by decide),if_pos (by decide)]
     refine ⟨(4,j),?_⟩
     unfold textR
     rw [hj]
 | @list n l hl hzz ih =>
   intro m k y z e hz hd hk
   have ep:prt (JT.mk 4 false zed ⟨#[]⟩ l [])=91::(comma (l.attach.map fun v=>prt v.1)++[93]):=by
    rw [prt_mk]
    simp only [List.map_attach_eq_pmap,List.pmap_eq_map]
    rfl
   rw [ep] at e
   rcases start m k y z 91 _ hd hk e ⟨by decide,by decide,by decide,by decide,by decide⟩ with h|⟨hg,hx,hy⟩
   · exact .inl h
   · obtain ⟨vf,o,hsh,hvf⟩:=vf_shape s m
     obtain ⟨e1,h1⟩:=rowR_cut (step:=lstep vf) (s:=s) (ec:=93) (op:=91) (o:=o) (.inl rfl) (fun v:{v // v∈l}=>prt v.1) (fun v=>prt_head (hl v.1 v.2))
      (fun ho st v k t hd ht=>by
       obtain ⟨m',rfl⟩:=hvf ho
       rcases vf_told hs (hl v.1 v.2) m' k t hd (ends_44 ht) with ⟨e,h⟩|h
       · exact .inl ⟨e,by unfold lstep;rw [h]⟩
       · exact .inr ⟨_,by unfold lstep;rw [h]⟩)
      (fun ho st v k y z e hz hd hk=>by
       obtain ⟨m',rfl⟩:=hvf ho
       rcases ih v.1 v.2 m' k y z e hz hd hk with ⟨e,h⟩|⟨_,w,h⟩
       · exact .inl ⟨e,by unfold lstep;rw [h]⟩
       · exact .inr ⟨_,by unfold lstep;rw [h]⟩)
      (fun ho st=>by
       obtain ⟨m',rfl⟩:=hvf ho
       exact lstep_end (vf_end s m') st) l.attach [] k y z e hz hy hd
     left
     rw [hsh]
     unfold valR
     rw [hg,hx,if_neg (by decide),if_neg (by decide),if_neg (by decide),if_neg (by decide),if_neg (by decide),if_pos (by decide)]
     refine ⟨e1,?_⟩
     unfold listR
     have h1':rowR (lstep vf) 93 s o [] k=_:=h1
     rw [h1']
 | @obj n f hn hr hl hzz ih =>
   intro m k y z e hz hd hk
   have ep:prt (JT.mk 5 false zed ⟨#[]⟩ [] f)=123::(comma (f.attach.map fun p=>txtJ p.1.1++[58]++prt p.1.2)++[125]):=by
    rw [prt_mk]
    simp only [List.map_attach_eq_pmap,List.pmap_eq_map]
    rfl
   rw [ep] at e
   rcases start m k y z 123 _ hd hk e ⟨by decide,by decide,by decide,by decide,by decide⟩ with h|⟨hg,hx,hy⟩
   · exact .inl h
   · obtain ⟨vf,o,hsh,hvf⟩:=vf_shape s m
     have name:∀ (st:List (ByteArray × JT)) (p:{p // p∈f}) (k:Nat) (t:List UInt8),s.data.toList.drop k=txtJ p.1.1++t→(∃ e,ostep vf s st k=.inr e)∨ostep vf s st k=(match fvR vf s (k+(txtJ p.1.1).length) with
      | .inr e=>.inr e
      | .inl (v,k2)=>.inl (st++[(⟨p.1.1.data.toList.toArray⟩,v)],k2)):=by
      intro st p k t hd
      have hd0:s.data.toList.drop k=34::((ltsF p.1.1 p.1.1.size 0++[34])++t):=by rw [hd];rfl
      unfold ostep nmR
      rw [gap_here hd0 (by decide),if_pos (show nxt s k=34 from nxt_told hd0 (by decide)),letts_told (hn p.1 p.2).1 hd]
      simp only
      split
      · rename_i e1 he1
        split at he1
        · exact .inl ⟨e1,rfl⟩
        · cases he1
      · rename_i n1 k1 he1
        split at he1
        · cases he1
        · cases he1
          exact .inr rfl
     obtain ⟨e1,h1⟩:=rowR_cut (step:=ostep vf s) (s:=s) (ec:=125) (op:=123) (o:=o) (.inr rfl) (fun p:{p // p∈f}=>txtJ p.1.1++[58]++prt p.1.2) (fun p=>⟨34,_,rfl,⟨by decide,by decide,by decide,by decide,by decide⟩⟩)
      (fun ho st p k t hd ht=>by
       obtain ⟨m',rfl⟩:=hvf ho
       have hd':s.data.toList.drop k=txtJ p.1.1++(58::(prt p.1.2++t)):=by rw [hd];simp
       rcases name st p k _ hd' with h|h
       · exact .inl h
       · have hd2:=drop_on hd'
         rw [h]
         unfold fvR
         rw [gap_here hd2 (by decide),if_pos (show nxt s (k+(txtJ p.1.1).length)=58 from nxt_told hd2 (by decide))]
         rcases vf_told hs (hl p.1 p.2) m' (k+(txtJ p.1.1).length+1) t (by rw [← List.drop_drop,hd2];rfl) (ends_44 ht) with ⟨e,h⟩|h
         · rw [h];exact .inl ⟨e,rfl⟩
         · rw [h]
           refine .inr ⟨st++[(⟨p.1.1.data.toList.toArray⟩,p.1.2)],?_⟩
           simp only
           congr 2
           simp only [List.length_append,List.length_cons,List.length_nil]
           omega)
      (fun ho st p k y z e hz hd hk=>by
       obtain ⟨m',rfl⟩:=hvf ho
       have rest:∀ q:List UInt8,y=txtJ p.1.1++q→58::prt p.1.2=q++z→AtEnd s (ostep (vfN s m') s st k):=by
        intro q ey eq
        subst ey
        have hd2:=drop_on hd
        have hk2:k+(txtJ p.1.1).length≤s.size:=by
         have h3:s.data.toList.length=s.size:=Array.length_toList
         have:=congrArg List.length hd
         rw [List.length_drop,h3,List.length_append] at this
         omega
        rcases name st p k q hd with h|h
        · exact .inl h
        · rw [h]
          unfold fvR
          cases q with
          | nil =>
            have hk3:=drop_nil hd2 hk2
            rw [hk3,gapE,nxt_end,if_neg (by decide)]
            exact .inl ⟨_,rfl⟩
          | cons c q =>
            obtain ⟨rfl,e3⟩:=List.cons.inj eq
            rw [gap_here hd2 (by decide),if_pos (show nxt s (k+(txtJ p.1.1).length)=58 from nxt_told hd2 (by decide))]
            rcases ih p.1 p.2 m' (k+(txtJ p.1.1).length+1) q z e3 hz (by rw [← List.drop_drop,hd2];rfl) (by have:=drop_lt hd2;omega) with ⟨e,h⟩|⟨_,w,h⟩
            · rw [h];exact .inl ⟨e,rfl⟩
            · rw [h];exact .inr ⟨_,rfl⟩
       have e':txtJ p.1.1++(58::prt p.1.2)=y++z:=by rw [← e];simp
       rcases List.append_eq_append_iff.1 e' with ⟨q,e1,e2⟩|⟨c',e1,e2⟩
       · exact rest q e1 e2
       · cases c' with
         | nil=>exact rest [] (by rw [e1];simp) (by rw [e2];rfl)
         | cons a c' =>
           cases y with
           | nil =>
             obtain rfl:=drop_nil hd hk
             exact .inl (ostep_end st)
           | cons b y =>
             obtain ⟨j,hj⟩:=text_cut (hn p.1 p.2).1 e1 (by simp) (by simp) hd
             have hb:b=34:=(List.cons.inj (show 34::(ltsF p.1.1 p.1.1.size 0++[34])=b::(y++(a::c')) from e1)).1.symm
             subst hb
             left
             refine ⟨(4,j),?_⟩
             unfold ostep nmR
             rw [gap_here hd (by decide),if_pos (show nxt s k=34 from nxt_told hd (by decide)),hj])
      (fun _ st=>ostep_end st) f.attach [] k y z e hz hy hd
     left
     rw [hsh]
     unfold valR
     rw [hg,hx,if_neg (by decide),if_neg (by decide),if_neg (by decide),if_neg (by decide),if_neg (by decide),if_neg (by decide),if_pos (by decide)]
     refine ⟨e1,?_⟩
     unfold objR
     have h1':rowR (ostep vf s) 125 s o [] k=_:=h1
     rw [h1']
theorem parse_cut {n:Nat}{v:JT} (hv:Pf n v) (hn:¬ isNum v) {y z:List UInt8} (e:prt v=y++z) (hz:z≠[]) (hs:y.length≤40000000000):∃ r,parseJ ⟨y.toArray⟩=.inr r:=by
 have hsz:(⟨y.toArray⟩:ByteArray).size=y.length:=List.size_toArray
 unfold parseJ
 split
 · exact ⟨_,rfl⟩
 · rcases val_cut (s:=⟨y.toArray⟩) (by omega) hv 64 0 y z e hz (by simp) (by omega) with ⟨r,h⟩|⟨h,_⟩
   · rw [h];exact ⟨r,rfl⟩
   · exact absurd h hn
theorem le_fold:∀ (l:List Nat) (m:Nat),m≤l.foldl max m∧∀ x∈l,x≤l.foldl max m
 | [],m=>⟨Nat.le_refl _,fun x hx=>by cases hx⟩
 | y::l,m=>by
   obtain ⟨h1,h2⟩:=le_fold l (max m y)
   rw [List.foldl_cons]
   refine ⟨by omega,fun x hx=>?_⟩
   rcases List.mem_cons.1 hx with rfl|hx
   · omega
   · exact h2 x hx
theorem pf_deep {n:Nat}{v:JT} (h:Pf n v):∀ m,dpt v≤m→Pf m v:=by
 induction h with
 | null n=>exact fun m _=>.null m
 | truth n b=>exact fun m _=>.truth m b
 | num n h hz=>exact fun m _=>.num m h hz
 | text n h hz=>exact fun m _=>.text m h hz
 | @list n l h hz ih =>
   intro m hm
   rw [dpt_mk,if_pos rfl] at hm
   obtain ⟨m,rfl⟩:∃ k,m=k+1:=⟨m - 1,by omega⟩
   refine .list (fun v hv=>ih v hv m ?_) hz
   have:=(le_fold (l.map dpt) 0).2 _ (List.mem_map.2 ⟨v,hv,rfl⟩)
   omega
 | @obj n f hn hr h hz ih =>
   intro m hm
   rw [dpt_mk,if_neg (by decide),if_pos rfl] at hm
   have ec:cnt f=f:=by unfold cnt;rw [pf_cl hn,jn.puts_ris f hr]
   rw [ec] at hm
   obtain ⟨m,rfl⟩:∃ k,m=k+1:=⟨m - 1,by omega⟩
   refine .obj hn hr (fun p hp=>ih p hp m ?_) hz
   have:=(le_fold ((f.map Prod.snd).map dpt) 0).2 _ (List.mem_map.2 ⟨p.2,List.mem_map.2 ⟨p,hp,rfl⟩,rfl⟩)
   omega
def dpL (l:List JT) (f:List (ByteArray × JT)):Nat:=((f.map Prod.snd).map dpt).foldl max ((l.map dpt).foldl max 0)
theorem itoaB_few (n:Int) (h0:-9999≤n) (h1:n≤9999):(itoaB n).size≤21:=by
 have e:(itoaB n).size=(Lib.itoa n).length:=by unfold itoaB;exact List.size_toArray
 rw [e]
 exact Lib.itoa_length_le n (by omega) (by omega)
theorem txt_few (n:Dn) (h:Whole1 n):(textOf n).size≤n.dg.size+30:=by
 have hx:-9999≤n.ex∧n.ex≤9999:=by
  rcases h with rfl|h
  · exact ⟨by decide,by decide⟩
  · exact ⟨h.e0,h.e1⟩
 have:=itoaB_few n.ex hx.1 hx.2
 have e1:(⟨#[45]⟩:ByteArray).size=1:=rfl
 have e2:(⟨#[101]⟩:ByteArray).size=1:=rfl
 unfold textOf
 split
 · have:(⟨#[48]⟩:ByteArray).size=1:=rfl
   omega
 · split
   · split
     · rw [ByteArray.size_append];omega
     · omega
   · split
     · rw [ByteArray.size_append,ByteArray.size_append,ByteArray.size_append];omega
     · rw [ByteArray.size_append,ByteArray.size_append];omega
theorem light_few (n:Nat):∀ v,SizeOf.sizeOf v < n→cntV v≤100000000→Pf (cntV v) (nrm v)∧cst (nrm v)+100≤400*cntV v:=by
 induction n with
 | zero=>intro v h;omega
 | succ n IH =>
   intro v hn hc
   cases v with
   | mk k t d x l f =>
     have e0:(⟨#[]⟩:ByteArray).size=0:=rfl
     have hlf:∀ v∈l,Pf (cntV v) (nrm v)∧cst (nrm v)+100≤400*cntV v:=fun v hv=>IH v (by have:=sz_l (k:=k) (t:=t) (d:=d) (x:=x) (f:=f) hv;omega) (by have:=cnt_l (k:=k) (t:=t) (d:=d) (x:=x) (f:=f) hv;omega)
     have hff:∀ p∈f,Pf (cntV p.2) (nrm p.2)∧cst (nrm p.2)+100≤400*cntV p.2:=fun p hp=>IH p.2 (by have:=sz_f (k:=k) (t:=t) (d:=d) (x:=x) (l:=l) hp;omega) (by have:=cnt_f (k:=k) (t:=t) (d:=d) (x:=x) (l:=l) hp;omega)
     have hcl:∀ v∈l,cntV v+1≤cntV (.mk k t d x l f):=fun v hv=>cnt_l hv
     have hcf:∀ p∈f,cntV p.2+p.1.size+1≤cntV (.mk k t d x l f):=fun p hp=>cnt_f hp
     have hmk:=cntV_mk k t d x l f
     generalize cntV (.mk k t d x l f)=C at *
     rw [nrm_mk]
     by_cases e1:k=1
     · rw [if_pos e1]
       refine ⟨.truth C t,?_⟩
       show cst (leaf 1 t zed ⟨#[]⟩)+100≤_
       rw [cst_leaf,txt_zed]
       omega
     rw [if_neg e1]
     by_cases e2:k=2
     · rw [if_pos e2]
       obtain ⟨w1,w2⟩:=norm_ok d
       refine ⟨.num C w1 (by omega),?_⟩
       show cst (leaf 2 false (norm d) ⟨#[]⟩)+100≤_
       have:=txt_few _ w1
       rw [cst_leaf,wh.whole_id w1]
       omega
     rw [if_neg e2]
     by_cases e3:k=3
     · rw [if_pos e3]
       obtain ⟨w1,w2⟩:=clean_ltc x
       refine ⟨.text C w1 (by omega),?_⟩
       show cst (leaf 3 false zed (pt.clean x))+100≤_
       rw [cst_leaf,txt_zed]
       omega
     rw [if_neg e3]
     by_cases e4:k=4
     · rw [if_pos e4]
       refine ⟨?_,?_⟩
       · obtain ⟨C,rfl⟩:∃ q,C=q+1:=⟨C - 1,by omega⟩
         refine .list (fun v hv=>?_) (by rw [List.length_map];omega)
         obtain ⟨u,hu,rfl⟩:=List.mem_map.1 hv
         exact pf_mono (hlf u hu).1 C (by have:=hcl u hu;omega)
       · rw [cst_mk,txt_zed]
         simp only [List.map_nil,List.sum_nil,List.length_nil,List.length_map,List.map_map]
         have h1:(l.map (cst ∘ nrm)).sum≤(l.map fun v=>400*cntV v).sum:=sum_le fun v hv=>by have:=(hlf v hv).2;simp only [Function.comp_def];omega
         rw [sum_mul] at h1
         omega
     rw [if_neg e4]
     by_cases e5:k=5
     · rw [if_pos e5]
       obtain ⟨p1,p2⟩:=ss.puts_fst (f.map fun p=>(pt.clean p.1,nrm p.2))
       have hmem:∀ p∈jn.puts (f.map fun p=>(pt.clean p.1,nrm p.2)),∃ q∈f,p=(pt.clean q.1,nrm q.2):=fun p hp=>by
        obtain ⟨q,hq,e⟩:=List.mem_map.1 (mem_puts _ p hp)
        exact ⟨q,hq,e.symm⟩
       obtain ⟨s1,s2⟩:=puts_sum (fun p:ByteArray × JT=>cst p.2+6*p.1.size+30) (f.map fun p=>(pt.clean p.1,nrm p.2))
       rw [List.length_map] at s2
       refine ⟨?_,?_⟩
       · obtain ⟨C,rfl⟩:∃ q,C=q+1:=⟨C - 1,by omega⟩
         refine .obj (fun p hp=>?_) p2 (fun p hp=>?_) (by omega)
         · obtain ⟨q,hq,rfl⟩:=hmem p hp
           obtain ⟨w1,w2⟩:=clean_ltc q.1
           exact ⟨w1,by have:=hcf q hq;simp only;omega⟩
         · obtain ⟨q,hq,rfl⟩:=hmem p hp
           exact pf_mono (hff q hq).1 C (by have:=hcf q hq;omega)
       · rw [cst_mk,txt_zed]
         simp only [List.map_nil,List.sum_nil,List.length_nil]
         rw [List.map_map] at s1
         have h1:(f.map ((fun p:ByteArray × JT=>cst p.2+6*p.1.size+30) ∘ fun p=>(pt.clean p.1,nrm p.2))).sum≤(f.map fun p=>400*(p.1.size+cntV p.2)).sum:=sum_le fun p hp=>by
          have h3:=(hff p hp).2
          have h4:=(clean_ltc p.1).2
          simp only [Function.comp_def]
          omega
         rw [sum_mul] at h1
         omega
     rw [if_neg e5]
     refine ⟨.null C,?_⟩
     show cst (leaf 0 false zed ⟨#[]⟩)+100≤_
     rw [cst_leaf,txt_zed]
     omega
end Go.Proofs.YthakglomacijgaaGreatDoor.rd
