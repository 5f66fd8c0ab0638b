/- Texts in one: Fo2 Zm -/
import Derived.Test.YthakglomacijgaaGreatDoorZtPG
import Derived.Test.YthakglomacijgaaGreatDoorSfPG
import Derived.Test.YthakglomacijgaaGreatDoorZkPG
import Derived.Test.YthakglomacijgaaGreatDoorNuPG
import Derived.Test.YthakglomacijgaaGreatDoorBnPG
namespace Go.Proofs.YthakglomacijgaaGreatDoor.rd.ss
open Go.RowKit Go.Shelf Go.Lib Go.Sort
variable {α:Type}
def Fst (F:List (ByteArray × α)) (p:ByteArray × α):Prop:=∃ i,F[i]?=some p∧∀ (j:Nat) (q:ByteArray × α),j < i→F[j]?=some q→q.1≠p.1
theorem fst_name {F:List (ByteArray × α)}:∀ {i:Nat}{p:ByteArray × α},F[i]?=some p→∃ q,Fst F q∧q.1=p.1:=by
 intro i
 induction i using Nat.strongRecOn with
 | ind i ih =>
   intro p h
   by_cases hc:∃ j q,j < i∧F[j]?=some q∧q.1=p.1
   · obtain ⟨j,q,h1,h2,h3⟩:=hc
     obtain ⟨r,hr,e⟩:=ih j h1 h2
     exact ⟨r,hr,e.trans h3⟩
   · exact ⟨p,⟨i,h,fun j q h1 h2 h3=>hc ⟨j,q,h1,h2,h3⟩⟩,rfl⟩
theorem fst_uniq {F:List (ByteArray × α)}{p q:ByteArray × α} (hp:Fst F p) (hq:Fst F q) (e:p.1=q.1):p=q:=by
 obtain ⟨i,h1,h2⟩:=hp
 obtain ⟨j,h3,h4⟩:=hq
 rcases Nat.lt_trichotomy i j with h|h|h
 · exact absurd e (h4 i p h h1)
 · subst h
   rw [h1] at h3
   exact Option.some.inj h3
 · exact absurd e.symm (h2 j q h h3)
theorem fst_snoc_old {F:List (ByteArray × α)}{x p:ByteArray × α} (hx:∃ q,Fst F q∧q.1=x.1):Fst (F++[x]) p↔Fst F p:=by
 constructor
 · rintro ⟨i,h1,h2⟩
   by_cases hi:i < F.length
   · refine ⟨i,by rwa [List.getElem?_append_left hi] at h1,fun j q hj hq=>h2 j q hj ?_⟩
     rw [List.getElem?_append_left (by omega)]
     exact hq
   · exfalso
     have hi2:i=F.length:=by
      obtain ⟨hlt,_⟩:=List.getElem?_eq_some_iff.1 h1
      simp at hlt;omega
     subst hi2
     rw [List.getElem?_append_right (Nat.le_refl _),Nat.sub_self] at h1
     simp at h1
     subst h1
     obtain ⟨q,⟨j,hj,_⟩,e⟩:=hx
     obtain ⟨hlt,_⟩:=List.getElem?_eq_some_iff.1 hj
     exact h2 j q hlt (by rw [List.getElem?_append_left hlt];exact hj) e
 · rintro ⟨i,h1,h2⟩
   obtain ⟨hlt,_⟩:=List.getElem?_eq_some_iff.1 h1
   refine ⟨i,by rw [List.getElem?_append_left hlt];exact h1,fun j q hj hq=>h2 j q hj ?_⟩
   rwa [List.getElem?_append_left (by omega)] at hq
theorem fst_snoc_new {F:List (ByteArray × α)}{x p:ByteArray × α} (hx:∀ (i:Nat) (q:ByteArray × α),F[i]?=some q→q.1≠x.1):Fst (F++[x]) p↔p=x∨Fst F p:=by
 constructor
 · rintro ⟨i,h1,h2⟩
   by_cases hi:i < F.length
   · right
     refine ⟨i,by rwa [List.getElem?_append_left hi] at h1,fun j q hj hq=>h2 j q hj ?_⟩
     rw [List.getElem?_append_left (by omega)]
     exact hq
   · left
     have hi2:i=F.length:=by
      obtain ⟨hlt,_⟩:=List.getElem?_eq_some_iff.1 h1
      simp at hlt;omega
     subst hi2
     rw [List.getElem?_append_right (Nat.le_refl _),Nat.sub_self] at h1
     simp at h1
     exact h1.symm
 · rintro (rfl|⟨i,h1,h2⟩)
   · refine ⟨F.length,by rw [List.getElem?_append_right (Nat.le_refl _),Nat.sub_self];rfl,fun j q hj hq=>?_⟩
     rw [List.getElem?_append_left hj] at hq
     exact hx j q hq
   · obtain ⟨hlt,_⟩:=List.getElem?_eq_some_iff.1 h1
     refine ⟨i,by rw [List.getElem?_append_left hlt];exact h1,fun j q hj hq=>h2 j q hj ?_⟩
     rwa [List.getElem?_append_left (by omega)] at hq
theorem puts_fst (F:List (ByteArray × α)):(∀ p,p∈jn.puts F↔Fst F p)∧jn.Ris (jn.puts F):=by
 have key:∀ (R:List (ByteArray × α)) (F:List (ByteArray × α)),F=R.reverse→(∀ p,p∈jn.puts F↔Fst F p)∧jn.Ris (jn.puts F):=by
  intro R
  induction R with
  | nil =>
    intro F e
    subst e
    refine ⟨fun p=>?_,List.Pairwise.nil⟩
    constructor
    · intro h;simp [jn.puts] at h
    · rintro ⟨i,h,_⟩;simp at h
  | cons x R ih =>
    intro F e
    obtain ⟨i1,i2⟩:=ih R.reverse rfl
    rw [List.reverse_cons] at e
    subst e
    generalize R.reverse=G at *
    have es:jn.puts (G++[x])=jn.putP (jn.puts G) x:=by unfold jn.puts;rw [List.foldl_append];rfl
    rw [es]
    unfold jn.putP
    by_cases hc:(jn.puts G).any (fun p=>decide (p.1=x.1))=true
    · rw [if_pos hc]
      obtain ⟨q,hq,e⟩:=List.any_eq_true.1 hc
      have hx:∃ q,Fst G q∧q.1=x.1:=⟨q,(i1 q).1 hq,of_decide_eq_true e⟩
      exact ⟨fun p=>by rw [fst_snoc_old hx];exact i1 p,i2⟩
    · rw [if_neg hc]
      have hn:∀ q∈jn.puts G,q.1≠x.1:=fun q hq e=>hc (List.any_eq_true.2 ⟨q,hq,decide_eq_true e⟩)
      have hx:∀ (i:Nat) (q:ByteArray × α),G[i]?=some q→q.1≠x.1:=fun i q hq e=>by
       obtain ⟨r,hr,er⟩:=fst_name hq
       exact hn r ((i1 r).2 hr) (er.trans e)
      have hp:=jn.ins_perm (jn.puts G) x
      refine ⟨fun p=>?_,?_⟩
      · rw [fst_snoc_new hx,hp.mem_iff,List.mem_cons,i1 p]
      · have hs:=jn.ins_srt (jn.puts G) x (i2.imp fun {a b} h=>by omega)
        have hnd:((jn.ins (jn.puts G) x).map fun p=>p.1).Nodup:=by
         rw [(hp.map _).nodup_iff,List.map_cons,List.nodup_cons]
         refine ⟨fun hm=>?_,?_⟩
         · obtain ⟨q,hq,e⟩:=List.mem_map.1 hm
           exact hn q hq e
         · rw [List.Nodup,List.pairwise_map]
           exact i2.imp fun {a b} h e=>by rw [e,cb.self] at h;omega
        rw [List.Nodup,List.pairwise_map] at hnd
        unfold jn.Srt at hs
        unfold jn.Ris
        refine (hs.and hnd).imp fun {a b} q=>?_
        have h2:¬ Lib.compareBytes a.1.data.toList b.1.data.toList=0:=fun e=>q.2 (by
         have:=cb.eq_of _ _ e
         cases ha:a.1;cases hb:b.1
         rw [ha,hb] at this
         simp at this
         rw [this])
        have:=q.1
        omega
 exact key F.reverse F (by simp)
theorem ris_uniq {A B:List (ByteArray × α)} (ha:jn.Ris A) (hb:jn.Ris B) (h:∀ p,p∈A↔p∈B):A=B:=by
 have nd:∀ {A:List (ByteArray × α)},jn.Ris A→A.Nodup:=fun h=>h.imp fun {a b} q e=>by rw [e,cb.self] at q;omega
 have hp:A.Perm B:=(List.perm_ext_iff_of_nodup (nd ha) (nd hb)).2 h
 refine rd.sorted_eq (r:=fun (a b:ByteArray × α)=>Lib.compareBytes a.1.data.toList b.1.data.toList < 0) A B hp ha hb fun a _ b _ q1 q2=>?_
 have:=cb.sym a.1.data.toList b.1.data.toList
 omega
variable (D:List Fd)
def smN (x y:Nat):Bool:=decide ((fdI D x).nm=(fdI D y).nm)
theorem cf_nm {x y:Nat}:cfI D x y=0↔(fdI D x).nm=(fdI D y).nm:=by
 unfold cfI cmpF
 constructor
 · intro h
   have:=cb.eq_of _ _ h
   cases ha:(fdI D x).nm;cases hb:(fdI D y).nm
   rw [ha,hb] at this
   simp at this
   rw [this]
 · intro h;rw [h];exact cb.self _
theorem stb_perm (n:Nat):(stb D n).Perm (List.range n):=List.mergeSort_perm _ _
theorem stb_pw (n:Nat):(stb D n).Pairwise (lr D):=by
 have h:=List.pairwise_mergeSort (le:=fun x y=>!lxI D y x) (fun a b c h1 h2=>by
  simp only [Bool.not_eq_true'] at h1 h2 ⊢
  rw [lx_not] at h1 h2 ⊢
  have s1:=cf_sym D a b
  have s2:=cf_sym D b c
  have s3:=cf_sym D a c
  have t1:=cf_trans D a b c (by omega) (by omega)
  refine ⟨by omega,fun e=>?_⟩
  have t2:=cf_trans D c a b (by omega) (by omega)
  have t3:=cf_trans D b c a (by omega) (by omega)
  have s4:=cf_sym D c b
  have s5:=cf_sym D b a
  have:=h1.2 (by omega)
  have:=h2.2 (by omega)
  omega) (fun a b=>by
  cases h:lxI D a b
  · simp
  · simp only [Bool.or_eq_true,Bool.not_eq_true']
    left
    rw [lx_not]
    have:=(lx_iff D a b).1 h
    have s:=cf_sym D a b
    exact ⟨by omega,fun e=>by omega⟩) (List.range n)
 have hn:(stb D n).Nodup:=(stb_perm D n).nodup_iff.2 List.nodup_range
 unfold stb at hn ⊢
 refine (h.and hn).imp fun {a b} q=>?_
 show lxI D a b=true
 have h1:lxI D b a=false:=by simpa using q.1
 cases h2:lxI D a b
 · exact absurd (lx_total D a b h2 h1) q.2
 · rfl
theorem cu_mem {sm:Nat→Nat→Bool}{L:List Nat}{x:Nat}:∀ m,x∈cu sm L m↔∃ j,j < m∧x=at' L j∧(j=0∨sm (at' L j) (at' L (j - 1))=false)
 | 0=>by simp [cu]
 | m+1=>by
   rw [cu,List.mem_append,cu_mem m]
   constructor
   · rintro (⟨j,h1,h2,h3⟩|h)
     · exact ⟨j,by omega,h2,h3⟩
     · split at h
       · rename_i hc
         simp at h
         exact ⟨m,by omega,h,hc⟩
       · simp at h
   · rintro ⟨j,h1,h2,h3⟩
     by_cases e:j=m
     · subst e
       right
       rw [if_pos h3]
       simp [h2]
     · exact .inl ⟨j,by omega,h2,h3⟩
theorem cu_pw {sm:Nat→Nat→Bool}{L:List Nat}{r:Nat→Nat→Prop} (h:L.Pairwise r):∀ m,m≤L.length→(cu sm L m).Pairwise r
 | 0,_=>List.Pairwise.nil
 | m+1,hm=>by
   rw [cu,List.pairwise_append]
   refine ⟨cu_pw h m (by omega),by split <;> simp,fun a ha b hb=>?_⟩
   split at hb
   · simp at hb
     subst hb
     obtain ⟨j,h1,rfl,_⟩:=(cu_mem m).1 ha
     rw [at_eq (by omega),at_eq (by omega)]
     exact List.pairwise_iff_getElem.1 h j m (by omega) (by omega) h1
   · simp at hb
theorem keeps_iff {n x:Nat}:x∈cu (smN D) (stb D n) n↔x < n∧∀ y,y < x→(fdI D y).nm≠(fdI D x).nm:=by
 have hl:(stb D n).length=n:=by rw [(stb_perm D n).length_eq];simp
 have hpw:=stb_pw D n
 rw [cu_mem]
 constructor
 · rintro ⟨j,hj,rfl,hk⟩
   have hm:at' (stb D n) j < n:=by
    have:=(stb_perm D n).mem_iff.1 (at_mem (L:=stb D n) (i:=j) (by omega))
    simpa using this
   refine ⟨hm,fun y hy e=>?_⟩
   have hym:y∈stb D n:=(stb_perm D n).mem_iff.2 (by simp;omega)
   obtain ⟨i,hi,rfl⟩:=mem_at hym
   have hij:i < j:=by
    rcases Nat.lt_trichotomy i j with q|q|q
    · exact q
    · subst q;omega
    · exfalso
      have h1:=pw_at D hpw q hi
      have h2:=(lx_iff D _ _).1 h1
      have h3:=(cf_nm D).2 e.symm
      omega
   rcases hk with hk|hk
   · omega
   · have e1:(fdI D (at' (stb D n) j)).nm=(fdI D (at' (stb D n) (j - 1))).nm:=by
      rw [← cf_nm]
      have h1:=(lx_iff D _ _).1 (pw_at D hpw (show j - 1 < j by omega) (by omega))
      have h3:=(cf_nm D).2 e
      have s1:=cf_sym D (at' (stb D n) (j - 1)) (at' (stb D n) j)
      have s2:=cf_sym D (at' (stb D n) i) (at' (stb D n) j)
      by_cases ei:i=j - 1
      · subst ei;omega
      · have h2:=(lx_iff D _ _).1 (pw_at D hpw (show i < j - 1 by omega) (by omega))
        have h4:=cf_trans D (at' (stb D n) j) (at' (stb D n) i) (at' (stb D n) (j - 1)) (by omega) (by omega)
        omega
     unfold smN at hk
     rw [decide_eq_true e1] at hk
     cases hk
 · rintro ⟨hx,hy⟩
   have hxm:x∈stb D n:=(stb_perm D n).mem_iff.2 (by simp;omega)
   obtain ⟨j,hj,rfl⟩:=mem_at hxm
   refine ⟨j,by omega,rfl,?_⟩
   by_cases h0:j=0
   · exact .inl h0
   · right
     unfold smN
     refine decide_eq_false fun e=>?_
     have h1:=(lx_iff D _ _).1 (pw_at D hpw (show j - 1 < j by omega) hj)
     have h2:=(cf_nm D).2 e
     have s:=cf_sym D (at' (stb D n) (j - 1)) (at' (stb D n) j)
     have h3:at' (stb D n) (j - 1) < at' (stb D n) j:=by omega
     exact hy _ h3 e.symm
theorem kept_puts {F:List (ByteArray × α)} (hF:F.length=D.length) (hn:∀ (i:Nat) (p:ByteArray × α),F[i]?=some p→p.1=(fdI D i).nm) (G:List (ByteArray × α)) (hG:G.map some=(cu (smN D) (stb D D.length) D.length).map fun i=>F[i]?):G=jn.puts F:=by
 obtain ⟨h1,h2⟩:=puts_fst F
 have hl:(stb D D.length).length=D.length:=by rw [(stb_perm D D.length).length_eq];simp
 have hgl:G.length=(cu (smN D) (stb D D.length) D.length).length:=by
  have:=congrArg List.length hG
  simpa using this
 have hgi:∀ j (hj:j < G.length),F[(cu (smN D) (stb D D.length) D.length)[j]'(by omega)]?=some G[j]:=fun j hj=>by
  have e1:(G.map some)[j]?=some (some G[j]):=by rw [List.getElem?_map,List.getElem?_eq_getElem hj];rfl
  rw [hG,List.getElem?_map,List.getElem?_eq_getElem (by omega)] at e1
  exact Option.some.inj e1
 refine ris_uniq ?_ h2 fun p=>?_
 · unfold jn.Ris
   rw [List.pairwise_iff_getElem]
   intro i j hi hj hij
   have e1:=hgi i hi
   have e2:=hgi j hj
   have n1:=hn _ _ e1
   have n2:=hn _ _ e2
   have hpw:=List.pairwise_iff_getElem.1 (cu_pw (sm:=smN D) (stb_pw D D.length) D.length (by omega)) i j (by omega) (by omega) hij
   have hk:=(keeps_iff D).1 (List.getElem_mem (show j < (cu (smN D) (stb D D.length) D.length).length by omega))
   rw [n1,n2]
   have q:=(lx_iff D _ _).1 hpw
   rcases q with q|⟨q1,q2⟩
   · unfold cfI cmpF at q;exact q
   · exact absurd ((cf_nm D).1 q1) (hk.2 _ q2)
 · rw [h1 p]
   constructor
   · intro hp
     obtain ⟨j,hj,rfl⟩:=List.getElem_of_mem hp
     have e1:=hgi j hj
     have hk:=(keeps_iff D).1 (List.getElem_mem (show j < (cu (smN D) (stb D D.length) D.length).length by omega))
     refine ⟨_,e1,fun i q hi hq e=>?_⟩
     rw [hn _ _ hq,hn _ _ e1] at e
     exact hk.2 i hi e
   · rintro ⟨i,hi,hf⟩
     obtain ⟨hlt,_⟩:=List.getElem?_eq_some_iff.1 hi
     have hm:i∈cu (smN D) (stb D D.length) D.length:=(keeps_iff D).2 ⟨by omega,fun y hy e=>by
      have hyl:y < F.length:=by omega
      have e2:F[y]?=some F[y]:=List.getElem?_eq_getElem hyl
      refine hf y _ hy e2 ?_
      rw [hn _ _ e2,hn _ _ hi]
      exact e⟩
     obtain ⟨j,hj,ej⟩:=List.getElem_of_mem hm
     have:=hgi j (by omega)
     rw [ej,hi] at this
     rw [Option.some.inj this]
     exact List.getElem_mem _
end Go.Proofs.YthakglomacijgaaGreatDoor.rd.ss
