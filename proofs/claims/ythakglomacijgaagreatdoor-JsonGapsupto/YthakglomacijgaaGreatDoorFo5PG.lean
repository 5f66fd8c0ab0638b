/- Texts in one: Fo5 Pg3 -/
import Derived.Test.YthakglomacijgaaGreatDoorFo4PG
import Derived.Test.YthakglomacijgaaGreatDoorFo3PG
import Derived.Test.YthakglomacijgaaGreatDoorWkPG
import Derived.Test.YthakglomacijgaaGreatDoorSqPG
namespace Go.Proofs.YthakglomacijgaaGreatDoor.rd
open Go.RowKit
theorem fd_of2:∀ (f:List (ByteArray × JT)) (gss:List (List Value)),gss.length=f.length→(∀ c∈gss,V8 c) →
 ∃ D:List Fd,D.length=f.length∧D.flatMap encF=fcs f gss∧∀ (i:Nat) (p:ByteArray × JT) (c:List Value),f[i]?=some p→gss[i]?=some c→∃ x,D[i]?=some x∧x.nm=p.1∧encF (ss.sd x)=.string (said p.1)::c
 | [],_,_,_=>⟨[],rfl,rfl,fun i p c h=>by simp at h⟩
 | _::_,[],h,_=>by simp at h
 | p::f,c::gss,h,hv=>by
   obtain ⟨D,e1,e2,e3⟩:=fd_of2 f gss (by simpa using h) (fun c hc=>hv c (by simp [hc]))
   obtain ⟨kk,tt,ng,dg,ex,xx,q1,n1,m1,q2,n2,m2,rfl⟩:=hv c (by simp)
   refine ⟨⟨p.1,kk,tt,ng,dg,ex,xx,q1,n1,m1,q2,n2,m2⟩::D,by simp [e1],?_,fun i p' c' h1 h2=>?_⟩
   · rw [List.flatMap_cons,e2,fcs_cons];rfl
   · cases i with
     | zero =>
       simp only [List.getElem?_cons_zero,Option.some.injEq] at h1 h2
       subst h1 h2
       exact ⟨_,rfl,rfl,rfl⟩
     | succ i =>
       simp only [List.getElem?_cons_succ] at h1 h2 ⊢
       exact e3 i p' c' h1 h2
theorem fcs_each {β:Type} (a:β→ByteArray × JT) (b:β→List Value):∀ K:List β,fcs (K.map a) (K.map b)=K.flatMap fun i=>.string (a i).1::b i
 | []=>rfl
 | i::K=>by rw [List.map_cons,List.map_cons,fcs_cons,fcs_each a b K,List.flatMap_cons]
theorem fok_all (f:List (ByteArray × JT)) (hl:f.length≤1000000000) (hn:∀ p∈f,p.1.size≤35184372088832):FOk f:=by
 intro k t d x l cs w u h hb
 cases h with
 | @mk k t d x l f lv fv css gss hlv hf h1 h3 hle hfe =>
   have hv8:∀ c∈gss,V8 c:=by
    intro c hcm
    obtain ⟨j,hj⟩:=List.getElem?_of_mem hcm
    obtain ⟨hlt,_⟩:=List.getElem?_eq_some_iff.1 hj
    exact (hfe j f[j].1 f[j].2 c (List.getElem?_eq_getElem (by omega)) hj).v8
   obtain ⟨D,e1,e2,e3⟩:=fd_of2 f gss h3 hv8
   have hsv:=hf.keep hb
   rw [← e1,← e2] at hsv
   have at_:∀ i,i < f.length→∃ x,D[i]?=some x∧x.nm=(f[i]?.getD (⟨#[]⟩,null)).1∧encF (ss.sd x)=.string (pt.clean (f[i]?.getD (⟨#[]⟩,null)).1)::gss[i]?.getD []:=fun i hi=>by
    obtain ⟨x,q1,q2,q3⟩:=e3 i f[i] gss[i] (List.getElem?_eq_getElem hi) (List.getElem?_eq_getElem (by omega))
    rw [List.getElem?_eq_getElem hi,List.getElem?_eq_getElem (show i < gss.length by omega)]
    exact ⟨x,q1,q2,by rw [q3,pt.said_clean];rfl⟩
   have hz:∀ y∈D,y.nm.size≤35184372088832:=by
    intro y hy
    obtain ⟨i,hi⟩:=List.getElem?_of_mem hy
    obtain ⟨hlt,_⟩:=List.getElem?_eq_some_iff.1 hi
    obtain ⟨x,q1,q2,_⟩:=at_ i (by omega)
    rw [hi] at q1
    cases q1
    rw [q2,List.getElem?_eq_getElem (show i < f.length by omega)]
    exact hn _ (List.getElem_mem _)
   have fdI_at:∀ i,i < f.length→encF (ss.fdI (D.map ss.sd) i)=.string (pt.clean (f[i]?.getD (⟨#[]⟩,null)).1)::gss[i]?.getD []∧(ss.fdI (D.map ss.sd) i).nm=pt.clean (f[i]?.getD (⟨#[]⟩,null)).1:=fun i hi=>by
    obtain ⟨x,q1,q2,q3⟩:=at_ i hi
    have e:ss.fdI (D.map ss.sd) i=ss.sd x:=by
     unfold ss.fdI
     rw [List.getD_eq_getElem?_getD,List.getElem?_map,q1]
     rfl
    rw [e]
    refine ⟨q3,?_⟩
    have:=(List.cons.inj q3).1
    simpa using this
   have hDl:(D.map ss.sd).length=f.length:=by rw [List.length_map,e1]
   have hkm:∀ i∈ss.kp (D.map ss.sd),i < f.length:=fun i hi=>by
    have:=((ss.keeps_iff (D.map ss.sd)).1 hi).1
    omega
   have hG:(ss.kp (D.map ss.sd)).map (fun i=>(pt.clean (f[i]?.getD (⟨#[]⟩,null)).1,(f[i]?.getD (⟨#[]⟩,null)).2))=cnt f:=by
    refine ss.kept_puts (D.map ss.sd) (F:=f.map fun p=>(pt.clean p.1,p.2)) (by rw [List.length_map,hDl]) (fun i p hp=>?_) _ ?_
    · rw [List.getElem?_map] at hp
      cases hq:f[i]? with
      | none=>rw [hq] at hp;simp at hp
      | some q =>
        obtain ⟨hlt,_⟩:=List.getElem?_eq_some_iff.1 hq
        have:=(fdI_at i hlt).2
        rw [hq] at hp this
        simp only [Option.map_some,Option.some.injEq] at hp
        subst hp
        exact this.symm
    · rw [List.map_map]
      refine List.map_congr_left fun i hi=>?_
      have hlt:=hkm i hi
      show some (pt.clean (f[i]?.getD (⟨#[]⟩,null)).1,(f[i]?.getD (⟨#[]⟩,null)).2)=(f.map fun p=>(pt.clean p.1,p.2))[i]?
      rw [List.getElem?_map,List.getElem?_eq_getElem hlt]
      rfl
   refine (ss.fieldsOf_all (.int .i64 k) (.bool t) (.bool d.neg) (.string d.dg) (.int .i64 d.ex) (.string x) lv fv u hsv (by omega) hz).mono ?_
   rintro e w' ⟨sv,rfl,ho,hbl⟩
   rw [← hG]
   refine ⟨sv,(ss.kp (D.map ss.sd)).map fun i=>gss[i]?.getD [],rfl,?_,by simp,?_,hbl⟩
   · rw [List.length_map,fcs_each]
     have e5:((ss.kp (D.map ss.sd)).map (ss.fdI (D.map ss.sd))).flatMap encF=(ss.kp (D.map ss.sd)).flatMap fun i=>.string (pt.clean (f[i]?.getD (⟨#[]⟩,null)).1)::gss[i]?.getD []:=by
      rw [List.flatMap_map]
      rw [List.flatMap_def,List.flatMap_def,List.map_congr_left fun i hi=>(fdI_at i (hkm i hi)).1]
     rw [← e5]
     exact owns_base ho (Nat.le_succ _)
   · intro j p c hp hc
     rw [List.getElem?_map] at hp hc
     cases hq:(ss.kp (D.map ss.sd))[j]? with
     | none=>rw [hq] at hp;simp at hp
     | some i =>
       rw [hq] at hp hc
       simp only [Option.map_some,Option.some.injEq] at hp hc
       have hlt:=hkm i (List.mem_of_getElem? hq)
       subst hp hc
       rw [List.getElem?_eq_getElem hlt,List.getElem?_eq_getElem (show i < gss.length by omega)]
       exact hfe i f[i].1 f[i].2 gss[i] (List.getElem?_eq_getElem hlt) (List.getElem?_eq_getElem (by omega))
theorem lett_ln (s:ByteArray):∀ (f k:Nat) (acc l:List UInt8) (j:Nat),lettF s f k acc=.inl (l,j)→l.length+4*k+4≤acc.length+4*j
 | 0,k,acc,l,j,h=>by simp [lettF] at h
 | f+1,k,acc,l,j,h=>by
   unfold lettF at h
   split at h
   · cases h;omega
   · split at h
     · cases h
     · rename_i hz
       have h1:=lett_ln s f _ _ l j h
       have h2:=letAt_bd (s.extract k s.size)
       have h3:=enc_le (letAt (s.extract k s.size)).1
       rw [List.length_append] at h1
       omega
theorem letts_ln {s:ByteArray}{k:Nat}{l:List UInt8}{j:Nat} (h:letts s k=.inl (l,j)):l.length+4*k+8≤4*j:=by
 have:=lett_ln s _ _ _ _ _ h
 simp only [List.length_nil] at this
 omega
theorem txt_len (n:Dn) (h:Whole1 n):(textOf n).size≤n.dg.size+20010:=by
 have hx:-9999≤n.ex∧n.ex≤9999:=by
  rcases h with rfl|h
  · exact ⟨by decide,by decide⟩
  · exact ⟨h.e0,h.e1⟩
 have:=itoaB_len n.ex hx.1 hx.2
 have e1:(⟨#[45]⟩:ByteArray).size=1:=rfl
 have e2:(⟨#[101]⟩:ByteArray).size=1:=rfl
 unfold textOf
 split
 · have:(⟨#[48]⟩:ByteArray).size=1:=rfl
   omega
 · split
   · split
     · rw [ByteArray.size_append];omega
     · omega
   · split
     · rw [ByteArray.size_append,ByteArray.size_append,ByteArray.size_append];omega
     · rw [ByteArray.size_append,ByteArray.size_append];omega
theorem cst_leaf (k:Int) (t:Bool) (d:Dn) (x:ByteArray):cst (leaf k t d x)=30+(textOf (norm d)).size+6*x.size:=by
 unfold leaf
 rw [cst_mk]
 simp
theorem txt_zed:(textOf (norm zed)).size=1:=by rw [wh.norm_zed];rfl
def Good (s:ByteArray) (n:Nat) (vf:Nat→(JT × Nat) ⊕ (Nat × Nat)):Prop:=∀ k v k',k≤s.size→vf k=.inl (v,k')→Pf n v∧30000*k+cst v+100≤30000*k'
theorem rowR_inv {σ:Type}{step:σ→Nat→(σ × Nat) ⊕ (Nat × Nat)}{endc:Int}{s:ByteArray}{o:Int}{st st':σ}{k k':Nat} (I:σ→Nat→Prop) (hm:∀ st k k',I st k→k≤k'→I st k')
 (hs:∀ st k2 st' k',I st k2→k2≤s.size→step st k2=.inl (st',k')→I st' k'∧k2 < k'∧k'≤s.size) (h0:I st (k+1)) (hk:k < s.size) (h:rowR step endc s o st k=.inl (st',k')):∃ k1,k'=k1+1∧I st' k1∧k+1≤k1∧k1≤s.size:=by
 have hg:=gap_ge s (k+1)
 have hg2:=gap_le s (k+1) (by omega)
 unfold rowR at h
 split at h
 · cases h
 · split at h
   · cases h
     exact ⟨_,rfl,hm _ _ _ h0 hg,hg,hg2⟩
   · unfold rowE at h
     split at h
     · cases h
     · rename_i st1 k1 hr
       cases h
       obtain ⟨h1,h2,h3⟩:=rowF_bd step endc s I hm hs _ _ _ _ _ (hm _ _ _ h0 hg) hg2 hr
       exact ⟨k1,rfl,h1,by omega,h3⟩
theorem list_good {s:ByteArray}{n:Nat}{o:Int}{vf:Nat→(JT × Nat) ⊕ (Nat × Nat)} (hs:s.size≤1048576) (hu:Ups s vf) (hv:Good s n vf):∀ k v k',k < s.size→listR vf s o k=.inl (v,k')→Pf (n+1) v∧30000*k+cst v+100≤30000*k':=by
 intro k v k' hk h
 unfold listR at h
 split at h
 · rename_i l k1 hr
   cases h
   obtain ⟨k2,rfl,⟨i1,i2,i3⟩,i4,i5⟩:=rowR_inv (fun l k2=>(∀ v∈l,Pf n v)∧30000*(k+1)+((l.map cst).sum+l.length)≤30000*k2∧l.length≤k2) (fun _ _ _ q1 q2=>⟨q1.1,by omega,by omega⟩)
    (fun l k2 l' k' q1 q2 q3=>by
     unfold lstep at q3
     split at q3
     · rename_i v k3 hv3
       cases q3
       obtain ⟨g1,g2⟩:=hv _ _ _ q2 hv3
       have u1:=hu.1 _ _ _ hv3
       have u2:=hu.2 _ _ _ q2 hv3
       refine ⟨⟨fun y hy=>?_,?_,?_⟩,u1,u2⟩
       · rcases List.mem_append.1 hy with q|q
         · exact q1.1 y q
         · rw [List.mem_singleton] at q;subst q;exact g1
       · rw [List.map_append,List.sum_append_nat,List.length_append]
         simp only [List.map_cons,List.map_nil,List.sum_cons,List.sum_nil,List.length_cons,List.length_nil]
         omega
       · rw [List.length_append]
         simp only [List.length_cons,List.length_nil]
         omega
     · cases q3) ⟨by simp,by simp,by simp⟩ hk hr
   refine ⟨.list i1 (by omega),?_⟩
   rw [cst_mk,txt_zed]
   simp only [List.map_nil,List.sum_nil,List.length_nil]
   have:(⟨#[]⟩:ByteArray).size=0:=rfl
   omega
 · cases h
theorem obj_good {s:ByteArray}{n:Nat}{o:Int}{vf:Nat→(JT × Nat) ⊕ (Nat × Nat)} (hs:s.size≤1048576) (hu:Ups s vf) (hv:Good s n vf):∀ k v k',k < s.size→objR vf s o k=.inl (v,k')→Pf (n+1) v∧30000*k+cst v+100≤30000*k':=by
 intro k v k' hk h
 unfold objR at h
 split at h
 · rename_i f k1 hr
   cases h
   obtain ⟨r1,r2⟩:=obj_row hu hk hr
   obtain ⟨k2,rfl,⟨i1,i2⟩,i4,i5⟩:=rowR_inv (fun (f:List (ByteArray × JT)) k2=>(∀ p∈f,Pf n p.2∧Ltc p.1.data.toList∧p.1.size≤1000000000)∧30000*(k+1)+((f.map fun p=>cst p.2+6*p.1.size+30).sum+f.length)≤30000*k2) (fun _ _ _ q1 q2=>⟨q1.1,by omega⟩)
    (fun f k2 f' k' q1 q2 q3=>by
     obtain ⟨u1,_,u3,_⟩:=ostep_up hu q3
     refine ⟨?_,u1,u3 q2⟩
     unfold ostep at q3
     split at q3
     · cases q3
     · rename_i nm k3 hn
       split at q3
       · cases q3
       · rename_i v k4 hv4
         cases q3
         obtain ⟨a1,a2,_⟩:=nmR_up hn
         have hg:=gap_ge s k2
         obtain ⟨l1,l2⟩:Ltc nm∧nm.length+4*k2+8≤4*k3:=by
          unfold nmR at hn
          split at hn
          · split at hn
            · cases hn
            · rename_i l j hl
              split at hn
              · cases hn
              · cases hn
                have:=letts_ln hl
                exact ⟨(letts_lts hl).ltc,by omega⟩
          · cases hn
         have hg3:=gap_ge s k3
         have hk3:=a2 q2
         obtain ⟨g1,g2⟩:Pf n v∧30000*k3+cst v+100≤30000*k':=by
          unfold fvR at hv4
          split at hv4
          · rename_i h58
            have hlt:=nxt_some s (gap s k3) (gap_le s k3 hk3) (by omega)
            obtain ⟨g1,g2⟩:=hv _ _ _ (by omega) hv4
            exact ⟨g1,by omega⟩
          · cases hv4
         have hz:(⟨nm.toArray⟩:ByteArray).size=nm.length:=List.size_toArray
         refine ⟨fun p hp=>?_,?_⟩
         · rcases List.mem_append.1 hp with q|q
           · exact q1.1 p q
           · rw [List.mem_singleton] at q;subst q
             exact ⟨g1,l1,by rw [hz];omega⟩
         · rw [List.map_append,List.sum_append_nat,List.length_append]
           simp only [List.map_cons,List.map_nil,List.sum_cons,List.sum_nil,List.length_cons,List.length_nil,hz]
           omega) ⟨by simp,by simp⟩ hk hr
   have hp:(f.mergeSort leN).Perm f:=List.mergeSort_perm f leN
   have hmem:∀ p∈f.mergeSort leN,p∈f:=fun p q=>hp.mem_iff.1 q
   have hsrt:(f.mergeSort leN).Pairwise (fun a b=>Lib.compareBytes a.1.data.toList b.1.data.toList≤0):=by
    refine (List.pairwise_mergeSort (le:=leN) (fun a b c h1 h2=>?_) (fun a b=>?_) f).imp fun {a b} h=>by simpa [leN] using h
    · simp only [leN,decide_eq_true_eq] at *
      exact cb.trans _ _ _ h1 h2
    · have:=cb.total a.1.data.toList b.1.data.toList
      simpa [leN,Bool.or_eq_true] using this
   have hnd:((f.mergeSort leN).map fun p=>p.1.data.toList).Nodup:=((hp.map _).nodup_iff).2 r1
   have hris:jn.Ris (f.mergeSort leN):=by
    unfold jn.Ris
    rw [List.Nodup,List.pairwise_map] at hnd
    refine (hsrt.and hnd).imp fun {a b} q=>?_
    have h1:=q.1
    have h2:¬ Lib.compareBytes a.1.data.toList b.1.data.toList=0:=fun e=>q.2 (cb.eq_of _ _ e)
    omega
   refine ⟨.obj (fun p q=>(i1 p (hmem p q)).2) hris (fun p q=>(i1 p (hmem p q)).1) (by rw [hp.length_eq];omega),?_⟩
   rw [cst_mk,txt_zed,((hp.map _).sum_nat:((f.mergeSort leN).map fun p=>cst p.2+6*p.1.size+30).sum=_),hp.length_eq]
   simp only [List.map_nil,List.sum_nil,List.length_nil]
   have:(⟨#[]⟩:ByteArray).size=0:=rfl
   omega
 · cases h
theorem val_good {s:ByteArray}{n:Nat}{lf of:Nat→(JT × Nat) ⊕ (Nat × Nat)} (hs:s.size≤1048576) (hl:∀ k v k',k < s.size→lf k=.inl (v,k')→Pf n v∧30000*k+cst v+100≤30000*k') (ho:∀ k v k',k < s.size→of k=.inl (v,k')→Pf n v∧30000*k+cst v+100≤30000*k'):Good s n (valR lf of s):=by
 intro k v k' hk h
 have hg:=gap_ge s k
 have hg2:=gap_le s k hk
 have e0:(⟨#[]⟩:ByteArray).size=0:=rfl
 have wd:∀ (w:ByteArray) (kd:Int) (tr:Bool),0 < w.size→wordR w kd tr s (gap s k)=.inl (v,k')→v=leaf kd tr zed ⟨#[]⟩∧30000*k+cst v+100≤30000*k':=fun w kd tr hw h=>by
  unfold wordR at h
  split at h
  · cases h
    refine ⟨rfl,?_⟩
    rw [cst_leaf,txt_zed]
    omega
  · cases h
 unfold valR at h
 split at h
 · obtain ⟨rfl,q⟩:=wd _ _ _ (by decide) h
   exact ⟨.null n,q⟩
 split at h
 · obtain ⟨rfl,q⟩:=wd _ _ _ (by decide) h
   exact ⟨.truth n true,q⟩
 split at h
 · obtain ⟨rfl,q⟩:=wd _ _ _ (by decide) h
   exact ⟨.truth n false,q⟩
 split at h
 · obtain ⟨u1,u2⟩:=numJ_up h
   have u3:=u2 hg2
   unfold numJ at h
   split at h
   · cases h
     have hw:=wh.rparse_whole (s.extract (gap s k) (numTo s (gap s k)))
     have hz:=wh.rparse_size (s.extract (gap s k) (numTo s (gap s k)))
     have he:(s.extract (gap s k) (numTo s (gap s k))).size≤numTo s (gap s k) - gap s k:=by simp;omega
     have ht:=txt_len _ hw
     unfold numR at *
     refine ⟨.num n hw (by omega),?_⟩
     rw [cst_leaf,wh.whole_id hw]
     omega
   · cases h
 split at h
 · obtain ⟨u1,u2⟩:=textR_up h
   unfold textR at h
   split at h
   · rename_i l j hl
     cases h
     have h1:=letts_ln hl
     have h2:k'≤s.size:=by
      rename_i q34 _
      exact letts_le (nxt_34 s _ hg2 (by assumption)) hl
     have hz:(⟨l.toArray⟩:ByteArray).size=l.length:=List.size_toArray
     refine ⟨.text n (letts_lts hl).ltc (by rw [hz];omega),?_⟩
     rw [cst_leaf,txt_zed,hz]
     omega
   · cases h
 split at h
 · rename_i q
   obtain ⟨a,b⟩:=hl _ _ _ (nxt_some s _ hg2 (by omega)) h
   exact ⟨a,by omega⟩
 split at h
 · rename_i q
   obtain ⟨a,b⟩:=ho _ _ _ (nxt_some s _ hg2 (by omega)) h
   exact ⟨a,by omega⟩
 · cases h
theorem rowR_deep {σ:Type}{step:σ→Nat→(σ × Nat) ⊕ (Nat × Nat)}{endc:Int}{s:ByteArray}{st:σ}{k:Nat}:rowR step endc s 64 st k=.inr (5,k):=by
 unfold rowR
 rw [if_pos rfl]
theorem vfN_good (s:ByteArray) (hs:s.size≤1048576):∀ n,Good s n (vfN s n)
 | 0=>val_good hs (fun k v k' _ h=>by unfold listR at h;rw [rowR_deep] at h;cases h) (fun k v k' _ h=>by unfold objR at h;rw [rowR_deep] at h;cases h)
 | n+1=>val_good hs (list_good hs (vfN_up s n) (vfN_good s hs n)) (obj_good hs (vfN_up s n) (vfN_good s hs n))
theorem parseJ_good {s:ByteArray}{v:JT} (h:parseJ s=.inl v):Pf 64 v∧cst v≤40000000000:=by
 unfold parseJ at h
 split at h
 · cases h
 · rename_i hs
   split at h
   · cases h
   · rename_i v2 k hv
     split at h
     · cases h
       obtain ⟨h1,h2⟩:=vfN_good s (by omega) 64 0 v k (by omega) hv
       have h3:=(vfN_up s 64).2 0 v k (by omega) hv
       exact ⟨h1,by omega⟩
     · cases h
theorem ltc_clean {x:ByteArray} (h:Ltc x.data.toList):pt.clean x=x:=by
 unfold pt.clean
 have h2:x.data.toList.length=x.size:=Array.length_toList
 rw [clF_ltc x h x.size 0 rfl (by omega),Array.toArray_toList]
theorem pf_bd {n:Nat}{v:JT} (h:Pf n v):Bd v:=by
 have ez:zed.dg.size≤1099511627776∧(-9223372036854775808≤zed.ex∧zed.ex≤9223372036854775807):=by decide
 have e0:(⟨#[]⟩:ByteArray).size≤35184372088832:=by decide
 induction h with
 | null n=>exact .mk (by decide) ez.1 ez.2 e0 (by simp) (by simp) (by simp) (by simp) (by simp)
 | truth n b=>exact .mk (by decide) ez.1 ez.2 e0 (by simp) (by simp) (by simp) (by simp) (by simp)
 | @num n d h hz =>
   have hx:-9223372036854775808≤d.ex∧d.ex≤9223372036854775807:=by
    rcases h with rfl|h
    · exact ez.2
    · have:=h.e0;have:=h.e1;omega
   exact .mk (by decide) (by omega) hx e0 (by simp) (by simp) (by simp) (by simp) (by simp)
 | text n h hz=>exact .mk (by decide) ez.1 ez.2 (by omega) (by simp) (by simp) (by simp) (by simp) (by simp)
 | list h hz ih=>exact .mk (by decide) ez.1 ez.2 e0 (by omega) (by simp) ih (by simp) (by simp)
 | obj hn hr h hz ih=>exact .mk (by decide) ez.1 ez.2 e0 (by simp) (by omega) (by simp) (fun p hp=>by have:=(hn p hp).2;omega) ih
theorem pf_cl {f:List (ByteArray × JT)} (hn:∀ p∈f,Ltc p.1.data.toList∧p.1.size≤1000000000):(f.map fun p=>(pt.clean p.1,p.2))=f:=by
 conv=>rhs;rw [← List.map_id' f]
 exact List.map_congr_left fun p hp=>by rw [ltc_clean (hn p hp).1]
theorem fold_le {n:Nat}:∀ (l:List Nat) (m:Nat),m≤n→(∀ x∈l,x≤n)→l.foldl max m≤n
 | [],m,hm,_=>hm
 | x::l,m,hm,h=>fold_le l (max m x) (Nat.max_le.2 ⟨hm,h x (by simp)⟩) (fun y hy=>h y (by simp [hy]))
theorem pf_dpt {n:Nat}{v:JT} (h:Pf n v):dpt v≤n:=by
 induction h with
 | null n=>unfold leaf;rw [dpt_mk];exact Nat.zero_le _
 | truth n b=>unfold leaf;rw [dpt_mk];exact Nat.zero_le _
 | num n h hz=>unfold leaf;rw [dpt_mk];exact Nat.zero_le _
 | text n h hz=>unfold leaf;rw [dpt_mk];exact Nat.zero_le _
 | @list n l h hz ih =>
   rw [dpt_mk,if_pos rfl]
   have:=fold_le (n:=n) (l.map dpt) 0 (Nat.zero_le _) (fun x hx=>by obtain ⟨v,hv,rfl⟩:=List.mem_map.1 hx;exact ih v hv)
   omega
 | @obj n f hn hr h hz ih =>
   rw [dpt_mk,if_neg (by decide),if_pos rfl]
   have ec:cnt f=f:=by unfold cnt;rw [pf_cl hn,jn.puts_ris f hr]
   rw [ec]
   have:=fold_le (n:=n) ((f.map Prod.snd).map dpt) 0 (Nat.zero_le _) (fun x hx=>by
    obtain ⟨v,hv,rfl⟩:=List.mem_map.1 hx
    obtain ⟨p,hp,rfl⟩:=List.mem_map.1 hv
    exact ih p hp)
   omega
end Go.Proofs.YthakglomacijgaaGreatDoor.rd
