/- Texts in one: Fo5 Pg3 Wl Lg Vf Pf2 Lg2 De3 Smg Hv -/
import Derived.Test.YthnhobplgmojeaaGreatDoorFo4P
import Derived.Test.YthnhobplgmojeaaGreatDoorFo3P
import Derived.Test.YthnhobplgmojeaaGreatDoorSqP
import Derived.Test.YthnhobplgmojeaaGreatDoorSfP
import Derived.Test.YthnhobplgmojeaaGreatDoorIeP
import Derived.Lib.ItoaLen
import Derived.Test.YthnhobplgmojeaaGreatDoorIiP
import Derived.Deep.RegionLaw
namespace Go.Proofs.YthnhobplgmojeaaGreatDoor.rd
open Go.RowKit
theorem fd_of2:∀ (f:List (ByteArray × JT)) (gss:List (List Value)),gss.length=f.length→(∀ c∈gss,V8 c) →
 ∃ D:List Fd,D.length=f.length∧D.flatMap encF=fcs f gss∧∀ (i:Nat) (p:ByteArray × JT) (c:List Value),f[i]?=some p→gss[i]?=some c→∃ x,D[i]?=some x∧x.nm=p.1∧encF (ss.sd x)=.string (said p.1)::c
 | [],_,_,_=>⟨[],rfl,rfl,fun i p c h=>by simp at h⟩
 | _::_,[],h,_=>by simp at h
 | p::f,c::gss,h,hv=>by
   obtain ⟨D,e1,e2,e3⟩:=fd_of2 f gss (by simpa using h) (fun c hc=>hv c (by simp [hc]));obtain ⟨kk,tt,ng,dg,ex,xx,q1,n1,m1,q2,n2,m2,rfl⟩:=hv c (by simp);refine ⟨⟨p.1,kk,tt,ng,dg,ex,xx,q1,n1,m1,q2,n2,m2⟩::D,by simp [e1],?_,fun i p' c' h1 h2=>?_⟩
   · rw [List.flatMap_cons,e2,fcs_cons];rfl
   · cases i with
     | zero =>
       simp only [List.getElem?_cons_zero,Option.some.injEq] at h1 h2;subst h1 h2;exact ⟨_,rfl,rfl,rfl⟩
     | succ i =>
       simp only [List.getElem?_cons_succ] at h1 h2 ⊢;exact e3 i p' c' h1 h2
theorem fcs_each {β:Type} (a:β→ByteArray × JT) (b:β→List Value):∀ K:List β,fcs (K.map a) (K.map b)=K.flatMap fun i=>.string (a i).1::b i
 | []=>rfl
 | i::K=>by rw [List.map_cons,List.map_cons,fcs_cons,fcs_each a b K,List.flatMap_cons]
theorem fok_all (f:List (ByteArray × JT)) (hl:f.length≤1000000000) (hn:∀ p∈f,p.1.size≤35184372088832):FOk f:=by
 intro k t d x l cs w u h hb
 cases h with
 | @mk k t d x l f lv fv css gss hlv hf h1 h3 hle hfe =>
   have hv8:∀ c∈gss,V8 c:=by
    intro c hcm;obtain ⟨j,hj⟩:=List.getElem?_of_mem hcm;obtain ⟨hlt,_⟩:=List.getElem?_eq_some_iff.1 hj;exact (hfe j f[j].1 f[j].2 c (List.getElem?_eq_getElem (by omega)) hj).v8
   obtain ⟨D,e1,e2,e3⟩:=fd_of2 f gss h3 hv8;have hsv:=hf.keep hb;rw [← e1,← e2] at hsv
   have at_:∀ i,i < f.length→∃ x,D[i]?=some x∧x.nm=(f[i]?.getD (⟨#[]⟩,null)).1∧encF (ss.sd x)=.string (pt.clean (f[i]?.getD (⟨#[]⟩,null)).1)::gss[i]?.getD []:=fun i hi=>by
    obtain ⟨x,q1,q2,q3⟩:=e3 i f[i] gss[i] (List.getElem?_eq_getElem hi) (List.getElem?_eq_getElem (by omega));rw [List.getElem?_eq_getElem hi,List.getElem?_eq_getElem (show i < gss.length by omega)];exact ⟨x,q1,q2,by rw [q3,pt.said_clean];rfl⟩
   have hz:∀ y∈D,y.nm.size≤35184372088832:=by
    intro y hy;obtain ⟨i,hi⟩:=List.getElem?_of_mem hy;obtain ⟨hlt,_⟩:=List.getElem?_eq_some_iff.1 hi;obtain ⟨x,q1,q2,_⟩:=at_ i (by omega);rw [hi] at q1
    cases q1
    rw [q2,List.getElem?_eq_getElem (show i < f.length by omega)];exact hn _ (List.getElem_mem _)
   have fdI_at:∀ i,i < f.length→encF (ss.fdI (D.map ss.sd) i)=.string (pt.clean (f[i]?.getD (⟨#[]⟩,null)).1)::gss[i]?.getD []∧(ss.fdI (D.map ss.sd) i).nm=pt.clean (f[i]?.getD (⟨#[]⟩,null)).1:=fun i hi=>by
    obtain ⟨x,q1,q2,q3⟩:=at_ i hi
    have e:ss.fdI (D.map ss.sd) i=ss.sd x:=by
     unfold ss.fdI;rw [List.getD_eq_getElem?_getD,List.getElem?_map,q1];rfl
    rw [e];refine ⟨q3,?_⟩;have:=(List.cons.inj q3).1;simpa using this
   have hDl:(D.map ss.sd).length=f.length:=by rw [List.length_map,e1]
   have hkm:∀ i∈ss.kp (D.map ss.sd),i < f.length:=fun i hi=>by
    have:=((ss.keeps_iff (D.map ss.sd)).1 hi).1;omega
   have hG:(ss.kp (D.map ss.sd)).map (fun i=>(pt.clean (f[i]?.getD (⟨#[]⟩,null)).1,(f[i]?.getD (⟨#[]⟩,null)).2))=cnt f:=by
    refine ss.kept_puts (D.map ss.sd) (F:=f.map fun p=>(pt.clean p.1,p.2)) (by rw [List.length_map,hDl]) (fun i p hp=>?_) _ ?_
    · rw [List.getElem?_map] at hp
      cases hq:f[i]? with
      | none=>rw [hq] at hp;simp at hp
      | some q =>
        obtain ⟨hlt,_⟩:=List.getElem?_eq_some_iff.1 hq;have:=(fdI_at i hlt).2;rw [hq] at hp this;simp only [Option.map_some,Option.some.injEq] at hp;subst hp;exact this.symm
    · rw [List.map_map]
      refine List.map_congr_left fun i hi=>?_
      have hlt:=hkm i hi;show some (pt.clean (f[i]?.getD (⟨#[]⟩,null)).1,(f[i]?.getD (⟨#[]⟩,null)).2)=(f.map fun p=>(pt.clean p.1,p.2))[i]?;rw [List.getElem?_map,List.getElem?_eq_getElem hlt];rfl
   refine (ss.fieldsOf_all (.int .i64 k) (.bool t) (.bool d.neg) (.string d.dg) (.int .i64 d.ex) (.string x) lv fv u hsv (by omega) hz).mono ?_;rintro e w' ⟨sv,rfl,ho,hbl⟩;rw [← hG];refine ⟨sv,(ss.kp (D.map ss.sd)).map fun i=>gss[i]?.getD [],rfl,?_,by simp,?_,hbl⟩
   · rw [List.length_map,fcs_each]
     have e5:((ss.kp (D.map ss.sd)).map (ss.fdI (D.map ss.sd))).flatMap encF=(ss.kp (D.map ss.sd)).flatMap fun i=>.string (pt.clean (f[i]?.getD (⟨#[]⟩,null)).1)::gss[i]?.getD []:=by
      rw [List.flatMap_map];rw [List.flatMap_def,List.flatMap_def,List.map_congr_left fun i hi=>(fdI_at i (hkm i hi)).1]
     rw [← e5];exact owns_base ho (Nat.le_succ _)
   · intro j p c hp hc
     rw [List.getElem?_map] at hp hc
     cases hq:(ss.kp (D.map ss.sd))[j]? with
     | none=>rw [hq] at hp;simp at hp
     | some i =>
       rw [hq] at hp hc;simp only [Option.map_some,Option.some.injEq] at hp hc;have hlt:=hkm i (List.mem_of_getElem? hq);subst hp hc;rw [List.getElem?_eq_getElem hlt,List.getElem?_eq_getElem (show i < gss.length by omega)];exact hfe i f[i].1 f[i].2 gss[i] (List.getElem?_eq_getElem hlt) (List.getElem?_eq_getElem (by omega))
theorem lett_ln (s:ByteArray):∀ (f k:Nat) (acc l:List UInt8) (j:Nat),lettF s f k acc=.inl (l,j)→l.length+4*k+4≤acc.length+4*j
 | 0,k,acc,l,j,h=>by simp [lettF] at h
 | f+1,k,acc,l,j,h=>by
   unfold lettF at h
   split at h
   · cases h;omega
   · split at h
     · cases h
     · rename_i hz
       have h1:=lett_ln s f _ _ l j h;have h2:=letAt_bd (s.extract k s.size);have h3:=enc_le (letAt (s.extract k s.size)).1;rw [List.length_append] at h1;omega
theorem letts_ln {s:ByteArray}{k:Nat}{l:List UInt8}{j:Nat} (h:letts s k=.inl (l,j)):l.length+4*k+8≤4*j:=by
 have:=lett_ln s _ _ _ _ _ h;simp only [List.length_nil] at this;omega
theorem txt_len (n:Dn) (h:Whole1 n):(textOf n).size≤n.dg.size+20010:=by
 have hx:-9999≤n.ex∧n.ex≤9999:=by
  rcases h with rfl|h
  · exact ⟨by decide,by decide⟩
  · exact ⟨h.e0,h.e1⟩
 have:=itoaB_len n.ex hx.1 hx.2;have e1:(⟨#[45]⟩:ByteArray).size=1:=rfl;have e2:(⟨#[101]⟩:ByteArray).size=1:=rfl;unfold textOf
 split
 · have:(⟨#[48]⟩:ByteArray).size=1:=rfl
   omega
 · split
   · split
     · rw [ByteArray.size_append];omega
     · omega
   · split
     · rw [ByteArray.size_append,ByteArray.size_append,ByteArray.size_append];omega
     · rw [ByteArray.size_append,ByteArray.size_append];omega
theorem cst_leaf (k:Int) (t:Bool) (d:Dn) (x:ByteArray):cst (leaf k t d x)=30+(textOf (norm d)).size+6*x.size:=by
 unfold leaf;rw [cst_mk];simp
theorem txt_zed:(textOf (norm zed)).size=1:=by rw [wh.norm_zed];rfl
def Good (s:ByteArray) (n:Nat) (vf:Nat→(JT × Nat) ⊕ (Nat × Nat)):Prop:=∀ k v k',k≤s.size→vf k=.inl (v,k')→Pf n v∧30000*k+cst v+100≤30000*k'
theorem rowR_inv {σ:Type}{step:σ→Nat→(σ × Nat) ⊕ (Nat × Nat)}{endc:Int}{s:ByteArray}{o:Int}{st st':σ}{k k':Nat} (I:σ→Nat→Prop) (hm:∀ st k k',I st k→k≤k'→I st k')
 (hs:∀ st k2 st' k',I st k2→k2≤s.size→step st k2=.inl (st',k')→I st' k'∧k2 < k'∧k'≤s.size) (h0:I st (k+1)) (hk:k < s.size) (h:rowR step endc s o st k=.inl (st',k')):∃ k1,k'=k1+1∧I st' k1∧k+1≤k1∧k1≤s.size:=by
 have hg:=gap_ge s (k+1);have hg2:=gap_le s (k+1) (by omega);unfold rowR at h
 split at h
 · cases h
 · split at h
   · cases h
     exact ⟨_,rfl,hm _ _ _ h0 hg,hg,hg2⟩
   · unfold rowE at h
     split at h
     · cases h
     · rename_i st1 k1 hr
       cases h
       obtain ⟨h1,h2,h3⟩:=rowF_bd step endc s I hm hs _ _ _ _ _ (hm _ _ _ h0 hg) hg2 hr;exact ⟨k1,rfl,h1,by omega,h3⟩
theorem list_good {s:ByteArray}{n:Nat}{o:Int}{vf:Nat→(JT × Nat) ⊕ (Nat × Nat)} (hs:s.size≤1048576) (hu:Ups s vf) (hv:Good s n vf):∀ k v k',k < s.size→listR vf s o k=.inl (v,k')→Pf (n+1) v∧30000*k+cst v+100≤30000*k':=by
 intro k v k' hk h;unfold listR at h
 split at h
 · rename_i l k1 hr
   cases h
   obtain ⟨k2,rfl,⟨i1,i2,i3⟩,i4,i5⟩:=rowR_inv (fun l k2=>(∀ v∈l,Pf n v)∧30000*(k+1)+((l.map cst).sum+l.length)≤30000*k2∧l.length≤k2) (fun _ _ _ q1 q2=>⟨q1.1,by omega,by omega⟩)
    (fun l k2 l' k' q1 q2 q3=>by
     unfold lstep at q3
     split at q3
     · rename_i v k3 hv3
       cases q3
       obtain ⟨g1,g2⟩:=hv _ _ _ q2 hv3;have u1:=hu.1 _ _ _ hv3;have u2:=hu.2 _ _ _ q2 hv3;refine ⟨⟨fun y hy=>?_,?_,?_⟩,u1,u2⟩
       · rcases List.mem_append.1 hy with q|q
         · exact q1.1 y q
         · rw [List.mem_singleton] at q;subst q;exact g1
       · rw [List.map_append,List.sum_append_nat,List.length_append]
         simp only [List.map_cons,List.map_nil,List.sum_cons,List.sum_nil,List.length_cons,List.length_nil];omega
       · rw [List.length_append]
         simp only [List.length_cons,List.length_nil];omega
     · cases q3) ⟨by simp,by simp,by simp⟩ hk hr
   refine ⟨.list i1 (by omega),?_⟩;rw [cst_mk,txt_zed];simp only [List.map_nil,List.sum_nil,List.length_nil];have:(⟨#[]⟩:ByteArray).size=0:=rfl;omega
 · cases h
theorem obj_good {s:ByteArray}{n:Nat}{o:Int}{vf:Nat→(JT × Nat) ⊕ (Nat × Nat)} (hs:s.size≤1048576) (hu:Ups s vf) (hv:Good s n vf):∀ k v k',k < s.size→objR vf s o k=.inl (v,k')→Pf (n+1) v∧30000*k+cst v+100≤30000*k':=by
 intro k v k' hk h;unfold objR at h
 split at h
 · rename_i f k1 hr
   cases h
   obtain ⟨r1,r2⟩:=obj_row hu hk hr
   obtain ⟨k2,rfl,⟨i1,i2⟩,i4,i5⟩:=rowR_inv (fun (f:List (ByteArray × JT)) k2=>(∀ p∈f,Pf n p.2∧Ltc p.1.data.toList∧p.1.size≤1000000000)∧30000*(k+1)+((f.map fun p=>cst p.2+6*p.1.size+30).sum+f.length)≤30000*k2) (fun _ _ _ q1 q2=>⟨q1.1,by omega⟩)
    (fun f k2 f' k' q1 q2 q3=>by
     obtain ⟨u1,_,u3,_⟩:=ostep_up hu q3;refine ⟨?_,u1,u3 q2⟩;unfold ostep at q3
     split at q3
     · cases q3
     · rename_i nm k3 hn
       split at q3
       · cases q3
       · rename_i v k4 hv4
         cases q3
         obtain ⟨a1,a2,_⟩:=nmR_up hn;have hg:=gap_ge s k2
         obtain ⟨l1,l2⟩:Ltc nm∧nm.length+4*k2+8≤4*k3:=by
          unfold nmR at hn
          split at hn
          · split at hn
            · cases hn
            · rename_i l j hl
              split at hn
              · cases hn
              · cases hn
                have:=letts_ln hl;exact ⟨(letts_lts hl).ltc,by omega⟩
          · cases hn
         have hg3:=gap_ge s k3;have hk3:=a2 q2
         obtain ⟨g1,g2⟩:Pf n v∧30000*k3+cst v+100≤30000*k':=by
          unfold fvR at hv4
          split at hv4
          · rename_i h58
            have hlt:=nxt_some s (gap s k3) (gap_le s k3 hk3) (by omega);obtain ⟨g1,g2⟩:=hv _ _ _ (by omega) hv4;exact ⟨g1,by omega⟩
          · cases hv4
         have hz:(⟨nm.toArray⟩:ByteArray).size=nm.length:=List.size_toArray;refine ⟨fun p hp=>?_,?_⟩
         · rcases List.mem_append.1 hp with q|q
           · exact q1.1 p q
           · rw [List.mem_singleton] at q;subst q
             exact ⟨g1,l1,by rw [hz];omega⟩
         · rw [List.map_append,List.sum_append_nat,List.length_append]
           simp only [List.map_cons,List.map_nil,List.sum_cons,List.sum_nil,List.length_cons,List.length_nil,hz]
           omega) ⟨by simp,by simp⟩ hk hr
   have hp:(f.mergeSort leN).Perm f:=List.mergeSort_perm f leN;have hmem:∀ p∈f.mergeSort leN,p∈f:=fun p q=>hp.mem_iff.1 q
   have hsrt:(f.mergeSort leN).Pairwise (fun a b=>Lib.compareBytes a.1.data.toList b.1.data.toList≤0):=by
    refine (List.pairwise_mergeSort (le:=leN) (fun a b c h1 h2=>?_) (fun a b=>?_) f).imp fun {a b} h=>by simpa [leN] using h
    · simp only [leN,decide_eq_true_eq] at *
      exact cb.trans _ _ _ h1 h2
    · have:=cb.total a.1.data.toList b.1.data.toList
      simpa [leN,Bool.or_eq_true] using this
   have hnd:((f.mergeSort leN).map fun p=>p.1.data.toList).Nodup:=((hp.map _).nodup_iff).2 r1
   have hris:jn.Ris (f.mergeSort leN):=by
    unfold jn.Ris;rw [List.Nodup,List.pairwise_map] at hnd;refine (hsrt.and hnd).imp fun {a b} q=>?_
    have h1:=q.1;have h2:¬ Lib.compareBytes a.1.data.toList b.1.data.toList=0:=fun e=>q.2 (cb.eq_of _ _ e)
    omega
   refine ⟨.obj (fun p q=>(i1 p (hmem p q)).2) hris (fun p q=>(i1 p (hmem p q)).1) (by rw [hp.length_eq];omega),?_⟩;rw [cst_mk,txt_zed,((hp.map _).sum_nat:((f.mergeSort leN).map fun p=>cst p.2+6*p.1.size+30).sum=_),hp.length_eq];simp only [List.map_nil,List.sum_nil,List.length_nil];have:(⟨#[]⟩:ByteArray).size=0:=rfl;omega
 · cases h
theorem val_good {s:ByteArray}{n:Nat}{lf of:Nat→(JT × Nat) ⊕ (Nat × Nat)} (hs:s.size≤1048576) (hl:∀ k v k',k < s.size→lf k=.inl (v,k')→Pf n v∧30000*k+cst v+100≤30000*k') (ho:∀ k v k',k < s.size→of k=.inl (v,k')→Pf n v∧30000*k+cst v+100≤30000*k'):Good s n (valR lf of s):=by
 intro k v k' hk h;have hg:=gap_ge s k;have hg2:=gap_le s k hk;have e0:(⟨#[]⟩:ByteArray).size=0:=rfl
 have wd:∀ (w:ByteArray) (kd:Int) (tr:Bool),0 < w.size→wordR w kd tr s (gap s k)=.inl (v,k')→v=leaf kd tr zed ⟨#[]⟩∧30000*k+cst v+100≤30000*k':=fun w kd tr hw h=>by
  unfold wordR at h
  split at h
  · cases h
    refine ⟨rfl,?_⟩;rw [cst_leaf,txt_zed];omega
  · cases h
 unfold valR at h
 split at h
 · obtain ⟨rfl,q⟩:=wd _ _ _ (by decide) h
   exact ⟨.null n,q⟩
 split at h
 · obtain ⟨rfl,q⟩:=wd _ _ _ (by decide) h
   exact ⟨.truth n true,q⟩
 split at h
 · obtain ⟨rfl,q⟩:=wd _ _ _ (by decide) h
   exact ⟨.truth n false,q⟩
 split at h
 · obtain ⟨u1,u2⟩:=numJ_up h
   have u3:=u2 hg2;unfold numJ at h
   split at h
   · cases h
     have hw:=wh.rparse_whole (s.extract (gap s k) (numTo s (gap s k)));have hz:=wh.rparse_size (s.extract (gap s k) (numTo s (gap s k)));have he:(s.extract (gap s k) (numTo s (gap s k))).size≤numTo s (gap s k) - gap s k:=by simp;omega
     have ht:=txt_len _ hw;unfold numR at *;refine ⟨.num n hw (by omega),?_⟩;rw [cst_leaf,wh.whole_id hw];omega
   · cases h
 split at h
 · obtain ⟨u1,u2⟩:=textR_up h
   unfold textR at h
   split at h
   · rename_i l j hl
     cases h
     have h1:=letts_ln hl
     have h2:k'≤s.size:=by
      rename_i q34 _
      exact letts_le (nxt_34 s _ hg2 (by assumption)) hl
     have hz:(⟨l.toArray⟩:ByteArray).size=l.length:=List.size_toArray;refine ⟨.text n (letts_lts hl).ltc (by rw [hz];omega),?_⟩;rw [cst_leaf,txt_zed,hz];omega
   · cases h
 split at h
 · rename_i q
   obtain ⟨a,b⟩:=hl _ _ _ (nxt_some s _ hg2 (by omega)) h;exact ⟨a,by omega⟩
 split at h
 · rename_i q
   obtain ⟨a,b⟩:=ho _ _ _ (nxt_some s _ hg2 (by omega)) h;exact ⟨a,by omega⟩
 · cases h
theorem rowR_deep {σ:Type}{step:σ→Nat→(σ × Nat) ⊕ (Nat × Nat)}{endc:Int}{s:ByteArray}{st:σ}{k:Nat}:rowR step endc s 64 st k=.inr (9,k):=by
 unfold rowR;rw [if_pos rfl]
theorem vfN_good (s:ByteArray) (hs:s.size≤1048576):∀ n,Good s n (vfN s n)
 | 0=>val_good hs (fun k v k' _ h=>by unfold listR at h;rw [rowR_deep] at h;cases h) (fun k v k' _ h=>by unfold objR at h;rw [rowR_deep] at h;cases h)
 | n+1=>val_good hs (list_good hs (vfN_up s n) (vfN_good s hs n)) (obj_good hs (vfN_up s n) (vfN_good s hs n))
theorem parseJ_good {s:ByteArray}{v:JT} (h:parseJ s=.inl v):Pf 64 v∧cst v≤40000000000:=by
 unfold parseJ at h
 split at h
 · cases h
 · rename_i hs
   split at h
   · cases h
   · rename_i v2 k hv
     split at h
     · cases h
       obtain ⟨h1,h2⟩:=vfN_good s (by omega) 64 0 v k (by omega) hv;have h3:=(vfN_up s 64).2 0 v k (by omega) hv;exact ⟨h1,by omega⟩
     · cases h
theorem ltc_clean {x:ByteArray} (h:Ltc x.data.toList):pt.clean x=x:=by
 unfold pt.clean;have h2:x.data.toList.length=x.size:=Array.length_toList;rw [clF_ltc x h x.size 0 rfl (by omega),Array.toArray_toList]
theorem pf_nrm {n:Nat}{v:JT} (h:Pf n v):nrm v=v:=by
 induction h with
 | null n=>unfold leaf;rw [nrm_mk];rfl
 | truth n b=>unfold leaf;rw [nrm_mk];rfl
 | num n h hz =>
   unfold leaf;rw [nrm_mk,if_neg (by decide),if_pos rfl,wh.whole_id h]
 | text n h hz =>
   unfold leaf;rw [nrm_mk,if_neg (by decide),if_neg (by decide),if_pos rfl,ltc_clean h]
 | @list n l h hz ih =>
   rw [nrm_mk,if_neg (by decide),if_neg (by decide),if_neg (by decide),if_pos rfl,List.map_congr_left ih,List.map_id']
 | @obj n f hn hr h hz ih =>
   have e:(f.map fun p=>(pt.clean p.1,nrm p.2))=f:=by
    conv=>rhs;rw [← List.map_id' f]
    exact List.map_congr_left fun p hp=>by rw [ltc_clean (hn p hp).1,ih p hp]
   rw [nrm_mk,if_neg (by decide),if_neg (by decide),if_neg (by decide),if_neg (by decide),if_pos rfl,e,jn.puts_ris f hr]
theorem pf_bd {n:Nat}{v:JT} (h:Pf n v):Bd v:=by
 have ez:zed.dg.size≤1099511627776∧(-9223372036854775808≤zed.ex∧zed.ex≤9223372036854775807):=by decide
 have e0:(⟨#[]⟩:ByteArray).size≤35184372088832:=by decide
 induction h with
 | null n=>exact .mk (by decide) ez.1 ez.2 e0 (by simp) (by simp) (by simp) (by simp) (by simp)
 | truth n b=>exact .mk (by decide) ez.1 ez.2 e0 (by simp) (by simp) (by simp) (by simp) (by simp)
 | @num n d h hz =>
   have hx:-9223372036854775808≤d.ex∧d.ex≤9223372036854775807:=by
    rcases h with rfl|h
    · exact ez.2
    · have:=h.e0;have:=h.e1;omega
   exact .mk (by decide) (by omega) hx e0 (by simp) (by simp) (by simp) (by simp) (by simp)
 | text n h hz=>exact .mk (by decide) ez.1 ez.2 (by omega) (by simp) (by simp) (by simp) (by simp) (by simp)
 | list h hz ih=>exact .mk (by decide) ez.1 ez.2 e0 (by omega) (by simp) ih (by simp) (by simp)
 | obj hn hr h hz ih=>exact .mk (by decide) ez.1 ez.2 e0 (by simp) (by omega) (by simp) (fun p hp=>by have:=(hn p hp).2;omega) ih
theorem pf_cl {f:List (ByteArray × JT)} (hn:∀ p∈f,Ltc p.1.data.toList∧p.1.size≤1000000000):(f.map fun p=>(pt.clean p.1,p.2))=f:=by
 conv=>rhs;rw [← List.map_id' f]
 exact List.map_congr_left fun p hp=>by rw [ltc_clean (hn p hp).1]
theorem pf_gd {n:Nat}{v:JT} (h:Pf n v):Gd v:=by
 induction h with
 | null n=>exact .mk (fun e=>absurd e (by decide)) (fun e=>absurd e (by decide)) (fun e=>absurd e (by decide))
 | truth n b=>exact .mk (fun e=>absurd e (by decide)) (fun e=>absurd e (by decide)) (fun e=>absurd e (by decide))
 | num n h hz=>exact .mk (fun e=>absurd e (by decide)) (fun e=>absurd e (by decide)) (fun e=>absurd e (by decide))
 | text n h hz=>exact .mk (fun e=>absurd e (by decide)) (fun e=>absurd e (by decide)) (fun e=>absurd e (by decide))
 | list h hz ih=>exact .mk (fun e=>absurd e (by decide)) (fun _=>ih) (fun e=>absurd e (by decide))
 | @obj n f hn hr h hz ih=>exact .mk (fun _=>fok_ris f (by omega) (fun p hp=>by have:=(hn p hp).2;omega) (by rw [pf_cl hn];exact hr)) (fun e=>absurd e (by decide)) (fun _=>ih)
theorem fold_le {n:Nat}:∀ (l:List Nat) (m:Nat),m≤n→(∀ x∈l,x≤n)→l.foldl max m≤n
 | [],m,hm,_=>hm
 | x::l,m,hm,h=>fold_le l (max m x) (Nat.max_le.2 ⟨hm,h x (by simp)⟩) (fun y hy=>h y (by simp [hy]))
theorem pf_dpt {n:Nat}{v:JT} (h:Pf n v):dpt v≤n:=by
 induction h with
 | null n=>unfold leaf;rw [dpt_mk];exact Nat.zero_le _
 | truth n b=>unfold leaf;rw [dpt_mk];exact Nat.zero_le _
 | num n h hz=>unfold leaf;rw [dpt_mk];exact Nat.zero_le _
 | text n h hz=>unfold leaf;rw [dpt_mk];exact Nat.zero_le _
 | @list n l h hz ih =>
   rw [dpt_mk,if_pos rfl];have:=fold_le (n:=n) (l.map dpt) 0 (Nat.zero_le _) (fun x hx=>by obtain ⟨v,hv,rfl⟩:=List.mem_map.1 hx;exact ih v hv);omega
 | @obj n f hn hr h hz ih =>
   rw [dpt_mk,if_neg (by decide),if_pos rfl];have ec:cnt f=f:=by unfold cnt;rw [pf_cl hn,jn.puts_ris f hr]
   rw [ec]
   have:=fold_le (n:=n) ((f.map Prod.snd).map dpt) 0 (Nat.zero_le _) (fun x hx=>by
    obtain ⟨v,hv,rfl⟩:=List.mem_map.1 hx;obtain ⟨p,hp,rfl⟩:=List.mem_map.1 hv
    exact ih p hp)
   omega
end Go.Proofs.YthnhobplgmojeaaGreatDoor.rd
namespace Go.Proofs.YthnhobplgmojeaaGreatDoor.rd
open Go.RowKit Go.Proofs.YthnhobplgmojeaaGreatDoor.rd.wk
theorem parse_ok {E:Nat→Value}{w w':World}{v:JT}{e:Ending} (h:ParsePost E w (.inl v) e w'):∃ cs p,e=.returned (.tuple #[.agg cs.toArray,.nilIface])∧VRep w' w.heap.size v cs p∧p.Nodup∧Below w.heap.size w w':=by
 obtain ⟨⟨v',cs,p,e1,e2,e3,e4⟩|⟨g,k,fb,e1,_⟩,hb⟩:=h
 · cases e1
   exact ⟨cs,p,e2,e3,e4,hb⟩
 · cases e1
theorem parse_bad {E:Nat→Value}{w w':World}{g k:Nat}{e:Ending} (h:ParsePost E w (.inr (g,k)) e w'):∃ fb,e=.returned (.tuple #[.agg vNull,.iface 178 (.pointer (some ⟨fb,0,none⟩))])∧FL w' fb (k:Nat) 264 (E g)∧Below w.heap.size w w':=by
 obtain ⟨⟨v',cs,p,e1,_⟩|⟨g',k',fb,e1,e2,_,e4⟩,hb⟩:=h
 · cases e1
 · cases e1
   exact ⟨fb,e2,e4,hb⟩
end Go.Proofs.YthnhobplgmojeaaGreatDoor.rd
namespace Go.Proofs.YthnhobplgmojeaaGreatDoor.rd
open Go.RowKit
theorem sum_mem {α:Type}{g:α→Nat}:∀ {l:List α}{a:α},a∈l→g a≤(l.map g).sum
 | b::l,a,h=>by
   rw [List.map_cons,List.sum_cons]
   rcases List.mem_cons.1 h with rfl|h
   · omega
   · have:=sum_mem (g:=g) h;omega
theorem cnt_l {k:Int}{t:Bool}{d:Dn}{x:ByteArray}{l:List JT}{f:List (ByteArray × JT)}{v:JT} (h:v∈l):cntV v+1≤cntV (.mk k t d x l f):=by
 rw [cntV_mk];have:=sum_mem (g:=cntV) h;omega
theorem cnt_f {k:Int}{t:Bool}{d:Dn}{x:ByteArray}{l:List JT}{f:List (ByteArray × JT)}{p:ByteArray × JT} (h:p∈f):cntV p.2+p.1.size+1≤cntV (.mk k t d x l f):=by
 rw [cntV_mk];have:=sum_mem (g:=fun p:ByteArray × JT=>p.1.size+cntV p.2) h;omega
theorem light_gd (n:Nat):∀ v,SizeOf.sizeOf v < n→Bd v→cntV v≤1000000000→Gd v:=by
 induction n with
 | zero=>intro v h;omega
 | succ n IH =>
   intro v hn hb hc
   cases hb with
   | @mk k t d x l f hk h0 h1 h2 h3 h4 hl hnm hf =>
     have hfl:f.length≤1000000000:=by rw [cntV_mk] at hc;omega
     exact .mk (fun _=>fok_all f hfl hnm) (fun _ v hv=>IH v (by have:=sz_l (k:=k) (t:=t) (d:=d) (x:=x) (f:=f) hv;omega) (hl v hv) (by have:=cnt_l (k:=k) (t:=t) (d:=d) (x:=x) (f:=f) hv;omega))
      (fun _ p hp=>IH p.2 (by have:=sz_f (k:=k) (t:=t) (d:=d) (x:=x) (l:=l) hp;omega) (hf p hp) (by have:=cnt_f (k:=k) (t:=t) (d:=d) (x:=x) (l:=l) hp;omega))
theorem pf_mono {n:Nat}{v:JT} (h:Pf n v):∀ m,n≤m→Pf m v:=by
 induction h with
 | null n=>exact fun m _=>.null m
 | truth n b=>exact fun m _=>.truth m b
 | num n h hz=>exact fun m _=>.num m h hz
 | text n h hz=>exact fun m _=>.text m h hz
 | list h hz ih =>
   intro m hm;obtain ⟨m,rfl⟩:∃ q,m=q+1:=⟨m - 1,by omega⟩;exact .list (fun v hv=>ih v hv m (by omega)) hz
 | obj hn hr h hz ih =>
   intro m hm;obtain ⟨m,rfl⟩:∃ q,m=q+1:=⟨m - 1,by omega⟩;exact .obj hn hr (fun p hp=>ih p hp m (by omega)) hz
theorem clF_ok (s:ByteArray):∀ f k,Ltc (pt.clF s f k)∧(pt.clF s f k).length≤4*f
 | 0,k=>⟨.nil,by simp [pt.clF]⟩
 | f+1,k=>by
   rw [pt.clF]
   split
   · rename_i hk
     split
     · obtain ⟨h1,h2⟩:=clF_ok s f (k+1)
       refine ⟨.cons ?_ h1,by simp;omega⟩;have:=lt1_enc 65533;exact this
     · rename_i hz
       obtain ⟨h1,h2⟩:=clF_ok s f (k+pt.ltr s k)
       have e:(s.extract k (k+pt.ltr s k)).data.toList=(s.data.toList.drop k).take (ltrL (s.data.toList.drop k)):=by
        rw [pt.cut_take,ltr_drop s k hk]
       rw [e];have hl:=lt1_take (s.data.toList.drop k) (by rw [← ltr_drop s k hk];omega);refine ⟨.cons hl h1,?_⟩
       have h4:pt.ltr s k≤4:=by
        rcases pt.place_says s k hk with ⟨a,_⟩|⟨_,_,d2,d3⟩
        · omega
        · have:=enc_le ((Utf8.decode s k).1:Int)
          rw [d3,pt.cut_take] at this;have hle:=pt.ltr_le s k hk;have h2:s.data.toList.length=s.size:=Array.length_toList;simp only [List.length_take,List.length_drop] at this;omega
       rw [List.length_append,List.length_take,← ltr_drop s k hk];omega
   · exact ⟨.nil,by simp⟩
theorem clean_ltc (s:ByteArray):Ltc (pt.clean s).data.toList∧(pt.clean s).size≤4*s.size:=by
 obtain ⟨h1,h2⟩:=clF_ok s s.size 0;refine ⟨h1,?_⟩;show (pt.clF s s.size 0).toArray.size≤_;simpa using h2
theorem norm_ok (d:Dn):Whole1 (norm d)∧(norm d).dg.size≤d.dg.size:=by
 refine ⟨?_,?_⟩
 · unfold norm
   exact oneForm_formed _ _ _ (digs_dig _)
 · unfold norm
   exact wh.oneForm_size _ _ _
theorem putP_sum {α:Type} (g:ByteArray × α→Nat) (acc:List (ByteArray × α)) (p:ByteArray × α):((jn.putP acc p).map g).sum≤(acc.map g).sum+g p∧(jn.putP acc p).length≤acc.length+1:=by
 unfold jn.putP
 split
 · omega
 · have h:=jn.ins_perm acc p
   rw [(h.map g).sum_nat,h.length_eq,List.map_cons,List.sum_cons,List.length_cons];omega
theorem puts_sum {α:Type} (g:ByteArray × α→Nat) (F:List (ByteArray × α)):((jn.puts F).map g).sum≤(F.map g).sum∧(jn.puts F).length≤F.length:=by
 have key:∀ (F acc:List (ByteArray × α)),((F.foldl jn.putP acc).map g).sum≤(acc.map g).sum+(F.map g).sum∧(F.foldl jn.putP acc).length≤acc.length+F.length:=by
  intro F
  induction F with
  | nil=>intro acc;simp
  | cons p F ih =>
    intro acc;have h1:=ih (jn.putP acc p);have h2:=putP_sum g acc p;rw [List.foldl_cons,List.map_cons,List.sum_cons,List.length_cons];omega
 have:=key F [];simpa [jn.puts] using this
theorem sum_le {α:Type}{g h:α→Nat}:∀ {l:List α},(∀ a∈l,g a≤h a)→(l.map g).sum≤(l.map h).sum
 | [],_=>by simp
 | a::l,q=>by
   rw [List.map_cons,List.map_cons,List.sum_cons,List.sum_cons];have:=q a (by simp);have:=sum_le (l:=l) fun b hb=>q b (by simp [hb])
   omega
theorem sum_mul {α:Type}{g:α→Nat} (c:Nat):∀ l:List α,(l.map fun a=>c*g a).sum=c*(l.map g).sum
 | []=>by simp
 | a::l=>by
   rw [List.map_cons,List.map_cons,List.sum_cons,List.sum_cons,sum_mul c l,Nat.mul_add]
def Sub {α:Type} (a b:Nat→(α × Nat) ⊕ (Nat × Nat)):Prop:=∀ k r,a k=.inl r→b k=.inl r
theorem le_fold:∀ (l:List Nat) (m:Nat),m≤l.foldl max m∧∀ x∈l,x≤l.foldl max m
 | [],m=>⟨Nat.le_refl _,fun x hx=>by cases hx⟩
 | y::l,m=>by
   obtain ⟨h1,h2⟩:=le_fold l (max m y);rw [List.foldl_cons];refine ⟨by omega,fun x hx=>?_⟩
   rcases List.mem_cons.1 hx with rfl|hx
   · omega
   · exact h2 x hx
theorem pf_deep {n:Nat}{v:JT} (h:Pf n v):∀ m,dpt v≤m→Pf m v:=by
 induction h with
 | null n=>exact fun m _=>.null m
 | truth n b=>exact fun m _=>.truth m b
 | num n h hz=>exact fun m _=>.num m h hz
 | text n h hz=>exact fun m _=>.text m h hz
 | @list n l h hz ih =>
   intro m hm;rw [dpt_mk,if_pos rfl] at hm;obtain ⟨m,rfl⟩:∃ k,m=k+1:=⟨m - 1,by omega⟩;refine .list (fun v hv=>ih v hv m ?_) hz;have:=(le_fold (l.map dpt) 0).2 _ (List.mem_map.2 ⟨v,hv,rfl⟩);omega
 | @obj n f hn hr h hz ih =>
   intro m hm;rw [dpt_mk,if_neg (by decide),if_pos rfl] at hm;have ec:cnt f=f:=by unfold cnt;rw [pf_cl hn,jn.puts_ris f hr]
   rw [ec] at hm;obtain ⟨m,rfl⟩:∃ k,m=k+1:=⟨m - 1,by omega⟩;refine .obj hn hr (fun p hp=>ih p hp m ?_) hz;have:=(le_fold ((f.map Prod.snd).map dpt) 0).2 _ (List.mem_map.2 ⟨p.2,List.mem_map.2 ⟨p,hp,rfl⟩,rfl⟩);omega
theorem parse_sound {n:Nat}{v:JT} (h:Pf n v) (hs:dpt v≤64∧(prt v).length≤1048576):parseJ ⟨(prt v).toArray⟩=.inl v:=parse_prt (pf_deep h 64 hs.1) hs.2
theorem cnt_pf {F:List (ByteArray × JT)} (hn:∀ p∈F,Ltc p.1.data.toList∧p.1.size≤1000000000) (hr:jn.Ris F):cnt F=F:=by
 unfold cnt;rw [pf_cl hn,jn.puts_ris F hr]
theorem dpt_nrm (n:Nat):∀ v,SizeOf.sizeOf v < n→∀ m,Pf m (nrm v)→dpt (nrm v)=dpt v:=by
 induction n with
 | zero=>intro v h;omega
 | succ n IH =>
   intro v hn m hp
   cases v with
   | mk k t d x l f =>
     rw [nrm_mk] at hp ⊢
     by_cases e1:k=1
     · rw [if_pos e1]
       subst e1;rw [dpt_mk,dpt_mk,if_neg (by decide),if_neg (by decide),if_neg (by decide),if_neg (by decide)]
     rw [if_neg e1] at hp ⊢
     by_cases e2:k=2
     · rw [if_pos e2]
       subst e2;rw [dpt_mk,dpt_mk,if_neg (by decide),if_neg (by decide),if_neg (by decide),if_neg (by decide)]
     rw [if_neg e2] at hp ⊢
     by_cases e3:k=3
     · rw [if_pos e3]
       subst e3;rw [dpt_mk,dpt_mk,if_neg (by decide),if_neg (by decide),if_neg (by decide),if_neg (by decide)]
     rw [if_neg e3] at hp ⊢
     by_cases e4:k=4
     · rw [if_pos e4] at hp ⊢
       subst e4
       have hl:∀ v∈l,∃ q,Pf q (nrm v):=fun v hv=>by
        cases hp with
        | list h _=>exact ⟨_,h _ (List.mem_map.2 ⟨v,hv,rfl⟩)⟩
       rw [dpt_mk,dpt_mk,if_pos rfl,if_pos rfl,List.map_map]
       congr 2
       exact List.map_congr_left fun v hv=>by
        obtain ⟨q,hq⟩:=hl v hv;exact IH v (by have:=sz_l (k:=4) (t:=t) (d:=d) (x:=x) (f:=f) hv;omega) q hq
     rw [if_neg e4] at hp ⊢
     by_cases e5:k=5
     · rw [if_pos e5,← cnt_nrm] at hp ⊢
       subst e5;have hp2:=hp
       cases hp2 with
       | @obj q F hn hr h hz =>
         have ec:=cnt_pf hn hr;rw [dpt_mk,dpt_mk,if_neg (by decide),if_pos rfl,if_neg (by decide),if_pos rfl,ec,List.map_map,List.map_map,List.map_map]
         congr 2
         refine List.map_congr_left fun p hpm=>?_
         have hmem:∃ r∈f,r.2=p.2:=by
          unfold cnt at hpm;obtain ⟨r,hr1,e⟩:=List.mem_map.1 (mem_puts _ p hpm);exact ⟨r,hr1,by rw [← e]⟩
         obtain ⟨r,hr1,e⟩:=hmem;exact IH p.2 (by rw [← e];have:=sz_f (k:=5) (t:=t) (d:=d) (x:=x) (l:=l) hr1;omega) q (h _ (List.mem_map.2 ⟨p,hpm,rfl⟩))
     rw [if_neg e5];rw [dpt_mk,if_neg e4,if_neg e5];unfold null;rw [dpt_mk];rfl
theorem itoaB_few (n:Int) (h0:-9999≤n) (h1:n≤9999):(itoaB n).size≤21:=by
 have e:(itoaB n).size=(Lib.itoa n).length:=by unfold itoaB;exact List.size_toArray
 rw [e];exact Lib.itoa_length_le n (by omega) (by omega)
theorem txt_few (n:Dn) (h:Whole1 n):(textOf n).size≤n.dg.size+30:=by
 have hx:-9999≤n.ex∧n.ex≤9999:=by
  rcases h with rfl|h
  · exact ⟨by decide,by decide⟩
  · exact ⟨h.e0,h.e1⟩
 have:=itoaB_few n.ex hx.1 hx.2;have e1:(⟨#[45]⟩:ByteArray).size=1:=rfl;have e2:(⟨#[101]⟩:ByteArray).size=1:=rfl;unfold textOf
 split
 · have:(⟨#[48]⟩:ByteArray).size=1:=rfl
   omega
 · split
   · split
     · rw [ByteArray.size_append];omega
     · omega
   · split
     · rw [ByteArray.size_append,ByteArray.size_append,ByteArray.size_append];omega
     · rw [ByteArray.size_append,ByteArray.size_append];omega
theorem light_few (n:Nat):∀ v,SizeOf.sizeOf v < n→cntV v≤100000000→Pf (cntV v) (nrm v)∧cst (nrm v)+100≤400*cntV v:=by
 induction n with
 | zero=>intro v h;omega
 | succ n IH =>
   intro v hn hc
   cases v with
   | mk k t d x l f =>
     have e0:(⟨#[]⟩:ByteArray).size=0:=rfl;have hlf:∀ v∈l,Pf (cntV v) (nrm v)∧cst (nrm v)+100≤400*cntV v:=fun v hv=>IH v (by have:=sz_l (k:=k) (t:=t) (d:=d) (x:=x) (f:=f) hv;omega) (by have:=cnt_l (k:=k) (t:=t) (d:=d) (x:=x) (f:=f) hv;omega)
     have hff:∀ p∈f,Pf (cntV p.2) (nrm p.2)∧cst (nrm p.2)+100≤400*cntV p.2:=fun p hp=>IH p.2 (by have:=sz_f (k:=k) (t:=t) (d:=d) (x:=x) (l:=l) hp;omega) (by have:=cnt_f (k:=k) (t:=t) (d:=d) (x:=x) (l:=l) hp;omega)
     have hcl:∀ v∈l,cntV v+1≤cntV (.mk k t d x l f):=fun v hv=>cnt_l hv
     have hcf:∀ p∈f,cntV p.2+p.1.size+1≤cntV (.mk k t d x l f):=fun p hp=>cnt_f hp
     have hmk:=cntV_mk k t d x l f;generalize cntV (.mk k t d x l f)=C at *;rw [nrm_mk]
     by_cases e1:k=1
     · rw [if_pos e1]
       refine ⟨.truth C t,?_⟩;show cst (leaf 1 t zed ⟨#[]⟩)+100≤_;rw [cst_leaf,txt_zed];omega
     rw [if_neg e1]
     by_cases e2:k=2
     · rw [if_pos e2]
       obtain ⟨w1,w2⟩:=norm_ok d;refine ⟨.num C w1 (by omega),?_⟩;show cst (leaf 2 false (norm d) ⟨#[]⟩)+100≤_;have:=txt_few _ w1;rw [cst_leaf,wh.whole_id w1];omega
     rw [if_neg e2]
     by_cases e3:k=3
     · rw [if_pos e3]
       obtain ⟨w1,w2⟩:=clean_ltc x;refine ⟨.text C w1 (by omega),?_⟩;show cst (leaf 3 false zed (pt.clean x))+100≤_;rw [cst_leaf,txt_zed];omega
     rw [if_neg e3]
     by_cases e4:k=4
     · rw [if_pos e4]
       refine ⟨?_,?_⟩
       · obtain ⟨C,rfl⟩:∃ q,C=q+1:=⟨C - 1,by omega⟩
         refine .list (fun v hv=>?_) (by rw [List.length_map];omega);obtain ⟨u,hu,rfl⟩:=List.mem_map.1 hv;exact pf_mono (hlf u hu).1 C (by have:=hcl u hu;omega)
       · rw [cst_mk,txt_zed]
         simp only [List.map_nil,List.sum_nil,List.length_nil,List.length_map,List.map_map];have h1:(l.map (cst ∘ nrm)).sum≤(l.map fun v=>400*cntV v).sum:=sum_le fun v hv=>by have:=(hlf v hv).2;simp only [Function.comp_def];omega
         rw [sum_mul] at h1;omega
     rw [if_neg e4]
     by_cases e5:k=5
     · rw [if_pos e5]
       obtain ⟨p1,p2⟩:=ss.puts_fst (f.map fun p=>(pt.clean p.1,nrm p.2))
       have hmem:∀ p∈jn.puts (f.map fun p=>(pt.clean p.1,nrm p.2)),∃ q∈f,p=(pt.clean q.1,nrm q.2):=fun p hp=>by
        obtain ⟨q,hq,e⟩:=List.mem_map.1 (mem_puts _ p hp);exact ⟨q,hq,e.symm⟩
       obtain ⟨s1,s2⟩:=puts_sum (fun p:ByteArray × JT=>cst p.2+6*p.1.size+30) (f.map fun p=>(pt.clean p.1,nrm p.2));rw [List.length_map] at s2;refine ⟨?_,?_⟩
       · obtain ⟨C,rfl⟩:∃ q,C=q+1:=⟨C - 1,by omega⟩
         refine .obj (fun p hp=>?_) p2 (fun p hp=>?_) (by omega)
         · obtain ⟨q,hq,rfl⟩:=hmem p hp
           obtain ⟨w1,w2⟩:=clean_ltc q.1;exact ⟨w1,by have:=hcf q hq;simp only;omega⟩
         · obtain ⟨q,hq,rfl⟩:=hmem p hp
           exact pf_mono (hff q hq).1 C (by have:=hcf q hq;omega)
       · rw [cst_mk,txt_zed]
         simp only [List.map_nil,List.sum_nil,List.length_nil];rw [List.map_map] at s1
         have h1:(f.map ((fun p:ByteArray × JT=>cst p.2+6*p.1.size+30) ∘ fun p=>(pt.clean p.1,nrm p.2))).sum≤(f.map fun p=>400*(p.1.size+cntV p.2)).sum:=sum_le fun p hp=>by
          have h3:=(hff p hp).2;have h4:=(clean_ltc p.1).2;simp only [Function.comp_def];omega
         rw [sum_mul] at h1;omega
     rw [if_neg e5];refine ⟨.null C,?_⟩;show cst (leaf 0 false zed ⟨#[]⟩)+100≤_;rw [cst_leaf,txt_zed];omega
def dpL (l:List JT) (f:List (ByteArray × JT)):Nat:=((f.map Prod.snd).map dpt).foldl max ((l.map dpt).foldl max 0)
theorem boxF_two (w:World) (ca cb:List Value):FX ((w.alloc (.cells ca.toArray 70)).alloc (.cells cb.toArray 70)) w.heap.size ca∧FX ((w.alloc (.cells ca.toArray 70)).alloc (.cells cb.toArray 70)) (w.heap.size+1) cb ∧
 Below w.heap.size w ((w.alloc (.cells ca.toArray 70)).alloc (.cells cb.toArray 70)):=by
 refine ⟨?_,?_,((Below.refl w.heap.size w).alloc (Nat.le_refl _) _).alloc (by simp) _⟩
 · unfold FX
   rw [Below.heap_alloc _ _ _ (by simp)];exact heap_alloc_new w _
 · have:=heap_alloc_new (w.alloc (.cells ca.toArray 70)) (.cells cb.toArray 70)
   rwa [World.size_alloc] at this
theorem vr_lens {w:World}{k:Int}{t:Bool}{d:Dn}{x:ByteArray}{l:List JT}{f:List (ByteArray × JT)}{cs:List Value} (h:VR w (JT.mk k t d x l f) cs):l.length≤maxLen∧f.length≤maxLen:=by
 cases h with
 | mk hl hf _ _ _ _ =>
   obtain ⟨_,_,_,q1,q2⟩:=mm.SV.form hl;obtain ⟨_,_,_,q3,q4⟩:=mm.SV.form hf;exact ⟨by omega,by omega⟩
set_option maxHeartbeats 6400000 in
set_option maxRecDepth 1000000 in
theorem same1_any (nb fb:Nat) (nm:ByteArray) (v:JT) (nm':ByteArray) (v':JT) (H:SmC nb fb v v'):SfC nb fb nm v nm' v':=by
 intro c c' w ha hb h1 h2;obtain ⟨a0,a1,a2,a3,a4,a5,a6,a7,a8,a9,aa,ab,rfl⟩:=ha.form;obtain ⟨b0,b1,b2,b3,b4,b5,b6,b7,b8,b9,ba,bb,rfl⟩:=hb.form;have CL:=hide (fun u (hu:Below w.heap.size w u)=>H _ _ u (ha.keep hu) (hb.keep hu) (kc hu h1) (kc hu h2));have B2:=hide (boxF_two w [.string nm,.int .i64 a0,.bool a1,.bool a2,.string a3,.int .i64 a4,.string a5,.slice a6 a7 a8,.slice a9 aa ab] [.string nm',.int .i64 b0,.bool b1,.bool b2,.string b3,.int .i64 b4,.string b5,.slice b6 b7 b8,.slice b9 ba bb]);have H1:=hide h1;clear ha hb h1 h2 H
 go_enter Tryz.func127,Tryz.ntmps127
 go_upto_region 1 with fail;obtain ⟨q0,q1,q2⟩:=uh B2;generalize (w.alloc (.cells [.string nm,.int .i64 a0,.bool a1,.bool a2,.string a3,.int .i64 a4,.string a5,.slice a6 a7 a8,.slice a9 aa ab].toArray 70)).alloc (.cells [.string nm',.int .i64 b0,.bool b1,.bool b2,.string b3,.int .i64 b4,.string b5,.slice b6 b7 b8,.slice b9 ba bb].toArray 70)=W at *;obtain ⟨y0,y1,y2,y3,y4,y5,y6,y7,y8⟩:=q0.cells;obtain ⟨z0,z1,z2,z3,z4,z5,z6,z7,z8⟩:=q1.cells;have n1:=kc q2 (uh H1);unfold smV at n1;have CW:=hide (uh CL W q2);have HB:=hide q2;clear q0 q1 q2 B2 CL;have eg:=enter_same2
 by_cases e:nm=nm'
 · subst e
   go_wp2_with (go_at_call 128;refine (uh CW).mono ?_;rintro e u4 ⟨bb,rfl,hbb,hb5⟩)
   go_ret;exact ⟨bb,rfl,by simpa using hbb,(uh HB).trans (hb5.mono (uh HB).size)⟩
 · have e':¬ nm.toList=nm'.toList:=fun q=>e (ba_inj q)
   go_wp2;go_ret;exact ⟨false,rfl,by simp [e],uh HB⟩
set_option maxHeartbeats 25600000 in
set_option maxRecDepth 1000000 in
theorem same2_any (nb fb:Nat) (n:Nat):∀ v v',SizeOf.sizeOf v < n→SmC nb fb v v':=by
 induction n with
 | zero=>intro v v' h;omega
 | succ n IH =>
   intro v v' hn c c' w ha hb h1 h2
   cases v with
   | mk k t d x l f =>
     cases v' with
     | mk k' t' d' x' l' f' =>
       obtain ⟨oa,ca,of,cf,rfl⟩:=ha.parts;obtain ⟨ob,cb,og,cg,rfl⟩:=hb.parts;obtain ⟨hml,hmf⟩:=vr_lens ha;obtain ⟨dn,dg,dx⟩:=d;obtain ⟨dn',dg',dx'⟩:=d';have C1:=hide (fun u (hu:Below w.heap.size w u)=>eqV_any (ha.keep hu) (hb.keep hu) (kc hu h1) (kc hu h2) hml (fun v hv v'=>IH v v' (by have:=sz_l (k:=k) (t:=t) (d:=⟨dn,dg,dx⟩) (x:=x) (f:=f) hv;omega)));have C2:=hide (fun u (hu:Below w.heap.size w u)=>eqF_any (ha.keep hu) (hb.keep hu) (kc hu h1) (kc hu h2) hmf (fun nm v hv nm' v'=>same1_any nb fb nm v nm' v' (IH v v' (by have:=sz_f (k:=k) (t:=t) (d:=⟨dn,dg,dx⟩) (x:=x) (l:=l) hv;simp only at this;omega))));have B2:=hide (box_two w [.int .i64 k,.bool t,.bool dn,.string dg,.int .i64 dx,.string x,.slice oa l.length ca,.slice of f.length cf] [.int .i64 k',.bool t',.bool dn',.string dg',.int .i64 dx',.string x',.slice ob l'.length cb,.slice og f'.length cg]);have H1:=hide h1;have H2:=hide h2;unfold smV at C1;unfold smFV at C2;clear ha hb h1 h2 IH hn hml hmf
       go_enter Tryz.func128,Tryz.ntmps128
       go_upto_region 1 with fail;obtain ⟨q0,q1,q2⟩:=uh B2;generalize (w.alloc (.cells [.int .i64 k,.bool t,.bool dn,.string dg,.int .i64 dx,.string x,.slice oa l.length ca,.slice of f.length cf].toArray 28)).alloc (.cells [.int .i64 k',.bool t',.bool dn',.string dg',.int .i64 dx',.string x',.slice ob l'.length cb,.slice og f'.length cg].toArray 28)=W at *;obtain ⟨y0,y1,y2,y3,y4,y5,y6,y7⟩:=q0.cells;obtain ⟨z0,z1,z2,z3,z4,z5,z6,z7⟩:=q1.cells;have n1:=kc q2 (uh H1);have n2:=kc q2 (uh H2);unfold smV at n1;unfold smFV at n2;have CW:=hide (uh C1 W q2);have HB:=hide q2;have X0:=hide q0;have X1:=hide q1;clear q0 q1 q2 B2 C1
       by_cases e1:k=k'
       · subst e1
         by_cases e2:t=t'
         · subst e2
           by_cases e3:dn=dn'
           · subst e3
             by_cases e4:dg=dg'
             · subst e4
               by_cases e5:dx=dx'
               · subst e5
                 by_cases e6:x=x'
                 · subst e6
                   go_wp2_with (first
                    | (go_at_call 129;refine (uh CW).mono ?_;rintro e u1 ⟨b1,rfl,hb1,hl1⟩
                       have HB1:=hide hb1;have HL1:=hide ((uh HB).trans (hl1.mono (uh HB).size));have CF:=hide (uh C2 u1 (uh HL1));obtain ⟨y0,y1,y2,y3,y4,y5,y6,y7⟩:=((uh X0).keep hl1 (blk_lt (uh X0))).cells;obtain ⟨z0,z1,z2,z3,z4,z5,z6,z7⟩:=((uh X1).keep hl1 (blk_lt (uh X1))).cells;have n2:=kc (uh HL1) (uh H2);unfold smFV at n2;clear hb1 hl1 CW
                       cases b1)
                    | (go_at_call 130;refine (uh CF).mono ?_;rintro e u2 ⟨b2,rfl,hb2,hl2⟩
                       have HB2:=hide hb2;have HL2:=hide ((uh HL1).trans (hl2.mono (uh HL1).size))
                       clear hb2 hl2 CF))
                   · go_ret
                     refine ⟨false,rfl,?_,uh HL1⟩;simp only [Bool.false_eq_true,false_iff,JT.mk.injEq];rintro ⟨_,_,_,_,q,_⟩;have:=(uh HB1).2 q
                     cases this
                   · go_ret
                     refine ⟨b2,rfl,?_,uh HL2⟩;rw [uh HB2];simp only [JT.mk.injEq,true_and];exact ⟨fun q=>⟨(uh HB1).1 (by simp),q⟩,fun q=>q.2⟩
                 · have e6':¬ x.toList=x'.toList:=fun q=>e6 (ba_inj q)
                   go_wp2;go_ret;exact ⟨false,rfl,by simp [e6],uh HB⟩
               · go_wp2
                 go_ret;exact ⟨false,rfl,by simp [e5],uh HB⟩
             · have e4':¬ dg.toList=dg'.toList:=fun q=>e4 (ba_inj q)
               go_wp2;go_ret;exact ⟨false,rfl,by simp [e4],uh HB⟩
           · go_wp2
             go_ret;exact ⟨false,rfl,by simp [e3],uh HB⟩
         · go_wp2
           go_ret;exact ⟨false,rfl,by simp [e2],uh HB⟩
       · go_wp2
         go_ret;exact ⟨false,rfl,by simp [e1],uh HB⟩
set_option maxHeartbeats 6400000 in
set_option maxRecDepth 1000000 in
theorem jsame_any (va vb:JT) (ba:Bd va) (bb:Bd vb) (ga:Gd va) (gb:Gd vb) (ca cb:List Value) (w:World) (ha:VR w va ca) (hb:VR w vb cb) :
 Calls Tryz.prog 108 #[.agg ca.toArray,.agg cb.toArray] w (EQP w (nrm va=nrm vb)):=by
 obtain ⟨a0,a1,a2,a3,a4,a5,a6,a7,a8,a9,aa,ab,rfl⟩:=ha.form;obtain ⟨b0,b1,b2,b3,b4,b5,b6,b7,b8,b9,ba',bb',rfl⟩:=hb.form;have HA:=hide (fun u (hu:Below w.heap.size w u)=>jnorm_any va ba ga _ u (ha.keep hu));have HB:=hide (fun u (hu:Below w.heap.size w u)=>jnorm_any vb bb gb _ u (hb.keep hu));generalize nrm va=na at *;generalize nrm vb=nb at *;have SW:=hide (same_world w [.int .i64 a0,.bool a1,.bool a2,.string a3,.int .i64 a4,.string a5,.slice a6 a7 a8,.slice a9 aa ab] [.int .i64 b0,.bool b1,.bool b2,.string b3,.int .i64 b4,.string b5,.slice b6 b7 b8,.slice b9 ba' bb'] 68 165);have CZ:=hide (fun (n:Nat) (c c':List Value) (u:World) (h1:VR u na c) (h2:VR u nb c') h3 h4=>same2_any n (n+1) _ na nb (Nat.lt_succ_self _) c c' u h1 h2 h3 h4);unfold smV smFV at SW;clear ba bb ga gb ha hb
 go_enter Tryz.func108,Tryz.ntmps108
 go_upto_region 4 with fail;obtain ⟨r1,r2,r3,r4,r5,r6⟩:=uh SW _ rfl;generalize (((w.alloc (.cells [.int .i64 a0,.bool a1,.bool a2,.string a3,.int .i64 a4,.string a5,.slice a6 a7 a8,.slice a9 aa ab].toArray 28)).alloc (.cells [.int .i64 b0,.bool b1,.bool b2,.string b3,.int .i64 b4,.string b5,.slice b6 b7 b8,.slice b9 ba' bb'].toArray 28)).alloc (.cells #[.func (.func 128) #[] #[.pointer (some ⟨w.heap.size+1+1,0,none⟩),.pointer (some ⟨w.heap.size+1+1+1,0,none⟩)]] 68)).alloc (.cells #[.func (.func 127) #[] #[.pointer (some ⟨w.heap.size+1+1,0,none⟩)]] 165)=W at *;obtain ⟨y0,y1,y2,y3,y4,y5,y6,y7⟩:=r1.cells;obtain ⟨z0,z1,z2,z3,z4,z5,z6,z7⟩:=r2.cells;have hdr:Below W.heap.size W W.drew:=⟨rfl,rfl,rfl,Nat.le_refl _,fun _ _=>rfl⟩;have CA:=hide (uh HA W.drew (r6.trans (hdr.mono (by omega))));have CBB:=hide (fun u (hu:Below W.heap.size W u)=>uh HB u (r6.trans (hu.mono (by omega))));have R2:=hide r2;have R3:=hide r3;have R4:=hide r4;have R5:=hide r5;have R6:=hide r6;have eg:=enter_same2;clear r1 r2 r4 r5 r6 hdr SW HA HB
 go_region_law (first
  | (go_simp;go_at_call 96;refine (uh CA).mono ?_;rintro e u2 ⟨cs,pp,rfl,hr,hpn,hbl2⟩
     have hb3:Below W.heap.size W u2:=⟨hbl2.os,hbl2.tape,hbl2.output,hbl2.size,hbl2.block⟩;have HR:=hide hr.vr;obtain ⟨c0,c1,c2,c3,c4,c5,c6,c7,c8,c9,ca,cb,rfl⟩:=hr.vr.form;have n2:=kc hb3 (uh R3);obtain ⟨x0,x1,x2,x3,x4,x5,x6,x7⟩:=((uh R2).keep hb3 (by have:=uh R5;omega)).cells
     have CB:=hide (uh CBB u2 hb3))
  | (go_simp;go_at_call 96;refine (uh CB).mono ?_;rintro e u3 ⟨cs',pp',rfl,hr',hpn',hbl3⟩
     have hb4:Below W.heap.size W u3:=hb3.trans (hbl3.mono hb3.size);have n3:=kc hb4 (uh R3)
     have CS:=hide (uh CZ _ _ _ u3 ((uh HR).keep hbl3) hr'.vr (kc hb4 (uh R3)) (kc hb4 (uh R4))))
  | (go_simp;go_at_call 128;refine (uh CS).mono ?_;rintro e u4 ⟨bz,rfl,hbz,hb5⟩))
 all_goals clear y0 y1 y2 y3 y4 y5 y6 y7 z0 z1 z2 z3 z4 z5 z6 z7 r3
 all_goals
  go_wp2;go_ret;have hz:=uh R5;exact ⟨bz,rfl,hbz,(uh R6).trans ((hb4.mono (by omega)).trans (hb5.mono (by have:=hb4.size;omega)))⟩
theorem sum_snoc {α:Type} (g:α→Nat) (l:List α) (i:Nat) (v:α) (h:l[i]?=some v):((l.take (i+1)).map g).sum=((l.take i).map g).sum+g v:=by
 rw [take_succ' h,List.map_append,List.sum_append_nat];simp
def MP (n c:Nat) (w:World) (e:Ending) (w':World):Prop:=∃ r:Nat,e=.returned (.int .i64 (r:Int))∧(r≤4194304→r=n+c)∧r≤100000000000000∧Below w.heap.size w w'
end Go.Proofs.YthnhobplgmojeaaGreatDoor.rd
