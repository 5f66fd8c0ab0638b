/- Texts in one: Fo5 Pg3 -/
import Derived.Test.YthakglomacijgaaGreatDoorFo4P
import Derived.Test.YthakglomacijgaaGreatDoorFo3P
import Derived.Test.YthakglomacijgaaGreatDoorWkP
import Derived.Test.YthakglomacijgaaGreatDoorSqP
namespace Go.Proofs.YthakglomacijgaaGreatDoor.rd
open Go.RowKit
theorem fd_of2:∀ (f:List (ByteArray × JT)) (gss:List (List Value)),gss.length=f.length→(∀ c∈gss,V8 c) →
 ∃ D:List Fd,D.length=f.length∧D.flatMap encF=fcs f gss∧∀ (i:Nat) (p:ByteArray × JT) (c:List Value),f[i]?=some p→gss[i]?=some c→∃ x,D[i]?=some x∧x.nm=p.1∧encF (ss.sd x)=.string (said p.1)::c
 | [],_,_,_=>⟨[],rfl,rfl,fun i p c h=>by simp at h⟩
 | _::_,[],h,_=>by simp at h
 | p::f,c::gss,h,hv=>by
   obtain ⟨D,e1,e2,e3⟩:=fd_of2 f gss (by simpa using h) (fun c hc=>hv c (by simp [hc]))
   obtain ⟨kk,tt,ng,dg,ex,xx,q1,n1,m1,q2,n2,m2,rfl⟩:=hv c (by simp)
   refine ⟨⟨p.1,kk,tt,ng,dg,ex,xx,q1,n1,m1,q2,n2,m2⟩::D,by simp [e1],?_,fun i p' c' h1 h2=>?_⟩
   · rw [List.flatMap_cons,e2,fcs_cons];rfl
   · cases i with
     | zero =>
       simp only [List.getElem?_cons_zero,Option.some.injEq] at h1 h2
       subst h1 h2
       exact ⟨_,rfl,rfl,rfl⟩
     | succ i =>
       simp only [List.getElem?_cons_succ] at h1 h2 ⊢
       exact e3 i p' c' h1 h2
theorem fcs_each {β:Type} (a:β→ByteArray × JT) (b:β→List Value):∀ K:List β,fcs (K.map a) (K.map b)=K.flatMap fun i=>.string (a i).1::b i
 | []=>rfl
 | i::K=>by rw [List.map_cons,List.map_cons,fcs_cons,fcs_each a b K,List.flatMap_cons]
theorem fok_all (f:List (ByteArray × JT)) (hl:f.length≤1000000000) (hn:∀ p∈f,p.1.size≤35184372088832):FOk f:=by
 intro k t d x l cs w u h hb
 cases h with
 | @mk k t d x l f lv fv css gss hlv hf h1 h3 hle hfe =>
   have hv8:∀ c∈gss,V8 c:=by
    intro c hcm
    obtain ⟨j,hj⟩:=List.getElem?_of_mem hcm
    obtain ⟨hlt,_⟩:=List.getElem?_eq_some_iff.1 hj
    exact (hfe j f[j].1 f[j].2 c (List.getElem?_eq_getElem (by omega)) hj).v8
   obtain ⟨D,e1,e2,e3⟩:=fd_of2 f gss h3 hv8
   have hsv:=hf.keep hb
   rw [← e1,← e2] at hsv
   have at_:∀ i,i < f.length→∃ x,D[i]?=some x∧x.nm=(f[i]?.getD (⟨#[]⟩,null)).1∧encF (ss.sd x)=.string (pt.clean (f[i]?.getD (⟨#[]⟩,null)).1)::gss[i]?.getD []:=fun i hi=>by
    obtain ⟨x,q1,q2,q3⟩:=e3 i f[i] gss[i] (List.getElem?_eq_getElem hi) (List.getElem?_eq_getElem (by omega))
    rw [List.getElem?_eq_getElem hi,List.getElem?_eq_getElem (show i < gss.length by omega)]
    exact ⟨x,q1,q2,by rw [q3,pt.said_clean];rfl⟩
   have hz:∀ y∈D,y.nm.size≤35184372088832:=by
    intro y hy
    obtain ⟨i,hi⟩:=List.getElem?_of_mem hy
    obtain ⟨hlt,_⟩:=List.getElem?_eq_some_iff.1 hi
    obtain ⟨x,q1,q2,_⟩:=at_ i (by omega)
    rw [hi] at q1
    cases q1
    rw [q2,List.getElem?_eq_getElem (show i < f.length by omega)]
    exact hn _ (List.getElem_mem _)
   have fdI_at:∀ i,i < f.length→encF (ss.fdI (D.map ss.sd) i)=.string (pt.clean (f[i]?.getD (⟨#[]⟩,null)).1)::gss[i]?.getD []∧(ss.fdI (D.map ss.sd) i).nm=pt.clean (f[i]?.getD (⟨#[]⟩,null)).1:=fun i hi=>by
    obtain ⟨x,q1,q2,q3⟩:=at_ i hi
    have e:ss.fdI (D.map ss.sd) i=ss.sd x:=by
     unfold ss.fdI
     rw [List.getD_eq_getElem?_getD,List.getElem?_map,q1]
     rfl
    rw [e]
    refine ⟨q3,?_⟩
    have:=(List.cons.inj q3).1
    simpa using this
   have hDl:(D.map ss.sd).length=f.length:=by rw [List.length_map,e1]
   have hkm:∀ i∈ss.kp (D.map ss.sd),i < f.length:=fun i hi=>by
    have:=((ss.keeps_iff (D.map ss.sd)).1 hi).1
    omega
   have hG:(ss.kp (D.map ss.sd)).map (fun i=>(pt.clean (f[i]?.getD (⟨#[]⟩,null)).1,(f[i]?.getD (⟨#[]⟩,null)).2))=cnt f:=by
    refine ss.kept_puts (D.map ss.sd) (F:=f.map fun p=>(pt.clean p.1,p.2)) (by rw [List.length_map,hDl]) (fun i p hp=>?_) _ ?_
    · rw [List.getElem?_map] at hp
      cases hq:f[i]? with
      | none=>rw [hq] at hp;simp at hp
      | some q =>
        obtain ⟨hlt,_⟩:=List.getElem?_eq_some_iff.1 hq
        have:=(fdI_at i hlt).2
        rw [hq] at hp this
        simp only [Option.map_some,Option.some.injEq] at hp
        subst hp
        exact this.symm
    · rw [List.map_map]
      refine List.map_congr_left fun i hi=>?_
      have hlt:=hkm i hi
      show some (pt.clean (f[i]?.getD (⟨#[]⟩,null)).1,(f[i]?.getD (⟨#[]⟩,null)).2)=(f.map fun p=>(pt.clean p.1,p.2))[i]?
      rw [List.getElem?_map,List.getElem?_eq_getElem hlt]
      rfl
   refine (ss.fieldsOf_all (.int .i64 k) (.bool t) (.bool d.neg) (.string d.dg) (.int .i64 d.ex) (.string x) lv fv u hsv (by omega) hz).mono ?_
   rintro e w' ⟨sv,rfl,ho,hbl⟩
   rw [← hG]
   refine ⟨sv,(ss.kp (D.map ss.sd)).map fun i=>gss[i]?.getD [],rfl,?_,by simp,?_,hbl⟩
   · rw [List.length_map,fcs_each]
     have e5:((ss.kp (D.map ss.sd)).map (ss.fdI (D.map ss.sd))).flatMap encF=(ss.kp (D.map ss.sd)).flatMap fun i=>.string (pt.clean (f[i]?.getD (⟨#[]⟩,null)).1)::gss[i]?.getD []:=by
      rw [List.flatMap_map]
      rw [List.flatMap_def,List.flatMap_def,List.map_congr_left fun i hi=>(fdI_at i (hkm i hi)).1]
     rw [← e5]
     exact owns_base ho (Nat.le_succ _)
   · intro j p c hp hc
     rw [List.getElem?_map] at hp hc
     cases hq:(ss.kp (D.map ss.sd))[j]? with
     | none=>rw [hq] at hp;simp at hp
     | some i =>
       rw [hq] at hp hc
       simp only [Option.map_some,Option.some.injEq] at hp hc
       have hlt:=hkm i (List.mem_of_getElem? hq)
       subst hp hc
       rw [List.getElem?_eq_getElem hlt,List.getElem?_eq_getElem (show i < gss.length by omega)]
       exact hfe i f[i].1 f[i].2 gss[i] (List.getElem?_eq_getElem hlt) (List.getElem?_eq_getElem (by omega))
theorem cst_leaf (k:Int) (t:Bool) (d:Dn) (x:ByteArray):cst (leaf k t d x)=30+(textOf (norm d)).size+6*x.size:=by
 unfold leaf
 rw [cst_mk]
 simp
theorem txt_zed:(textOf (norm zed)).size=1:=by rw [wh.norm_zed];rfl
def Good (s:ByteArray) (n:Nat) (vf:Nat→(JT × Nat) ⊕ (Nat × Nat)):Prop:=∀ k v k',k≤s.size→vf k=.inl (v,k')→Pf n v∧30000*k+cst v+100≤30000*k'
theorem pf_bd {n:Nat}{v:JT} (h:Pf n v):Bd v:=by
 have ez:zed.dg.size≤1099511627776∧(-9223372036854775808≤zed.ex∧zed.ex≤9223372036854775807):=by decide
 have e0:(⟨#[]⟩:ByteArray).size≤35184372088832:=by decide
 induction h with
 | null n=>exact .mk (by decide) ez.1 ez.2 e0 (by simp) (by simp) (by simp) (by simp) (by simp)
 | truth n b=>exact .mk (by decide) ez.1 ez.2 e0 (by simp) (by simp) (by simp) (by simp) (by simp)
 | @num n d h hz =>
   have hx:-9223372036854775808≤d.ex∧d.ex≤9223372036854775807:=by
    rcases h with rfl|h
    · exact ez.2
    · have:=h.e0;have:=h.e1;omega
   exact .mk (by decide) (by omega) hx e0 (by simp) (by simp) (by simp) (by simp) (by simp)
 | text n h hz=>exact .mk (by decide) ez.1 ez.2 (by omega) (by simp) (by simp) (by simp) (by simp) (by simp)
 | list h hz ih=>exact .mk (by decide) ez.1 ez.2 e0 (by omega) (by simp) ih (by simp) (by simp)
 | obj hn hr h hz ih=>exact .mk (by decide) ez.1 ez.2 e0 (by simp) (by omega) (by simp) (fun p hp=>by have:=(hn p hp).2;omega) ih
end Go.Proofs.YthakglomacijgaaGreatDoor.rd
