/- Texts in one: Rq Pq -/
import Derived.Test.YthnhobplgmojeaaGreatDoorToP
import Derived.Deep.Cut
namespace Go.Proofs.YthnhobplgmojeaaGreatDoor.rd
open Go.RowKit
def rpRes (neg:Bool) (all:ByteArray) (ex:Int):Dn × Int :=
 if (oneForm neg (digs all) ex).2 then ((oneForm neg (digs all) ex).1,0) else (zed,4)
def rpEnd (s:ByteArray) (neg:Bool) (all:ByteArray) (k bh:Nat):Dn × Int :=
 if (rex s k).2 then rpRes neg all ((rex s k).1 - bh) else (zed,3)
def rpFrom (s:ByteArray) (neg:Bool) (i:Nat):Dn × Int :=
 if nu.nd s i=0∨(nu.at_ s i=some 48∧1 < nu.nd s i) then (zed,3)
 else if nu.at_ s (i+nu.nd s i)=some 46 then
  (if nu.nd s (i+nu.nd s i+1)=0 then (zed,3)
   else rpEnd s neg (s.extract i (i+nu.nd s i)++s.extract (i+nu.nd s i+1) (i+nu.nd s i+1+nu.nd s (i+nu.nd s i+1))) (i+nu.nd s i+1+nu.nd s (i+nu.nd s i+1)) (nu.nd s (i+nu.nd s i+1)))
 else rpEnd s neg (s.extract i (i+nu.nd s i)) (i+nu.nd s i) 0
def rparse (s:ByteArray):Dn × Int:=if nu.at_ s 0=some 45 then rpFrom s true 1 else rpFrom s false 0
theorem rpEnd_ok {s:ByteArray}{neg:Bool}{all:ByteArray}{k bh:Nat}{ex:Int} (h:rex s k=(ex,true)):rpEnd s neg all k bh=rpRes neg all (ex - bh):=by
 unfold rpEnd;rw [h];exact if_pos rfl
theorem rpEnd_no {s:ByteArray}{neg:Bool}{all:ByteArray}{k bh:Nat}{ex:Int} (h:rex s k=(ex,false)):rpEnd s neg all k bh=(zed,3):=by
 unfold rpEnd;rw [h];exact if_neg Bool.false_ne_true
def fin1 (x:nu.Num):Dn × Int:=if (oneForm x.neg (x.wh++x.fr) (expo x)).2 then ((oneForm x.neg (x.wh++x.fr) (expo x)).1,0) else (zed,4)
def fin (o:Option nu.Num):Dn × Int:=match o with|none=>(zed,3)|some x=>fin1 x
theorem at_past (s:ByteArray) (k:Nat) (h:s.size≤k):nu.at_ s k=none:=by
 unfold nu.at_;apply List.getElem?_eq_none;simpa using h
theorem nd_past (s:ByteArray) (k:Nat) (h:s.size≤k):nu.nd s k=0:=by
 unfold nu.nd;rw [List.drop_eq_nil_of_le (by simpa using h)];rfl
theorem pw_eq (s:ByteArray) (ng:Bool) (j:Nat):nu.pwFirst s ng j=if nu.nd s j=0∨j+nu.nd s j < s.size then none else some (ng,s.extract j (j+nu.nd s j)):=by
 unfold nu.pwFirst
 rcases Nat.lt_or_ge j s.size with h|h
 · rw [nu.at_some s j h]
   simp only
   cases hd:nu.dig s[j] with
   | false=>rw [if_neg Bool.false_ne_true,if_pos (Or.inl (nu.nd_no s j h hd))]
   | true =>
     have e:=nu.nd_yes s j h hd;have e':j+1+nu.nd s (j+1)=j+nu.nd s j:=by omega
     have l:=nu.nd_le s j (by omega);rw [if_pos rfl];unfold nu.pwRest;rw [e']
     by_cases hz:j+nu.nd s j=s.size
     · rw [if_pos hz,if_neg (by omega)]
     · rw [if_neg hz,if_pos (by omega)]
 · rw [at_past s j h,if_pos (Or.inl (nd_past s j h))]
theorem far_step (l:List UInt8) (a b:Int) (hl:∀ c∈l,nu.dig c=true) (h0:0≤a) (h:a=b∨(1000000000000≤a∧1000000000000≤b)) :
 l.foldl pstep a=l.foldl rstep b∨(1000000000000≤l.foldl pstep a∧1000000000000≤l.foldl rstep b):=by
 induction l generalizing a b with
 | nil=>exact h
 | cons c r ih =>
   have hc:48≤c.toNat∧c.toNat≤57:=by
    have:=hl c (by simp);simpa [nu.dig] using this
   simp only [List.foldl_cons];refine ih (pstep a c) (rstep b c) (fun c' hc'=>hl c' (by simp [hc'])) ?_ ?_
   · unfold pstep;split <;> omega
   · unfold pstep rstep
     split <;> split <;> omega
theorem far_size (l:List UInt8) (hl:∀ c∈l,nu.dig c=true):psize l=rsize l∨(1000000000000≤psize l∧1000000000000≤rsize l) :=
 far_step l 0 0 hl (by omega) (Or.inl rfl)
theorem form_far (neg:Bool) (d:ByteArray) (a b:Int) (hd:d.size≤100000000000) (h:a=b∨(20000≤a∧20000≤b)∨(a≤-200000000000∧b≤-200000000000)):oneForm neg d a=oneForm neg d b:=by
 rcases h with h|h|h
 · rw [h]
 · unfold oneForm
   by_cases z:(trimR (trimL d)).size=0
   · rw [if_pos z,if_pos z]
   · rw [if_neg z,if_neg z,if_pos (by omega),if_pos (by omega)]
 · have l1:=trimL_le d
   unfold oneForm
   by_cases z:(trimR (trimL d)).size=0
   · rw [if_pos z,if_pos z]
   · have q:∀ c:Int,c≤-200000000000→(if 9999 < c then (zed,false) else if c+((trimL d).size - (trimR (trimL d)).size) < -9999∨9999 < c+((trimL d).size - (trimR (trimL d)).size) then (zed,false) else (⟨neg,trimR (trimL d),c+((trimL d).size - (trimR (trimL d)).size)⟩,true))=(zed,false):=by
      intro c hc;rw [if_neg (by omega),if_pos (by omega)]
     rw [if_neg z,if_neg z,q a h.1,q b h.2]
theorem digs_self (d:ByteArray) (h:∀ c∈d.data.toList,nu.dig c=true):digs d=d:=by
 unfold digs;rw [List.filter_eq_self.2 h,Array.toArray_toList]
theorem run_dig (s:ByteArray) (i:Nat):∀ c∈(s.extract i (i+nu.nd s i)).data.toList,nu.dig c=true:=by
 intro c hc;rw [nu.pw_list] at hc;exact (List.all_takeWhile (p:=nu.dig) (l:=s.data.toList.drop i) |> List.all_eq_true.1) c hc
theorem fin1_eq (neg:Bool) (wh fr:ByteArray) (pn:Bool) (pw:ByteArray) (e:Int) (bh:Nat) (hbh:bh=fr.size) (hz:(wh++fr).size≤100000000000) (hf:fr.size≤100000000000)
 (hd:∀ c∈(wh++fr).data.toList,nu.dig c=true) (hp:∀ c∈pw.data.toList,nu.dig c=true)
 (he:e=if pn then - rsize pw.data.toList else rsize pw.data.toList):fin1 ⟨neg,wh,fr,pn,pw⟩=rpRes neg (wh++fr) (e - bh):=by
 subst hbh
 have q:oneForm neg (wh++fr) (expo ⟨neg,wh,fr,pn,pw⟩)=oneForm neg (digs (wh++fr)) (e - fr.size):=by
  rw [digs_self _ hd];apply form_far _ _ _ _ hz;subst he;unfold expo;have:=far_size pw.data.toList hp
  cases pn
  · simp only [Bool.false_eq_true,if_false];omega
  · simp only [if_true];omega
 unfold fin1 rpRes;rw [q]
theorem app_dig (a b:ByteArray) (ha:∀ c∈a.data.toList,nu.dig c=true) (hb:∀ c∈b.data.toList,nu.dig c=true):∀ c∈(a++b).data.toList,nu.dig c=true:=by
 intro c hc;rw [ByteArray.data_append,Array.toList_append,List.mem_append] at hc
 rcases hc with h|h
 · exact ha c h
 · exact hb c h
theorem meas_eq (s:ByteArray) (k:Nat) (neg:Bool) (wh fr:ByteArray) (bh:Nat) (hbh:bh=fr.size) (hz:(wh++fr).size≤100000000000) (hf:fr.size≤100000000000)
 (hd:∀ c∈(wh++fr).data.toList,nu.dig c=true):fin (nu.measured s k neg wh fr)=rpEnd s neg (wh++fr) k bh:=by
 have D:∀ (ng:Bool) (j:Nat),rex s k=rexD s ng j→(nu.measured s k neg wh fr=(nu.pwFirst s ng j).map (fun p=>⟨neg,wh,fr,p.1,p.2⟩))→fin (nu.measured s k neg wh fr)=rpEnd s neg (wh++fr) k bh:=by
  intro ng j h1 h2;rw [h2,pw_eq]
  by_cases hq:nu.nd s j=0∨j+nu.nd s j < s.size
  · rw [if_pos hq]
    have:rex s k=(0,false):=by rw [h1];unfold rexD;rw [if_pos hq]
    rw [rpEnd_no this];rfl
  · rw [if_neg hq]
    have r1:(s.extract j (j+nu.nd s j)).data.toList=(s.data.toList.drop j).take (nu.nd s j):=by rw [nu.ext_list,Nat.add_sub_cancel_left]
    have:rex s k=(if ng then - rsize ((s.data.toList.drop j).take (nu.nd s j)) else rsize ((s.data.toList.drop j).take (nu.nd s j)),true):=by rw [h1];unfold rexD;rw [if_neg hq]
    rw [rpEnd_ok this];show fin1 ⟨neg,wh,fr,ng,s.extract j (j+nu.nd s j)⟩=_;exact fin1_eq neg wh fr ng _ _ bh hbh hz hf hd (run_dig s j) (by rw [r1])
 cases hx:nu.at_ s k with
 | none =>
   have h1:rex s k=(0,true):=by unfold rex;rw [hx]
   have h2:nu.measured s k neg wh fr=some ⟨neg,wh,fr,false,.empty⟩:=by unfold nu.measured;rw [hx]
   rw [rpEnd_ok h1,h2];show fin1 _=_;exact fin1_eq neg wh fr false .empty 0 bh hbh hz hf hd (by simp) (by simp [rsize])
 | some c =>
   by_cases hc:c=101∨c=69
   · cases hy:nu.at_ s (k+1) with
     | none =>
       have h1:rex s k=rexD s false (k+1):=by unfold rex;rw [hx];simp only;rw [if_pos hc,hy]
       have h2:nu.measured s k neg wh fr=(nu.pwFirst s false (k+1)).map (fun p=>⟨neg,wh,fr,p.1,p.2⟩):=by
        unfold nu.measured;rw [hx];simp only;rw [if_pos hc];unfold nu.power nu.pwFirst;rw [hy]
       exact D _ _ h1 h2
     | some d =>
       by_cases e1:d=45
       · refine D true (k+2) ?_ ?_
         · unfold rex;rw [hx];simp only;rw [if_pos hc,hy];simp only;rw [if_pos e1]
         · unfold nu.measured;rw [hx];simp only;rw [if_pos hc];unfold nu.power;rw [hy];simp only;rw [if_pos e1]
       · by_cases e2:d=43
         · refine D false (k+2) ?_ ?_
           · unfold rex;rw [hx];simp only;rw [if_pos hc,hy];simp only;rw [if_neg e1,if_pos e2]
           · unfold nu.measured;rw [hx];simp only;rw [if_pos hc];unfold nu.power;rw [hy];simp only;rw [if_neg e1,if_pos e2]
         · refine D false (k+1) ?_ ?_
           · unfold rex;rw [hx];simp only;rw [if_pos hc,hy];simp only;rw [if_neg e1,if_neg e2]
           · unfold nu.measured;rw [hx];simp only;rw [if_pos hc];unfold nu.power;rw [hy];simp only;rw [if_neg e1,if_neg e2]
   · have h1:rex s k=(0,false):=by unfold rex;rw [hx];simp only;rw [if_neg hc]
     have h2:nu.measured s k neg wh fr=none:=by unfold nu.measured;rw [hx];simp only;rw [if_neg hc]
     rw [rpEnd_no h1,h2];rfl
theorem ext_len (s:ByteArray) (i j:Nat) (h1:i≤j) (h2:j≤s.size):(s.extract i j).size=j - i:=by
 have:(s.extract i j).size=min j s.size - i:=by simp
 omega
def rpRun (s:ByteArray) (neg:Bool) (i:Nat):Dn × Int :=
 if nu.at_ s (i+nu.nd s i)=some 46 then
  (if nu.nd s (i+nu.nd s i+1)=0 then (zed,3)
   else rpEnd s neg (s.extract i (i+nu.nd s i)++s.extract (i+nu.nd s i+1) (i+nu.nd s i+1+nu.nd s (i+nu.nd s i+1))) (i+nu.nd s i+1+nu.nd s (i+nu.nd s i+1)) (nu.nd s (i+nu.nd s i+1)))
 else rpEnd s neg (s.extract i (i+nu.nd s i)) (i+nu.nd s i) 0
theorem count_eq (s:ByteArray) (i k:Nat) (neg:Bool) (hs:s.size≤40000000000) (hi:i≤s.size) (hk:k=i+nu.nd s i):fin (nu.counted s i k neg)=rpRun s neg i:=by
 subst hk;have l1:=nu.nd_le s i hi;unfold nu.counted rpRun;have hA:(s.extract i (i+nu.nd s i)).size=nu.nd s i:=by rw [ext_len _ _ _ (by omega) l1];omega
 by_cases hp:nu.at_ s (i+nu.nd s i)=some 46
 · rw [if_pos hp,if_pos hp]
   generalize hE:i+nu.nd s i=E at *
   have hE1:E < s.size:=by
    rcases Nat.lt_or_ge E s.size with h|h
    · exact h
    · rw [at_past s E h] at hp;cases hp
   have l2:=nu.nd_le s (E+1) (by omega);unfold nu.point
   rcases Nat.lt_or_ge (E+1) s.size with h|h
   · rw [nu.at_some s (E+1) h]
     simp only
     cases hd:nu.dig s[E+1] with
     | false=>rw [if_neg Bool.false_ne_true,if_pos (nu.nd_no s _ h hd)];rfl
     | true =>
       have e:=nu.nd_yes s (E+1) h hd;have e':E+1+1+nu.nd s (E+1+1)=E+1+nu.nd s (E+1):=by omega
       rw [if_pos rfl,if_neg (by omega)];unfold nu.fraction;rw [e'];have hB:(s.extract (E+1) (E+1+nu.nd s (E+1))).size=nu.nd s (E+1):=by rw [ext_len _ _ _ (by omega) l2];omega
       refine meas_eq s _ neg _ _ _ hB.symm ?_ ?_ (app_dig _ _ (hE ▸ run_dig s i) (run_dig s (E+1)))
       · rw [ByteArray.size_append];omega
       · omega
   · rw [at_past s _ h,if_pos (nd_past s _ h)];rfl
 · rw [if_neg hp,if_neg hp]
   have:=meas_eq s (i+nu.nd s i) neg (s.extract i (i+nu.nd s i)) .empty 0 rfl (by rw [ByteArray.size_append];simp only [ByteArray.size_empty];omega) (by simp) (app_dig _ _ (run_dig s i) (by simp));rw [this,ByteArray.append_empty]
theorem first_eq (s:ByteArray) (i:Nat) (neg:Bool) (hs:s.size≤40000000000):fin (nu.first s i neg)=rpFrom s neg i:=by
 have hr:rpFrom s neg i=if nu.nd s i=0∨(nu.at_ s i=some 48∧1 < nu.nd s i) then (zed,3) else rpRun s neg i:=rfl
 rw [hr];unfold nu.first
 rcases Nat.lt_or_ge i s.size with h|h
 · rw [nu.at_some s i h]
   simp only
   by_cases h48:s[i]=48
   · have hd:nu.dig s[i]=true:=by rw [h48];rfl
     have e:=nu.nd_yes s i h hd;rw [if_pos h48]
     by_cases h2:1 < nu.nd s i
     · rw [if_pos (Or.inr ⟨by rw [h48],h2⟩)]
       have hk:i+1 < s.size:=by have:=nu.nd_le s i (by omega);omega
       have hdd:nu.dig s[i+1]=true:=by
        cases q:nu.dig s[i+1] with
        | true=>rfl
        | false=>have:=nu.nd_no s (i+1) hk q;omega
       have hv:48≤s[i+1].toNat∧s[i+1].toNat≤57:=by simpa [nu.dig] using hdd
       have n1:¬ s[i+1]=46:=fun q=>by rw [q] at hv;simp at hv
       have n2:¬ (s[i+1]=101∨s[i+1]=69):=by
        rintro (q|q) <;> (rw [q] at hv;simp at hv)
       unfold nu.counted;rw [nu.at_some s (i+1) hk,if_neg (by simpa using n1)];unfold nu.measured;rw [nu.at_some s (i+1) hk];simp only;rw [if_neg n2];rfl
     · rw [if_neg (by omega)]
       exact count_eq s i (i+1) neg hs (by omega) (by omega)
   · rw [if_neg h48]
     cases hd:nu.dig s[i] with
     | false=>rw [if_neg Bool.false_ne_true,if_pos (Or.inl (nu.nd_no s i h hd))];rfl
     | true =>
       have e:=nu.nd_yes s i h hd;rw [if_pos rfl,if_neg (by rintro (q|⟨q,_⟩);(· omega);(· exact h48 (by simpa using q)))];exact count_eq s i _ neg hs (by omega) (by omega)
 · rw [at_past s i h,if_pos (Or.inl (nd_past s i h))];rfl
theorem numeral_eq (s:ByteArray) (hs:s.size≤40000000000):fin (nu.numeral s)=rparse s:=by
 unfold nu.numeral rparse
 by_cases h:nu.at_ s 0=some 45
 · rw [if_pos h,if_pos h];exact first_eq s 1 true hs
 · rw [if_neg h,if_neg h];exact first_eq s 0 false hs
def tellP (p:Dn × Int) (eN eX:Value):Value × Value:=if p.2=0 then (dv p.1,.nilIface) else if p.2=3 then (dv zed,eN) else (dv zed,eX)
theorem parsed_eq (s:ByteArray) (eN eX:Value) (hs:s.size≤40000000000):parsed s eN eX=tellP (rparse s) eN eX:=by
 rw [← numeral_eq s hs];unfold parsed
 cases nu.numeral s with
 | none=>rfl
 | some x =>
   show bounded x.neg (x.wh++x.fr) (expo x) eX=tellP (fin1 x) eN eX;unfold bounded fin1 tellP
   by_cases h:(oneForm x.neg (x.wh++x.fr) (expo x)).2=true
   · rw [if_pos h,if_pos h];exact (if_pos rfl).symm
   · rw [if_neg h,if_neg h]
     rw [if_neg (show ¬ ((zed,(4:Int)).2=0) by decide),if_neg (show ¬ ((zed,(4:Int)).2=3) by decide)]
end Go.Proofs.YthnhobplgmojeaaGreatDoor.rd
