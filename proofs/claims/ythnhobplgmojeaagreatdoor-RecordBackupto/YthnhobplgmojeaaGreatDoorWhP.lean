/- Texts in one: Wh Bw -/
import Derived.Test.YthnhobplgmojeaaGreatDoorTxP
import Derived.Test.YthnhobplgmojeaaGreatDoorRqP
import Derived.Test.YthnhobplgmojeaaGreatDoorToP
namespace Go.Proofs.YthnhobplgmojeaaGreatDoor.rd.wh
open Go.RowKit
theorem formed_id {n:Dn} (h:Formed n):norm n=n:=by
 have hd:digs n.dg=n.dg:=by
  unfold digs;rw [List.filter_eq_self.2 h.dig,Array.toArray_toList]
 have hl:trimL n.dg=n.dg:=by
  have e:Lib.trimLeftB n.dg.data.toList 48=n.dg.data.toList:=by
   show n.dg.data.toList.dropWhile (· == 48)=_;have hh:=h.hd
   cases hx:n.dg.data.toList with
   | nil=>rfl
   | cons a r =>
     rw [hx] at hh;rw [List.dropWhile_cons,if_neg (by simpa using hh a rfl)]
  unfold trimL;rw [e,Array.toArray_toList]
 have hr:trimR n.dg=n.dg:=by
  have e:Lib.trimRightB n.dg.data.toList 48=n.dg.data.toList:=by
   show (n.dg.data.toList.reverse.dropWhile (· == 48)).reverse=_;have hh:=h.la;rw [← List.head?_reverse] at hh
   cases hx:n.dg.data.toList.reverse with
   | nil=>rw [List.reverse_eq_nil_iff] at hx;rw [hx];rfl
   | cons a r =>
     rw [hx] at hh;rw [List.dropWhile_cons,if_neg (by simpa using hh a rfl),← hx,List.reverse_reverse]
  unfold trimR;rw [e,Array.toArray_toList]
 have e0:=h.e0;have e1:=h.e1;unfold norm oneForm;rw [hd,hl,hr,if_neg h.pos,if_neg (by omega),if_neg (by omega)];have:n.ex+((n.dg.size:Int) - n.dg.size)=n.ex:=by omega
 rw [this]
theorem norm_zed:norm zed=zed:=by kernel_rfl
theorem whole_id {n:Dn} (h:Whole1 n):norm n=n:=by
 rcases h with rfl|h
 · exact norm_zed
 · exact formed_id h
theorem rpRes_whole (neg:Bool) (all:ByteArray) (ex:Int):Whole1 (rpRes neg all ex).1:=by
 unfold rpRes
 split
 · exact oneForm_formed _ _ _ (digs_dig _)
 · exact .inl rfl
theorem rpEnd_whole (s:ByteArray) (neg:Bool) (all:ByteArray) (k bh:Nat):Whole1 (rpEnd s neg all k bh).1:=by
 unfold rpEnd
 split
 · exact rpRes_whole _ _ _
 · exact .inl rfl
theorem rparse_whole (s:ByteArray):Whole1 (rparse s).1:=by
 have key:∀ neg i,Whole1 (rpFrom s neg i).1:=fun neg i=>by
  unfold rpFrom
  split
  · exact .inl rfl
  · split
    · split
      · exact .inl rfl
      · exact rpEnd_whole _ _ _ _ _
    · exact rpEnd_whole _ _ _ _ _
 unfold rparse
 split
 · exact key _ _
 · exact key _ _
theorem oneForm_size (n:Bool) (s:ByteArray) (e:Int):(oneForm n (digs s) e).1.dg.size≤s.size:=by
 have h1:=(oneForm_good n (digs s) e (digs_dig s)).1;have h2:=digs_le s;omega
theorem rparse_size (s:ByteArray):(rparse s).1.dg.size≤s.size+s.size:=by
 have k1:∀ neg all ex,(rpRes neg all ex).1.dg.size≤all.size:=fun neg all ex=>by
  unfold rpRes
  split
  · exact oneForm_size _ _ _
  · exact Nat.zero_le _
 have k2:∀ neg all k bh,(rpEnd s neg all k bh).1.dg.size≤all.size:=fun neg all k bh=>by
  unfold rpEnd
  split
  · exact k1 _ _ _
  · exact Nat.zero_le _
 have k3:∀ neg i,(rpFrom s neg i).1.dg.size≤s.size+s.size:=fun neg i=>by
  unfold rpFrom
  split
  · exact Nat.zero_le _
  · split
    · split
      · exact Nat.zero_le _
      · refine Nat.le_trans (k2 _ _ _ _) ?_
        rw [ByteArray.size_append];have a1:=nu.ext_size s i (i+nu.nd s i);have a2:=nu.ext_size s (i+nu.nd s i+1) (i+nu.nd s i+1+nu.nd s (i+nu.nd s i+1));omega
    · refine Nat.le_trans (k2 _ _ _ _) ?_
      have a1:=nu.ext_size s i (i+nu.nd s i);omega
 unfold rparse
 split
 · exact k3 _ _
 · exact k3 _ _
end Go.Proofs.YthnhobplgmojeaaGreatDoor.rd.wh
namespace Go.Proofs.YthnhobplgmojeaaGreatDoor.rd.bw
open Go.RowKit
def valL:List Int→Int
 | []=>0
 | z::r=>z+10*valL r
theorem valL_append (a b:List Int):valL (a++b)=valL a+10 ^ a.length*valL b:=by
 induction a with
 | nil=>simp [valL]
 | cons z r ih=>simp only [List.cons_append,valL,List.length_cons];rw [ih];grind
theorem dig10_tail {z:Int}{r:List Int} (h:Dig10 (z::r)):(0≤z∧z≤9)∧Dig10 r:=⟨h z (by simp),fun y hy=>h y (by simp [hy])⟩
theorem valL_nonneg {l:List Int} (h:Dig10 l):0≤valL l:=by
 induction l with
 | nil=>simp [valL]
 | cons z r ih=>have:=ih (dig10_tail h).2;have:=(dig10_tail h).1;simp only [valL];omega
def valM (l:List UInt8):Int:=valL (l.map fz).reverse
theorem valM_append (a b:List UInt8):valM (a++b)=valM a*10 ^ b.length+valM b:=by
 unfold valM;rw [List.map_append,List.reverse_append,valL_append,List.length_reverse,List.length_map]
 grind
theorem valM_one (c:UInt8):valM [c]=fz c:=by simp [valM,valL]
theorem fz_bd {c:UInt8} (h:nu.dig c=true):0≤fz c∧fz c≤9:=by
 have hc:48≤c.toNat∧c.toNat≤57:=by simpa [nu.dig] using h
 unfold fz;omega
theorem row_dig10 {l:List UInt8} (h:∀ c∈l,nu.dig c=true):Dig10 (l.map fz).reverse:=by
 intro z hz;rw [List.mem_reverse,List.mem_map] at hz;obtain ⟨c,hc,rfl⟩:=hz;exact fz_bd (h c hc)
theorem valM_nonneg {l:List UInt8} (h:∀ c∈l,nu.dig c=true):0≤valM l:=valL_nonneg (row_dig10 h)
theorem fz_u8 (n:Nat) (h:n≤9):fz (48+n).toUInt8=n:=by
 have:=u8_of (48+n) (by omega);unfold fz;omega
theorem dig_u8 (n:Nat) (h:n≤9):nu.dig (48+n).toUInt8=true:=by
 have:=u8_of (48+n) (by omega);have h2:(48+n).toUInt8.toNat=48+n:=by omega
 simp only [nu.dig];rw [h2];simp;omega
theorem decDigits_val (u:Nat):valM (Lib.decDigits u)=u∧∀ c∈Lib.decDigits u,nu.dig c=true:=by
 induction u using Nat.strongRecOn with
 | ind u ih =>
   rw [Lib.decDigits]
   split
   · rename_i h
     have e:UInt8.ofNat (48+u)=(48+u).toUInt8:=rfl;rw [e];refine ⟨?_,fun c hc=>?_⟩
     · rw [valM_one,fz_u8 u (by omega)]
     · rw [List.mem_singleton] at hc;subst hc;exact dig_u8 u (by omega)
   · rename_i h
     obtain ⟨h1,h2⟩:=ih (u / 10) (by omega);have e:UInt8.ofNat (48+u % 10)=(48+u % 10).toUInt8:=rfl;rw [e];refine ⟨?_,fun c hc=>?_⟩
     · rw [valM_append,valM_one,fz_u8 _ (by omega),h1]
       simp only [List.length_cons,List.length_nil];omega
     · rcases List.mem_append.1 hc with q|q
       · exact h2 c q
       · rw [List.mem_singleton] at q;subst q;exact dig_u8 _ (by omega)
theorem at_list (l:List UInt8) (k:Nat):nu.at_ ⟨l.toArray⟩ k=l[k]?:=rfl
theorem nd_list (l:List UInt8) (k:Nat):nu.nd ⟨l.toArray⟩ k=((l.drop k).takeWhile nu.dig).length:=rfl
theorem take_run (d r:List UInt8) (hd:∀ c∈d,nu.dig c=true) (hr:∀ c,r.head?=some c→nu.dig c=false):((d++r).takeWhile nu.dig)=d:=by
 induction d with
 | nil =>
   cases r with
   | nil=>rfl
   | cons c t=>rw [List.nil_append,List.takeWhile_cons,hr c rfl];rfl
 | cons a t ih =>
   rw [List.cons_append,List.takeWhile_cons,hd a (by simp)];simp only [if_true];rw [ih (fun c hc=>hd c (by simp [hc]))]
theorem ext_of (l:List UInt8) (i j:Nat):(⟨l.toArray⟩:ByteArray).extract i j=⟨((l.drop i).take (j - i)).toArray⟩:=by
 have h:=nu.ext_list ⟨l.toArray⟩ i j;apply ByteArray.ext;apply Array.ext';rw [h]
theorem psize_val (l:List UInt8) (hd:∀ c∈l,nu.dig c=true) (h:valM l < 1099511627776):psize l=valM l:=by
 have key:∀ (r l:List UInt8),l=r.reverse→(∀ c∈l,nu.dig c=true)→valM l < 1099511627776→psize l=valM l:=by
  intro r
  induction r with
  | nil=>intro l e _ _;subst e;rfl
  | cons c t ih =>
    intro l e hd h;rw [List.reverse_cons] at e;subst e;have hc:=hd c (by simp);have hl:∀ x∈t.reverse,nu.dig x=true:=fun x hx=>hd x (by simp at hx ⊢;exact .inl hx)
    have h0:=valM_nonneg hl;have hf:=fz_bd hc;rw [valM_append,valM_one] at h ⊢;simp only [List.length_cons,List.length_nil] at h ⊢;have e:=ih t.reverse rfl hl (by omega);rw [psize_snoc,e];unfold pstep;rw [if_pos (by omega)];unfold fz;omega
 exact key l.reverse l (by simp) hd h
theorem head_dig (u:Nat):∃ c t,Lib.decDigits u=c::t∧nu.dig c=true:=by
 have h:=(decDigits_val u).2
 cases hx:Lib.decDigits u with
 | nil =>
   exfalso;rw [Lib.decDigits] at hx
   split at hx
   · simp at hx
   · simp at hx
 | cons c t=>exact ⟨c,t,rfl,h c (by rw [hx];simp)⟩
theorem power_told (a:List UInt8) (x:Int):nu.power ⟨(a++Lib.itoa x).toArray⟩ a.length=some (decide (x < 0),⟨(Lib.decDigits x.natAbs).toArray⟩):=by
 obtain ⟨c,t,hct,hc⟩:=head_dig x.natAbs;have hd:=(decDigits_val x.natAbs).2
 have key:∀ (b:List UInt8) (ng:Bool),nu.pwFirst ⟨(b++Lib.decDigits x.natAbs).toArray⟩ ng b.length=some (ng,⟨(Lib.decDigits x.natAbs).toArray⟩):=fun b ng=>by
  rw [pw_eq]
  have e1:nu.nd ⟨(b++Lib.decDigits x.natAbs).toArray⟩ b.length=(Lib.decDigits x.natAbs).length:=by
   rw [nd_list,List.drop_left];have:=take_run (Lib.decDigits x.natAbs) [] hd (fun c hc=>by simp at hc);rw [List.append_nil] at this;rw [this]
  have e2:(⟨(b++Lib.decDigits x.natAbs).toArray⟩:ByteArray).size=b.length+(Lib.decDigits x.natAbs).length:=by
   show (b++Lib.decDigits x.natAbs).toArray.size=_;simp
  rw [e1,e2,if_neg (by rw [hct];simp only [List.length_cons];omega),ext_of,List.drop_left];have e3:b.length+(Lib.decDigits x.natAbs).length - b.length=(Lib.decDigits x.natAbs).length:=by omega
  rw [e3,List.take_length]
 unfold nu.power;rw [at_list]
 by_cases hx:x < 0
 · have hi:Lib.itoa x=45::Lib.decDigits x.natAbs:=by unfold Lib.itoa;rw [if_pos hx]
   rw [hi];have e:(a++45::Lib.decDigits x.natAbs)[a.length]?=some 45:=by simp
   rw [e];simp only [if_true];have:=key (a++[45]) true;rw [List.append_assoc,List.length_append] at this;simp only [List.cons_append,List.nil_append,List.length_cons,List.length_nil] at this;rw [this];simp [hx]
 · have hi:Lib.itoa x=Lib.decDigits x.natAbs:=by
    unfold Lib.itoa;rw [if_neg hx,show x.toNat=x.natAbs by omega]
   rw [hi];have e:(a++Lib.decDigits x.natAbs)[a.length]?=some c:=by rw [hct];simp
   rw [e];simp only;have hcv:48≤c.toNat∧c.toNat≤57:=by simpa [nu.dig] using hc
   rw [if_neg (by rintro rfl;simp at hcv),if_neg (by rintro rfl;simp at hcv),key a false];simp [hx]
theorem first_told (a:List UInt8) (n:Dn) (h:Formed n) (ng:Bool) (E:List UInt8) (hE:(E=[]∧n.ex=0)∨(E=101::Lib.itoa n.ex∧n.ex≠0)) :
 nu.first ⟨(a++(n.dg.data.toList++E)).toArray⟩ a.length ng=some ⟨ng,n.dg,.empty,decide (n.ex < 0),if n.ex=0 then .empty else ⟨(Lib.decDigits n.ex.natAbs).toArray⟩⟩:=by
 have hne:=h.ne;have hhd:=h.hd;have hdg:∀ c∈n.dg.data.toList,nu.dig c=true:=h.dig
 have hEd:∀ c,E.head?=some c→nu.dig c=false:=fun c hc=>by
  rcases hE with ⟨rfl,_⟩|⟨rfl,_⟩
  · simp at hc
  · simp at hc;subst hc;decide
 have hdD:n.dg=⟨n.dg.data.toList.toArray⟩:=by rw [Array.toArray_toList]
 generalize n.dg.data.toList=D at *
 have hrun:nu.nd ⟨(a++(D++E)).toArray⟩ a.length=D.length:=by
  rw [nd_list,List.drop_left,take_run D E hdg hEd]
 have hext:(⟨(a++(D++E)).toArray⟩:ByteArray).extract a.length (a.length+D.length)=n.dg:=by
  rw [ext_of,List.drop_left,Nat.add_sub_cancel_left,List.take_left,hdD]
 cases D with
 | nil=>exact absurd rfl hne
 | cons c t =>
   have hc:=hdg c (by simp);have h48:=hhd c rfl
   have hlt:a.length < (⟨(a++(c::t++E)).toArray⟩:ByteArray).size:=by
    show _ < (a++(c::t++E)).toArray.size;simp
   have hat:nu.at_ ⟨(a++(c::t++E)).toArray⟩ a.length=some c:=by rw [at_list];simp
   have hnd2:nu.nd ⟨(a++(c::t++E)).toArray⟩ (a.length+1)=t.length:=by
    have h1:=nu.at_some _ a.length hlt;rw [hat] at h1;have h2:=Option.some.inj h1;have h3:=nu.nd_yes _ a.length hlt (by rw [← h2];exact hc);rw [hrun] at h3;simp only [List.length_cons] at h3;omega
   unfold nu.first;rw [hat];simp only;rw [if_neg h48,if_pos hc];unfold nu.whole;rw [hnd2];have e1:a.length+1+t.length=a.length+(c::t).length:=by simp only [List.length_cons];omega
   rw [e1];unfold nu.counted;rw [hext]
   have hk:nu.at_ ⟨(a++(c::t++E)).toArray⟩ (a.length+(c::t).length)=E.head?:=by
    rw [at_list,← List.append_assoc];have:a.length+(c::t).length=(a++(c::t)).length:=by rw [List.length_append]
    rw [this,List.getElem?_append_right (by omega),Nat.sub_self,List.head?_eq_getElem?]
   rw [hk]
   rcases hE with ⟨rfl,hx⟩|⟨rfl,hx⟩
   · rw [if_neg (by simp)]
     unfold nu.measured;rw [hk];simp only [List.head?_nil];rw [if_pos hx,hx];rfl
   · rw [if_neg (by simp)]
     unfold nu.measured;rw [hk];simp only [List.head?_cons];rw [if_pos (Or.inl trivial)];have hp:=power_told (a++((c::t)++[101])) n.ex;have e2:a++((c::t)++[101])++Lib.itoa n.ex=a++(c::t++101::Lib.itoa n.ex):=by simp
     have e3:(a++((c::t)++[101])).length=a.length+(c::t).length+1:=by simp;omega
     rw [e2,e3] at hp;rw [hp,if_neg hx];rfl
theorem numeral_told (n:Dn) (h:Formed n):nu.numeral (textOf n)=some ⟨n.neg,n.dg,.empty,decide (n.ex < 0),if n.ex=0 then .empty else ⟨(Lib.decDigits n.ex.natAbs).toArray⟩⟩:=by
 have hp:=h.pos;have hdD:n.dg=⟨n.dg.data.toList.toArray⟩:=by rw [Array.toArray_toList]
 obtain ⟨E,hE,ht⟩:∃ E,((E=[]∧n.ex=0)∨(E=101::Lib.itoa n.ex∧n.ex≠0))∧textOf n=⟨((if n.neg then [45] else [])++(n.dg.data.toList++E)).toArray⟩:=by
  by_cases hx:n.ex=0
  · refine ⟨[],.inl ⟨rfl,hx⟩,?_⟩
    unfold textOf;rw [if_neg hp,if_pos hx];apply ByteArray.ext;apply Array.ext'
    cases n.neg <;> simp
  · refine ⟨_,.inr ⟨rfl,hx⟩,?_⟩
    unfold textOf itoaB;rw [if_neg hp,if_neg hx];apply ByteArray.ext;apply Array.ext'
    cases n.neg <;> simp
 rw [ht];unfold nu.numeral;rw [at_list]
 cases hn:n.neg with
 | true =>
   have e:((if true=true then [45] else [])++(n.dg.data.toList++E):List UInt8)[0]?=some 45:=by simp
   rw [e,if_pos rfl];exact first_told [45] n h true E hE
 | false =>
   have hne:=h.ne;have hdg:∀ c∈n.dg.data.toList,nu.dig c=true:=h.dig
   have e:¬ ((if false=true then [45] else [])++(n.dg.data.toList++E):List UInt8)[0]?=some 45:=by
    cases hD:n.dg.data.toList with
    | nil=>exact absurd hD hne
    | cons c t =>
      have:=hdg c (by rw [hD];simp);intro q;simp at q;subst q;exact absurd this (by decide)
   rw [if_neg e];exact first_told [] n h false E hE
theorem form_id {n:Dn} (h:Formed n):oneForm n.neg n.dg n.ex=(n,true):=by
 have hl:trimL n.dg=n.dg:=by
  have e:Lib.trimLeftB n.dg.data.toList 48=n.dg.data.toList:=by
   show n.dg.data.toList.dropWhile (· == 48)=_;have hh:=h.hd
   cases hx:n.dg.data.toList with
   | nil=>rfl
   | cons a r =>
     rw [hx] at hh;rw [List.dropWhile_cons,if_neg (by simpa using hh a rfl)]
  unfold trimL;rw [e,Array.toArray_toList]
 have hr:trimR n.dg=n.dg:=by
  have e:Lib.trimRightB n.dg.data.toList 48=n.dg.data.toList:=by
   show (n.dg.data.toList.reverse.dropWhile (· == 48)).reverse=_;have hh:=h.la;rw [← List.head?_reverse] at hh
   cases hx:n.dg.data.toList.reverse with
   | nil=>rw [List.reverse_eq_nil_iff] at hx;rw [hx];rfl
   | cons a r =>
     rw [hx] at hh;rw [List.dropWhile_cons,if_neg (by simpa using hh a rfl),← hx,List.reverse_reverse]
  unfold trimR;rw [e,Array.toArray_toList]
 have e0:=h.e0;have e1:=h.e1;unfold oneForm;rw [hl,hr,if_neg h.pos,if_neg (by omega),if_neg (by omega)];have:n.ex+((n.dg.size:Int) - n.dg.size)=n.ex:=by omega
 rw [this]
theorem rparse_text {n:Dn} (h:Whole1 n) (hs:(textOf n).size≤40000000000):rparse (textOf n)=(n,0):=by
 rcases h with rfl|h
 · kernel_rfl
 · rw [← numeral_eq _ hs,numeral_told n h]
   show fin1 _=_;unfold fin1
   have hx:expo ⟨n.neg,n.dg,.empty,decide (n.ex < 0),if n.ex=0 then .empty else ⟨(Lib.decDigits n.ex.natAbs).toArray⟩⟩=n.ex:=by
    unfold expo;simp only;have e0:=h.e0;have e1:=h.e1
    by_cases hz:n.ex=0
    · rw [if_pos hz,hz];rfl
    · rw [if_neg hz]
      obtain ⟨d1,d2⟩:=decDigits_val n.ex.natAbs
      have:psize (⟨(Lib.decDigits n.ex.natAbs).toArray⟩:ByteArray).data.toList=(n.ex.natAbs:Int):=by
       have:=psize_val (Lib.decDigits n.ex.natAbs) d2 (by rw [d1];omega);rw [d1] at this;exact this
      rw [this];have e4:((ByteArray.empty.size:Nat):Int)=0:=rfl;rw [e4]
      by_cases hl:n.ex < 0
      · rw [if_pos (by simpa using hl)];omega
      · rw [if_neg (by simpa using hl)];omega
   simp only [hx,ByteArray.append_empty,form_id h,if_true]
theorem text_bytes {n:Dn} (h:Whole1 n):(textOf n).data.toList≠[]∧(∀ c∈(textOf n).data.toList,c=45∨c=101∨nu.dig c=true)∧∀ c,(textOf n).data.toList.head?=some c→c=45∨nu.dig c=true:=by
 rcases h with rfl|h
 · refine ⟨by decide,by decide,by decide⟩
 · have hp:=h.pos
   have hne:=h.ne;have hdg:∀ c∈n.dg.data.toList,nu.dig c=true:=h.dig
   have hi:∀ c∈Lib.itoa n.ex,c=45∨nu.dig c=true:=fun c hc=>by
    unfold Lib.itoa at hc
    split at hc
    · rcases List.mem_cons.1 hc with q|q
      · exact .inl q
      · exact .inr ((decDigits_val _).2 c q)
    · exact .inr ((decDigits_val _).2 c hc)
   obtain ⟨E,hE,ht⟩:∃ E:List UInt8,(∀ c∈E,c=45∨c=101∨nu.dig c=true)∧(textOf n).data.toList=(if n.neg then [45] else [])++(n.dg.data.toList++E):=by
    by_cases hx:n.ex=0
    · refine ⟨[],by simp,?_⟩
      unfold textOf;rw [if_neg hp,if_pos hx]
      cases n.neg <;> simp
    · refine ⟨101::Lib.itoa n.ex,fun c hc=>?_,?_⟩
      · rcases List.mem_cons.1 hc with q|q
        · exact .inr (.inl q)
        · rcases hi c q with q|q
          · exact .inl q
          · exact .inr (.inr q)
      · unfold textOf itoaB
        rw [if_neg hp,if_neg hx]
        cases n.neg <;> simp
   rw [ht];refine ⟨fun e=>?_,fun c hc=>?_,fun c hc=>?_⟩
   · simp at e;exact hne (by simpa using e.2.1)
   · rcases List.mem_append.1 hc with q|q
     · cases hn:n.neg <;> rw [hn] at q <;> simp at q
       exact .inl q
     · rcases List.mem_append.1 q with q|q
       · exact .inr (.inr (hdg c q))
       · exact hE c q
   · cases hn:n.neg <;> rw [hn] at hc
     · cases hD:n.dg.data.toList with
       | nil=>exact absurd hD hne
       | cons a r =>
         rw [hD] at hc;simp at hc;subst hc;exact .inr (hdg a (by rw [hD];simp))
     · simp at hc
       exact .inl hc.symm
end Go.Proofs.YthnhobplgmojeaaGreatDoor.rd.bw
