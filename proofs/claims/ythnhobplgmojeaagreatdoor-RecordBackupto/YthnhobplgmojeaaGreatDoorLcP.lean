/- Texts in one: Lc -/
import Derived.Test.YthnhobplgmojeaaGreatDoorItP
import Derived.Test.YthnhobplgmojeaaGreatDoorBnP
namespace Go.Proofs.YthnhobplgmojeaaGreatDoor.rd
open Go.RowKit
def ltrL (l:List UInt8):Nat:=pt.ltr ⟨l.toArray⟩ 0
theorem sz_mk (l:List UInt8):(⟨l.toArray⟩:ByteArray).size=l.length:=List.size_toArray
theorem ltr_mk (l:List UInt8) (h:0 < l.length):ltrL l=pt.ltrC (l.getD 0 0).toNat (decide (1 < l.length∧pt.loC (l.getD 0 0).toNat≤(l.getD 1 0).toNat∧(l.getD 1 0).toNat≤pt.hiC (l.getD 0 0).toNat)) (decide (2 < l.length∧128≤(l.getD 2 0).toNat∧(l.getD 2 0).toNat≤191)) (decide (3 < l.length∧128≤(l.getD 3 0).toNat∧(l.getD 3 0).toNat≤191)):=by
 unfold ltrL;have:=pt.ltr_bt ⟨l.toArray⟩ 0 (by rw [sz_mk];exact h);rw [sz_mk] at this;exact this
theorem ltr_drop (s:ByteArray) (k:Nat) (h:k < s.size):pt.ltr s k=ltrL (s.data.toList.drop k):=by
 have h2:s.data.toList.length=s.size:=Array.length_toList;rw [ltr_mk _ (by rw [List.length_drop,h2];omega),pt.ltr_bt s k h,List.length_drop,h2]
 have e:∀ j,(s.data.toList.drop k).getD j 0=s.data.toList.getD (k+j) 0:=fun j=>by
  rw [List.getD_eq_getElem?_getD,List.getD_eq_getElem?_getD,List.getElem?_drop]
 rw [e,e,e,e];rfl
def Lt1 (x:List UInt8):Prop:=0 < x.length∧∀ t,ltrL (x++t)=x.length
theorem getD_app (x t:List UInt8) (j:Nat) (h:j < x.length):(x++t).getD j 0=x.getD j 0:=by
 rw [List.getD_eq_getElem?_getD,List.getD_eq_getElem?_getD,List.getElem?_append_left h]
theorem lt1_take (l:List UInt8) (h:0 < ltrL l):Lt1 (l.take (ltrL l)):=by
 have hl:0 < l.length:=by
  cases l with
  | nil=>exact absurd h (by decide)
  | cons a l=>simp
 have e0:=ltr_mk l hl
 have key:∀ n,ltrL l=n→n≤l.length→(∀ t,ltrL (l.take n++t)=n)→Lt1 (l.take (ltrL l)):=fun n e hn ht=>by
  rw [e];have hz:(l.take n).length=n:=by rw [List.length_take];omega
  exact ⟨by rw [hz];omega,fun t=>by rw [hz];exact ht t⟩
 have hc:=pt.len_num _ _ _ _ (show ¬ pt.ltrC (l.getD 0 0).toNat (decide (1 < l.length∧pt.loC (l.getD 0 0).toNat≤(l.getD 1 0).toNat∧(l.getD 1 0).toNat≤pt.hiC (l.getD 0 0).toNat)) (decide (2 < l.length∧128≤(l.getD 2 0).toNat∧(l.getD 2 0).toNat≤191)) (decide (3 < l.length∧128≤(l.getD 3 0).toNat∧(l.getD 3 0).toNat≤191))=0 by rw [← e0];omega)
 have gt:∀ n j t,j < n→n≤l.length→(l.take n++t).getD j 0=l.getD j 0:=fun n j t h1 h2=>by
  rw [getD_app _ _ _ (by rw [List.length_take];omega),List.getD_eq_getElem?_getD,List.getD_eq_getElem?_getD,List.getElem?_take,if_pos h1]
 rcases hc with ⟨a,e⟩|⟨a,e⟩|⟨a,e⟩|⟨a,e⟩
 · refine key 1 (e0.trans e) (by omega) fun t=>?_
   rw [ltr_mk _ (by rw [List.length_append,List.length_take];omega),gt 1 0 t (by omega) (by omega)];unfold pt.ltrC;rw [if_pos a]
 · refine key 2 (e0.trans e) (by omega) fun t=>?_
   rw [ltr_mk _ (by rw [List.length_append,List.length_take];omega),gt 2 0 t (by omega) (by omega),gt 2 1 t (by omega) (by omega)];unfold pt.ltrC;rw [if_neg (by omega),if_neg (by omega),if_pos (by omega),if_pos (decide_eq_true ⟨by rw [List.length_append,List.length_take];omega,a.2.2.2⟩)]
 · refine key 3 (e0.trans e) (by omega) fun t=>?_
   rw [ltr_mk _ (by rw [List.length_append,List.length_take];omega),gt 3 0 t (by omega) (by omega),gt 3 1 t (by omega) (by omega),gt 3 2 t (by omega) (by omega)];unfold pt.ltrC;rw [if_neg (by omega),if_neg (by omega),if_neg (by omega),if_pos (by omega),if_pos ⟨decide_eq_true ⟨by rw [List.length_append,List.length_take];omega,a.2.2.1.2⟩,decide_eq_true ⟨by rw [List.length_append,List.length_take];omega,a.2.2.2.2⟩⟩]
 · refine key 4 (e0.trans e) (by omega) fun t=>?_
   rw [ltr_mk _ (by rw [List.length_append,List.length_take];omega),gt 4 0 t (by omega) (by omega),gt 4 1 t (by omega) (by omega),gt 4 2 t (by omega) (by omega),gt 4 3 t (by omega) (by omega)];unfold pt.ltrC;rw [if_neg (by omega),if_neg (by omega),if_neg (by omega),if_neg (by omega),if_pos ⟨decide_eq_true ⟨by rw [List.length_append,List.length_take];omega,a.2.2.1.2⟩,decide_eq_true ⟨by rw [List.length_append,List.length_take];omega,a.2.2.2.1.2⟩,decide_eq_true ⟨by rw [List.length_append,List.length_take];omega,a.2.2.2.2.2⟩⟩]
theorem u8_nat (x:Int) (h0:0≤x) (h1:x≤255):(x.toNat.toUInt8).toNat=x.toNat:=by
 have:x.toNat < 256:=by omega
 simp [Nat.mod_eq_of_lt this]
theorem lt1_enc (r:Int):Lt1 (Lib.encodeRune r):=by
 unfold Lib.encodeRune;have lo2:∀ c,c≠224→c≠240→pt.loC c=128:=fun c h1 h2=>by unfold pt.loC;rw [if_neg h1,if_neg h2]
 have hi2:∀ c,c≠237→c≠244→pt.hiC c=191:=fun c h1 h2=>by unfold pt.hiC;rw [if_neg h1,if_neg h2]
 rcases (show (0≤r∧r≤127)∨(128≤r∧r≤2047)∨((2048≤r∧r < 55296)∨(57343 < r∧r≤65535))∨(65536≤r∧r≤1114111)∨(r < 0∨(55296≤r∧r≤57343)∨1114111 < r) by omega) with q|q|q|q|q
 · rw [Lib.encodeRuneZ_one q.1 q.2]
   refine ⟨by simp,fun t=>?_⟩;rw [ltr_mk _ (by simp)];have e0:(([r].map fun x=>x.toNat.toUInt8)++t).getD 0 0=r.toNat.toUInt8:=rfl;rw [e0,u8_nat r (by omega) (by omega)];unfold pt.ltrC;rw [if_pos (by omega)];rfl
 · rw [Lib.encodeRuneZ_two q.1 q.2]
   refine ⟨by simp,fun t=>?_⟩;rw [ltr_mk _ (by simp)];have e0:(([192+r / 64,128+r % 64].map fun x=>x.toNat.toUInt8)++t).getD 0 0=(192+r / 64).toNat.toUInt8:=rfl;have e1:(([192+r / 64,128+r % 64].map fun x=>x.toNat.toUInt8)++t).getD 1 0=(128+r % 64).toNat.toUInt8:=rfl;rw [e0,e1,u8_nat _ (by omega) (by omega),u8_nat _ (by omega) (by omega),lo2 _ (by omega) (by omega),hi2 _ (by omega) (by omega)];unfold pt.ltrC;rw [if_neg (by omega),if_neg (by omega),if_pos (by omega),if_pos (decide_eq_true ⟨by simp,by omega,by omega⟩)];rfl
 · rw [Lib.encodeRuneZ_three q]
   refine ⟨by simp,fun t=>?_⟩;rw [ltr_mk _ (by simp)];have e0:(([224+r / 4096,128+r / 64 % 64,128+r % 64].map fun x=>x.toNat.toUInt8)++t).getD 0 0=(224+r / 4096).toNat.toUInt8:=rfl;have e1:(([224+r / 4096,128+r / 64 % 64,128+r % 64].map fun x=>x.toNat.toUInt8)++t).getD 1 0=(128+r / 64 % 64).toNat.toUInt8:=rfl;have e2:(([224+r / 4096,128+r / 64 % 64,128+r % 64].map fun x=>x.toNat.toUInt8)++t).getD 2 0=(128+r % 64).toNat.toUInt8:=rfl;rw [e0,e1,e2,u8_nat _ (by omega) (by omega),u8_nat _ (by omega) (by omega),u8_nat _ (by omega) (by omega)]
   have hlo:pt.loC (224+r / 4096).toNat≤(128+r / 64 % 64).toNat:=by
    unfold pt.loC
    split
    · omega
    · split <;> omega
   have hhi:(128+r / 64 % 64).toNat≤pt.hiC (224+r / 4096).toNat:=by
    unfold pt.hiC
    split
    · omega
    · split <;> omega
   unfold pt.ltrC;rw [if_neg (by omega),if_neg (by omega),if_neg (by omega),if_pos (by omega),if_pos ⟨decide_eq_true ⟨by simp,hlo,hhi⟩,decide_eq_true ⟨by simp,by omega,by omega⟩⟩];rfl
 · rw [Lib.encodeRuneZ_four q.1 q.2]
   refine ⟨by simp,fun t=>?_⟩;rw [ltr_mk _ (by simp)];have e0:(([240+r / 262144,128+r / 4096 % 64,128+r / 64 % 64,128+r % 64].map fun x=>x.toNat.toUInt8)++t).getD 0 0=(240+r / 262144).toNat.toUInt8:=rfl;have e1:(([240+r / 262144,128+r / 4096 % 64,128+r / 64 % 64,128+r % 64].map fun x=>x.toNat.toUInt8)++t).getD 1 0=(128+r / 4096 % 64).toNat.toUInt8:=rfl;have e2:(([240+r / 262144,128+r / 4096 % 64,128+r / 64 % 64,128+r % 64].map fun x=>x.toNat.toUInt8)++t).getD 2 0=(128+r / 64 % 64).toNat.toUInt8:=rfl;have e3:(([240+r / 262144,128+r / 4096 % 64,128+r / 64 % 64,128+r % 64].map fun x=>x.toNat.toUInt8)++t).getD 3 0=(128+r % 64).toNat.toUInt8:=rfl;rw [e0,e1,e2,e3,u8_nat _ (by omega) (by omega),u8_nat _ (by omega) (by omega),u8_nat _ (by omega) (by omega),u8_nat _ (by omega) (by omega)]
   have hlo:pt.loC (240+r / 262144).toNat≤(128+r / 4096 % 64).toNat:=by
    unfold pt.loC
    split
    · omega
    · split <;> omega
   have hhi:(128+r / 4096 % 64).toNat≤pt.hiC (240+r / 262144).toNat:=by
    unfold pt.hiC
    split
    · omega
    · split <;> omega
   unfold pt.ltrC;rw [if_neg (by omega),if_neg (by omega),if_neg (by omega),if_neg (by omega),if_pos ⟨decide_eq_true ⟨by simp,hlo,hhi⟩,decide_eq_true ⟨by simp,by omega,by omega⟩,decide_eq_true ⟨by simp,by omega,by omega⟩⟩];rfl
 · rw [Lib.encodeRuneZ_bad q]
   refine ⟨by simp,fun t=>?_⟩;rw [ltr_mk _ (by simp)];have e0:(([239,191,189].map fun x:Int=>x.toNat.toUInt8)++t).getD 0 0=239:=rfl;have e1:(([239,191,189].map fun x:Int=>x.toNat.toUInt8)++t).getD 1 0=191:=rfl;have e2:(([239,191,189].map fun x:Int=>x.toNat.toUInt8)++t).getD 2 0=189:=rfl;rw [e0,e1,e2];unfold pt.ltrC;rw [if_neg (by decide),if_neg (by decide),if_neg (by decide),if_pos (by decide),if_pos ⟨decide_eq_true ⟨by simp,by decide,by decide⟩,decide_eq_true ⟨by simp,by decide,by decide⟩⟩];rfl
inductive Lts:List UInt8→Prop
 | nil:Lts []
 | snoc {l x:List UInt8} (h:Lts l) (hx:Lt1 x):Lts (l++x)
theorem lettF_lts (s:ByteArray):∀ (f k:Nat) (acc l:List UInt8) (j:Nat),Lts acc→lettF s f k acc=.inl (l,j)→Lts l
 | 0,k,acc,l,j,_,h=>by cases h
 | f+1,k,acc,l,j,ha,h=>by
   unfold lettF at h
   split at h
   · cases h;exact ha
   · split at h
     · cases h
     · exact lettF_lts s f _ _ l j (.snoc ha (lt1_enc _)) h
theorem letts_lts {s:ByteArray}{k:Nat}{l:List UInt8}{j:Nat} (h:letts s k=.inl (l,j)):Lts l:=lettF_lts s _ _ _ l j .nil h
theorem clF_app (s:ByteArray):∀ (f k:Nat) (x t:List UInt8),s.data.toList.drop k=x++t→Lt1 x→pt.clF s (f+1) k=x++pt.clF s f (k+x.length):=by
 intro f k x t hd hx;have h2:s.data.toList.length=s.size:=Array.length_toList;have hl:=congrArg List.length hd;rw [List.length_drop,h2,List.length_append] at hl;have hk:k < s.size:=by have:=hx.1;omega
 have he:pt.ltr s k=x.length:=by rw [ltr_drop s k hk,hd];exact hx.2 t
 have hp:=hx.1;show (if k < s.size then (if pt.ltr s k=0 then [239,191,189]++pt.clF s f (k+1) else (s.extract k (k+pt.ltr s k)).data.toList++pt.clF s f (k+pt.ltr s k)) else [])=_;rw [if_pos hk,he,if_neg (by omega),pt.cut_take,hd];simp
inductive Ltc:List UInt8→Prop
 | nil:Ltc []
 | cons {x l:List UInt8} (hx:Lt1 x) (h:Ltc l):Ltc (x++l)
theorem Ltc.app {l:List UInt8} (h:Ltc l) {x:List UInt8} (hx:Lt1 x):Ltc (l++x):=by
 induction h with
 | nil =>
   have:=Ltc.cons hx .nil;simpa using this
 | cons hy h ih=>rw [List.append_assoc];exact .cons hy ih
theorem Lts.ltc {l:List UInt8} (h:Lts l):Ltc l:=by
 induction h with
 | nil=>exact .nil
 | snoc h hx ih=>exact ih.app hx
theorem clF_ltc (s:ByteArray) {l:List UInt8} (h:Ltc l):∀ (f k:Nat),s.data.toList.drop k=l→l.length≤f→pt.clF s f k=l:=by
 induction h with
 | nil =>
   intro f k hd _;have h2:s.data.toList.length=s.size:=Array.length_toList;have hl:=congrArg List.length hd;rw [List.length_drop,h2,List.length_nil] at hl
   cases f with
   | zero=>rfl
   | succ f=>exact if_neg (by omega)
 | @cons x l hx h ih =>
   intro f k hd hf;have hp:=hx.1;rw [List.length_append] at hf;obtain ⟨f,rfl⟩:∃ g,f=g+1:=⟨f - 1,by omega⟩;rw [clF_app s f k x l hd hx,ih f (k+x.length) (by rw [← List.drop_drop,hd,List.drop_left]) (by omega)]
end Go.Proofs.YthnhobplgmojeaaGreatDoor.rd
