/- Texts in one: Nu Cb Np Ic Sm Lb RecA -/
import Derived.Lib.Bytealg
import Derived.Sort.Statements
import Derived.Lib.Strings
import Derived.Laws.Strings
import Derived.Scope
import Derived.ScopeJumps
import Derived.Below
import Derived.Deep.Draws
namespace Go.Proofs.YthnhobplgmojeaaGreatDoor.nu
def dig (c:UInt8):Bool:=decide (48≤c.toNat∧c.toNat≤57)
def at_ (s:ByteArray) (k:Nat):Option UInt8:=s.data.toList[k]?
def nd (s:ByteArray) (k:Nat):Nat:=((s.data.toList.drop k).takeWhile dig).length
structure Num where
 neg:Bool
 wh:ByteArray
 fr:ByteArray
 pn:Bool
 pw:ByteArray
def pwRest (s:ByteArray) (ng:Bool) (i k:Nat):Option (Bool × ByteArray) :=
 if k+nd s k=s.size then some (ng,s.extract i (k+nd s k)) else none
def pwFirst (s:ByteArray) (ng:Bool) (i:Nat):Option (Bool × ByteArray) :=
 match at_ s i with
 | some c=>if dig c then pwRest s ng i (i+1) else none
 | none=>none
def power (s:ByteArray) (i:Nat):Option (Bool × ByteArray) :=
 match at_ s i with
 | some c=>if c=45 then pwFirst s true (i+1) else if c=43 then pwFirst s false (i+1) else pwFirst s false i
 | none=>none
def measured (s:ByteArray) (k:Nat) (neg:Bool) (wh fr:ByteArray):Option Num :=
 match at_ s k with
 | some c=>if c=101∨c=69 then (power s (k+1)).map (fun p=>⟨neg,wh,fr,p.1,p.2⟩) else none
 | none=>some ⟨neg,wh,fr,false,.empty⟩
def fraction (s:ByteArray) (i k:Nat) (neg:Bool) (wh:ByteArray):Option Num :=
 measured s (k+nd s k) neg wh (s.extract i (k+nd s k))
def point (s:ByteArray) (k:Nat) (neg:Bool) (wh:ByteArray):Option Num :=
 match at_ s k with
 | some c=>if dig c then fraction s k (k+1) neg wh else none
 | none=>none
def counted (s:ByteArray) (i k:Nat) (neg:Bool):Option Num :=
 if at_ s k=some 46 then point s (k+1) neg (s.extract i k) else measured s k neg (s.extract i k) .empty
def whole (s:ByteArray) (i k:Nat) (neg:Bool):Option Num:=counted s i (k+nd s k) neg
def first (s:ByteArray) (k:Nat) (neg:Bool):Option Num :=
 match at_ s k with
 | some c=>if c=48 then counted s k (k+1) neg else if dig c then whole s k (k+1) neg else none
 | none=>none
def numeral (s:ByteArray):Option Num:=if at_ s 0=some 45 then first s 1 true else first s 0 false
theorem at_some (s:ByteArray) (k:Nat) (h:k < s.size):at_ s k=some s[k]:=by
 unfold at_;have h':k < s.data.toList.length:=by simpa using h
 rw [List.getElem?_eq_getElem h'];rfl
theorem at_none (s:ByteArray) (k:Nat) (h:k=s.size):at_ s k=none:=by
 unfold at_;apply List.getElem?_eq_none;simp [h]
theorem nd_yes (s:ByteArray) (k:Nat) (h:k < s.size) (hd:dig s[k]=true):nd s k=nd s (k+1)+1:=by
 unfold nd;have h':k < s.data.toList.length:=by simpa using h
 rw [List.drop_eq_getElem_cons h',List.takeWhile_cons];have e:s.data.toList[k]=s[k]:=rfl;rw [e,hd];simp
theorem nd_no (s:ByteArray) (k:Nat) (h:k < s.size) (hd:dig s[k]=false):nd s k=0:=by
 unfold nd;have h':k < s.data.toList.length:=by simpa using h
 rw [List.drop_eq_getElem_cons h',List.takeWhile_cons];have e:s.data.toList[k]=s[k]:=rfl;rw [e,hd];simp
theorem nd_end (s:ByteArray) (k:Nat) (h:k=s.size):nd s k=0:=by
 unfold nd;rw [List.drop_eq_nil_of_le (by simp [h])];rfl
theorem nd_le (s:ByteArray) (k:Nat) (h:k≤s.size):k+nd s k≤s.size:=by
 unfold nd;have h1:((s.data.toList.drop k).takeWhile dig).length≤(s.data.toList.drop k).length:=(List.takeWhile_prefix (p:=dig) (l:=s.data.toList.drop k)).length_le;have e:s.data.toList.length=s.size:=by rw [Array.length_toList];rfl
 rw [List.length_drop,e] at h1;omega
theorem idx_digits (c:UInt8):(0≤Lib.indexByte [48,49,50,51,52,53,54,55,56,57] c)↔dig c=true:=by
 have h:∀ n:Fin 256,(0≤Lib.indexByte [48,49,50,51,52,53,54,55,56,57] (UInt8.ofNat n.val))↔dig (UInt8.ofNat n.val)=true:=by decide +kernel
 have:=h ⟨c.toNat,c.toNat_lt⟩;simpa using this
theorem idx_one (a c:UInt8):(0≤Lib.indexByte [a] c)↔c=a:=by
 by_cases h:a=c
 · subst h;simp [Lib.indexByte]
 · have h':¬ c=a:=fun e=>h e.symm
   simp [Lib.indexByte,h,h']
theorem idx_two (c:UInt8):(0≤Lib.indexByte [101,69] c)↔(c=101∨c=69):=by
 have h:∀ n:Fin 256,(0≤Lib.indexByte [101,69] (UInt8.ofNat n.val))↔(UInt8.ofNat n.val=101∨UInt8.ofNat n.val=69):=by decide +kernel
 have:=h ⟨c.toNat,c.toNat_lt⟩;simpa using this
end Go.Proofs.YthnhobplgmojeaaGreatDoor.nu
namespace Go.Proofs.YthnhobplgmojeaaGreatDoor.cb
open Go.Lib (compareBytes)
theorem tri:∀ a b:List UInt8,compareBytes a b=-1∨compareBytes a b=0∨compareBytes a b=1
 | [],[]=>by simp [compareBytes]
 | [],_::_=>by simp [compareBytes]
 | _::_,[]=>by simp [compareBytes]
 | a::as,b::bs=>by
   unfold compareBytes
   split
   · simp
   · split
     · simp
     · exact tri as bs
theorem self:∀ a:List UInt8,compareBytes a a=0
 | []=>rfl
 | a::as=>by
   unfold compareBytes;have h:¬ a < a:=by rw [UInt8.lt_iff_toNat_lt];omega
   rw [if_neg h,if_neg h];exact self as
theorem sym:∀ a b:List UInt8,compareBytes b a=- compareBytes a b
 | [],[]=>rfl
 | [],_::_=>rfl
 | _::_,[]=>rfl
 | a::as,b::bs=>by
   have ih:=sym as bs;unfold compareBytes;simp only [UInt8.lt_iff_toNat_lt]
   by_cases h1:a.toNat < b.toNat
   · have h2:¬ b.toNat < a.toNat:=by omega
     simp [h1,h2]
   · by_cases h2:b.toNat < a.toNat
     · simp [h1,h2]
     · simp only [h1,h2,if_false];exact ih
theorem eq_of:∀ a b:List UInt8,compareBytes a b=0→a=b
 | [],[],_=>rfl
 | [],_::_,h=>by simp [compareBytes] at h
 | _::_,[],h=>by simp [compareBytes] at h
 | a::as,b::bs,h=>by
   unfold compareBytes at h;simp only [UInt8.lt_iff_toNat_lt] at h
   split at h
   · cases h
   · split at h
     · cases h
     · rename_i h1 h2
       have e:a=b:=UInt8.toNat_inj.1 (by omega);rw [e,eq_of as bs h]
theorem trans:∀ a b c:List UInt8,compareBytes a b≤0→compareBytes b c≤0→compareBytes a c≤0
 | [],b,[],_,_=>by simp [compareBytes]
 | [],b,_::_,_,_=>by simp [compareBytes]
 | a::as,[],c,h,_=>by simp [compareBytes] at h
 | a::as,b::bs,[],_,h=>by simp [compareBytes] at h
 | a::as,b::bs,c::cs,h1,h2=>by
   have ih:=trans as bs cs;unfold compareBytes at h1 h2 ⊢;simp only [UInt8.lt_iff_toNat_lt] at h1 h2 ⊢
   by_cases q1:a.toNat < c.toNat
   · rw [if_pos q1];omega
   · rw [if_neg q1]
     by_cases p1:a.toNat < b.toNat
     · by_cases p2:b.toNat < c.toNat
       · omega
       · rw [if_neg p2] at h2
         by_cases p3:c.toNat < b.toNat
         · rw [if_pos p3] at h2;omega
         · omega
     · rw [if_neg p1] at h1
       by_cases p4:b.toNat < a.toNat
       · rw [if_pos p4] at h1;omega
       · rw [if_neg p4] at h1
         by_cases p2:b.toNat < c.toNat
         · omega
         · rw [if_neg p2] at h2
           by_cases p3:c.toNat < b.toNat
           · rw [if_pos p3] at h2;omega
           · rw [if_neg p3] at h2
             rw [if_neg (by omega)];exact ih h1 h2
theorem total (a b:List UInt8):compareBytes a b≤0∨compareBytes b a≤0:=by
 rw [sym a b];omega
theorem anti (a b:List UInt8) (h1:compareBytes a b≤0) (h2:compareBytes b a≤0):a=b:=by
 rw [sym a b] at h2;exact eq_of a b (by omega)
theorem lt_iff (a b:List UInt8):compareBytes a b < 0↔¬ compareBytes b a≤0:=by
 rw [sym a b];omega
end Go.Proofs.YthnhobplgmojeaaGreatDoor.cb
namespace Go.Proofs.YthnhobplgmojeaaGreatDoor.nu
theorem ext_size (s:ByteArray) (i j:Nat):(s.extract i j).size≤s.size:=by
 have:(s.extract i j).size=min j s.size - i:=by simp
 omega
theorem ext_list (s:ByteArray) (i j:Nat):(s.extract i j).data.toList=(s.data.toList.drop i).take (j - i):=by
 exact Lib.extract_data s i j
structure Good (s:ByteArray) (x:Num):Prop where
 wh:x.wh.size≤s.size
 fr:x.fr.size≤s.size
 pw:x.pw.size≤s.size
 dg:∀ c∈x.pw.data.toList,dig c=true
theorem pw_list (s:ByteArray) (i:Nat):(s.extract i (i+nd s i)).data.toList=(s.data.toList.drop i).takeWhile dig:=by
 rw [ext_list,Nat.add_sub_cancel_left];exact (List.prefix_iff_eq_take.1 (List.takeWhile_prefix dig)).symm
theorem pwFirst_good (s:ByteArray) (ng:Bool) (i:Nat) (p:Bool × ByteArray) (h:pwFirst s ng i=some p):p.2.size≤s.size∧∀ c∈p.2.data.toList,dig c=true:=by
 unfold pwFirst at h
 rcases Nat.lt_or_ge i s.size with hi|hi
 · rw [at_some s i hi] at h
   simp only at h
   by_cases hd:dig s[i]=true
   · rw [if_pos hd] at h
     unfold pwRest at h;have e:i+1+nd s (i+1)=i+nd s i:=by rw [nd_yes s i hi hd];omega
     rw [e] at h
     by_cases hz:i+nd s i=s.size
     · rw [if_pos hz] at h
       cases h
       refine ⟨ext_size _ _ _,fun c hc=>?_⟩;rw [pw_list] at hc;exact (List.all_takeWhile (p:=dig) (l:=s.data.toList.drop i) |> List.all_eq_true.1) c hc
     · rw [if_neg hz] at h;cases h
   · rw [if_neg hd] at h;cases h
 · have:at_ s i=none:=by
    unfold at_;apply List.getElem?_eq_none;simpa using hi
   rw [this] at h;cases h
theorem power_good (s:ByteArray) (i:Nat) (p:Bool × ByteArray) (h:power s i=some p):p.2.size≤s.size∧∀ c∈p.2.data.toList,dig c=true:=by
 unfold power at h
 cases hx:at_ s i with
 | none=>rw [hx] at h;cases h
 | some c =>
   rw [hx] at h;simp only at h
   split at h
   · exact pwFirst_good _ _ _ _ h
   · split at h
     · exact pwFirst_good _ _ _ _ h
     · exact pwFirst_good _ _ _ _ h
theorem measured_good (s:ByteArray) (k:Nat) (neg:Bool) (wh fr:ByteArray) (x:Num) (hw:wh.size≤s.size) (hf:fr.size≤s.size) (h:measured s k neg wh fr=some x):Good s x:=by
 unfold measured at h
 cases hx:at_ s k with
 | none=>rw [hx] at h;cases h;exact ⟨hw,hf,by simp,fun c hc=>by simp at hc⟩
 | some c =>
   rw [hx] at h;simp only at h
   split at h
   · cases hp:power s (k+1) with
     | none=>rw [hp] at h;cases h
     | some p =>
       rw [hp] at h
       cases h
       have:=power_good s _ _ hp;exact ⟨hw,hf,this.1,this.2⟩
   · cases h
theorem point_good (s:ByteArray) (k:Nat) (neg:Bool) (wh:ByteArray) (x:Num) (hw:wh.size≤s.size) (h:point s k neg wh=some x):Good s x:=by
 unfold point at h
 cases hx:at_ s k with
 | none=>rw [hx] at h;cases h
 | some c =>
   rw [hx] at h;simp only at h
   split at h
   · exact measured_good s _ neg wh _ x hw (ext_size _ _ _) h
   · cases h
theorem counted_good (s:ByteArray) (i k:Nat) (neg:Bool) (x:Num) (h:counted s i k neg=some x):Good s x:=by
 unfold counted at h
 split at h
 · exact point_good s _ neg _ x (ext_size _ _ _) h
 · exact measured_good s _ neg _ _ x (ext_size _ _ _) (by simp) h
theorem first_good (s:ByteArray) (k:Nat) (neg:Bool) (x:Num) (h:first s k neg=some x):Good s x:=by
 unfold first at h
 cases hx:at_ s k with
 | none=>rw [hx] at h;cases h
 | some c =>
   rw [hx] at h;simp only at h
   split at h
   · exact counted_good s _ _ neg x h
   · split at h
     · exact counted_good s _ _ neg x h
     · cases h
theorem numeral_good (s:ByteArray) (x:Num) (h:numeral s=some x):Good s x:=by
 unfold numeral at h
 split at h
 · exact first_good s _ _ x h
 · exact first_good s _ _ x h
end Go.Proofs.YthnhobplgmojeaaGreatDoor.nu
namespace Go.Proofs.YthnhobplgmojeaaGreatDoor.jn
open Go
open Go.Lib (compareBytes)
theorem less_cmp:∀ a b:List UInt8,Op.bytesLess a b=decide (compareBytes a b < 0)
 | [],[]=>by simp [Op.bytesLess,compareBytes]
 | [],_::_=>by simp [Op.bytesLess,compareBytes]
 | _::_,[]=>by simp [Op.bytesLess,compareBytes]
 | a::as,b::bs=>by
   have ih:=less_cmp as bs;unfold Op.bytesLess compareBytes;rw [ih]
   by_cases h1:a < b
   · simp [h1]
   · by_cases h2:b < a
     · have h3:¬ a=b:=by rintro rfl;exact h1 h2
       simp [h1,h2,h3]
     · have h3:a=b:=by
        rw [UInt8.lt_iff_toNat_lt] at h1 h2;exact UInt8.toNat_inj.mp (by omega)
       subst h3;simp [h1]
theorem gt_cmp (a b:List UInt8):(!(Op.bytesLess a b || a == b))=decide (0 < compareBytes a b):=by
 rw [less_cmp]
 rcases cb.tri a b with h|h|h
 · rw [h];simp
 · have:=cb.eq_of a b h
   rw [h,this];simp
 · have hn:¬ a=b:=by rintro rfl;rw [cb.self] at h;omega
   rw [h];simp [hn]
variable {α:Type}
def ins (l:List (ByteArray × α)) (f:ByteArray × α):List (ByteArray × α):=match l with
 | []=>[f]
 | p::l=>if 0 < compareBytes p.1.data.toList f.1.data.toList then f::p::l else p::ins l f
def putP (l:List (ByteArray × α)) (f:ByteArray × α):List (ByteArray × α):=if l.any (fun p=>decide (p.1=f.1)) then l else ins l f
def puts (f:List (ByteArray × α)):List (ByteArray × α):=f.foldl putP []
theorem ins_perm (l:List (ByteArray × α)) (f:ByteArray × α):(ins l f).Perm (f::l):=by
 induction l with
 | nil=>exact List.Perm.refl _
 | cons p l ih =>
   unfold ins
   split
   · exact List.Perm.refl _
   · exact (List.Perm.cons p ih).trans (List.Perm.swap f p l)
def Srt (l:List (ByteArray × α)):Prop:=l.Pairwise (fun a b=>compareBytes a.1.data.toList b.1.data.toList≤0)
theorem ins_srt (l:List (ByteArray × α)) (f:ByteArray × α) (h:Srt l):Srt (ins l f):=by
 induction l with
 | nil=>exact List.pairwise_singleton _ _
 | cons p l ih =>
   unfold Srt at h;rw [List.pairwise_cons] at h;have hs:=cb.sym p.1.data.toList f.1.data.toList;unfold ins Srt
   split
   · rename_i q
     rw [List.pairwise_cons];refine ⟨fun b hb=>?_,List.pairwise_cons.2 h⟩
     rcases List.mem_cons.1 hb with rfl|hb
     · omega
     · exact cb.trans _ _ _ (by omega) (h.1 b hb)
   · rename_i q
     rw [List.pairwise_cons];refine ⟨fun b hb=>?_,ih h.2⟩
     rcases List.mem_cons.1 ((ins_perm l f).mem_iff.1 hb) with rfl|hb
     · omega
     · exact h.1 b hb
theorem putP_new {l:List (ByteArray × α)}{f:ByteArray × α} (h:∀ p∈l,p.1≠f.1):putP l f=ins l f:=by
 unfold putP;rw [if_neg];rw [List.any_eq_true];rintro ⟨p,hp,q⟩;exact h p hp (of_decide_eq_true q)
variable {α:Type}
def Ris (l:List (ByteArray × α)):Prop:=l.Pairwise (fun a b=>compareBytes a.1.data.toList b.1.data.toList < 0)
theorem ins_last (l:List (ByteArray × α)) (f:ByteArray × α) (h:∀ p∈l,compareBytes p.1.data.toList f.1.data.toList < 0):ins l f=l++[f]:=by
 induction l with
 | nil=>rfl
 | cons p l ih =>
   have:=h p (by simp);rw [ins,if_neg (by omega),ih (fun q hq=>h q (by simp [hq]))];rfl
theorem put_last (l:List (ByteArray × α)) (f:ByteArray × α) (h:∀ p∈l,compareBytes p.1.data.toList f.1.data.toList < 0):putP l f=l++[f]:=by
 unfold putP;rw [if_neg,ins_last l f h];intro q;obtain ⟨p,hp,e⟩:=List.any_eq_true.1 q;have:=h p hp;rw [of_decide_eq_true e,cb.self] at this;omega
theorem fold_ris:∀ (f acc:List (ByteArray × α)),Ris (acc++f)→f.foldl putP acc=acc++f
 | [],acc,_=>by simp
 | p::f,acc,h=>by
   have h1:∀ q∈acc,compareBytes q.1.data.toList p.1.data.toList < 0:=fun q hq=>(List.pairwise_append.1 h).2.2 q hq p (by simp)
   rw [List.foldl_cons,put_last acc p h1,fold_ris f (acc++[p]) (by simpa using h)];simp
theorem puts_ris (f:List (ByteArray × α)) (h:Ris f):puts f=f:=by
 have:=fold_ris f [] (by simpa using h);simpa [puts] using this
end Go.Proofs.YthnhobplgmojeaaGreatDoor.jn
namespace Go.Proofs.YthnhobplgmojeaaGreatDoor
open Go Go.RowKit
def Jumps (J:Nat→Act→World→Prop) (Q:Exit→Act→World→Prop):Exit→Act→World→Prop
 | .goto l,a,w=>J l a w
 | e,a,w=>Q e a w
theorem Jumps.ret (J:Nat→Act→World→Prop) (Q:Exit→Act→World→Prop) (a:Act) (w:World):Jumps J Q .ret a w=Q .ret a w:=rfl
theorem wp_scope_labels {P:Program}{a:Act}{w:World}{Q:Exit→Act→World→Prop}{c:Code} (J:Nat→Nat→Act→World→Prop)
 (first:c.wp P (Jumps (fun l a' w'=>∃ n,J n l a' w') Q) a w)
 (pass:∀ n l a w,J n l a w→∃ rest,findLabel c l=some rest∧rest.wp P (Jumps (fun l' a' w'=>∃ n',n' < n∧J n' l' a' w') Q) a w):(Code.scope c).wp P Q a w:=by
 intro b k cs
 have key:∀ n l a w,J n l a w→∃ rest,findLabel c l=some rest∧∃ e a' w',Q e a' w'∧Arrives P (lone (b.at a (.code rest::.inScope c::k)) cs w) b k cs e a' w':=by
  intro n
  induction n using Nat.strongRecOn with
  | _ n ih =>
    intro l a w hJ;obtain ⟨rest,hf,hp⟩:=pass n l a w hJ;refine ⟨rest,hf,?_⟩;obtain ⟨e,a₁,w₁,hq,harr⟩:=hp b (.inScope c::k) cs
    cases e with
    | normal=>exact ⟨.normal,a₁,w₁,hq,Steps.trans harr (.one step_inScope)⟩
    | exit id=>exact ⟨.exit id,a₁,w₁,hq,fun k' hk=>harr k' (by simp [exitTo,hk])⟩
    | goto l' =>
      obtain ⟨n',hlt,hJ'⟩:=hq;obtain ⟨rest',hf',e₂,a₂,w₂,hq₂,harr₂⟩:=ih n' hlt l' a₁ w₁ hJ';have hg:gotoIn l' (.inScope c::k)=some (.code rest'::.inScope c::k):=by simp [gotoIn,hf']
      exact ⟨e₂,a₂,w₂,hq₂,.of_steps (harr _ hg) harr₂⟩
    | ret=>exact ⟨_,a₁,w₁,hq,harr⟩
    | panic ch=>exact ⟨_,a₁,w₁,hq,harr⟩
    | outgrown=>exact ⟨_,a₁,w₁,hq,harr⟩
 obtain ⟨e,a₁,w₁,hq,harr⟩:=first b (.inScope c::k) cs
 cases e with
 | normal=>exact ⟨.normal,a₁,w₁,hq,.head step_scope (Steps.trans harr (.one step_inScope))⟩
 | exit id=>exact ⟨.exit id,a₁,w₁,hq,fun k' hk=>.head step_scope (harr k' (by simp [exitTo,hk]))⟩
 | goto l' =>
   obtain ⟨n',hJ'⟩:=hq;obtain ⟨rest',hf',e₂,a₂,w₂,hq₂,harr₂⟩:=key n' l' a₁ w₁ hJ';have hg:gotoIn l' (.inScope c::k)=some (.code rest'::.inScope c::k):=by simp [gotoIn,hf']
   exact ⟨e₂,a₂,w₂,hq₂,.of_steps (.head step_scope (harr _ hg)) harr₂⟩
 | ret=>exact ⟨_,a₁,w₁,hq,.of_steps (.one step_scope) harr⟩
 | panic ch=>exact ⟨_,a₁,w₁,hq,.of_steps (.one step_scope) harr⟩
 | outgrown=>exact ⟨_,a₁,w₁,hq,.of_steps (.one step_scope) harr⟩
structure Upd (b:Nat) (w w':World):Prop where
 os:w'.os=w.os
 tape:w'.tape=w.tape
 output:w'.output=w.output
 size:w'.heap.size=w.heap.size
 block:∀ k,k≠b→w'.heap[k]?=w.heap[k]?
theorem Upd.refl (b:Nat) (w:World):Upd b w w:=⟨rfl,rfl,rfl,rfl,fun _ _=>rfl⟩
theorem Upd.trans {b:Nat}{u v w:World} (h:Upd b u v) (k:Upd b v w):Upd b u w :=
 ⟨k.os.trans h.os,k.tape.trans h.tape,k.output.trans h.output,k.size.trans h.size,fun i hi=>(k.block i hi).trans (h.block i hi)⟩
theorem Upd.drewN (b:Nat) (w:World) (n:Nat):Upd b w (w.drewN n):=⟨rfl,rfl,rfl,rfl,fun _ _=>rfl⟩
theorem Upd.setCell (b o:Nat) (w:World) (v:Value):Upd b w (w.setCell ⟨b,o,none⟩ v) :=
 ⟨rfl,rfl,rfl,by simp [World.setCell],fun k hk=>Below.heap_setCell _ _ _ _ (by simpa using hk)⟩
theorem Upd.below {b:Nat}{w w':World} (h:Upd b w w') {B:Nat} (hB:B≤b):Below B w w' :=
 ⟨h.os,h.tape,h.output,Nat.le_of_eq h.size.symm,fun k hk=>h.block k (by omega)⟩
theorem hide {p:Prop} (h:p):Hid p:=h
theorem uh {p:Prop} (h:Hid p):p:=h
theorem blk_cell {w:World}{b:Nat}{cs:Array Value}{t:TypeId}{f:Nat × Nat} (h:w.heap[b]?=some (.cells cs t f)) (o:Nat):w.cell? ⟨b,o,none⟩=cs[o]?:=by
 simp [World.cell?,h]
theorem blk_free {w:World}{b:Nat}{cs:Array Value}{t:TypeId} (h:w.heap[b]?=some (.cells cs t (0,0))) (o:Nat):w.frozen? ⟨b,o,none⟩=false:=by
 simp [World.frozen?,h]
theorem blk_set {w:World}{b:Nat}{cs:Array Value}{t:TypeId}{f:Nat × Nat} (h:w.heap[b]?=some (.cells cs t f)) (o:Nat) (v:Value) :
 (w.setCell ⟨b,o,none⟩ v).heap[b]?=some (.cells (cs.setIfInBounds o v) t f):=by
 simp only [World.setCell,Array.getElem?_modify,h];simp
theorem blk_lt {w:World}{b:Nat}{o:Obj} (h:w.heap[b]?=some o):b < w.heap.size:=by
 rcases Nat.lt_or_ge b w.heap.size with h'|h'
 · exact h'
 · rw [Array.getElem?_eq_none h'] at h;cases h
end Go.Proofs.YthnhobplgmojeaaGreatDoor
namespace Go.Proofs.YthnhobplgmojeaaGreatDoor.ev
def cntB (n:Nat):List UInt8:=if n < 128 then [UInt8.ofNat n] else UInt8.ofNat (n % 128+128)::cntB (n / 128)
termination_by n
decreasing_by omega
theorem cntB_small {n:Nat} (h:n < 128):cntB n=[UInt8.ofNat n]:=by rw [cntB,if_pos h]
theorem cntB_big {n:Nat} (h:¬ n < 128):cntB n=UInt8.ofNat (n % 128+128)::cntB (n / 128):=by rw [cntB,if_neg h]
def rdC:Nat→Nat→Nat→List UInt8→Option (Nat × List UInt8)
 | 0,_,_,_=>none
 | _+1,_,_,[]=>none
 | k+1,i,n,c::l=>if 128≤c.toNat then rdC k (i+1) (n+(c.toNat % 128)*128 ^ i) l else if 0 < i∧c.toNat=0 then none else some (n+c.toNat*128 ^ i,l)
theorem toNat_of {n:Nat} (h:n < 256):(UInt8.ofNat n).toNat=n:=Nat.mod_eq_of_lt h
theorem rdC_cnt (k:Nat):∀ (i n m:Nat) (t:List UInt8),m < 128 ^ k→(0 < i→0 < m)→0 < k→rdC k i n (cntB m++t)=some (n+m*128 ^ i,t):=by
 induction k with
 | zero=>intro i n m t _ _ h;omega
 | succ k ih =>
   intro i n m t hm hi _
   by_cases h:m < 128
   · rw [cntB_small h]
     show rdC (k+1) i n (UInt8.ofNat m::t)=_;rw [rdC,toNat_of (by omega),if_neg (by omega),if_neg (fun q=>by have:=hi q.1;omega)]
   · rw [cntB_big h]
     show rdC (k+1) i n (UInt8.ofNat (m % 128+128)::(cntB (m / 128)++t))=_
     have hm':m / 128 < 128 ^ k:=by
      rw [Nat.div_lt_iff_lt_mul (by decide),← Nat.pow_succ];exact hm
     have hk:0 < k:=by
      cases k with
      | zero=>simp at hm';omega
      | succ k=>omega
     rw [rdC,toNat_of (by omega),if_pos (by omega),ih _ _ _ _ hm' (fun _=>by omega) hk];have e1:(m % 128+128) % 128=m % 128:=by omega
     rw [e1]
     have e2:n+m % 128*128 ^ i+m / 128*128 ^ (i+1)=n+m*128 ^ i:=by
      rw [Nat.pow_succ,Nat.mul_comm (128 ^ i) 128,← Nat.mul_assoc,Nat.add_assoc,← Nat.add_mul]
      congr 2
      omega
     rw [e2]
theorem rdC_inv (k:Nat):∀ (i n:Nat) (l t:List UInt8) (r:Nat),rdC k i n l=some (r,t)→∃ m,l=cntB m++t∧r=n+m*128 ^ i∧(0 < i→0 < m)∧m < 128 ^ k:=by
 induction k with
 | zero=>intro i n l t r h;simp [rdC] at h
 | succ k ih =>
   intro i n l t r h
   cases l with
   | nil=>simp [rdC] at h
   | cons c l =>
     have hc:=c.toNat_lt;rw [rdC] at h
     split at h
     · rename_i h1
       obtain ⟨m,rfl,rfl,h3,h4⟩:=ih _ _ _ _ _ h;have hm:=h3 (by omega);refine ⟨m*128+c.toNat % 128,?_,?_,fun _=>by omega,?_⟩
       · rw [cntB_big (n:=m*128+c.toNat % 128) (by omega),show (m*128+c.toNat % 128) / 128=m by omega,show (m*128+c.toNat % 128) % 128+128=c.toNat by omega,UInt8.ofNat_toNat]
         rfl
       · rw [Nat.pow_succ,Nat.mul_comm (128 ^ i) 128,← Nat.mul_assoc,Nat.add_assoc,← Nat.add_mul,Nat.add_comm (c.toNat % 128)]
       · rw [Nat.pow_succ];omega
     · rename_i h1
       split at h
       · simp at h
       · rename_i h2
         simp only [Option.some.injEq,Prod.mk.injEq] at h;obtain ⟨rfl,rfl⟩:=h;refine ⟨c.toNat,?_,rfl,fun hi=>?_,?_⟩
         · rw [cntB_small (by omega),UInt8.ofNat_toNat];rfl
         · exact Nat.pos_of_ne_zero fun q=>h2 ⟨hi,q⟩
         · have:128 ^ 1≤128 ^ (k+1):=Nat.pow_le_pow_right (by decide) (by omega)
           omega
def rdR:Nat→Nat→Nat→List UInt8→Option (Nat × List UInt8)
 | 0,_,_,_=>none
 | _+1,_,_,[]=>none
 | k+1,i,n,c::l=>if 128≤c.toNat then rdR k (i+1) (n+128 ^ i*(c.toNat % 128)) l else some (n+128 ^ i*c.toNat,l)
def rdN (lo hi:Nat) (l:List UInt8):Option (Nat × List UInt8):=match rdC 9 0 0 l with
 | some (n,t)=>if lo≤n∧n≤hi then some (n,t) else none
 | none=>none
theorem rdN_cnt {lo hi n:Nat} (t:List UInt8) (h0:lo≤n) (h1:n≤hi) (h2:hi < 2 ^ 63):rdN lo hi (cntB n++t)=some (n,t):=by
 unfold rdN;rw [rdC_cnt 9 0 0 n t (by omega) (by omega) (by omega)];simp [h0,h1]
theorem rdN_inv {lo hi n:Nat}{l t:List UInt8} (h:rdN lo hi l=some (n,t)):l=cntB n++t∧lo≤n∧n≤hi:=by
 unfold rdN at h
 split at h
 · rename_i n' t' hc
   split at h
   · rename_i hb
     simp only [Option.some.injEq,Prod.mk.injEq] at h;obtain ⟨rfl,rfl⟩:=h;obtain ⟨m,rfl,hm,_,_⟩:=rdC_inv 9 0 0 _ _ _ hc;have:n'=m:=by omega
     subst this;exact ⟨rfl,hb⟩
   · simp at h
 · simp at h
def txtB (s:List UInt8):List UInt8:=cntB s.length++s
def rdT (l:List UInt8):Option (List UInt8 × List UInt8):=match rdN 0 1048576 l with
 | some (n,t)=>if n≤t.length then some (t.take n,t.drop n) else none
 | none=>none
theorem rdT_txt {s:List UInt8} (t:List UInt8) (h:s.length≤1048576):rdT (txtB s++t)=some (s,t):=by
 unfold rdT txtB;rw [List.append_assoc,rdN_cnt (s++t) (Nat.zero_le _) h (by decide)];simp
theorem rdT_inv {s l t:List UInt8} (h:rdT l=some (s,t)):l=txtB s++t∧s.length≤1048576:=by
 unfold rdT at h
 split at h
 · rename_i n t' hc
   obtain ⟨rfl,_,hn⟩:=rdN_inv hc
   split at h
   · rename_i hl
     simp only [Option.some.injEq,Prod.mk.injEq] at h;obtain ⟨rfl,rfl⟩:=h;have e:(t'.take n).length=n:=by rw [List.length_take];omega
     unfold txtB;rw [e,List.append_assoc,List.take_append_drop];exact ⟨rfl,hn⟩
   · simp at h
 · simp at h
def numsB:List Nat→List UInt8
 | []=>[]
 | n::l=>cntB n++numsB l
def plcB (l:List Nat):List UInt8:=cntB l.length++numsB l
def rdNums:Nat→List UInt8→Option (List Nat × List UInt8)
 | 0,l=>some ([],l)
 | k+1,l=>match rdN 0 2147483647 l with
   | some (n,t)=>match rdNums k t with
     | some (ns,u)=>some (n::ns,u)
     | none=>none
   | none=>none
theorem rdNums_nums (ns:List Nat):∀ t,(∀ n∈ns,n≤2147483647)→rdNums ns.length (numsB ns++t)=some (ns,t):=by
 induction ns with
 | nil=>intro t _;rfl
 | cons n ns ih =>
   intro t h;show rdNums (ns.length+1) (cntB n++numsB ns++t)=_;rw [rdNums,List.append_assoc,rdN_cnt _ (Nat.zero_le _) (h n (List.mem_cons_self ..)) (by decide)];simp only;rw [ih t fun m hm=>h m (List.mem_cons_of_mem _ hm)]
theorem rdNums_inv (k:Nat):∀ {l ns t},rdNums k l=some (ns,t)→l=numsB ns++t∧ns.length=k∧∀ n∈ns,n≤2147483647:=by
 induction k with
 | zero =>
   intro l ns t h;simp only [rdNums,Option.some.injEq,Prod.mk.injEq] at h;obtain ⟨rfl,rfl⟩:=h;exact ⟨rfl,rfl,fun n hn=>by simp at hn⟩
 | succ k ih =>
   intro l ns t h;rw [rdNums] at h
   split at h
   · rename_i n t' hc
     split at h
     · rename_i ns' u hd
       simp only [Option.some.injEq,Prod.mk.injEq] at h;obtain ⟨rfl,rfl⟩:=h;obtain ⟨rfl,_,hn⟩:=rdN_inv hc;obtain ⟨rfl,rfl,hns⟩:=ih hd;refine ⟨by simp [numsB],rfl,fun m hm=>?_⟩
       rcases List.mem_cons.1 hm with rfl|hm
       · exact hn
       · exact hns m hm
     · simp at h
   · simp at h
def rdP (l:List UInt8):Option (List Nat × List UInt8):=match rdN 0 192 l with
 | some (n,t)=>rdNums n t
 | none=>none
theorem rdP_plc {ns:List Nat} (t:List UInt8) (h:ns.length≤192) (hn:∀ n∈ns,n≤2147483647):rdP (plcB ns++t)=some (ns,t):=by
 unfold rdP plcB;rw [List.append_assoc,rdN_cnt _ (Nat.zero_le _) h (by decide)];exact rdNums_nums ns t hn
theorem rdP_inv {l ns t} (h:rdP l=some (ns,t)):l=plcB ns++t∧ns.length≤192∧∀ n∈ns,n≤2147483647:=by
 unfold rdP at h
 split at h
 · rename_i n t' hc
   obtain ⟨rfl,_,hn⟩:=rdN_inv hc;obtain ⟨rfl,rfl,hns⟩:=rdNums_inv n h;exact ⟨by simp [plcB],hn,hns⟩
 · simp at h
end Go.Proofs.YthnhobplgmojeaaGreatDoor.ev
