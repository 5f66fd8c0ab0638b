/- Texts in one: Nu Np Cb Ic Sm -/
import Derived.Lib.Bytealg
import Derived.Lib.Strings
import Derived.Sort.Statements
import Derived.Laws.Strings
namespace Go.Proofs.YthakglomacijgaaGreatDoor.nu
def dig (c:UInt8):Bool:=decide (48≤c.toNat∧c.toNat≤57)
def at_ (s:ByteArray) (k:Nat):Option UInt8:=s.data.toList[k]?
def nd (s:ByteArray) (k:Nat):Nat:=((s.data.toList.drop k).takeWhile dig).length
structure Num where
 neg:Bool
 wh:ByteArray
 fr:ByteArray
 pn:Bool
 pw:ByteArray
def pwRest (s:ByteArray) (ng:Bool) (i k:Nat):Option (Bool × ByteArray) :=
 if k+nd s k=s.size then some (ng,s.extract i (k+nd s k)) else none
def pwFirst (s:ByteArray) (ng:Bool) (i:Nat):Option (Bool × ByteArray) :=
 match at_ s i with
 | some c=>if dig c then pwRest s ng i (i+1) else none
 | none=>none
def power (s:ByteArray) (i:Nat):Option (Bool × ByteArray) :=
 match at_ s i with
 | some c=>if c=45 then pwFirst s true (i+1) else if c=43 then pwFirst s false (i+1) else pwFirst s false i
 | none=>none
def measured (s:ByteArray) (k:Nat) (neg:Bool) (wh fr:ByteArray):Option Num :=
 match at_ s k with
 | some c=>if c=101∨c=69 then (power s (k+1)).map (fun p=>⟨neg,wh,fr,p.1,p.2⟩) else none
 | none=>some ⟨neg,wh,fr,false,.empty⟩
def fraction (s:ByteArray) (i k:Nat) (neg:Bool) (wh:ByteArray):Option Num :=
 measured s (k+nd s k) neg wh (s.extract i (k+nd s k))
def point (s:ByteArray) (k:Nat) (neg:Bool) (wh:ByteArray):Option Num :=
 match at_ s k with
 | some c=>if dig c then fraction s k (k+1) neg wh else none
 | none=>none
def counted (s:ByteArray) (i k:Nat) (neg:Bool):Option Num :=
 if at_ s k=some 46 then point s (k+1) neg (s.extract i k) else measured s k neg (s.extract i k) .empty
def whole (s:ByteArray) (i k:Nat) (neg:Bool):Option Num:=counted s i (k+nd s k) neg
def first (s:ByteArray) (k:Nat) (neg:Bool):Option Num :=
 match at_ s k with
 | some c=>if c=48 then counted s k (k+1) neg else if dig c then whole s k (k+1) neg else none
 | none=>none
def numeral (s:ByteArray):Option Num:=if at_ s 0=some 45 then first s 1 true else first s 0 false
theorem at_some (s:ByteArray) (k:Nat) (h:k < s.size):at_ s k=some s[k]:=by
 unfold at_
 have h':k < s.data.toList.length:=by simpa using h
 rw [List.getElem?_eq_getElem h']
 rfl
theorem at_none (s:ByteArray) (k:Nat) (h:k=s.size):at_ s k=none:=by
 unfold at_
 apply List.getElem?_eq_none
 simp [h]
theorem nd_yes (s:ByteArray) (k:Nat) (h:k < s.size) (hd:dig s[k]=true):nd s k=nd s (k+1)+1:=by
 unfold nd
 have h':k < s.data.toList.length:=by simpa using h
 rw [List.drop_eq_getElem_cons h',List.takeWhile_cons]
 have e:s.data.toList[k]=s[k]:=rfl
 rw [e,hd]
 simp
theorem nd_no (s:ByteArray) (k:Nat) (h:k < s.size) (hd:dig s[k]=false):nd s k=0:=by
 unfold nd
 have h':k < s.data.toList.length:=by simpa using h
 rw [List.drop_eq_getElem_cons h',List.takeWhile_cons]
 have e:s.data.toList[k]=s[k]:=rfl
 rw [e,hd]
 simp
theorem nd_end (s:ByteArray) (k:Nat) (h:k=s.size):nd s k=0:=by
 unfold nd
 rw [List.drop_eq_nil_of_le (by simp [h])]
 rfl
theorem nd_le (s:ByteArray) (k:Nat) (h:k≤s.size):k+nd s k≤s.size:=by
 unfold nd
 have h1:((s.data.toList.drop k).takeWhile dig).length≤(s.data.toList.drop k).length:=(List.takeWhile_prefix (p:=dig) (l:=s.data.toList.drop k)).length_le
 have e:s.data.toList.length=s.size:=by rw [Array.length_toList];rfl
 rw [List.length_drop,e] at h1
 omega
theorem idx_digits (c:UInt8):(0≤Lib.indexByte [48,49,50,51,52,53,54,55,56,57] c)↔dig c=true:=by
 have h:∀ n:Fin 256,(0≤Lib.indexByte [48,49,50,51,52,53,54,55,56,57] (UInt8.ofNat n.val))↔dig (UInt8.ofNat n.val)=true:=by decide +kernel
 have:=h ⟨c.toNat,c.toNat_lt⟩
 simpa using this
theorem idx_one (a c:UInt8):(0≤Lib.indexByte [a] c)↔c=a:=by
 by_cases h:a=c
 · subst h;simp [Lib.indexByte]
 · have h':¬ c=a:=fun e=>h e.symm
   simp [Lib.indexByte,h,h']
theorem idx_two (c:UInt8):(0≤Lib.indexByte [101,69] c)↔(c=101∨c=69):=by
 have h:∀ n:Fin 256,(0≤Lib.indexByte [101,69] (UInt8.ofNat n.val))↔(UInt8.ofNat n.val=101∨UInt8.ofNat n.val=69):=by decide +kernel
 have:=h ⟨c.toNat,c.toNat_lt⟩
 simpa using this
theorem ext_size (s:ByteArray) (i j:Nat):(s.extract i j).size≤s.size:=by
 have:(s.extract i j).size=min j s.size - i:=by simp
 omega
theorem ext_list (s:ByteArray) (i j:Nat):(s.extract i j).data.toList=(s.data.toList.drop i).take (j - i):=by
 exact Lib.extract_data s i j
structure Good (s:ByteArray) (x:Num):Prop where
 wh:x.wh.size≤s.size
 fr:x.fr.size≤s.size
 pw:x.pw.size≤s.size
 dg:∀ c∈x.pw.data.toList,dig c=true
theorem pw_list (s:ByteArray) (i:Nat):(s.extract i (i+nd s i)).data.toList=(s.data.toList.drop i).takeWhile dig:=by
 rw [ext_list,Nat.add_sub_cancel_left]
 exact (List.prefix_iff_eq_take.1 (List.takeWhile_prefix dig)).symm
theorem pwFirst_good (s:ByteArray) (ng:Bool) (i:Nat) (p:Bool × ByteArray) (h:pwFirst s ng i=some p):p.2.size≤s.size∧∀ c∈p.2.data.toList,dig c=true:=by
 unfold pwFirst at h
 rcases Nat.lt_or_ge i s.size with hi|hi
 · rw [at_some s i hi] at h
   simp only at h
   by_cases hd:dig s[i]=true
   · rw [if_pos hd] at h
     unfold pwRest at h
     have e:i+1+nd s (i+1)=i+nd s i:=by rw [nd_yes s i hi hd];omega
     rw [e] at h
     by_cases hz:i+nd s i=s.size
     · rw [if_pos hz] at h
       cases h
       refine ⟨ext_size _ _ _,fun c hc=>?_⟩
       rw [pw_list] at hc
       exact (List.all_takeWhile (p:=dig) (l:=s.data.toList.drop i) |> List.all_eq_true.1) c hc
     · rw [if_neg hz] at h;cases h
   · rw [if_neg hd] at h;cases h
 · have:at_ s i=none:=by
    unfold at_;apply List.getElem?_eq_none;simpa using hi
   rw [this] at h;cases h
theorem power_good (s:ByteArray) (i:Nat) (p:Bool × ByteArray) (h:power s i=some p):p.2.size≤s.size∧∀ c∈p.2.data.toList,dig c=true:=by
 unfold power at h
 cases hx:at_ s i with
 | none=>rw [hx] at h;cases h
 | some c =>
   rw [hx] at h
   simp only at h
   split at h
   · exact pwFirst_good _ _ _ _ h
   · split at h
     · exact pwFirst_good _ _ _ _ h
     · exact pwFirst_good _ _ _ _ h
theorem measured_good (s:ByteArray) (k:Nat) (neg:Bool) (wh fr:ByteArray) (x:Num) (hw:wh.size≤s.size) (hf:fr.size≤s.size) (h:measured s k neg wh fr=some x):Good s x:=by
 unfold measured at h
 cases hx:at_ s k with
 | none=>rw [hx] at h;cases h;exact ⟨hw,hf,by simp,fun c hc=>by simp at hc⟩
 | some c =>
   rw [hx] at h
   simp only at h
   split at h
   · cases hp:power s (k+1) with
     | none=>rw [hp] at h;cases h
     | some p =>
       rw [hp] at h
       cases h
       have:=power_good s _ _ hp
       exact ⟨hw,hf,this.1,this.2⟩
   · cases h
theorem point_good (s:ByteArray) (k:Nat) (neg:Bool) (wh:ByteArray) (x:Num) (hw:wh.size≤s.size) (h:point s k neg wh=some x):Good s x:=by
 unfold point at h
 cases hx:at_ s k with
 | none=>rw [hx] at h;cases h
 | some c =>
   rw [hx] at h
   simp only at h
   split at h
   · exact measured_good s _ neg wh _ x hw (ext_size _ _ _) h
   · cases h
theorem counted_good (s:ByteArray) (i k:Nat) (neg:Bool) (x:Num) (h:counted s i k neg=some x):Good s x:=by
 unfold counted at h
 split at h
 · exact point_good s _ neg _ x (ext_size _ _ _) h
 · exact measured_good s _ neg _ _ x (ext_size _ _ _) (by simp) h
theorem first_good (s:ByteArray) (k:Nat) (neg:Bool) (x:Num) (h:first s k neg=some x):Good s x:=by
 unfold first at h
 cases hx:at_ s k with
 | none=>rw [hx] at h;cases h
 | some c =>
   rw [hx] at h
   simp only at h
   split at h
   · exact counted_good s _ _ neg x h
   · split at h
     · exact counted_good s _ _ neg x h
     · cases h
theorem numeral_good (s:ByteArray) (x:Num) (h:numeral s=some x):Good s x:=by
 unfold numeral at h
 split at h
 · exact first_good s _ _ x h
 · exact first_good s _ _ x h
end Go.Proofs.YthakglomacijgaaGreatDoor.nu
namespace Go.Proofs.YthakglomacijgaaGreatDoor.cb
open Go.Lib (compareBytes)
theorem tri:∀ a b:List UInt8,compareBytes a b=-1∨compareBytes a b=0∨compareBytes a b=1
 | [],[]=>by simp [compareBytes]
 | [],_::_=>by simp [compareBytes]
 | _::_,[]=>by simp [compareBytes]
 | a::as,b::bs=>by
   unfold compareBytes
   split
   · simp
   · split
     · simp
     · exact tri as bs
theorem self:∀ a:List UInt8,compareBytes a a=0
 | []=>rfl
 | a::as=>by
   unfold compareBytes
   have h:¬ a < a:=by rw [UInt8.lt_iff_toNat_lt];omega
   rw [if_neg h,if_neg h]
   exact self as
theorem sym:∀ a b:List UInt8,compareBytes b a=- compareBytes a b
 | [],[]=>rfl
 | [],_::_=>rfl
 | _::_,[]=>rfl
 | a::as,b::bs=>by
   have ih:=sym as bs
   unfold compareBytes
   simp only [UInt8.lt_iff_toNat_lt]
   by_cases h1:a.toNat < b.toNat
   · have h2:¬ b.toNat < a.toNat:=by omega
     simp [h1,h2]
   · by_cases h2:b.toNat < a.toNat
     · simp [h1,h2]
     · simp only [h1,h2,if_false];exact ih
theorem eq_of:∀ a b:List UInt8,compareBytes a b=0→a=b
 | [],[],_=>rfl
 | [],_::_,h=>by simp [compareBytes] at h
 | _::_,[],h=>by simp [compareBytes] at h
 | a::as,b::bs,h=>by
   unfold compareBytes at h
   simp only [UInt8.lt_iff_toNat_lt] at h
   split at h
   · cases h
   · split at h
     · cases h
     · rename_i h1 h2
       have e:a=b:=UInt8.toNat_inj.1 (by omega)
       rw [e,eq_of as bs h]
theorem trans:∀ a b c:List UInt8,compareBytes a b≤0→compareBytes b c≤0→compareBytes a c≤0
 | [],b,[],_,_=>by simp [compareBytes]
 | [],b,_::_,_,_=>by simp [compareBytes]
 | a::as,[],c,h,_=>by simp [compareBytes] at h
 | a::as,b::bs,[],_,h=>by simp [compareBytes] at h
 | a::as,b::bs,c::cs,h1,h2=>by
   have ih:=trans as bs cs
   unfold compareBytes at h1 h2 ⊢
   simp only [UInt8.lt_iff_toNat_lt] at h1 h2 ⊢
   by_cases q1:a.toNat < c.toNat
   · rw [if_pos q1];omega
   · rw [if_neg q1]
     by_cases p1:a.toNat < b.toNat
     · by_cases p2:b.toNat < c.toNat
       · omega
       · rw [if_neg p2] at h2
         by_cases p3:c.toNat < b.toNat
         · rw [if_pos p3] at h2;omega
         · omega
     · rw [if_neg p1] at h1
       by_cases p4:b.toNat < a.toNat
       · rw [if_pos p4] at h1;omega
       · rw [if_neg p4] at h1
         by_cases p2:b.toNat < c.toNat
         · omega
         · rw [if_neg p2] at h2
           by_cases p3:c.toNat < b.toNat
           · rw [if_pos p3] at h2;omega
           · rw [if_neg p3] at h2
             rw [if_neg (by omega)]
             exact ih h1 h2
theorem total (a b:List UInt8):compareBytes a b≤0∨compareBytes b a≤0:=by
 rw [sym a b]
 omega
theorem anti (a b:List UInt8) (h1:compareBytes a b≤0) (h2:compareBytes b a≤0):a=b:=by
 rw [sym a b] at h2
 exact eq_of a b (by omega)
theorem lt_iff (a b:List UInt8):compareBytes a b < 0↔¬ compareBytes b a≤0:=by
 rw [sym a b]
 omega
end Go.Proofs.YthakglomacijgaaGreatDoor.cb
namespace Go.Proofs.YthakglomacijgaaGreatDoor.jn
open Go
open Go.Lib (compareBytes)
variable {α:Type}
def ins (l:List (ByteArray × α)) (f:ByteArray × α):List (ByteArray × α):=match l with
 | []=>[f]
 | p::l=>if 0 < compareBytes p.1.data.toList f.1.data.toList then f::p::l else p::ins l f
def putP (l:List (ByteArray × α)) (f:ByteArray × α):List (ByteArray × α):=if l.any (fun p=>decide (p.1=f.1)) then l else ins l f
def puts (f:List (ByteArray × α)):List (ByteArray × α):=f.foldl putP []
theorem ins_perm (l:List (ByteArray × α)) (f:ByteArray × α):(ins l f).Perm (f::l):=by
 induction l with
 | nil=>exact List.Perm.refl _
 | cons p l ih =>
   unfold ins
   split
   · exact List.Perm.refl _
   · exact (List.Perm.cons p ih).trans (List.Perm.swap f p l)
def Srt (l:List (ByteArray × α)):Prop:=l.Pairwise (fun a b=>compareBytes a.1.data.toList b.1.data.toList≤0)
theorem ins_srt (l:List (ByteArray × α)) (f:ByteArray × α) (h:Srt l):Srt (ins l f):=by
 induction l with
 | nil=>exact List.pairwise_singleton _ _
 | cons p l ih =>
   unfold Srt at h
   rw [List.pairwise_cons] at h
   have hs:=cb.sym p.1.data.toList f.1.data.toList
   unfold ins Srt
   split
   · rename_i q
     rw [List.pairwise_cons]
     refine ⟨fun b hb=>?_,List.pairwise_cons.2 h⟩
     rcases List.mem_cons.1 hb with rfl|hb
     · omega
     · exact cb.trans _ _ _ (by omega) (h.1 b hb)
   · rename_i q
     rw [List.pairwise_cons]
     refine ⟨fun b hb=>?_,ih h.2⟩
     rcases List.mem_cons.1 ((ins_perm l f).mem_iff.1 hb) with rfl|hb
     · omega
     · exact h.1 b hb
variable {α:Type}
def Ris (l:List (ByteArray × α)):Prop:=l.Pairwise (fun a b=>compareBytes a.1.data.toList b.1.data.toList < 0)
theorem ins_last (l:List (ByteArray × α)) (f:ByteArray × α) (h:∀ p∈l,compareBytes p.1.data.toList f.1.data.toList < 0):ins l f=l++[f]:=by
 induction l with
 | nil=>rfl
 | cons p l ih =>
   have:=h p (by simp)
   rw [ins,if_neg (by omega),ih (fun q hq=>h q (by simp [hq]))]
   rfl
theorem put_last (l:List (ByteArray × α)) (f:ByteArray × α) (h:∀ p∈l,compareBytes p.1.data.toList f.1.data.toList < 0):putP l f=l++[f]:=by
 unfold putP
 rw [if_neg,ins_last l f h]
 intro q
 obtain ⟨p,hp,e⟩:=List.any_eq_true.1 q
 have:=h p hp
 rw [of_decide_eq_true e,cb.self] at this
 omega
theorem fold_ris:∀ (f acc:List (ByteArray × α)),Ris (acc++f)→f.foldl putP acc=acc++f
 | [],acc,_=>by simp
 | p::f,acc,h=>by
   have h1:∀ q∈acc,compareBytes q.1.data.toList p.1.data.toList < 0:=fun q hq=>(List.pairwise_append.1 h).2.2 q hq p (by simp)
   rw [List.foldl_cons,put_last acc p h1,fold_ris f (acc++[p]) (by simpa using h)]
   simp
theorem puts_ris (f:List (ByteArray × α)) (h:Ris f):puts f=f:=by
 have:=fold_ris f [] (by simpa using h)
 simpa [puts] using this
end Go.Proofs.YthakglomacijgaaGreatDoor.jn
