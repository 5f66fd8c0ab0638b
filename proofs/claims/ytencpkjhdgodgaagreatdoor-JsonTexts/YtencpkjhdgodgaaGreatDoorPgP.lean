/- Texts in one: Pg Iw Ix -/
import Derived.Test.YtencpkjhdgodgaaGreatDoorItP
import Derived.Test.YtencpkjhdgodgaaGreatDoorLcP
import Derived.Test.YtencpkjhdgodgaaGreatDoorSaP
import Derived.Test.YtencpkjhdgodgaaGreatDoorWhP
namespace Go.Proofs.YtencpkjhdgodgaaGreatDoor.rd
open Go.RowKit
theorem drop_lt {s:ByteArray}{k:Nat}{c:UInt8}{t:List UInt8} (h:s.data.toList.drop k=c::t):k < s.size:=by
 have h2:s.data.toList.length=s.size:=Array.length_toList
 have hl:=congrArg List.length h
 rw [List.length_drop,h2,List.length_cons] at hl
 omega
theorem drop_pl {s:ByteArray}{k j:Nat}{x t:List UInt8} (h:s.data.toList.drop k=x++t):s.data.toList.drop (k+j)=(x++t).drop j:=by rw [← List.drop_drop,h]
theorem drop_on {s:ByteArray}{k:Nat}{x t:List UInt8} (h:s.data.toList.drop k=x++t):s.data.toList.drop (k+x.length)=t:=by rw [drop_pl h,List.drop_left]
theorem drop_by {s:ByteArray}{k:Nat}{c:UInt8}{t:List UInt8} (h:s.data.toList.drop k=c::t):by_ s k=(c.toNat:Int):=by
 have hk:=drop_lt h
 have e:=cutAt s k hk
 rw [h] at e
 have e2:=(List.cons.inj e).1
 exact (by_eq s k hk c).2 e2.symm
theorem drop_by' {s:ByteArray}{k j:Nat}{x:List UInt8}{c:UInt8} (h:s.data.toList.drop k=x) (hx:x[j]?=some c):by_ s (k+j)=(c.toNat:Int):=by
 apply drop_by (t:=x.drop (j+1))
 rw [← List.drop_drop,h]
 obtain ⟨hl,rfl⟩:=List.getElem?_eq_some_iff.1 hx
 exact List.drop_eq_getElem_cons hl
theorem enc_low (r:Nat) (h:r < 128):Lib.encodeRune (r:Int)=[r.toUInt8]:=by
 unfold Lib.encodeRune
 rw [Lib.encodeRuneZ_one (by omega) (by omega)]
 rfl
theorem nat_u8 (r:Nat) (h:r < 256):r.toUInt8.toNat=r:=by
 have:=u8_nat (r:Int) (by omega) (by omega)
 simpa using this
theorem enc_high (r:Nat) (h:128≤r):∃ c t,Lib.encodeRune (r:Int)=c::t∧128≤c.toNat:=by
 have key:∀ (a:Int) (l:List Int),Lib.encodeRuneZ (r:Int)=a::l→128≤a→a≤255→∃ c t,Lib.encodeRune (r:Int)=c::t∧128≤c.toNat:=fun a l e h1 h2=>by
  refine ⟨a.toNat.toUInt8,l.map fun x=>x.toNat.toUInt8,?_,?_⟩
  · unfold Lib.encodeRune;rw [e];rfl
  · rw [u8_nat a (by omega) h2];omega
 by_cases h2:r≤2047
 · exact key _ _ (Lib.encodeRuneZ_two (by omega) (by omega)) (by omega) (by omega)
 by_cases h3:(2048≤(r:Int)∧(r:Int) < 55296)∨(57343 < (r:Int)∧(r:Int)≤65535)
 · exact key _ _ (Lib.encodeRuneZ_three h3) (by omega) (by omega)
 by_cases h4:65536≤r∧r≤1114111
 · exact key _ _ (Lib.encodeRuneZ_four (by omega) (by omega)) (by omega) (by omega)
 · exact key _ _ (Lib.encodeRuneZ_bad (by omega)) (by omega) (by omega)
theorem hxd_num (n:Nat) (h:n < 16):hexv (hxd n)=some n:=by
 unfold hxd
 have:n=0∨n=1∨n=2∨n=3∨n=4∨n=5∨n=6∨n=7∨n=8∨n=9∨n=10∨n=11∨n=12∨n=13∨n=14∨n=15:=by omega
 rcases this with rfl|rfl|rfl|rfl|rfl|rfl|rfl|rfl|rfl|rfl|rfl|rfl|rfl|rfl|rfl|rfl <;> decide
theorem drop_size {s:ByteArray}{k:Nat}{x:List UInt8} (h:s.data.toList.drop k=x) (hx:x≠[]):s.size=k+x.length:=by
 have h2:s.data.toList.length=s.size:=Array.length_toList
 have hl:=congrArg List.length h
 rw [List.length_drop,h2] at hl
 have:0 < x.length:=List.length_pos_iff.2 hx
 omega
theorem lett_one (s:ByteArray) (f k r:Nat) (acc t:List UInt8) (h:s.data.toList.drop k=ltt r++t) :
 lettF s (f+1) k acc=lettF s f (k+(ltt r).length) (acc++Lib.encodeRune (r:Int)):=by
 have key:∀ (c:UInt8) (x:List UInt8),ltt r=[92,c]→escC (c.toNat:Int) (numS s k)=((r:Int),2)→lettF s (f+1) k acc=lettF s f (k+(ltt r).length) (acc++Lib.encodeRune (r:Int)):=fun c x e he=>by
  rw [e] at h ⊢
  have h0:=drop_lt h
  have b0:=drop_by h
  have b1:=drop_by' (j:=1) (c:=c) h (by simp)
  have hz:=drop_size h (by simp)
  have eS:escS s k=((r:Int),2):=by
   unfold escS
   rw [if_neg (by rw [hz];simp),b1,he]
  rw [lettF_esc s f k acc h0 b0 (by rw [eS];exact fun e=>by cases e),eS]
  rfl
 by_cases q1:r=34
 · subst q1;exact key 34 [] rfl rfl
 by_cases q2:r=92
 · subst q2;exact key 92 [] rfl rfl
 by_cases q3:r=8
 · subst q3;exact key 98 [] rfl rfl
 by_cases q4:r=9
 · subst q4;exact key 116 [] rfl rfl
 by_cases q5:r=10
 · subst q5;exact key 110 [] rfl rfl
 by_cases q6:r=12
 · subst q6;exact key 102 [] rfl rfl
 by_cases q7:r=13
 · subst q7;exact key 114 [] rfl rfl
 by_cases q8:32≤r
 · have e:ltt r=Lib.encodeRune (r:Int):=by
    unfold ltt
    rw [if_neg (by omega),if_neg q3,if_neg q4,if_neg q5,if_neg q6,if_neg q7,if_pos q8]
   rw [e] at h ⊢
   have hx:=lt1_enc (r:Int)
   obtain ⟨c,x,ex,hc⟩:∃ c x,Lib.encodeRune (r:Int)=c::x∧(32≤c.toNat∧c.toNat≠34∧c.toNat≠92):=by
    by_cases hl:r < 128
    · refine ⟨_,[],enc_low r hl,?_⟩
      rw [nat_u8 r (by omega)];omega
    · obtain ⟨c,x,e,hc⟩:=enc_high r (by omega)
      exact ⟨c,x,e,by omega⟩
   have h':=h
   rw [ex,List.cons_append] at h'
   have h0:=drop_lt h'
   have b0:=drop_by h'
   have hl:pt.ltr s k=(Lib.encodeRune (r:Int)).length:=by rw [ltr_drop s k h0,h];exact hx.2 t
   have hp:=hx.1
   rw [lettF_fit s f k acc h0 (by omega) (by omega) (by omega) (by omega),hl,pt.cut_take,h]
   simp
 · have e:ltt r=[92,117,48,48,hxd (r / 16),hxd (r % 16)]:=by
    unfold ltt
    rw [if_neg (by omega),if_neg q3,if_neg q4,if_neg q5,if_neg q6,if_neg q7,if_neg q8]
   rw [e] at h ⊢
   have h0:=drop_lt h
   have b0:=drop_by h
   have b1:=drop_by' (j:=1) (c:=117) h (by simp)
   have hz:=drop_size h (by simp)
   have eH:hexR s (k+2)=some r:=by
    unfold hexR
    rw [if_pos (by rw [hz];simp;omega),← List.drop_drop,h]
    show hexFrom [48,48,hxd (r / 16),hxd (r % 16)] 0=some r
    have z:hexv 48=some 0:=by decide
    simp only [hexFrom,z,hxd_num (r / 16) (by omega),hxd_num (r % 16) (by omega)]
    congr 1
    omega
   have eS:escS s k=((r:Int),6):=by
    unfold escS
    rw [if_neg (by rw [hz];simp),b1]
    show numS s k=_
    unfold numS
    rw [eH]
    simp only
    rw [if_pos (by omega)]
   rw [lettF_esc s f k acc h0 b0 (by rw [eS];exact fun e=>by cases e),eS]
   rfl
theorem lett_all (s X:ByteArray) {l:List UInt8} (hl:Ltc l):∀ (fuel pos f k:Nat) (acc t:List UInt8),X.data.toList.drop pos=l→l.length≤fuel→(ltsF X fuel pos).length < f→s.data.toList.drop k=ltsF X fuel pos++34::t →
 lettF s f k acc=.inl (acc++l,k+(ltsF X fuel pos).length+1):=by
 induction hl with
 | nil =>
   intro fuel pos f k acc t hX _ hf h
   have h2:X.data.toList.length=X.size:=Array.length_toList
   have hz:=congrArg List.length hX
   rw [List.length_drop,h2,List.length_nil] at hz
   rw [ltsF_end X fuel pos (by omega)] at h hf ⊢
   obtain ⟨f,rfl⟩:∃ g,f=g+1:=⟨f - 1,by omega⟩
   rw [List.nil_append] at h
   rw [lettF_quote s f k acc (drop_lt h) (drop_by h),List.append_nil]
   rfl
 | @cons x l hx hl ih =>
   intro fuel pos f k acc t hX hfu hf h
   have h2:X.data.toList.length=X.size:=Array.length_toList
   have hz:=congrArg List.length hX
   have hp:=hx.1
   rw [List.length_append] at hfu
   rw [List.length_drop,h2,List.length_append] at hz
   have hlt:pos < X.size:=by omega
   have hr:pt.ltr X pos=x.length:=by rw [ltr_drop X pos hlt,hX];exact hx.2 l
   obtain ⟨g,rfl⟩:∃ g,fuel=g+1:=⟨fuel - 1,by omega⟩
   rcases pt.place_says X pos hlt with ⟨a,_⟩|⟨_,_,d1,d2⟩
   · omega
   rw [hr] at d1 d2
   have e:ltsF X (g+1) pos=ltt (Utf8.decode X pos).1++ltsF X g (pos+x.length):=by
    rw [ltsF,if_pos hlt,d1]
   have d3:Lib.encodeRune ((Utf8.decode X pos).1:Int)=x:=by
    rw [d2,pt.cut_take,hX]
    simp
   rw [e] at h hf ⊢
   rw [List.length_append] at hf
   have hlp:0 < (ltt (Utf8.decode X pos).1).length:=by
    unfold ltt
    repeat' split
    all_goals first|(simp;done)|(rw [d3];exact hp)
   obtain ⟨f,rfl⟩:∃ g,f=g+1:=⟨f - 1,by omega⟩
   rw [List.append_assoc] at h
   rw [lett_one s f k _ acc _ h,d3,ih g (pos+x.length) f _ (acc++x) t (by rw [← List.drop_drop,hX,List.drop_left]) (by omega) (by omega) (drop_on h),List.append_assoc,List.length_append]
   congr 2
   omega
theorem letts_told {s X:ByteArray}{k:Nat}{t:List UInt8} (hX:Ltc X.data.toList) (h:s.data.toList.drop k=txtJ X++t):letts s k=.inl (X.data.toList,k+(txtJ X).length):=by
 unfold txtJ at h ⊢
 unfold letts
 have hz:=drop_size h (by simp)
 have h1:s.data.toList.drop (k+1)=ltsF X X.size 0++34::t:=by
  rw [← List.drop_drop,h]
  simp
 have h2:X.data.toList.length=X.size:=Array.length_toList
 rw [lett_all s X hX X.size 0 _ (k+1) [] t rfl (by omega) (by rw [hz];simp;omega) h1]
 simp only [List.nil_append,List.length_cons,List.length_append,List.length_nil]
 congr 2
 omega
end Go.Proofs.YtencpkjhdgodgaaGreatDoor.rd
