/- Texts in one: Zz Pg -/
import Derived.Test.YthnhobplgmojeaaGreatDoorScP
import Derived.Test.YthnhobplgmojeaaGreatDoorItP
import Derived.Test.YthnhobplgmojeaaGreatDoorLcP
import Derived.Test.YthnhobplgmojeaaGreatDoorSaP
namespace Go.Proofs.YthnhobplgmojeaaGreatDoor.rd.ss
open Go.RowKit Go.Shelf Go.Lib Go.Sort
section
variable (D:List Fd)
structure Seg (L:List Nat) (lo hi:Nat):Prop where
 le:lo≤hi
 len:hi≤L.length
 own:∀ p,lo≤p→p < hi→lo≤at' L p∧at' L p < hi
 srt:∀ p q,lo≤p→p < q→q < hi→lr D (at' L p) (at' L q)
theorem Seg.keep {L L':List Nat}{lo hi:Nat} (h:Seg D L lo hi) (hl:L'.length=L.length) (he:∀ p,lo≤p→p < hi→at' L' p=at' L p):Seg D L' lo hi where
 le:=h.le
 len:=by rw [hl];exact h.len
 own p h1 h2:=by rw [he p h1 h2];exact h.own p h1 h2
 srt p q h1 h2 h3:=by rw [he p h1 (by omega),he q (by omega) h3];exact h.srt p q h1 h2 h3
theorem parted (L:List Nat) (a m e:Nat) (h1:a≤m) (h2:m≤e):L=L.take a++((L.drop a).take (m - a)++((L.drop m).take (e - m)++L.drop e)):=by
 have e1:L.drop m=(L.drop a).drop (m - a):=by rw [List.drop_drop];congr 1;omega
 have e2:L.drop e=(L.drop m).drop (e - m):=by rw [List.drop_drop];congr 1;omega
 rw [e2,List.take_append_drop,e1,List.take_append_drop,List.take_append_drop]
theorem at_part {L:List Nat}{a c i:Nat} (h:i < c) (hl:a+c≤L.length):at' ((L.drop a).take c) i=at' L (a+i):=by
 rw [at_take h (by rw [List.length_drop];omega),at_drop (by omega)]
theorem seg_pre {L:List Nat}{a m e:Nat} (h1:Seg D L a m) (h2:Seg D L m e):Pre D ((L.drop a).take (m - a)) ((L.drop m).take (e - m)):=by
 have q1:=h1.le;have q2:=h1.len;have q3:=h2.le;have q4:=h2.len;have len1:((L.drop a).take (m - a)).length=m - a:=by rw [List.length_take,List.length_drop];omega
 have len2:((L.drop m).take (e - m)).length=e - m:=by rw [List.length_take,List.length_drop];omega
 refine ⟨?_,?_,?_⟩
 · rw [List.pairwise_iff_getElem]
   intro i j hi hj hij;rw [← at_eq hi,← at_eq hj,at_part (by omega) (by omega),at_part (by omega) (by omega)];exact h1.srt _ _ (by omega) (by omega) (by omega)
 · rw [List.pairwise_iff_getElem]
   intro i j hi hj hij;rw [← at_eq hi,← at_eq hj,at_part (by omega) (by omega),at_part (by omega) (by omega)];exact h2.srt _ _ (by omega) (by omega) (by omega)
 · intro x hx y hy
   obtain ⟨i,hi,rfl⟩:=mem_at hx;obtain ⟨j,hj,rfl⟩:=mem_at hy;rw [at_part (by omega) (by omega),at_part (by omega) (by omega)];have:=(h1.own (a+i) (by omega) (by omega)).2;have:=(h2.own (m+j) (by omega) (by omega)).1;omega
theorem seg_post {L C:List Nat}{a m e:Nat} (h1:Seg D L a m) (h2:Seg D L m e) (hC:Post D ((L.drop a).take (m - a)) ((L.drop m).take (e - m)) C) :
 Seg D (L.take a++(C++L.drop e)) a e∧(L.take a++(C++L.drop e)).length=L.length∧(L.take a++(C++L.drop e)).Perm L∧(∀ p,p < a∨(e≤p∧p < L.length)→at' (L.take a++(C++L.drop e)) p=at' L p):=by
 have q1:=h1.le;have q2:=h1.len;have q3:=h2.le;have q4:=h2.len;have len1:((L.drop a).take (m - a)).length=m - a:=by rw [List.length_take,List.length_drop];omega
 have len2:((L.drop m).take (e - m)).length=e - m:=by rw [List.length_take,List.length_drop];omega
 have lenC:C.length=e - a:=by rw [Post.len D hC,len1,len2];omega
 have lenA:(L.take a).length=a:=by rw [List.length_take];omega
 have lenS:(L.drop e).length=L.length - e:=by rw [List.length_drop]
 have hlen:(L.take a++(C++L.drop e)).length=L.length:=by simp only [List.length_append];omega
 have atC:∀ p,a≤p→p < e→at' (L.take a++(C++L.drop e)) p=at' C (p - a):=fun p p1 p2=>by
  have:=@at_right (L.take a) (C++L.drop e) (p - a) (by rw [List.length_append];omega);rw [lenA,show a+(p - a)=p by omega] at this;rw [this,at_left (by omega)]
 refine ⟨⟨by omega,by omega,fun p p1 p2=>?_,fun p q p1 p2 p3=>?_⟩,hlen,?_,fun p hp=>?_⟩
 · rw [atC p p1 p2]
   have hm:=(hC.1.mem_iff).1 (at_mem (L:=C) (i:=p - a) (by omega));rw [List.mem_append] at hm
   rcases hm with hm|hm
   · obtain ⟨i,hi,hx⟩:=mem_at hm
     rw [at_part (by omega) (by omega)] at hx;have:=h1.own (a+i) (by omega) (by omega);omega
   · obtain ⟨i,hi,hx⟩:=mem_at hm
     rw [at_part (by omega) (by omega)] at hx;have:=h2.own (m+i) (by omega) (by omega);omega
 · rw [atC p p1 (by omega),atC q (by omega) p3]
   exact pw_at D hC.2 (by omega) (by omega)
 · have e1:=parted L a m e q1 q3
   conv=>rhs;rw [e1]
   refine List.Perm.append_left _ ?_;rw [← List.append_assoc];exact List.Perm.append_right _ hC.1
 · rcases hp with hp|⟨hp1,hp2⟩
   · rw [at_left (by omega),at_take hp (by omega)]
   · have e9:L.take a++(C++L.drop e)=(L.take a++C)++L.drop e:=by rw [List.append_assoc]
     have:=@at_right (L.take a++C) (L.drop e) (p - e) (by omega);rw [List.length_append,lenA,lenC,show a+(e - a)+(p - e)=p by omega] at this;rw [e9,this,at_drop (by omega)]
     congr 1
     omega
theorem dvd_step {b lo a:Nat} (h1:b ∣ lo) (h2:b ∣ a) (h:lo < a):lo+b≤a:=by
 have:=Nat.le_of_dvd (by omega) (Nat.dvd_sub h2 h1);omega
structure Blk (n b:Nat) (L:List Nat):Prop where
 perm:L.Perm (List.range n)
 seg:∀ lo,b ∣ lo→lo < n→Seg D L lo (min (lo+b) n)
structure Bin (n b a:Nat) (L:List Nat):Prop where
 perm:L.Perm (List.range n)
 dv:b ∣ a
 seg:∀ lo,b ∣ lo→lo < a→Seg D L lo (lo+b)
 rest:∀ p,a≤p→p < n→at' L p=p
structure Bmg (n b a:Nat) (L:List Nat):Prop where
 perm:L.Perm (List.range n)
 dv:2*b ∣ a
 seg:∀ lo,2*b ∣ lo→lo < a→Seg D L lo (lo+2*b)
 rest:∀ lo,b ∣ lo→a≤lo→lo < n→Seg D L lo (min (lo+b) n)
theorem Bin.start (n b:Nat):Bin D n b 0 (List.range n) where
 perm:=.refl _
 dv:=Nat.dvd_zero b
 seg lo _ h:=by omega
 rest p _ h:=by rw [at_eq (by simpa using h)];simp
theorem Bin.next {n b a:Nat}{L L':List Nat} (h:Bin D n b a L) (hp:L'.Perm L) (hs:Seg D L' a (a+b)) (he:∀ p,p < a∨(a+b≤p∧p < n)→at' L' p=at' L p):Bin D n b (a+b) L' where
 perm:=hp.trans h.perm
 dv:=Nat.dvd_add h.dv (Nat.dvd_refl b)
 seg lo h1 h2:=by
  by_cases h3:lo < a
  · have:=dvd_step h1 h.dv h3
    exact (h.seg lo h1 h3).keep D hp.length_eq (fun p p1 p2=>he p (.inl (by omega)))
  · by_cases h4:lo=a
    · rw [h4];exact hs
    · have:=dvd_step h.dv h1 (by omega)
      omega
 rest p p1 p2:=by rw [he p (.inr ⟨p1,p2⟩)];exact h.rest p (by omega) p2
theorem Bin.done {n b a:Nat}{L L':List Nat} (h:Bin D n b a L) (hb:n < a+b) (hp:L'.Perm L) (hs:a < n→Seg D L' a n) (he:∀ p,p < a→at' L' p=at' L p):Blk D n b L' where
 perm:=hp.trans h.perm
 seg lo h1 h2:=by
  by_cases h3:lo < a
  · have:=dvd_step h1 h.dv h3
    have h4:=(h.seg lo h1 h3).keep D hp.length_eq (fun p p1 p2=>he p (by omega));have:=h4.len;have hl:L'.length=n:=by rw [(hp.trans h.perm).length_eq];simp
    rw [Nat.min_eq_left (by omega)];exact h4
  · by_cases h4:lo=a
    · rw [h4,Nat.min_eq_right (by omega)];exact hs (by omega)
    · have:=dvd_step h.dv h1 (by omega)
      omega
theorem Blk.start {n b:Nat}{L:List Nat} (h:Blk D n b L):Bmg D n b 0 L where
 perm:=h.perm
 dv:=Nat.dvd_zero _
 seg lo _ q:=by omega
 rest lo h1 _ h3:=h.seg lo h1 h3
theorem Bmg.two {n b a:Nat}{L:List Nat} (h:Bmg D n b a L) (hb:0 < b) (hn:a+b < n):Seg D L a (a+b)∧Seg D L (a+b) (min (a+2*b) n):=by
 have d1:b ∣ a:=Nat.dvd_trans (Nat.dvd_mul_left b 2) h.dv;have h1:=h.rest a d1 (Nat.le_refl _) (by omega);have h2:=h.rest (a+b) (Nat.dvd_add d1 (Nat.dvd_refl b)) (by omega) hn;rw [Nat.min_eq_left (by omega)] at h1;rw [show a+b+b=a+2*b by omega] at h2;exact ⟨h1,h2⟩
theorem Bmg.next {n b a:Nat}{L L':List Nat} (h:Bmg D n b a L) (hp:L'.Perm L) (hs:Seg D L' a (a+2*b)) (he:∀ p,p < a∨(a+2*b≤p∧p < n)→at' L' p=at' L p):Bmg D n b (a+2*b) L' where
 perm:=hp.trans h.perm
 dv:=Nat.dvd_add h.dv (Nat.dvd_refl _)
 seg lo h1 h2:=by
  by_cases h3:lo < a
  · have:=dvd_step h1 h.dv h3
    exact (h.seg lo h1 h3).keep D hp.length_eq (fun p p1 p2=>he p (.inl (by omega)))
  · by_cases h4:lo=a
    · rw [h4];exact hs
    · have:=dvd_step h.dv h1 (by omega)
      omega
 rest lo h1 h2 h3:=(h.rest lo h1 (by omega) h3).keep D hp.length_eq (fun p p1 p2=>he p (.inr ⟨by omega,by omega⟩))
theorem Bmg.done {n b a:Nat}{L L':List Nat} (h:Bmg D n b a L) (hb:n < a+2*b) (hp:L'.Perm L) (hs:a < n→Seg D L' a n) (he:∀ p,p < a→at' L' p=at' L p):Blk D n (2*b) L' where
 perm:=hp.trans h.perm
 seg lo h1 h2:=by
  by_cases h3:lo < a
  · have:=dvd_step h1 h.dv h3
    have h4:=(h.seg lo h1 h3).keep D hp.length_eq (fun p p1 p2=>he p (by omega));have:=h4.len;have hl:L'.length=n:=by rw [(hp.trans h.perm).length_eq];simp
    rw [Nat.min_eq_left (by omega)];exact h4
  · by_cases h4:lo=a
    · rw [h4,Nat.min_eq_right (by omega)];exact hs (by omega)
    · have:=dvd_step h.dv h1 (by omega)
      omega
theorem Blk.all {n b:Nat}{L:List Nat} (h:Blk D n b L) (hn:n≤b):L=stb D n:=by
 have hl:L.length=n:=by rw [h.perm.length_eq];simp
 have hs:L.Pairwise (fun x y=>lxI D x y=true):=by
  rw [List.pairwise_iff_getElem];intro i j hi hj hij;have:=h.seg 0 (Nat.dvd_zero b) (by omega);rw [Nat.zero_add,Nat.min_eq_right hn] at this;rw [← at_eq hi,← at_eq hj];exact this.srt i j (by omega) hij (by omega)
 unfold stb;refine List.Perm.eq_of_pairwise (le:=fun x y=>(!lxI D y x)=true) ?_ ?_ ?_ (h.perm.trans (List.mergeSort_perm _ _).symm)
 · intro x y _ _ h1 h2
   exact lx_total D x y (by simpa using h2) (by simpa using h1)
 · refine hs.imp ?_
   intro x y hxy;have:=(swoX D).irrefl x
   cases hq:lxI D y x
   · rfl
   · have h9:=(swoX D).trans x y x hxy hq
     rw [this] at h9
     cases h9
 · refine List.pairwise_mergeSort ?_ ?_ _
   · intro x y z h1 h2
     simp only [Bool.not_eq_true'] at h1 h2 ⊢;exact (swoX D).ntrans z y x h2 h1
   · intro x y
     cases hq:lxI D y x
     · rfl
     · cases hr:lxI D x y
       · rfl
       · have h9:=(swoX D).trans x y x hr hq
         rw [(swoX D).irrefl x] at h9
         cases h9
end
end Go.Proofs.YthnhobplgmojeaaGreatDoor.rd.ss
namespace Go.Proofs.YthnhobplgmojeaaGreatDoor.rd
open Go.RowKit
theorem drop_lt {s:ByteArray}{k:Nat}{c:UInt8}{t:List UInt8} (h:s.data.toList.drop k=c::t):k < s.size:=by
 have h2:s.data.toList.length=s.size:=Array.length_toList;have hl:=congrArg List.length h;rw [List.length_drop,h2,List.length_cons] at hl;omega
theorem drop_pl {s:ByteArray}{k j:Nat}{x t:List UInt8} (h:s.data.toList.drop k=x++t):s.data.toList.drop (k+j)=(x++t).drop j:=by rw [← List.drop_drop,h]
theorem drop_on {s:ByteArray}{k:Nat}{x t:List UInt8} (h:s.data.toList.drop k=x++t):s.data.toList.drop (k+x.length)=t:=by rw [drop_pl h,List.drop_left]
theorem drop_by {s:ByteArray}{k:Nat}{c:UInt8}{t:List UInt8} (h:s.data.toList.drop k=c::t):by_ s k=(c.toNat:Int):=by
 have hk:=drop_lt h;have e:=cutAt s k hk;rw [h] at e;have e2:=(List.cons.inj e).1;exact (by_eq s k hk c).2 e2.symm
theorem drop_by' {s:ByteArray}{k j:Nat}{x:List UInt8}{c:UInt8} (h:s.data.toList.drop k=x) (hx:x[j]?=some c):by_ s (k+j)=(c.toNat:Int):=by
 apply drop_by (t:=x.drop (j+1));rw [← List.drop_drop,h];obtain ⟨hl,rfl⟩:=List.getElem?_eq_some_iff.1 hx;exact List.drop_eq_getElem_cons hl
theorem enc_low (r:Nat) (h:r < 128):Lib.encodeRune (r:Int)=[r.toUInt8]:=by
 unfold Lib.encodeRune;rw [Lib.encodeRuneZ_one (by omega) (by omega)];rfl
theorem nat_u8 (r:Nat) (h:r < 256):r.toUInt8.toNat=r:=by
 have:=u8_nat (r:Int) (by omega) (by omega);simpa using this
theorem enc_high (r:Nat) (h:128≤r):∃ c t,Lib.encodeRune (r:Int)=c::t∧128≤c.toNat:=by
 have key:∀ (a:Int) (l:List Int),Lib.encodeRuneZ (r:Int)=a::l→128≤a→a≤255→∃ c t,Lib.encodeRune (r:Int)=c::t∧128≤c.toNat:=fun a l e h1 h2=>by
  refine ⟨a.toNat.toUInt8,l.map fun x=>x.toNat.toUInt8,?_,?_⟩
  · unfold Lib.encodeRune;rw [e];rfl
  · rw [u8_nat a (by omega) h2];omega
 by_cases h2:r≤2047
 · exact key _ _ (Lib.encodeRuneZ_two (by omega) (by omega)) (by omega) (by omega)
 by_cases h3:(2048≤(r:Int)∧(r:Int) < 55296)∨(57343 < (r:Int)∧(r:Int)≤65535)
 · exact key _ _ (Lib.encodeRuneZ_three h3) (by omega) (by omega)
 by_cases h4:65536≤r∧r≤1114111
 · exact key _ _ (Lib.encodeRuneZ_four (by omega) (by omega)) (by omega) (by omega)
 · exact key _ _ (Lib.encodeRuneZ_bad (by omega)) (by omega) (by omega)
theorem hxd_num (n:Nat) (h:n < 16):hexv (hxd n)=some n:=by
 unfold hxd;have:n=0∨n=1∨n=2∨n=3∨n=4∨n=5∨n=6∨n=7∨n=8∨n=9∨n=10∨n=11∨n=12∨n=13∨n=14∨n=15:=by omega
 rcases this with rfl|rfl|rfl|rfl|rfl|rfl|rfl|rfl|rfl|rfl|rfl|rfl|rfl|rfl|rfl|rfl <;> decide
theorem drop_size {s:ByteArray}{k:Nat}{x:List UInt8} (h:s.data.toList.drop k=x) (hx:x≠[]):s.size=k+x.length:=by
 have h2:s.data.toList.length=s.size:=Array.length_toList;have hl:=congrArg List.length h;rw [List.length_drop,h2] at hl;have:0 < x.length:=List.length_pos_iff.2 hx;omega
theorem lett_one (s:ByteArray) (f k r:Nat) (acc t:List UInt8) (h:s.data.toList.drop k=ltt r++t) :
 lettF s (f+1) k acc=lettF s f (k+(ltt r).length) (acc++Lib.encodeRune (r:Int)):=by
 have key:∀ (c:UInt8) (x:List UInt8),ltt r=[92,c]→escC (c.toNat:Int) (numS s k)=((r:Int),2)→lettF s (f+1) k acc=lettF s f (k+(ltt r).length) (acc++Lib.encodeRune (r:Int)):=fun c x e he=>by
  rw [e] at h ⊢;have h0:=drop_lt h;have b0:=drop_by h;have b1:=drop_by' (j:=1) (c:=c) h (by simp);have hz:=drop_size h (by simp)
  have eS:escS s k=((r:Int),2):=by
   unfold escS;rw [if_neg (by rw [hz];simp),b1,he]
  rw [lettF_esc s f k acc h0 b0 (by rw [eS];exact fun e=>by cases e),eS];rfl
 by_cases q1:r=34
 · subst q1;exact key 34 [] rfl rfl
 by_cases q2:r=92
 · subst q2;exact key 92 [] rfl rfl
 by_cases q3:r=8
 · subst q3;exact key 98 [] rfl rfl
 by_cases q4:r=9
 · subst q4;exact key 116 [] rfl rfl
 by_cases q5:r=10
 · subst q5;exact key 110 [] rfl rfl
 by_cases q6:r=12
 · subst q6;exact key 102 [] rfl rfl
 by_cases q7:r=13
 · subst q7;exact key 114 [] rfl rfl
 by_cases q8:32≤r
 · have e:ltt r=Lib.encodeRune (r:Int):=by
    unfold ltt;rw [if_neg (by omega),if_neg q3,if_neg q4,if_neg q5,if_neg q6,if_neg q7,if_pos q8]
   rw [e] at h ⊢;have hx:=lt1_enc (r:Int)
   obtain ⟨c,x,ex,hc⟩:∃ c x,Lib.encodeRune (r:Int)=c::x∧(32≤c.toNat∧c.toNat≠34∧c.toNat≠92):=by
    by_cases hl:r < 128
    · refine ⟨_,[],enc_low r hl,?_⟩
      rw [nat_u8 r (by omega)];omega
    · obtain ⟨c,x,e,hc⟩:=enc_high r (by omega)
      exact ⟨c,x,e,by omega⟩
   have h':=h;rw [ex,List.cons_append] at h';have h0:=drop_lt h';have b0:=drop_by h';have hl:pt.ltr s k=(Lib.encodeRune (r:Int)).length:=by rw [ltr_drop s k h0,h];exact hx.2 t
   have hp:=hx.1;rw [lettF_fit s f k acc h0 (by omega) (by omega) (by omega) (by omega),hl,pt.cut_take,h];simp
 · have e:ltt r=[92,117,48,48,hxd (r / 16),hxd (r % 16)]:=by
    unfold ltt;rw [if_neg (by omega),if_neg q3,if_neg q4,if_neg q5,if_neg q6,if_neg q7,if_neg q8]
   rw [e] at h ⊢;have h0:=drop_lt h;have b0:=drop_by h;have b1:=drop_by' (j:=1) (c:=117) h (by simp);have hz:=drop_size h (by simp)
   have eH:hexR s (k+2)=some r:=by
    unfold hexR;rw [if_pos (by rw [hz];simp;omega),← List.drop_drop,h];show hexFrom [48,48,hxd (r / 16),hxd (r % 16)] 0=some r;have z:hexv 48=some 0:=by decide
    simp only [hexFrom,z,hxd_num (r / 16) (by omega),hxd_num (r % 16) (by omega)]
    congr 1
    omega
   have eS:escS s k=((r:Int),6):=by
    unfold escS;rw [if_neg (by rw [hz];simp),b1];show numS s k=_;unfold numS;rw [eH];simp only;rw [if_pos (by omega)]
   rw [lettF_esc s f k acc h0 b0 (by rw [eS];exact fun e=>by cases e),eS];rfl
theorem lett_all (s X:ByteArray) {l:List UInt8} (hl:Ltc l):∀ (fuel pos f k:Nat) (acc t:List UInt8),X.data.toList.drop pos=l→l.length≤fuel→(ltsF X fuel pos).length < f→s.data.toList.drop k=ltsF X fuel pos++34::t →
 lettF s f k acc=.inl (acc++l,k+(ltsF X fuel pos).length+1):=by
 induction hl with
 | nil =>
   intro fuel pos f k acc t hX _ hf h;have h2:X.data.toList.length=X.size:=Array.length_toList;have hz:=congrArg List.length hX;rw [List.length_drop,h2,List.length_nil] at hz;rw [ltsF_end X fuel pos (by omega)] at h hf ⊢;obtain ⟨f,rfl⟩:∃ g,f=g+1:=⟨f - 1,by omega⟩;rw [List.nil_append] at h;rw [lettF_quote s f k acc (drop_lt h) (drop_by h),List.append_nil];rfl
 | @cons x l hx hl ih =>
   intro fuel pos f k acc t hX hfu hf h;have h2:X.data.toList.length=X.size:=Array.length_toList;have hz:=congrArg List.length hX;have hp:=hx.1;rw [List.length_append] at hfu;rw [List.length_drop,h2,List.length_append] at hz;have hlt:pos < X.size:=by omega
   have hr:pt.ltr X pos=x.length:=by rw [ltr_drop X pos hlt,hX];exact hx.2 l
   obtain ⟨g,rfl⟩:∃ g,fuel=g+1:=⟨fuel - 1,by omega⟩
   rcases pt.place_says X pos hlt with ⟨a,_⟩|⟨_,_,d1,d2⟩
   · omega
   rw [hr] at d1 d2
   have e:ltsF X (g+1) pos=ltt (Utf8.decode X pos).1++ltsF X g (pos+x.length):=by
    rw [ltsF,if_pos hlt,d1]
   have d3:Lib.encodeRune ((Utf8.decode X pos).1:Int)=x:=by
    rw [d2,pt.cut_take,hX];simp
   rw [e] at h hf ⊢;rw [List.length_append] at hf
   have hlp:0 < (ltt (Utf8.decode X pos).1).length:=by
    unfold ltt
    repeat' split
    all_goals first|(simp;done)|(rw [d3];exact hp)
   obtain ⟨f,rfl⟩:∃ g,f=g+1:=⟨f - 1,by omega⟩;rw [List.append_assoc] at h;rw [lett_one s f k _ acc _ h,d3,ih g (pos+x.length) f _ (acc++x) t (by rw [← List.drop_drop,hX,List.drop_left]) (by omega) (by omega) (drop_on h),List.append_assoc,List.length_append]
   congr 2
   omega
theorem letts_told {s X:ByteArray}{k:Nat}{t:List UInt8} (hX:Ltc X.data.toList) (h:s.data.toList.drop k=txtJ X++t):letts s k=.inl (X.data.toList,k+(txtJ X).length):=by
 unfold txtJ at h ⊢;unfold letts;have hz:=drop_size h (by simp)
 have h1:s.data.toList.drop (k+1)=ltsF X X.size 0++34::t:=by
  rw [← List.drop_drop,h];simp
 have h2:X.data.toList.length=X.size:=Array.length_toList;rw [lett_all s X hX X.size 0 _ (k+1) [] t rfl (by omega) (by rw [hz];simp;omega) h1];simp only [List.nil_append,List.length_cons,List.length_append,List.length_nil]
 congr 2
 omega
end Go.Proofs.YthnhobplgmojeaaGreatDoor.rd
