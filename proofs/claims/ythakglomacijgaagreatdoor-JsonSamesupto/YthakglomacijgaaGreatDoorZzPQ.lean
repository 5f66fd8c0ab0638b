/- Texts in one: Zz Pg -/
import Derived.Test.YthakglomacijgaaGreatDoorScPQ
import Derived.Test.YthakglomacijgaaGreatDoorItPQ
import Derived.Test.YthakglomacijgaaGreatDoorLcPQ
import Derived.Test.YthakglomacijgaaGreatDoorSaPQ
namespace Go.Proofs.YthakglomacijgaaGreatDoor.rd.ss
open Go.RowKit Go.Shelf Go.Lib Go.Sort
section
variable (D:List Fd)
structure Seg (L:List Nat) (lo hi:Nat):Prop where
 le:lo≤hi
 len:hi≤L.length
 own:∀ p,lo≤p→p < hi→lo≤at' L p∧at' L p < hi
 srt:∀ p q,lo≤p→p < q→q < hi→lr D (at' L p) (at' L q)
theorem Seg.keep {L L':List Nat}{lo hi:Nat} (h:Seg D L lo hi) (hl:L'.length=L.length) (he:∀ p,lo≤p→p < hi→at' L' p=at' L p):Seg D L' lo hi where
 le:=h.le
 len:=by rw [hl];exact h.len
 own p h1 h2:=by rw [he p h1 h2];exact h.own p h1 h2
 srt p q h1 h2 h3:=by rw [he p h1 (by omega),he q (by omega) h3];exact h.srt p q h1 h2 h3
theorem parted (L:List Nat) (a m e:Nat) (h1:a≤m) (h2:m≤e):L=L.take a++((L.drop a).take (m - a)++((L.drop m).take (e - m)++L.drop e)):=by
 have e1:L.drop m=(L.drop a).drop (m - a):=by rw [List.drop_drop];congr 1;omega
 have e2:L.drop e=(L.drop m).drop (e - m):=by rw [List.drop_drop];congr 1;omega
 rw [e2,List.take_append_drop,e1,List.take_append_drop,List.take_append_drop]
theorem at_part {L:List Nat}{a c i:Nat} (h:i < c) (hl:a+c≤L.length):at' ((L.drop a).take c) i=at' L (a+i):=by
 rw [at_take h (by rw [List.length_drop];omega),at_drop (by omega)]
theorem seg_pre {L:List Nat}{a m e:Nat} (h1:Seg D L a m) (h2:Seg D L m e):Pre D ((L.drop a).take (m - a)) ((L.drop m).take (e - m)):=by
 have q1:=h1.le
 have q2:=h1.len
 have q3:=h2.le
 have q4:=h2.len
 have len1:((L.drop a).take (m - a)).length=m - a:=by rw [List.length_take,List.length_drop];omega
 have len2:((L.drop m).take (e - m)).length=e - m:=by rw [List.length_take,List.length_drop];omega
 refine ⟨?_,?_,?_⟩
 · rw [List.pairwise_iff_getElem]
   intro i j hi hj hij
   rw [← at_eq hi,← at_eq hj,at_part (by omega) (by omega),at_part (by omega) (by omega)]
   exact h1.srt _ _ (by omega) (by omega) (by omega)
 · rw [List.pairwise_iff_getElem]
   intro i j hi hj hij
   rw [← at_eq hi,← at_eq hj,at_part (by omega) (by omega),at_part (by omega) (by omega)]
   exact h2.srt _ _ (by omega) (by omega) (by omega)
 · intro x hx y hy
   obtain ⟨i,hi,rfl⟩:=mem_at hx
   obtain ⟨j,hj,rfl⟩:=mem_at hy
   rw [at_part (by omega) (by omega),at_part (by omega) (by omega)]
   have:=(h1.own (a+i) (by omega) (by omega)).2
   have:=(h2.own (m+j) (by omega) (by omega)).1
   omega
theorem seg_post {L C:List Nat}{a m e:Nat} (h1:Seg D L a m) (h2:Seg D L m e) (hC:Post D ((L.drop a).take (m - a)) ((L.drop m).take (e - m)) C) :
 Seg D (L.take a++(C++L.drop e)) a e∧(L.take a++(C++L.drop e)).length=L.length∧(L.take a++(C++L.drop e)).Perm L∧(∀ p,p < a∨(e≤p∧p < L.length)→at' (L.take a++(C++L.drop e)) p=at' L p):=by
 have q1:=h1.le
 have q2:=h1.len
 have q3:=h2.le
 have q4:=h2.len
 have len1:((L.drop a).take (m - a)).length=m - a:=by rw [List.length_take,List.length_drop];omega
 have len2:((L.drop m).take (e - m)).length=e - m:=by rw [List.length_take,List.length_drop];omega
 have lenC:C.length=e - a:=by rw [Post.len D hC,len1,len2];omega
 have lenA:(L.take a).length=a:=by rw [List.length_take];omega
 have lenS:(L.drop e).length=L.length - e:=by rw [List.length_drop]
 have hlen:(L.take a++(C++L.drop e)).length=L.length:=by simp only [List.length_append];omega
 have atC:∀ p,a≤p→p < e→at' (L.take a++(C++L.drop e)) p=at' C (p - a):=fun p p1 p2=>by
  have:=@at_right (L.take a) (C++L.drop e) (p - a) (by rw [List.length_append];omega)
  rw [lenA,show a+(p - a)=p by omega] at this
  rw [this,at_left (by omega)]
 refine ⟨⟨by omega,by omega,fun p p1 p2=>?_,fun p q p1 p2 p3=>?_⟩,hlen,?_,fun p hp=>?_⟩
 · rw [atC p p1 p2]
   have hm:=(hC.1.mem_iff).1 (at_mem (L:=C) (i:=p - a) (by omega))
   rw [List.mem_append] at hm
   rcases hm with hm|hm
   · obtain ⟨i,hi,hx⟩:=mem_at hm
     rw [at_part (by omega) (by omega)] at hx
     have:=h1.own (a+i) (by omega) (by omega)
     omega
   · obtain ⟨i,hi,hx⟩:=mem_at hm
     rw [at_part (by omega) (by omega)] at hx
     have:=h2.own (m+i) (by omega) (by omega)
     omega
 · rw [atC p p1 (by omega),atC q (by omega) p3]
   exact pw_at D hC.2 (by omega) (by omega)
 · have e1:=parted L a m e q1 q3
   conv=>rhs;rw [e1]
   refine List.Perm.append_left _ ?_
   rw [← List.append_assoc]
   exact List.Perm.append_right _ hC.1
 · rcases hp with hp|⟨hp1,hp2⟩
   · rw [at_left (by omega),at_take hp (by omega)]
   · have e9:L.take a++(C++L.drop e)=(L.take a++C)++L.drop e:=by rw [List.append_assoc]
     have:=@at_right (L.take a++C) (L.drop e) (p - e) (by omega)
     rw [List.length_append,lenA,lenC,show a+(e - a)+(p - e)=p by omega] at this
     rw [e9,this,at_drop (by omega)]
     congr 1
     omega
theorem dvd_step {b lo a:Nat} (h1:b ∣ lo) (h2:b ∣ a) (h:lo < a):lo+b≤a:=by
 have:=Nat.le_of_dvd (by omega) (Nat.dvd_sub h2 h1)
 omega
structure Blk (n b:Nat) (L:List Nat):Prop where
 perm:L.Perm (List.range n)
 seg:∀ lo,b ∣ lo→lo < n→Seg D L lo (min (lo+b) n)
structure Bin (n b a:Nat) (L:List Nat):Prop where
 perm:L.Perm (List.range n)
 dv:b ∣ a
 seg:∀ lo,b ∣ lo→lo < a→Seg D L lo (lo+b)
 rest:∀ p,a≤p→p < n→at' L p=p
structure Bmg (n b a:Nat) (L:List Nat):Prop where
 perm:L.Perm (List.range n)
 dv:2*b ∣ a
 seg:∀ lo,2*b ∣ lo→lo < a→Seg D L lo (lo+2*b)
 rest:∀ lo,b ∣ lo→a≤lo→lo < n→Seg D L lo (min (lo+b) n)
theorem Bin.start (n b:Nat):Bin D n b 0 (List.range n) where
 perm:=.refl _
 dv:=Nat.dvd_zero b
 seg lo _ h:=by omega
 rest p _ h:=by rw [at_eq (by simpa using h)];simp
theorem Bin.next {n b a:Nat}{L L':List Nat} (h:Bin D n b a L) (hp:L'.Perm L) (hs:Seg D L' a (a+b)) (he:∀ p,p < a∨(a+b≤p∧p < n)→at' L' p=at' L p):Bin D n b (a+b) L' where
 perm:=hp.trans h.perm
 dv:=Nat.dvd_add h.dv (Nat.dvd_refl b)
 seg lo h1 h2:=by
  by_cases h3:lo < a
  · have:=dvd_step h1 h.dv h3
    exact (h.seg lo h1 h3).keep D hp.length_eq (fun p p1 p2=>he p (.inl (by omega)))
  · by_cases h4:lo=a
    · rw [h4];exact hs
    · have:=dvd_step h.dv h1 (by omega)
      omega
 rest p p1 p2:=by rw [he p (.inr ⟨p1,p2⟩)];exact h.rest p (by omega) p2
theorem Bin.done {n b a:Nat}{L L':List Nat} (h:Bin D n b a L) (hb:n < a+b) (hp:L'.Perm L) (hs:a < n→Seg D L' a n) (he:∀ p,p < a→at' L' p=at' L p):Blk D n b L' where
 perm:=hp.trans h.perm
 seg lo h1 h2:=by
  by_cases h3:lo < a
  · have:=dvd_step h1 h.dv h3
    have h4:=(h.seg lo h1 h3).keep D hp.length_eq (fun p p1 p2=>he p (by omega))
    have:=h4.len
    have hl:L'.length=n:=by rw [(hp.trans h.perm).length_eq];simp
    rw [Nat.min_eq_left (by omega)]
    exact h4
  · by_cases h4:lo=a
    · rw [h4,Nat.min_eq_right (by omega)];exact hs (by omega)
    · have:=dvd_step h.dv h1 (by omega)
      omega
theorem Blk.start {n b:Nat}{L:List Nat} (h:Blk D n b L):Bmg D n b 0 L where
 perm:=h.perm
 dv:=Nat.dvd_zero _
 seg lo _ q:=by omega
 rest lo h1 _ h3:=h.seg lo h1 h3
theorem Bmg.two {n b a:Nat}{L:List Nat} (h:Bmg D n b a L) (hb:0 < b) (hn:a+b < n):Seg D L a (a+b)∧Seg D L (a+b) (min (a+2*b) n):=by
 have d1:b ∣ a:=Nat.dvd_trans (Nat.dvd_mul_left b 2) h.dv
 have h1:=h.rest a d1 (Nat.le_refl _) (by omega)
 have h2:=h.rest (a+b) (Nat.dvd_add d1 (Nat.dvd_refl b)) (by omega) hn
 rw [Nat.min_eq_left (by omega)] at h1
 rw [show a+b+b=a+2*b by omega] at h2
 exact ⟨h1,h2⟩
theorem Bmg.next {n b a:Nat}{L L':List Nat} (h:Bmg D n b a L) (hp:L'.Perm L) (hs:Seg D L' a (a+2*b)) (he:∀ p,p < a∨(a+2*b≤p∧p < n)→at' L' p=at' L p):Bmg D n b (a+2*b) L' where
 perm:=hp.trans h.perm
 dv:=Nat.dvd_add h.dv (Nat.dvd_refl _)
 seg lo h1 h2:=by
  by_cases h3:lo < a
  · have:=dvd_step h1 h.dv h3
    exact (h.seg lo h1 h3).keep D hp.length_eq (fun p p1 p2=>he p (.inl (by omega)))
  · by_cases h4:lo=a
    · rw [h4];exact hs
    · have:=dvd_step h.dv h1 (by omega)
      omega
 rest lo h1 h2 h3:=(h.rest lo h1 (by omega) h3).keep D hp.length_eq (fun p p1 p2=>he p (.inr ⟨by omega,by omega⟩))
theorem Bmg.done {n b a:Nat}{L L':List Nat} (h:Bmg D n b a L) (hb:n < a+2*b) (hp:L'.Perm L) (hs:a < n→Seg D L' a n) (he:∀ p,p < a→at' L' p=at' L p):Blk D n (2*b) L' where
 perm:=hp.trans h.perm
 seg lo h1 h2:=by
  by_cases h3:lo < a
  · have:=dvd_step h1 h.dv h3
    have h4:=(h.seg lo h1 h3).keep D hp.length_eq (fun p p1 p2=>he p (by omega))
    have:=h4.len
    have hl:L'.length=n:=by rw [(hp.trans h.perm).length_eq];simp
    rw [Nat.min_eq_left (by omega)]
    exact h4
  · by_cases h4:lo=a
    · rw [h4,Nat.min_eq_right (by omega)];exact hs (by omega)
    · have:=dvd_step h.dv h1 (by omega)
      omega
theorem Blk.all {n b:Nat}{L:List Nat} (h:Blk D n b L) (hn:n≤b):L=stb D n:=by
 have hl:L.length=n:=by rw [h.perm.length_eq];simp
 have hs:L.Pairwise (fun x y=>lxI D x y=true):=by
  rw [List.pairwise_iff_getElem]
  intro i j hi hj hij
  have:=h.seg 0 (Nat.dvd_zero b) (by omega)
  rw [Nat.zero_add,Nat.min_eq_right hn] at this
  rw [← at_eq hi,← at_eq hj]
  exact this.srt i j (by omega) hij (by omega)
 unfold stb
 refine List.Perm.eq_of_pairwise (le:=fun x y=>(!lxI D y x)=true) ?_ ?_ ?_ (h.perm.trans (List.mergeSort_perm _ _).symm)
 · intro x y _ _ h1 h2
   exact lx_total D x y (by simpa using h2) (by simpa using h1)
 · refine hs.imp ?_
   intro x y hxy
   have:=(swoX D).irrefl x
   cases hq:lxI D y x
   · rfl
   · have h9:=(swoX D).trans x y x hxy hq
     rw [this] at h9
     cases h9
 · refine List.pairwise_mergeSort ?_ ?_ _
   · intro x y z h1 h2
     simp only [Bool.not_eq_true'] at h1 h2 ⊢
     exact (swoX D).ntrans z y x h2 h1
   · intro x y
     cases hq:lxI D y x
     · rfl
     · cases hr:lxI D x y
       · rfl
       · have h9:=(swoX D).trans x y x hr hq
         rw [(swoX D).irrefl x] at h9
         cases h9
end
end Go.Proofs.YthakglomacijgaaGreatDoor.rd.ss
namespace Go.Proofs.YthakglomacijgaaGreatDoor.rd
open Go.RowKit
end Go.Proofs.YthakglomacijgaaGreatDoor.rd
