/- Texts in one: Wh -/
import Derived.Test.YtilhjecnkaokeaaGreatDoorTxP
import Derived.Test.YtilhjecnkaokeaaGreatDoorRqP
namespace Go.Proofs.YtilhjecnkaokeaaGreatDoor.rd.wh
open Go.RowKit
theorem formed_id {n:Dn} (h:Formed n):norm n=n:=by
 have hd:digs n.dg=n.dg:=by
  unfold digs
  rw [List.filter_eq_self.2 h.dig,Array.toArray_toList]
 have hl:trimL n.dg=n.dg:=by
  have e:Lib.trimLeftB n.dg.data.toList 48=n.dg.data.toList:=by
   show n.dg.data.toList.dropWhile (· == 48)=_
   have hh:=h.hd
   cases hx:n.dg.data.toList with
   | nil=>rfl
   | cons a r =>
     rw [hx] at hh
     rw [List.dropWhile_cons,if_neg (by simpa using hh a rfl)]
  unfold trimL
  rw [e,Array.toArray_toList]
 have hr:trimR n.dg=n.dg:=by
  have e:Lib.trimRightB n.dg.data.toList 48=n.dg.data.toList:=by
   show (n.dg.data.toList.reverse.dropWhile (· == 48)).reverse=_
   have hh:=h.la
   rw [← List.head?_reverse] at hh
   cases hx:n.dg.data.toList.reverse with
   | nil=>rw [List.reverse_eq_nil_iff] at hx;rw [hx];rfl
   | cons a r =>
     rw [hx] at hh
     rw [List.dropWhile_cons,if_neg (by simpa using hh a rfl),← hx,List.reverse_reverse]
  unfold trimR
  rw [e,Array.toArray_toList]
 have e0:=h.e0
 have e1:=h.e1
 unfold norm oneForm
 rw [hd,hl,hr,if_neg h.pos,if_neg (by omega),if_neg (by omega)]
 have:n.ex+((n.dg.size:Int) - n.dg.size)=n.ex:=by omega
 rw [this]
theorem norm_zed:norm zed=zed:=by kernel_rfl
theorem whole_id {n:Dn} (h:Whole1 n):norm n=n:=by
 rcases h with rfl|h
 · exact norm_zed
 · exact formed_id h
theorem rpRes_whole (neg:Bool) (all:ByteArray) (ex:Int):Whole1 (rpRes neg all ex).1:=by
 unfold rpRes
 split
 · exact oneForm_formed _ _ _ (digs_dig _)
 · exact .inl rfl
theorem rpEnd_whole (s:ByteArray) (neg:Bool) (all:ByteArray) (k bh:Nat):Whole1 (rpEnd s neg all k bh).1:=by
 unfold rpEnd
 split
 · exact rpRes_whole _ _ _
 · exact .inl rfl
theorem rparse_whole (s:ByteArray):Whole1 (rparse s).1:=by
 have key:∀ neg i,Whole1 (rpFrom s neg i).1:=fun neg i=>by
  unfold rpFrom
  split
  · exact .inl rfl
  · split
    · split
      · exact .inl rfl
      · exact rpEnd_whole _ _ _ _ _
    · exact rpEnd_whole _ _ _ _ _
 unfold rparse
 split
 · exact key _ _
 · exact key _ _
theorem oneForm_size (n:Bool) (s:ByteArray) (e:Int):(oneForm n (digs s) e).1.dg.size≤s.size:=by
 have h1:=(oneForm_good n (digs s) e (digs_dig s)).1
 have h2:=digs_le s
 omega
theorem rparse_size (s:ByteArray):(rparse s).1.dg.size≤s.size+s.size:=by
 have k1:∀ neg all ex,(rpRes neg all ex).1.dg.size≤all.size:=fun neg all ex=>by
  unfold rpRes
  split
  · exact oneForm_size _ _ _
  · exact Nat.zero_le _
 have k2:∀ neg all k bh,(rpEnd s neg all k bh).1.dg.size≤all.size:=fun neg all k bh=>by
  unfold rpEnd
  split
  · exact k1 _ _ _
  · exact Nat.zero_le _
 have k3:∀ neg i,(rpFrom s neg i).1.dg.size≤s.size+s.size:=fun neg i=>by
  unfold rpFrom
  split
  · exact Nat.zero_le _
  · split
    · split
      · exact Nat.zero_le _
      · refine Nat.le_trans (k2 _ _ _ _) ?_
        rw [ByteArray.size_append]
        have a1:=nu.ext_size s i (i+nu.nd s i)
        have a2:=nu.ext_size s (i+nu.nd s i+1) (i+nu.nd s i+1+nu.nd s (i+nu.nd s i+1))
        omega
    · refine Nat.le_trans (k2 _ _ _ _) ?_
      have a1:=nu.ext_size s i (i+nu.nd s i)
      omega
 unfold rparse
 split
 · exact k3 _ _
 · exact k3 _ _
end Go.Proofs.YtilhjecnkaokeaaGreatDoor.rd.wh
