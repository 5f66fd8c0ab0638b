/- Texts in one: Wh Bw -/
import Derived.Test.YthakglomacijgaaGreatDoorTxPQ
import Derived.Test.YthakglomacijgaaGreatDoorRqPQ
import Derived.Test.YthakglomacijgaaGreatDoorToPQ
namespace Go.Proofs.YthakglomacijgaaGreatDoor.rd.wh
open Go.RowKit
theorem formed_id {n:Dn} (h:Formed n):norm n=n:=by
 have hd:digs n.dg=n.dg:=by
  unfold digs
  rw [List.filter_eq_self.2 h.dig,Array.toArray_toList]
 have hl:trimL n.dg=n.dg:=by
  have e:Lib.trimLeftB n.dg.data.toList 48=n.dg.data.toList:=by
   show n.dg.data.toList.dropWhile (· == 48)=_
   have hh:=h.hd
   cases hx:n.dg.data.toList with
   | nil=>rfl
   | cons a r =>
     rw [hx] at hh
     rw [List.dropWhile_cons,if_neg (by simpa using hh a rfl)]
  unfold trimL
  rw [e,Array.toArray_toList]
 have hr:trimR n.dg=n.dg:=by
  have e:Lib.trimRightB n.dg.data.toList 48=n.dg.data.toList:=by
   show (n.dg.data.toList.reverse.dropWhile (· == 48)).reverse=_
   have hh:=h.la
   rw [← List.head?_reverse] at hh
   cases hx:n.dg.data.toList.reverse with
   | nil=>rw [List.reverse_eq_nil_iff] at hx;rw [hx];rfl
   | cons a r =>
     rw [hx] at hh
     rw [List.dropWhile_cons,if_neg (by simpa using hh a rfl),← hx,List.reverse_reverse]
  unfold trimR
  rw [e,Array.toArray_toList]
 have e0:=h.e0
 have e1:=h.e1
 unfold norm oneForm
 rw [hd,hl,hr,if_neg h.pos,if_neg (by omega),if_neg (by omega)]
 have:n.ex+((n.dg.size:Int) - n.dg.size)=n.ex:=by omega
 rw [this]
theorem norm_zed:norm zed=zed:=by kernel_rfl
theorem whole_id {n:Dn} (h:Whole1 n):norm n=n:=by
 rcases h with rfl|h
 · exact norm_zed
 · exact formed_id h
theorem oneForm_size (n:Bool) (s:ByteArray) (e:Int):(oneForm n (digs s) e).1.dg.size≤s.size:=by
 have h1:=(oneForm_good n (digs s) e (digs_dig s)).1
 have h2:=digs_le s
 omega
end Go.Proofs.YthakglomacijgaaGreatDoor.rd.wh
namespace Go.Proofs.YthakglomacijgaaGreatDoor.rd.bw
open Go.RowKit
def valL:List Int→Int
 | []=>0
 | z::r=>z+10*valL r
def valM (l:List UInt8):Int:=valL (l.map fz).reverse
end Go.Proofs.YthakglomacijgaaGreatDoor.rd.bw
