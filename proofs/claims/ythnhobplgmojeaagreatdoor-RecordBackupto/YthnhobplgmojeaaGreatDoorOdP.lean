/- Texts in one: Od Of -/
import Derived.Test.YthnhobplgmojeaaGreatDoorRpP
import Derived.Laws.IdiomStrings
import Derived.Laws.OwnMore
import Derived.Laws.ResultCell
namespace Go.Proofs.YthnhobplgmojeaaGreatDoor.rd
open Go.RowKit
def vb (c:UInt8):Value:=.int .u8 (c.toNat:Int)
def dgs (s:ByteArray) (k:Nat):List UInt8:=(s.data.toList.take k).filter nu.dig
def digs (s:ByteArray):ByteArray:=⟨(s.data.toList.filter nu.dig).toArray⟩
theorem dgs_le (s:ByteArray) (k:Nat):(dgs s k).length≤k:=by
 unfold dgs;exact Nat.le_trans (List.length_filter_le _ _) (List.length_take_le _ _)
theorem dgs_yes (s:ByteArray) (k:Nat) (h:k < s.size) (hd:nu.dig s[k]=true):dgs s (k+1)=dgs s k++[s[k]]:=by
 unfold dgs;rw [take_snoc s k h,List.filter_append];simp [hd]
theorem dgs_no (s:ByteArray) (k:Nat) (h:k < s.size) (hd:nu.dig s[k]=false):dgs s (k+1)=dgs s k:=by
 unfold dgs;rw [take_snoc s k h,List.filter_append];simp [hd]
theorem dgs_all (s:ByteArray):dgs s s.size=s.data.toList.filter nu.dig:=by unfold dgs;rw [take_all]
theorem info5:(Tryz.prog.info? 5).map (fun i=>(i.zero,i.size,i.bytes))=some (some (.int .u8 0),1,1):=by kernel_rfl
theorem own_back {w:World}{B n cap:Nat}{l:List UInt8} (h:w.ownsRow B 5 1 (.slice (some ⟨B,0,none⟩) n cap) n (l.map vb)) (hn:l.length=n) :
 (convert 38 9 (.slice (some ⟨B,0,none⟩) n cap)).run Tryz.prog w=.ok (.string ⟨l.toArray⟩) w:=by
 subst hn;refine run_convert_bytes_back w 38 9 5 ⟨B,0,none⟩ cap l Tryz.underlying38 Tryz.underlying5 Tryz.underlying9 (fun j hj=>?_);have:=h.cellAt j (by omega);have e:(⟨B,0,none⟩:Addr).add j=⟨B,j,none⟩:=by unfold Addr.add;split <;> simp_all
 rw [e,this];simp [hj,vb]
set_option maxRecDepth 100000 in
set_option maxHeartbeats 800000 in
theorem onlyDigits_any (s:ByteArray) (w:World) (hs:s.size≤140737488351232) :
 Calls Tryz.prog 134 #[.string s] w fun e w'=>e=.returned (.string (digs s))∧Below w.heap.size w w':=by
 obtain ⟨i0,hi,hz0,hz1,hz2⟩:=info_parts info5
 go_enter Tryz.func134,Tryz.ntmps134
 go_wp2_with (at_make;refine wpList_make_own _ rfl _ _ 38 rfl w.heap.size 5 i0 (.int .u8 0) 1 Tryz.underlying38 hi hz0 hz1 _ _ _ s.size rfl rfl (by omega) ?b2 ?b3 (Nat.le_refl _) ?_)
 case b2=>rw [hz2];omega
 case b3=>unfold maxLen;omega
 intro w0 hown0 hgrow0;go_wp2
 go_loopw [3,10] (fun v i wr=>∃ k:Nat,k≤s.size∧i=.int .i64 k∧v=.slice (some ⟨w.heap.size,0,none⟩) (dgs s k).length s.size ∧
  wr.ownsRow w.heap.size 5 1 (.slice (some ⟨w.heap.size,0,none⟩) (dgs s k).length s.size) (dgs s k).length ((dgs s k).map vb)∧Below w.heap.size w wr)
  (fun _ i _=>s.size - (intOf i).toNat)
 case atStart=>exact ⟨0,Nat.zero_le _,rfl,rfl,hown0,(Below.refl _ _).grown hgrow0 (Nat.le_refl _) (fun k h=>by cases h)⟩
 case round =>
  obtain ⟨k,hk,rfl,rfl,hown,hnx⟩:=hrel;have hle:=dgs_le s k
  by_cases hlt:k < s.size
  · by_cases hd:nu.dig s[k]=true
    · have hd':48≤s[k].toNat∧s[k].toNat≤57:=by simpa [nu.dig] using hd
      obtain ⟨d1,d2⟩:=hd';have d1':(48:Int)≤(s[k].toNat:Int):=by omega
      have d2':(s[k].toNat:Int)≤57:=by omega
      have HS:=hide (dgs_yes s k hlt hd);clear hd d1 d2
      go_wp2_with (at_builtin;refine wpList_append_fits _ rfl _ _ 38 rfl w.heap.size 5 i0 1 Tryz.underlying38 hi hz1 w.heap.size (dgs s k).length s.size _ rfl (hown.alloc _) ⟨wr.heap.size,0,none⟩ 1 1 [vb s[k]] rfl rfl ?c1 ?c2 (by omega) ?_)
      case c1 =>
       intro j u hj
       match j,hj with
       | 0,hj=>simp at hj;subst hj;simp [Addr.add,vb]
      case c2=>intro u hu;simp at hu;subst hu;rfl
      intro w1 hown1 hgrow1;go_wp2
      go_roundw
      case rel =>
       have e:(dgs s (k+1)).length=(dgs s k).length+1:=by rw [HS.out];simp
       have e2:(dgs s (k+1)).map vb=(dgs s k).map vb++[vb s[k]]:=by rw [HS.out];simp
       refine ⟨k+1,by omega,by go_num,by rw [e],by rw [e,e2];exact hown1,(hnx.alloc hnx.size _).grown hgrow1 (by simp;have:=hnx.size;omega) (fun k hk=>by cases hk;exact Nat.le_refl _)⟩
      case measure=>simp [intOf];omega
    · have hd0:nu.dig s[k]=false:=by simpa using hd
      have HS:=hide (dgs_no s k hlt hd0);have hd':¬ (48≤s[k].toNat∧s[k].toNat≤57):=by simpa [nu.dig] using hd
      clear hd hd0
      by_cases d1:(48:Int)≤(s[k].toNat:Int)
      · have d2:¬ (s[k].toNat:Int)≤57:=by omega
        clear hd';go_wp2
        go_roundw
        case rel=>exact ⟨k+1,by omega,by go_num,by rw [HS.out],by rw [HS.out];exact hown,hnx⟩
        case measure=>simp [intOf];omega
      · clear hd'
        go_wp2
        go_roundw
        case rel=>exact ⟨k+1,by omega,by go_num,by rw [HS.out],by rw [HS.out];exact hown,hnx⟩
        case measure=>simp [intOf];omega
  · obtain rfl:k=s.size:=by omega
    have hcv:=own_back hown rfl;go_wp2;go_ret;refine ⟨?_,hnx⟩;unfold digs;rw [← dgs_all];rfl
structure Dn where
 neg:Bool
 dg:ByteArray
 ex:Int
def zed:Dn:=⟨false,.empty,0⟩
def dv (d:Dn):Value:=.agg #[.bool d.neg,.string d.dg,.int .i64 d.ex]
def trimL (s:ByteArray):ByteArray:=⟨(Lib.trimLeftB s.data.toList 48).toArray⟩
def trimR (s:ByteArray):ByteArray:=⟨(Lib.trimRightB s.data.toList 48).toArray⟩
def oneForm (neg:Bool) (s:ByteArray) (ex:Int):Dn × Bool :=
 if (trimR (trimL s)).size=0 then (zed,true)
 else if 9999 < ex then (zed,false)
 else if ex+((trimL s).size - (trimR (trimL s)).size) < -9999∨9999 < ex+((trimL s).size - (trimR (trimL s)).size) then (zed,false)
 else (⟨neg,trimR (trimL s),ex+((trimL s).size - (trimR (trimL s)).size)⟩,true)
theorem trimL_le (s:ByteArray):(trimL s).size≤s.size:=by
 have h:(Lib.trimLeftB s.data.toList 48).length≤s.data.toList.length:=(List.dropWhile_suffix _).length_le;have e1:(trimL s).size=(Lib.trimLeftB s.data.toList 48).length:=by unfold trimL;exact List.size_toArray
 have e2:s.data.toList.length=s.size:=by rw [Array.length_toList];rfl
 omega
theorem trimR_le (s:ByteArray):(trimR s).size≤s.size:=by
 have h:(Lib.trimRightB s.data.toList 48).length≤s.data.toList.length:=by
  unfold Lib.trimRightB;rw [List.length_reverse];have:=(List.dropWhile_suffix (l:=s.data.toList.reverse) (fun x=>x == 48)).length_le;rw [List.length_reverse] at this;exact this
 have e1:(trimR s).size=(Lib.trimRightB s.data.toList 48).length:=by unfold trimR;exact List.size_toArray
 have e2:s.data.toList.length=s.size:=by rw [Array.length_toList];rfl
 omega
theorem clone_any (s:ByteArray) (w:World) (hlim:s.size≤281474976710656) :
 Calls Tryz.prog 150 #[.string s] w fun e w'=>e=.returned (.string s)∧Below w.heap.size w w':=by
 go_enter Tryz.func150,Tryz.ntmps150
 go_wp2_with (go_at_call 176;refine (Tryz.stringslite_Clone s _ hlim).mono ?_;rintro e w' ⟨rfl,hb⟩)
 go_ret;exact ⟨rfl,hb⟩
def DLies (w:World) (m:Nat) (d:Dn):Prop:=w.heap[m]?=some (.cells #[.bool d.neg,.string d.dg,.int .i64 d.ex] 24 (0,0))
theorem DLies.cells {w:World}{m:Nat}{d:Dn} (h:DLies w m d):w.cell? ⟨m,0,none⟩=some (.bool d.neg)∧w.cell? ⟨m,1,none⟩=some (.string d.dg)∧w.cell? ⟨m,2,none⟩=some (.int .i64 d.ex) :=
 ⟨blk_cell h 0,blk_cell h 1,blk_cell h 2⟩
theorem DLies.frees {w:World}{m:Nat}{d:Dn} (h:DLies w m d):w.frozen? ⟨m,0,none⟩=false∧w.frozen? ⟨m,1,none⟩=false∧w.frozen? ⟨m,2,none⟩=false :=
 ⟨blk_free h 0,blk_free h 1,blk_free h 2⟩
theorem DLies.set {w:World}{m:Nat}{d:Dn} (h:DLies w m d) (n:Bool) (g:ByteArray) (x:Int) :
 DLies (((w.setCell ⟨m,0,none⟩ (.bool n)).setCell ⟨m,1,none⟩ (.string g)).setCell ⟨m,2,none⟩ (.int .i64 x)) m ⟨n,g,x⟩ :=
 blk_set (blk_set (blk_set h 0 _) 1 _) 2 _
theorem below3 {B:Nat}{a w:World} (h:Below B a w) {m:Nat} (hB:B≤m) (u v x:Value):Below B a (((w.setCell ⟨m,0,none⟩ u).setCell ⟨m,1,none⟩ v).setCell ⟨m,2,none⟩ x) :=
 ((h.setCell hB _).setCell hB _).setCell hB _
theorem DLies.below {B:Nat}{w w':World}{m:Nat}{d:Dn} (h:DLies w m d) (hb:Below B w w') (hm:m < B):DLies w' m d:=(hb.block m hm).trans h
theorem DLies.alloc {w:World}{m:Nat}{d:Dn} (h:DLies w m d) (o:Obj):DLies (w.alloc o) m d:=(Below.heap_alloc w o m (blk_lt h)).trans h
theorem DLies.drew {w:World}{m:Nat}{d:Dn} (h:DLies w m d):DLies w.drew m d:=h
theorem below3a {B:Nat}{a w:World} (h:Below B a w) {m:Nat} (hB:B≤m) (hs:B≤w.heap.size) (u v x:Value) (o:Obj):Below B a ((((w.setCell ⟨m,0,none⟩ u).setCell ⟨m,1,none⟩ v).setCell ⟨m,2,none⟩ x).alloc o) :=
 (below3 h hB u v x).alloc (by simpa [World.setCell] using hs) o
theorem cell_lt {w:World}{b o:Nat}{v:Value} (h:w.cell? ⟨b,o,none⟩=some v):b < w.heap.size:=by
 rcases Nat.lt_or_ge b w.heap.size with h'|h'
 · exact h'
 · simp [World.cell?,Array.getElem?_eq_none h'] at h
theorem keepC {W w1:World} (hb:Below W.heap.size W w1) {b o:Nat}{v:Value} (h:W.cell? ⟨b,o,none⟩=some v):w1.cell? ⟨b,o,none⟩=some v:=by
 rw [hb.cell (p:=⟨b,o,none⟩) (cell_lt h)];exact h
theorem keepF {W w1:World} (hb:Below W.heap.size W w1) {b o o':Nat}{v:Value} (h:W.cell? ⟨b,o,none⟩=some v) (hf:W.frozen? ⟨b,o',none⟩=false):w1.frozen? ⟨b,o',none⟩=false:=by
 rw [hb.frozen (p:=⟨b,o',none⟩) (cell_lt h)];exact hf
theorem empty_iff (t:ByteArray):t.toList.isEmpty=decide (t.size=0):=by
 rw [ByteArray.toList_eq];have e:t.data.toList.length=t.size:=by rw [Array.length_toList];rfl
 cases hx:t.data.toList with
 | nil=>rw [hx] at e;simp at e;simp [← e]
 | cons a l=>rw [hx] at e;simp at e;simp [← e]
theorem trimL_any (s:ByteArray) (w:World):Calls Tryz.prog 148 #[.string s,.string ⟨#[48]⟩] w fun e w'=>e=.returned (.string (trimL s))∧w'=w:=Tryz.strings_TrimLeft_one s 48 (by decide) w
theorem trimR_any (s:ByteArray) (w:World) (hs:s.size≤9223372036854775807):Calls Tryz.prog 149 #[.string s,.string ⟨#[48]⟩] w fun e w'=>e=.returned (.string (trimR s))∧w'=w:=Tryz.strings_TrimRight_one s 48 (by decide) w hs
theorem ret_oneForm {m:Nat} (w:World) (d:Dn) (ok:Bool) (h:DLies w m d) (tmps:Array Value) (h2:tmps.getD 6 undef=.pointer (some ⟨m,0,none⟩)) (h3:tmps.getD 7 undef=.bool ok) :
 (results Tryz.f133 tmps).run Tryz.prog w=.ok (.tuple #[dv d,.bool ok]) w:=by
 obtain ⟨q0,q1,q2⟩:=h.cells;rw [results_cell_tmp Tryz.results133,h2,h3];simp [go_sem,q0,q1,q2,dv]
theorem dlies_new (w:World) (d:Dn):DLies (w.alloc (.cells #[.bool d.neg,.string d.dg,.int .i64 d.ex] 24)) w.heap.size d:=by
 show (w.heap.push _)[w.heap.size]?=_;rw [Array.getElem?_push_size]
set_option maxRecDepth 100000 in
set_option maxHeartbeats 800000 in
theorem oneForm_any (neg:Bool) (s:ByteArray) (ex:Int) (w:World) (hs:s.size≤140737488351232) (h0:-9223372036854775808≤ex) (h1:ex≤9223372036854775807) :
 Calls Tryz.prog 133 #[.bool neg,.string s,.int .i64 ex] w fun e w'=>e=.returned (.tuple #[dv (oneForm neg s ex).1,.bool (oneForm neg s ex).2])∧Below w.heap.size w w':=by
 have l1:=trimL_le s;have l2:=trimR_le (trimL s);have c1:=trimL_any s;have c2:=trimR_any (trimL s);have HO:Hid (oneForm neg s ex=oneForm neg s ex):=rfl
 have HO:Hid (oneForm neg s ex=if (trimR (trimL s)).size=0 then (zed,true)
  else if 9999 < ex then (zed,false)
  else if ex+((trimL s).size - (trimR (trimL s)).size) < -9999∨9999 < ex+((trimL s).size - (trimR (trimL s)).size) then (zed,false)
  else (⟨neg,trimR (trimL s),ex+((trimL s).size - (trimR (trimL s)).size)⟩,true)):=rfl
 generalize oneForm neg s ex=r at HO ⊢;generalize trimR (trimL s)=t at *;generalize trimL s=d at *;have C1:=hide c1;have C2:=hide c2;clear c1 c2
 by_cases hz:t.size=0
 · have hr:r=(zed,true):=by rw [HO.out,if_pos hz]
   subst hr;clear HO;have hz':t.toList.isEmpty=true:=by rw [empty_iff];simpa using hz
   clear hz
   go_enter Tryz.func133,Tryz.ntmps133
   go_wp2_with fail
   refine (uh C1 _).mono ?_;rintro e w1 ⟨rfl,rfl⟩
   go_wp2_with fail
   refine (uh C2 _ (by omega)).mono ?_;rintro e w1 ⟨rfl,rfl⟩;go_wp2;exact bodyPost_ret (ret_oneForm _ zed true (dlies_new w zed) _ rfl rfl) rfl ⟨rfl,(Below.refl _ _).alloc (Nat.le_refl _) _⟩
 · have hz':t.toList.isEmpty=false:=by rw [empty_iff];simpa using hz
   by_cases he:9999 < ex
   · have hr:r=(zed,false):=by rw [HO.out,if_neg hz,if_pos he]
     subst hr;clear HO hz
     go_enter Tryz.func133,Tryz.ntmps133
     go_wp2_with fail
     refine (uh C1 _).mono ?_;rintro e w1 ⟨rfl,rfl⟩
     go_wp2_with fail
     refine (uh C2 _ (by omega)).mono ?_;rintro e w1 ⟨rfl,rfl⟩;go_wp2;exact bodyPost_ret (ret_oneForm _ zed false (dlies_new w zed) _ rfl rfl) rfl ⟨rfl,(Below.refl _ _).alloc (Nat.le_refl _) _⟩
   · have he':ex≤9999:=by omega
     by_cases hb:ex+((d.size:Int) - t.size) < -9999
     · have hr:r=(zed,false):=by rw [HO.out,if_neg hz,if_neg he,if_pos (.inl hb)]
       subst hr;clear HO hz he
       go_enter Tryz.func133,Tryz.ntmps133
       go_wp2_with fail
       refine (uh C1 _).mono ?_;rintro e w1 ⟨rfl,rfl⟩
       go_wp2_with fail
       refine (uh C2 _ (by omega)).mono ?_;rintro e w1 ⟨rfl,rfl⟩;go_wp2;exact bodyPost_ret (ret_oneForm _ zed false (dlies_new w zed) _ rfl rfl) rfl ⟨rfl,(Below.refl _ _).alloc (Nat.le_refl _) _⟩
     · have hb':-9999≤ex+((d.size:Int) - t.size):=by omega
       by_cases ht:9999 < ex+((d.size:Int) - t.size)
       · have hr:r=(zed,false):=by rw [HO.out,if_neg hz,if_neg he,if_pos (.inr ht)]
         subst hr;clear HO hz he hb
         go_enter Tryz.func133,Tryz.ntmps133
         go_wp2_with fail
         refine (uh C1 _).mono ?_;rintro e w1 ⟨rfl,rfl⟩
         go_wp2_with fail
         refine (uh C2 _ (by omega)).mono ?_;rintro e w1 ⟨rfl,rfl⟩;go_wp2;exact bodyPost_ret (ret_oneForm _ zed false (dlies_new w zed) _ rfl rfl) rfl ⟨rfl,(Below.refl _ _).alloc (Nat.le_refl _) _⟩
       · have hr:r=(⟨neg,t,ex+((d.size:Int) - t.size)⟩,true):=by rw [HO.out,if_neg hz,if_neg he,if_neg (by omega)]
         subst hr;have ht':ex+((d.size:Int) - t.size)≤9999:=by omega
         clear HO hz he hb ht
         go_enter Tryz.func133,Tryz.ntmps133
         go_wp2_with fail
         refine (uh C1 _).mono ?_;rintro e w1 ⟨rfl,rfl⟩
         go_wp2_with fail
         refine (uh C2 _ (by omega)).mono ?_;rintro e w1 ⟨rfl,rfl⟩
         go_wp2_with fail
         refine (clone_any t _ (by omega)).mono ?_;rintro e w1 ⟨rfl,hb1⟩;have hz1:=hb1.size;have l3:DLies w1 w.heap.size zed:=(hb1.block _ (by simp)).trans (dlies_new w zed);obtain ⟨q0,q1,q2⟩:=l3.cells;obtain ⟨f0,f1,f2⟩:=l3.frees;go_wp2;exact bodyPost_ret (ret_oneForm _ _ true (l3.set neg t _) _ rfl rfl) rfl ⟨rfl,below3 (((Below.refl _ _).alloc (Nat.le_refl _) _).trans (hb1.mono (by simp))) (Nat.le_refl _) _ _ _⟩
end Go.Proofs.YthnhobplgmojeaaGreatDoor.rd
