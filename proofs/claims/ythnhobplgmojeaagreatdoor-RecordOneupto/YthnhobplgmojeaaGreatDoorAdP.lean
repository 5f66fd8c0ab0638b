/- Texts in one: Ad Aw Cu Di -/
import Derived.Test.YthnhobplgmojeaaGreatDoorIbP
import Derived.Deep.CutRange
import Derived.Deep.DeepCutAuto
namespace Go.Proofs.YthnhobplgmojeaaGreatDoor.rd
open Go.RowKit
structure AddW (w wc:World) (p q:Dn) (eX:Value):Prop where
 a:DLies wc w.heap.size p
 b:DLies wc (w.heap.size+1) q
 r:DLies wc (w.heap.size+2) zed
 below:Below w.heap.size w wc
 g:wc.cell? ⟨12,0,none⟩=some eX
 lt:12 < w.heap.size
def behindOf (p q:Dn):Nat:=(p.ex - min p.ex q.ex).toNat
def aheadOf (p q:Dn):Nat:=(max (p.dg.size+p.ex) (q.dg.size+q.ex) - min p.ex q.ex - behindOf p q - p.dg.size).toNat
def addSame (p q:Dn) (eX:Value):Value × Value :=
 bounded p.neg (sumD (spreadB p.dg (aheadOf p q) (behindOf p q)) (spreadB q.dg (aheadOf q p) (behindOf q p))) (min p.ex q.ex) eX
theorem dig_filter (l:List UInt8):∀ c∈l.filter nu.dig,nu.dig c=true:=fun _ h=>(List.mem_filter.1 h).2
theorem mem_dropWhile {l:List UInt8}{f:UInt8→Bool}{c:UInt8} (h:c∈l.dropWhile f):c∈l:=(List.dropWhile_suffix f).subset h
theorem oneForm_good (neg:Bool) (s:ByteArray) (ex:Int) (hd:AllDig s):(oneForm neg s ex).1.dg.size≤s.size∧-9999≤(oneForm neg s ex).1.ex∧(oneForm neg s ex).1.ex≤9999∧AllDig (oneForm neg s ex).1.dg:=by
 have l1:=trimL_le s;have l2:=trimR_le (trimL s);have hz:AllDig (zed).dg:=fun c hc=>by simp [zed] at hc
 have ht:AllDig (trimR (trimL s)):=by
  intro c hc;have h1:c∈Lib.trimRightB (trimL s).data.toList 48:=by simpa [trimR] using hc
  unfold Lib.trimRightB at h1;have h2:=mem_dropWhile (List.mem_reverse.1 h1);have h3:c∈Lib.trimLeftB s.data.toList 48:=by simpa [trimL] using (List.mem_reverse.1 h2)
  exact hd c (mem_dropWhile h3)
 unfold oneForm
 split
 · exact ⟨by simp [zed],by simp [zed],by simp [zed],hz⟩
 · split
   · exact ⟨by simp [zed],by simp [zed],by simp [zed],hz⟩
   · split
     · exact ⟨by simp [zed],by simp [zed],by simp [zed],hz⟩
     · refine ⟨?_,?_,?_,ht⟩
       · show (trimR (trimL s)).size≤s.size;omega
       · simp only;omega
       · simp only;omega
theorem digs_dig (s:ByteArray):AllDig (digs s):=by
 intro c hc;have:c∈s.data.toList.filter nu.dig:=by simpa [digs] using hc
 exact dig_filter _ c this
theorem norm_good (d:Dn):(norm d).dg.size≤d.dg.size∧-9999≤(norm d).ex∧(norm d).ex≤9999∧AllDig (norm d).dg:=by
 have h:=oneForm_good d.neg (digs d.dg) d.ex (digs_dig d.dg);have:=digs_le d.dg;exact ⟨by have:=h.1;unfold norm;omega,h.2.1,h.2.2.1,h.2.2.2⟩
def cutN (l:List Int):List Int:=(l.reverse.dropWhile (· == 0)).reverse
theorem cutN_len (l:List Int):(cutN l).length≤l.length:=by
 unfold cutN;rw [List.length_reverse];have:=(List.dropWhile_suffix (l:=l.reverse) (fun x:Int=>x == 0)).length_le;rw [List.length_reverse] at this;exact this
theorem cutN_zero (l:List Int) (z:Int) (h:z=0):cutN (l++[z])=cutN l:=by
 unfold cutN;rw [List.reverse_append];simp [h]
theorem cutN_other (l:List Int) (z:Int) (h:z≠0):cutN (l++[z])=l++[z]:=by
 unfold cutN;rw [List.reverse_append];simp [h]
theorem take_getD (l:List Int) (k:Nat) (h:k < l.length):l.take (k+1)=l.take k++[l.getD k 0]:=by
 rw [List.take_succ_eq_append_getElem h];simp [h]
theorem cutN_take (l:List Int):∃ k,cutN l=l.take k:=by
 unfold cutN;have h:=List.dropWhile_suffix (l:=l.reverse) (fun x:Int=>x == 0);have h2:=List.reverse_prefix.2 h;rw [List.reverse_reverse] at h2;exact ⟨_,List.prefix_iff_eq_take.1 h2⟩
theorem cut_nil (w:World):Calls Tryz.prog 98 #[.slice none 0 0] w fun e w'=>e=.returned (.slice none 0 0)∧w'=w:=by
 go_enter Tryz.func98,Tryz.ntmps98
 go_wp2;refine wp_loop_rounds 1 ?_;rw [rounds_succ];go_wp2;go_ret;exact ⟨rfl,rfl⟩
set_option maxRecDepth 100000 in
set_option maxHeartbeats 800000 in
theorem cut_some (g cap:Nat) (zs:List Int) (w:World) (hlc:zs.length≤cap) (hcm:cap≤9223372036854775807) (hc:∀ j,j < zs.length→w.cell? ⟨g,j,none⟩=some (.int .i64 (zs.getD j 0))) :
 Calls Tryz.prog 98 #[.slice (some ⟨g,0,none⟩) zs.length cap] w fun e w'=>e=.returned (.slice (some ⟨g,0,none⟩) (cutN zs).length cap)∧w'=w:=by
 have HC:=hide hc;clear hc
 go_enter Tryz.func98,Tryz.ntmps98
 go_wp2
 go_loop [3] (fun i=>∃ k:Nat,k≤zs.length∧i=.int .i64 k∧cutN (zs.take k)=cutN zs) (fun i=>(intOf i).toNat)
 case atStart=>exact ⟨zs.length,Nat.le_refl _,rfl,by rw [List.take_length]⟩
 case round =>
  obtain ⟨k,hk,rfl,hcut⟩:=hrel;have HK:=hide hcut;clear hcut
  cases k with
  | zero =>
    have e:(cutN zs).length=0:=by rw [← HK.out];rfl
    have HE:=hide e;clear e;go_wp2;go_ret;refine ⟨?_,rfl⟩;rw [HE.out];rfl
  | succ j =>
    have hcell:=uh HC j (by omega);have hj:j < zs.length:=by omega
    by_cases hz:zs.getD j 0=0
    · have HZ:Hid (cutN (zs.take j)=cutN zs):=by
       show cutN _=_;rw [← HK.out,take_getD zs j hj,cutN_zero _ _ hz]
      rw [hz] at hcell;clear hz;go_wp2
      go_round
      case rel=>exact ⟨j,by omega,by go_num,HZ.out⟩
      case measure=>simp [intOf]
    · have e:(cutN zs).length=j+1:=by
       rw [← HK.out,take_getD zs j hj,cutN_other _ _ hz];simp;omega
      have HE:=hide e;have hz':(zs.getD j 0 == 0)=false:=by simpa using hz
      clear e hz;generalize zs.getD j 0=z at *;go_wp2;go_ret;refine ⟨?_,rfl⟩;rw [HE.out];rfl
def Ints (w:World) (v:Value) (zs:List Int):Prop :=
 (v=.slice none 0 0∧zs=[])∨∃ g cap,v=.slice (some ⟨g,0,none⟩) zs.length cap∧zs.length≤cap∧cap≤9223372036854775807∧∀ j,j < zs.length→w.cell? ⟨g,j,none⟩=some (.int .i64 (zs.getD j 0))
theorem Ints.keep {w w':World}{v:Value}{zs:List Int} (h:Ints w v zs) (hb:Below w.heap.size w w'):Ints w' v zs:=by
 rcases h with h|⟨g,cap,h1,h2,h3,h4⟩
 · exact .inl h
 · exact .inr ⟨g,cap,h1,h2,h3,fun j hj=>keepC hb (h4 j hj)⟩
def iv (z:Int):Value:=.int .i64 z
theorem ints_of_own {w:World}{B:Nat}{v:Value}{zs:List Int} (h:w.ownsRow B 3 1 v zs.length (zs.map iv)):Ints w v zs:=by
 rcases h.2 with ⟨h1,h2⟩|⟨g,cap,cur,rfl,hb,hg,hnc,hcm,hcs,htake⟩
 · exact .inl ⟨h1,List.eq_nil_of_length_eq_zero h2⟩
 · refine .inr ⟨g,cap,rfl,hnc,hcm,fun j hj=>?_⟩
   have:=h.cellAt j (by omega);rw [this];simp [hj,iv]
theorem own_ge {w:World}{B:Nat}{e:TypeId}{v:Value}{n:Nat}{xs:List Value} (h:w.ownsRow B e 1 v n xs):∀ k,v.ownBlock=some k→B≤k:=by
 intro k hk
 rcases h.2 with ⟨rfl,_⟩|⟨g,cap,cur,rfl,hb,_⟩
 · simp [Value.ownBlock] at hk
 · simp [Value.ownBlock] at hk
   omega
theorem cutN_getD (l:List Int) (j:Nat) (h:j < (cutN l).length):(cutN l).getD j 0=l.getD j 0:=by
 obtain ⟨m,hm⟩:=cutN_take l;rw [hm] at h ⊢
 have hj:j < m:=by
  rw [List.length_take] at h;omega
 simp [List.getD,hj]
def dl (s:ByteArray) (k:Nat):List Int:=((s.data.toList.drop k).filter nu.dig).reverse.map (fun c:UInt8=>(c.toNat:Int) - 48)
theorem dl_end (s:ByteArray):dl s s.size=[]:=by unfold dl;rw [drop_end];rfl
theorem dl_yes (s:ByteArray) (k:Nat) (h:k < s.size) (hd:nu.dig s[k]=true):dl s k=dl s (k+1)++[(s[k].toNat:Int) - 48]:=by
 unfold dl;rw [drop_at s k h];simp [hd]
theorem dl_no (s:ByteArray) (k:Nat) (h:k < s.size) (hd:nu.dig s[k]=false):dl s k=dl s (k+1):=by
 unfold dl;rw [drop_at s k h];simp [hd]
theorem dl_len (s:ByteArray) (k:Nat):(dl s k).length≤s.size - k:=by
 unfold dl;rw [List.length_map,List.length_reverse];have h1:=List.length_filter_le nu.dig (s.data.toList.drop k);have h2:(s.data.toList.drop k).length=s.size - k:=by rw [List.length_drop];simp
 omega
theorem info3:(Tryz.prog.info? 3).map (fun i=>(i.zero,i.size,i.bytes))=some (some (.int .i64 0),1,8):=by kernel_rfl
set_option maxRecDepth 100000 in
set_option maxHeartbeats 1600000 in
theorem digits_any (s:ByteArray) (w:World) (hs:s.size≤1099511627776) :
 Calls Tryz.prog 71 #[.string s] w fun e w'=>∃ v,e=.returned v∧Ints w' v (cutN (dl s 0))∧Below w.heap.size w w':=by
 obtain ⟨i0,hi,hz0,hz1,hz2⟩:=info_parts info3
 go_enter Tryz.func71,Tryz.ntmps71
 go_wp2
 go_loopw [3,4] (fun v i wr=>∃ k:Nat,k≤s.size∧i=.int .i64 ((k:Int) - 1)∧wr.ownsRow w.heap.size 3 1 v (dl s k).length ((dl s k).map iv)∧Below w.heap.size w wr)
  (fun _ i _=>(intOf i+1).toNat)
 case atStart=>exact ⟨s.size,Nat.le_refl _,rfl,by rw [dl_end];exact World.ownsRow_nil _ _ _ _,Below.refl _ _⟩
 case round =>
  obtain ⟨k,hk,rfl,hown,hbel⟩:=hrel
  cases k with
  | zero =>
    have hI:=ints_of_own hown;clear hown
    rcases hI with ⟨rfl,hn⟩|⟨g,cap,rfl,h2,h3,h4⟩
    · have HN:=hide hn
      clear hn
      go_wp2_with fail
      refine (cut_nil _).mono ?_;rintro e w1 ⟨rfl,rfl⟩;go_wp2;go_ret;exact ⟨_,rfl,.inl ⟨rfl,by rw [HN.out];rfl⟩,hbel⟩
    · have H4:=hide h4
      clear h4
      go_wp2_with fail
      refine (cut_some g cap (dl s 0) _ h2 h3 (uh H4)).mono ?_;rintro e w1 ⟨rfl,rfl⟩;go_wp2;go_ret;refine ⟨_,rfl,.inr ⟨g,cap,rfl,Nat.le_trans (cutN_len _) h2,h3,fun j hj=>?_⟩,hbel⟩;rw [uh H4 j (Nat.lt_of_lt_of_le hj (cutN_len _)),cutN_getD _ _ hj]
  | succ j =>
    have hj:j < s.size:=by omega
    have hlen:=dl_len s (j+1);rw [show ((j+1:Nat):Int) - 1=(j:Int) by omega]
    by_cases hd:nu.dig s[j]=true
    · have hd':48≤s[j].toNat∧s[j].toNat≤57:=by simpa [nu.dig] using hd
      obtain ⟨d1,d2⟩:=hd';have d1':(48:Int)≤(s[j].toNat:Int):=by omega
      have d2':(s[j].toNat:Int)≤57:=by omega
      have HS:=hide (dl_yes s j hj hd);clear hd d1 d2
      go_wp2_with (at_builtin;refine wpList_append_own _ rfl _ _ 22 rfl w.heap.size 3 i0 (.int .i64 0) 1 8 Tryz.underlying22 hi hz0 hz1 hz2 rfl (by decide) _ _ _ rfl (hown.alloc _) ⟨wr.heap.size,0,none⟩ 1 1 [iv ((s[j].toNat:Int) - 48)] rfl rfl ?c1 ?c2 ?c3 ?c4 ?c5 ?_)
      case c1 =>
       intro i u hi
       match i,hi with
       | 0,hi=>simp at hi;subst hi;simp [Addr.add,iv]
      case c2=>intro u hu;simp at hu;subst hu;rfl
      case c3=>unfold maxLen;omega
      case c4=>omega
      case c5=>have:=hbel.size;simp;omega
      intro v' w1 hown1 hgrow1 _;go_wp2
      go_roundw
      case rel =>
       have e:(dl s j).length=(dl s (j+1)).length+1:=by rw [HS.out];simp
       have e2:(dl s j).map iv=(dl s (j+1)).map iv++[iv ((s[j].toNat:Int) - 48)]:=by rw [HS.out];simp
       refine ⟨j,by omega,by go_num,by rw [e,e2];exact hown1,(hbel.alloc hbel.size _).grown hgrow1 (by simp;have:=hbel.size;omega) (own_ge hown)⟩
      case measure=>simp [intOf]
    · have hd0:nu.dig s[j]=false:=by simpa using hd
      have HS:=hide (dl_no s j hj hd0);have hd':¬ (48≤s[j].toNat∧s[j].toNat≤57):=by simpa [nu.dig] using hd
      clear hd hd0
      by_cases d1:(48:Int)≤(s[j].toNat:Int)
      · have d2:¬ (s[j].toNat:Int)≤57:=by omega
        clear hd';go_wp2
        go_roundw
        case rel=>exact ⟨j,by omega,by go_num,by rw [HS.out];exact hown,hbel⟩
        case measure=>simp [intOf]
      · clear hd'
        go_wp2
        go_roundw
        case rel=>exact ⟨j,by omega,by go_num,by rw [HS.out];exact hown,hbel⟩
        case measure=>simp [intOf]
end Go.Proofs.YthnhobplgmojeaaGreatDoor.rd
