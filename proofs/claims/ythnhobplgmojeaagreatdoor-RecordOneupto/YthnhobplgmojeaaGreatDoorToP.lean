/- Texts in one: To Eq Nr Nb Rx -/
import Derived.Test.YthnhobplgmojeaaGreatDoorAdP
import Derived.Laws.BytesArg
namespace Go.Proofs.YthnhobplgmojeaaGreatDoor.rd
open Go.RowKit
def lowN:List Int→Nat
 | []=>0
 | z::r=>if z=0 then lowN r+1 else 0
theorem lowN_eq (us:List Int) (k:Nat) (h1:∀ i,i < k→us.getD i 0=0) (h2:us.getD k 0≠0):lowN us=k:=by
 induction us generalizing k with
 | nil=>simp at h2
 | cons z r ih =>
   cases k with
   | zero =>
     have:z≠0:=by simpa using h2
     simp [lowN,this]
   | succ j =>
     have hz:z=0:=by simpa using h1 0 (by omega)
     have:=ih j (fun i hi=>by simpa using h1 (i+1) (by omega)) (by simpa using h2);simp [lowN,hz,this]
theorem cutN_last (l:List Int) (h:cutN l≠[]):(cutN l).getD ((cutN l).length - 1) 0≠0:=by
 unfold cutN at h ⊢
 cases hx:l.reverse.dropWhile (· == 0) with
 | nil=>rw [hx] at h;simp at h
 | cons z r =>
   have hz:¬ (z == 0)=true:=by
    have:=List.head_dropWhile_not (fun x:Int=>x == 0) (l:=l.reverse) (by rw [hx];simp);simp only [hx,List.head_cons] at this;simpa using this
   simp;simpa using hz
def toB (z:Int):UInt8:=(48+z).toNat.toUInt8
def tb (us:List Int) (k:Nat):List UInt8:=((us.drop k).reverse).map toB
def told (neg:Bool) (zs:List Int) (ex:Int):Dn × Bool :=
 if cutN zs=[] then (zed,true)
 else if ex < -9999 - lowN (cutN zs)∨9999 - lowN (cutN zs) < ex then (zed,false)
 else (⟨neg,⟨(tb (cutN zs) (lowN (cutN zs))).toArray⟩,ex+lowN (cutN zs)⟩,true)
theorem conv_own {w:World}{B n:Nat}{v:Value}{l:List UInt8} (h:w.ownsRow B 5 1 v n (l.map vb)) (hn:l.length=n) :
 (convert 38 9 v).run Tryz.prog w=.ok (.string ⟨l.toArray⟩) w:=by
 subst hn
 rcases h.2 with ⟨rfl,h0⟩|⟨g,cap,cur,rfl,hb,hg,hnc,hcm,hcs,htake⟩
 · obtain rfl:=List.eq_nil_of_length_eq_zero h0
   exact run_convert_bytes_nil w 38 5 Tryz.underlying38 Tryz.underlying5 0 0 9 Tryz.underlying9
 · refine run_convert_bytes_back w 38 9 5 ⟨g,0,none⟩ cap l Tryz.underlying38 Tryz.underlying5 Tryz.underlying9 (fun j hj=>?_)
   have:=h.cellAt j (by omega);have e:(⟨g,0,none⟩:Addr).add j=⟨g,j,none⟩:=by unfold Addr.add;split <;> simp_all
   rw [e,this];simp [hj,vb]
theorem ret_told {m:Nat} (w:World) (d:Dn) (ok:Bool) (h:DLies w m d) (tmps:Array Value) (h2:tmps.getD 6 undef=.pointer (some ⟨m,0,none⟩)) (h3:tmps.getD 7 undef=.bool ok) :
 (results Tryz.f70 tmps).run Tryz.prog w=.ok (.tuple #[dv d,.bool ok]) w:=by
 obtain ⟨q0,q1,q2⟩:=h.cells;rw [results_cell_tmp Tryz.results70,h2,h3];simp [go_sem,q0,q1,q2,dv]
theorem told_nil (neg:Bool) (ex:Int) (w:World) :
 Calls Tryz.prog 70 #[.bool neg,.slice none 0 0,.int .i64 ex] w fun e w'=>e=.returned (.tuple #[dv zed,.bool true])∧Below w.heap.size w w':=by
 go_enter Tryz.func70,Tryz.ntmps70
 go_wp2_with fail
 refine (cut_nil _).mono ?_;rintro e w1 ⟨rfl,rfl⟩;go_wp2;exact bodyPost_ret (ret_told _ zed true (dlies_new w zed) _ rfl rfl) rfl ⟨rfl,(Below.refl _ _).alloc (Nat.le_refl _) _⟩
def Dig10 (zs:List Int):Prop:=∀ z∈zs,0≤z∧z≤9
theorem Dig10.at {zs:List Int} (h:Dig10 zs) (j:Nat) (hj:j < zs.length):0≤zs.getD j 0∧zs.getD j 0≤9:=by
 have:zs.getD j 0=zs[j]:=by simp [hj]
 rw [this];exact h _ (List.getElem_mem hj)
theorem tb_step (us:List Int) (j:Nat) (h:j < us.length):tb us j=tb us (j+1)++[toB (us.getD j 0)]:=by
 unfold tb;have e:us.drop j=us.getD j 0::us.drop (j+1):=by rw [List.drop_eq_getElem_cons h];simp [h]
 rw [e,List.reverse_cons,List.map_append];rfl
theorem tb_end (us:List Int):tb us us.length=[]:=by unfold tb;simp
theorem tb_len (us:List Int) (k:Nat):(tb us k).length=us.length - k:=by unfold tb;simp
theorem toB_nat (z:Int) (h0:0≤z) (h1:z≤9):((toB z).toNat:Int)=48+z:=by
 unfold toB;rw [u8_of _ (by omega)];omega
set_option maxRecDepth 100000 in
set_option maxHeartbeats 3200000 in
theorem told_some (neg:Bool) (g cap:Nat) (zs:List Int) (ex:Int) (w:World) (hlc:zs.length≤cap) (hcm:cap≤9223372036854775807) (hl:zs.length≤1099511627776)
 (hc:∀ j,j < zs.length→w.cell? ⟨g,j,none⟩=some (.int .i64 (zs.getD j 0))) (hd:Dig10 zs) (h0:-9223372036854775808≤ex) (h1:ex≤9223372036854775807) :
 Calls Tryz.prog 70 #[.bool neg,.slice (some ⟨g,0,none⟩) zs.length cap,.int .i64 ex] w fun e w'=>e=.returned (.tuple #[dv (told neg zs ex).1,.bool (told neg zs ex).2])∧Below w.heap.size w w':=by
 have hlen:=cutN_len zs;have hlast:=cutN_last zs
 have hcu:∀ j,j < (cutN zs).length→w.cell? ⟨g,j,none⟩=some (.int .i64 ((cutN zs).getD j 0)):=fun j hj=>by
  rw [hc j (by omega),cutN_getD _ _ hj]
 have hdu:∀ j,j < (cutN zs).length→0≤(cutN zs).getD j 0∧(cutN zs).getD j 0≤9:=fun j hj=>by
  rw [cutN_getD _ _ hj];exact hd.at j (by omega)
 have HT:Hid (told neg zs ex=if cutN zs=[] then (zed,true)
  else if ex < -9999 - lowN (cutN zs)∨9999 - lowN (cutN zs) < ex then (zed,false)
  else (⟨neg,⟨(tb (cutN zs) (lowN (cutN zs))).toArray⟩,ex+lowN (cutN zs)⟩,true)):=rfl
 generalize told neg zs ex=res at HT ⊢;have cc:=fun w h=>cut_some g cap zs w hlc hcm h
 generalize cutN zs=us at *;have CC:=hide cc;have HC:=hide hc;have HCU:=hide hcu;have HDU:=hide hdu;have HL:=hide hlast;clear cc hc hcu hdu hlast hd
 by_cases hu:us=[]
 · have hr:res=(zed,true):=by rw [HT.out,if_pos hu]
   subst hr;have hz:us.length=0:=by rw [hu];rfl
   clear HT hu
   go_enter Tryz.func70,Tryz.ntmps70
   go_wp2_with fail
   refine (uh CC _ (fun j hj=>by rw [World.cell?_alloc_past _ _ _ (cell_lt (uh HC j hj))];exact uh HC j hj)).mono ?_;rintro e w1 ⟨rfl,rfl⟩;have hz':((us.length:Int) == 0)=true:=by simp [hz]
   go_wp2;exact bodyPost_ret (ret_told _ zed true (dlies_new w zed) _ rfl rfl) rfl ⟨rfl,(Below.refl _ _).alloc (Nat.le_refl _) _⟩
 · have hpos:0 < us.length:=List.length_pos_iff.2 hu
   have hlst:=uh HL hu;have hr:res=if ex < -9999 - (lowN us:Int)∨9999 - (lowN us:Int) < ex then (zed,false) else (⟨neg,⟨(tb us (lowN us)).toArray⟩,ex+lowN us⟩,true):=by rw [HT.out,if_neg hu]
   have HR:=hide hr;have HLS:=hide hlst;clear hr HT hlst HL;have hne:((us.length:Int) == 0)=false:=by simp;omega
   clear hu
   go_enter Tryz.func70,Tryz.ntmps70
   go_wp2_with fail
   refine (uh CC _ (fun j hj=>by rw [World.cell?_alloc_past _ _ _ (cell_lt (uh HC j hj))];exact uh HC j hj)).mono ?_;rintro e w1 ⟨rfl,rfl⟩
   have HCW:Hid (∀ j,j < us.length→(w.alloc (.cells #[.bool false,.string ⟨#[]⟩,.int .i64 0] 24)).cell? ⟨g,j,none⟩=some (.int .i64 (us.getD j 0))):=fun j hj=>by
    rw [World.cell?_alloc_past _ _ _ (cell_lt (uh HCU j hj))];exact uh HCU j hj
   go_wp2
   go_loop [9] (fun i=>∃ k:Nat,k < us.length∧i=.int .i64 k∧∀ j,j < k→us.getD j 0=0) (fun i=>us.length - (intOf i).toNat)
   case atStart=>exact ⟨0,hpos,rfl,fun j hj=>by omega⟩
   case round =>
    obtain ⟨k,hk,rfl,hall⟩:=hrel;have HA:=hide hall;clear hall;have hcell:=uh HCW k hk
    by_cases hz:us.getD k 0=0
    · have hk1:k+1 < us.length:=by
       rcases Nat.lt_or_ge (k+1) us.length with h'|h'
       · exact h'
       · exfalso
         have:us.length - 1=k:=by omega
         have h2:=uh HLS;rw [this] at h2;exact h2 hz
      rw [hz] at hcell;have HZ:=hide hz;clear hz;go_wp2
      go_round
      case rel=>exact ⟨k+1,hk1,by go_num,fun j hj=>by
       rcases Nat.lt_or_ge j k with h'|h'
       · exact uh HA j h'
       · rw [show j=k by omega];exact uh HZ⟩
      case measure=>simp [intOf];omega
    · have hlow:=lowN_eq us k (uh HA) hz
      have hz':(us.getD k 0 == 0)=false:=by simpa using hz
      have HRk:Hid (res=if ex < -9999 - (k:Int)∨9999 - (k:Int) < ex then (zed,false) else (⟨neg,⟨(tb us k).toArray⟩,ex+k⟩,true)):=by
       show res=_;rw [uh HR,hlow]
      clear hz hlow HR;have HCell:=hide hcell;generalize hzz:us.getD k 0=zk at hcell hz';clear HCell hzz
      by_cases hb1:ex < -9999 - (k:Int)
      · have hr:res=(zed,false):=by rw [HRk.out,if_pos (.inl hb1)]
        have HRR:=hide hr;clear hr;go_wp2;exact bodyPost_ret (ret_told _ zed false (dlies_new w zed) _ rfl rfl) rfl ⟨by rw [HRR.out],(Below.refl _ _).alloc (Nat.le_refl _) _⟩
      · by_cases hb2:9999 - (k:Int) < ex
        · have hr:res=(zed,false):=by rw [HRk.out,if_pos (.inr hb2)]
          have HRR:=hide hr;clear hr;go_wp2;exact bodyPost_ret (ret_told _ zed false (dlies_new w zed) _ rfl rfl) rfl ⟨by rw [HRR.out],(Below.refl _ _).alloc (Nat.le_refl _) _⟩
        · have hr:res=(⟨neg,⟨(tb us k).toArray⟩,ex+k⟩,true):=by rw [HRk.out,if_neg (by omega)]
          have HRR:=hide hr;clear hr HRk;obtain ⟨i0,hi,hz0,hz1,hz2⟩:=info_parts info5;have hlu:us.length≤1099511627776:=by omega
          go_wp2
          go_loopw [10,11] (fun v i wr=>∃ m:Nat,k≤m∧m≤us.length∧i=.int .i64 ((m:Int) - 1)∧wr.ownsRow (w.heap.size+1) 5 1 v (tb us m).length ((tb us m).map vb)∧Below (w.heap.size+1) (w.alloc (.cells #[.bool false,.string ⟨#[]⟩,.int .i64 0] 24)) wr)
           (fun _ i _=>(intOf i+1 - k).toNat)
          case atStart=>exact ⟨us.length,by omega,Nat.le_refl _,rfl,by rw [tb_end];exact World.ownsRow_nil _ _ _ _,Below.refl _ _⟩
          case round =>
           obtain ⟨m,hkm,hmu,rfl,hown,hbel⟩:=hrel
           by_cases hmk:m=k
           · subst hmk
             have hcv:=conv_own hown rfl;have l1:DLies wr w.heap.size zed:=(hbel.block _ (by omega)).trans (dlies_new w zed);obtain ⟨q0,q1,q2⟩:=l1.cells;obtain ⟨f0,f1,f2⟩:=l1.frees;have hbb:Below w.heap.size w wr:=((Below.refl _ _).alloc (Nat.le_refl _) _).trans (hbel.mono (by omega));have hge:¬ ((m:Int)≤(m:Int) - 1):=by omega
             clear hown hbel;generalize (⟨(tb us m).toArray⟩:ByteArray)=bs at *;go_wp2;exact bodyPost_ret (ret_told _ _ true (l1.set neg bs _) _ rfl rfl) rfl ⟨by rw [HRR.out],below3 hbb (Nat.le_refl _) _ _ _⟩
           · obtain ⟨j,rfl⟩:∃ j,m=j+1:=⟨m - 1,by omega⟩
             have hju:j < us.length:=by omega
             have hcell:wr.cell? ⟨g,j,none⟩=some (.int .i64 (us.getD j 0)):=by
              rw [hbel.cell (by show g < _;have:=cell_lt (uh HCU j hju);omega)];exact uh HCW j hju
             obtain ⟨z1,z2⟩:=uh HDU j hju;have HTB:=hide (tb_step us j hju);have htl:=tb_len us (j+1);have HB0:=hide (toB_nat _ z1 z2);generalize us.getD j 0=z at *;rw [show ((j+1:Nat):Int) - 1=(j:Int) by omega];have HTL:=hide htl;have htl2:(tb us (j+1)).length≤1099511627776:=by omega
             clear htl
             go_wp2_with (at_builtin;refine wpList_append_own _ rfl _ _ 38 rfl (w.heap.size+1) 5 i0 (.int .u8 0) 1 1 Tryz.underlying38 hi hz0 hz1 hz2 rfl (by decide) _ _ _ rfl (hown.alloc _) ⟨wr.heap.size,0,none⟩ 1 1 [.int .u8 (48+z)] rfl rfl ?c1 ?c2 ?c3 ?c4 ?c5 ?_)
             case c1 =>
              intro i u hi
              match i,hi with
              | 0,hi=>simp at hi;subst hi;simp [Addr.add]
             case c2=>intro u hu;simp at hu;subst hu;rfl
             case c3=>unfold maxLen;omega
             case c4=>omega
             case c5=>have:=hbel.size;simp at this ⊢;omega
             intro v' w1 hown1 hgrow1 _;go_wp2
             go_roundw
             case rel =>
              have e:(tb us j).length=(tb us (j+1)).length+1:=by rw [HTB.out];simp
              have e2:(tb us j).map vb=(tb us (j+1)).map vb++[.int .u8 (48+z)]:=by rw [HTB.out];simp [vb,uh HB0]
              have hsz:=hbel.size;simp at hsz;exact ⟨j,by omega,by omega,by go_num,by rw [e,e2];exact hown1,(hbel.alloc (by omega) _).grown hgrow1 (by simp;omega) (own_ge hown)⟩
             case measure=>simp [intOf];omega
def fz (c:UInt8):Int:=(c.toNat:Int) - 48
theorem fz_zero (c:UInt8):(fz c == 0)=(c == 48):=by
 unfold fz
 by_cases h:c=48
 · subst h;rfl
 · have:c.toNat≠48:=fun e=>h (UInt8.toNat_inj.1 (by simpa using e))
   have h1:(c == 48)=false:=by simpa using h
   rw [h1];simp;omega
theorem dropWhile_fz (l:List UInt8):(l.map fz).dropWhile (· == 0)=(l.dropWhile (· == 48)).map fz:=by
 induction l with
 | nil=>rfl
 | cons a r ih =>
   rw [List.map_cons,List.dropWhile_cons,List.dropWhile_cons,fz_zero]
   split
   · exact ih
   · rfl
theorem cutN_fz (l:List UInt8):cutN (l.reverse.map fz)=((l.dropWhile (· == 48)).map fz).reverse:=by
 unfold cutN;rw [← List.map_reverse,List.reverse_reverse,dropWhile_fz]
theorem dropWhile_idem (l:List UInt8):(l.dropWhile (· == 48)).dropWhile (· == 48)=l.dropWhile (· == 48):=by
 induction l with
 | nil=>rfl
 | cons a r ih =>
   rw [List.dropWhile_cons]
   split
   · exact ih
   · rename_i h
     rw [List.dropWhile_cons,if_neg h]
theorem cutN_idem (l:List UInt8):cutN (((l.dropWhile (· == 48)).map fz).reverse)=((l.dropWhile (· == 48)).map fz).reverse:=by
 rw [← List.map_reverse,cutN_fz,dropWhile_idem,List.map_reverse]
theorem lowN_fz (l:List UInt8):lowN (l.map fz)=(l.takeWhile (· == 48)).length:=by
 induction l with
 | nil=>rfl
 | cons a r ih =>
   rw [List.map_cons,List.takeWhile_cons];simp only [lowN];have h:=fz_zero a
   by_cases ha:a=48
   · subst ha
     have:fz 48=0:=rfl;simp [this,ih]
   · have h1:(a == 48)=false:=by simpa using ha
     have h2:¬ fz a=0:=by rw [h1] at h;simpa using h
     simp [h1,h2]
theorem drop_take (l:List UInt8) (p:UInt8→Bool):l.drop (l.takeWhile p).length=l.dropWhile p:=by
 induction l with
 | nil=>rfl
 | cons a r ih =>
   rw [List.takeWhile_cons,List.dropWhile_cons]
   split
   · simpa using ih
   · rfl
theorem len_take_drop (l:List UInt8) (p:UInt8→Bool):(l.takeWhile p).length+(l.dropWhile p).length=l.length:=by
 rw [← List.length_append,List.takeWhile_append_dropWhile]
theorem toB_fz (c:UInt8) (h:nu.dig c=true):toB (fz c)=c:=by
 have hc:48≤c.toNat∧c.toNat≤57:=by simpa [nu.dig] using h
 unfold toB fz;have:(48+((c.toNat:Int) - 48)).toNat=c.toNat:=by omega
 rw [this];simp [Nat.toUInt8]
theorem map_toB (l:List UInt8) (h:∀ c∈l,nu.dig c=true):(l.map fz).map toB=l:=by
 rw [List.map_map];have e:l.map (toB ∘ fz)=l.map id:=List.map_congr_left (fun c hc=>toB_fz c (h c hc));rw [e,List.map_id]
theorem told_eq (neg:Bool) (l:List UInt8) (ex:Int) (hd:∀ c∈l,nu.dig c=true) :
 told neg (cutN (l.reverse.map fz)) ex=oneForm neg ⟨l.toArray⟩ ex:=by
 have e1:trimL ⟨l.toArray⟩=⟨(l.dropWhile (· == 48)).toArray⟩:=rfl;have hdt:∀ c∈l.dropWhile (· == 48),nu.dig c=true:=fun c hc=>hd c (mem_dropWhile hc)
 unfold told oneForm;rw [cutN_fz,cutN_idem,e1];have hdw:=dropWhile_idem l;generalize l.dropWhile (· == 48)=t at *;have e2:trimR ⟨t.toArray⟩=⟨((t.reverse.dropWhile (· == 48)).reverse).toArray⟩:=rfl;have s1:(⟨t.toArray⟩:ByteArray).size=t.length:=List.size_toArray;have s2:(trimR ⟨t.toArray⟩).size=(t.reverse.dropWhile (· == 48)).length:=by rw [e2];exact List.size_toArray.trans (List.length_reverse)
 have hl:=len_take_drop t.reverse (· == 48);have hlow:lowN ((t.map fz).reverse)=(t.reverse.takeWhile (· == 48)).length:=by rw [← List.map_reverse,lowN_fz]
 have htb:(tb ((t.map fz).reverse) (t.reverse.takeWhile (· == 48)).length)=(t.reverse.dropWhile (· == 48)).reverse:=by
  unfold tb;rw [← List.map_reverse,← List.map_drop,drop_take,← List.map_reverse];exact map_toB _ (fun c hc=>hdt c (List.mem_reverse.1 (mem_dropWhile (List.mem_reverse.1 hc))))
 rw [s1,s2,hlow,htb];rw [List.length_reverse] at hl
 cases t with
 | nil=>simp
 | cons a r =>
   have ha:¬ (a == 48)=true:=by
    intro h;rw [List.dropWhile_cons,if_pos h] at hdw;have:=(List.dropWhile_suffix (l:=r) (fun x:UInt8=>x == 48)).length_le;rw [hdw] at this;simp at this;omega
   have hne:(((a::r).reverse).dropWhile (· == 48)).length≠0:=by
    intro h;have h0:=List.eq_nil_of_length_eq_zero h;have h1:=List.takeWhile_append_dropWhile (p:=fun x:UInt8=>x == 48) (l:=(a::r).reverse);rw [h0,List.append_nil] at h1;have h2:=List.all_eq_true.1 (List.all_takeWhile (p:=fun x:UInt8=>x == 48) (l:=(a::r).reverse)) a (by rw [h1];simp);exact ha h2
   have hne2:¬ ((List.map fz (a::r)).reverse=[]):=by simp
   rw [if_neg hne2,if_neg hne];have hc1:(((a::r).length:Int) - (((a::r).reverse.dropWhile (· == 48)).length:Int))=(((a::r).reverse.takeWhile (· == 48)).length:Int):=by omega
   rw [hc1];generalize ((a::r).reverse.takeWhile (· == 48)).length=m
   by_cases h1:9999 < ex
   · rw [if_pos (.inr (by omega)),if_pos h1]
   · rw [if_neg h1]
     by_cases h2:ex < -9999 - (m:Int)∨9999 - (m:Int) < ex
     · rw [if_pos h2,if_pos (by omega)]
     · rw [if_neg h2,if_neg (by omega)]
       rfl
theorem dl_fz (s:ByteArray):dl s 0=(s.data.toList.filter nu.dig).reverse.map fz:=by
 unfold dl;rw [List.drop_zero];rfl
theorem norm_eq (neg:Bool) (s:ByteArray) (ex:Int):told neg (cutN (dl s 0)) ex=oneForm neg (digs s) ex:=by
 rw [dl_fz];exact told_eq neg _ ex (dig_filter _)
theorem dl_dig10 (s:ByteArray):Dig10 (cutN (dl s 0)):=by
 intro z hz
 have h1:z∈dl s 0:=by
  obtain ⟨k,hk⟩:=cutN_take (dl s 0);rw [hk] at hz;exact List.mem_of_mem_take hz
 rw [dl_fz] at h1;obtain ⟨c,hc,rfl⟩:=List.mem_map.1 h1;have:=dig_filter _ c (List.mem_reverse.1 hc);have h2:48≤c.toNat∧c.toNat≤57:=by simpa [nu.dig] using this
 unfold fz;omega
theorem dl_short (s:ByteArray):(cutN (dl s 0)).length≤s.size:=by
 have h1:=cutN_len (dl s 0);have h2:=dl_len s 0;omega
theorem told_any (neg:Bool) (v:Value) (zs:List Int) (ex:Int) (w:World) (hv:Ints w v zs) (hl:zs.length≤1099511627776) (hd:Dig10 zs) (h0:-9223372036854775808≤ex) (h1:ex≤9223372036854775807) :
 Calls Tryz.prog 70 #[.bool neg,v,.int .i64 ex] w fun e w'=>e=.returned (.tuple #[dv (told neg zs ex).1,.bool (told neg zs ex).2])∧Below w.heap.size w w':=by
 rcases hv with ⟨rfl,rfl⟩|⟨g,cap,rfl,h2,h3,h4⟩
 · exact told_nil neg ex w
 · exact told_some neg g cap zs ex w h2 h3 hl h4 hd h0 h1
theorem ret_rnorm {m:Nat} (w:World) (d:Dn) (h0:w.cell? ⟨m,0,none⟩=some (.bool d.neg)) (h1:w.cell? ⟨m,1,none⟩=some (.string d.dg)) (h2:w.cell? ⟨m,2,none⟩=some (.int .i64 d.ex)) (tmps:Array Value) (ht:tmps[2]?.getD undef=.pointer (some ⟨m,0,none⟩)) :
 (results Tryz.f55 tmps).run Tryz.prog w=.ok (dv d) w:=by
 simp [results,Tryz.results55,ht,go_sem,h0,h1,h2,dv]
set_option maxRecDepth 100000 in
set_option maxHeartbeats 800000 in
theorem rnorm_any (d:Dn) (w:World) (hs:d.dg.size≤1099511627776) (h0:-9223372036854775808≤d.ex) (h1:d.ex≤9223372036854775807) :
 Calls Tryz.prog 55 #[dv d] w fun e w'=>e=.returned (dv (norm d))∧Below w.heap.size w w':=by
 obtain ⟨n,g,x⟩:=d;simp only at hs h0 h1;have c1:=fun w=>digits_any g w hs
 have c2:=fun v w (hv:Ints w v (cutN (dl g 0)))=>told_any n v (cutN (dl g 0)) x w hv (Nat.le_trans (dl_short g) hs) (dl_dig10 g) h0 h1
 have HB:Hid (norm ⟨n,g,x⟩=(oneForm n (digs g) x).1):=rfl;rw [norm_eq] at c2;generalize norm ⟨n,g,x⟩=r at HB ⊢;generalize oneForm n (digs g) x=o at *;generalize cutN (dl g 0)=zl at *;obtain ⟨r',ok⟩:=o;obtain rfl:r=r':=HB;obtain ⟨rn,rg,rx⟩:=r;simp only [dv] at c2 ⊢;have C1:=hide c1;have C2:=hide c2;clear c1 c2;have n3:w.heap.size+1+1≠w.heap.size:=by omega
 have n4:w.heap.size≠w.heap.size+1+1:=by omega
 have n5:w.heap.size+1+1≠w.heap.size+1:=by omega
 have n6:w.heap.size+1≠w.heap.size+1+1:=by omega
 go_enter Tryz.func55,Tryz.ntmps55
 go_wp2_with fail
 go_region_held3 (fun w'=>w'.cell? ⟨w.heap.size,0,none⟩=some (.bool n)∧w'.cell? ⟨w.heap.size,1,none⟩=some (.string g)∧w'.cell? ⟨w.heap.size,2,none⟩=some (.int .i64 x)∧w'.cell? ⟨w.heap.size+1,0,none⟩=some (.bool false)∧w'.cell? ⟨w.heap.size+1,1,none⟩=some (.string ⟨#[]⟩)∧w'.cell? ⟨w.heap.size+1,2,none⟩=some (.int .i64 0)∧w'.frozen? ⟨w.heap.size+1,0,none⟩=false∧w'.frozen? ⟨w.heap.size+1,1,none⟩=false∧w'.frozen? ⟨w.heap.size+1,2,none⟩=false∧w.heap.size < w'.heap.size∧w.heap.size+1 < w'.heap.size) (((try dsimp only);(repeat' apply And.intro);all_goals first|(go_keep;done)|(simp [*,World.frozen?_alloc_past];done)|(simp;omega)|(simp [World.setCell];omega))) (first
  | (go_at_call 71;refine (uh C1 _).mono ?_;rintro e w1 ⟨v1,rfl,hI1,hb1⟩;obtain ⟨k0,k1,k2,k3,k4,k5,k6,k7,k8,k9,k10⟩:=keepS (v0:=.bool n) (v1:=.string g) (v2:=.int .i64 x) (u0:=.bool false) (u1:=.string ⟨#[]⟩) (u2:=.int .i64 0) (b:=w.heap.size) (c:=w.heap.size+1) hb1 (by first|assumption|go_keep);obtain ⟨bc1,bf1⟩:=bcell hb1;have hs1:=hb1.size;have HB1:Hid (Below w.heap.size w w1):=(by refine Below.trans ?_ (hb1.mono (by first|(simp;omega)|simp|omega));repeat (first|exact Below.refl _ _|apply Below.drew|refine Below.alloc ?_ (by first|(simp;omega)|simp|omega) _));clear hb1;simp only [heap_drew,World.size_alloc,Nat.add_one_le_iff] at hs1 bc1 bf1;have n1:w1.heap.size≠w.heap.size:=(by omega);have n1':w.heap.size≠w1.heap.size:=(by omega);have n7:w1.heap.size≠w.heap.size+1:=(by omega);have n7':w.heap.size+1≠w1.heap.size:=(by omega))
  | (go_at_call 70;refine (uh C2 v1 _ (by first|exact hI1|exact hI1.keep ((Below.refl _ _).alloc (Nat.le_refl _) _))).mono ?_;rintro e w2 ⟨rfl,hb2⟩;obtain ⟨m0,m1,m2,m3,m4,m5,m6,m7,m8,m9,m10⟩:=keepS (v0:=.bool n) (v1:=.string g) (v2:=.int .i64 x) (u0:=.bool false) (u1:=.string ⟨#[]⟩) (u2:=.int .i64 0) (b:=w.heap.size) (c:=w.heap.size+1) hb2 (by first|assumption|go_keep);obtain ⟨bc2,bf2⟩:=bcell hb2;have hs2:=hb2.size;have HB2:Hid (Below w.heap.size w w2):=(by refine Below.trans ?_ (hb2.mono (by first|(simp;omega)|simp|omega));repeat (first|exact HB1.out|apply Below.drew|refine Below.alloc ?_ (by first|(simp;omega)|simp|omega) _));clear hb2;(try simp only [World.size_alloc] at hs2 bc2 bf2);have n2:w2.heap.size≠w.heap.size:=(by omega);have n2':w.heap.size≠w2.heap.size:=(by omega)))
 all_goals go_wp2
 all_goals refine bodyPost_ret (ret_rnorm _ ⟨rn,rg,rx⟩ (by simp [go_sem, *]) (by simp [go_sem, *]) (by simp [go_sem, *]) _ rfl) rfl ⟨rfl,?_⟩
 · exact below3a HB2.out (by omega) (by omega) _ _ _ _
 · exact below3 (below3 HB2.out (by omega) _ _ _) (by omega) _ _ _
 · exact below3 (below3 HB2.out (by omega) _ _ _) (by omega) _ _ _
def rstep (e:Int) (c:UInt8):Int:=if e < 1000000000000 then 10*e+((c.toNat:Int) - 48) else e
def rsize (l:List UInt8):Int:=l.foldl rstep 0
def rexD (s:ByteArray) (neg:Bool) (j:Nat):Int × Bool :=
 if nu.nd s j=0∨j+nu.nd s j < s.size then (0,false)
 else (if neg then - rsize ((s.data.toList.drop j).take (nu.nd s j)) else rsize ((s.data.toList.drop j).take (nu.nd s j)),true)
def rex (s:ByteArray) (k:Nat):Int × Bool :=
 match nu.at_ s k with
 | none=>(0,true)
 | some c=>if c=101∨c=69 then
  (match nu.at_ s (k+1) with
   | some d=>if d=45 then rexD s true (k+2) else if d=43 then rexD s false (k+2) else rexD s false (k+1)
   | none=>rexD s false (k+1))
   else (0,false)
end Go.Proofs.YthnhobplgmojeaaGreatDoor.rd
