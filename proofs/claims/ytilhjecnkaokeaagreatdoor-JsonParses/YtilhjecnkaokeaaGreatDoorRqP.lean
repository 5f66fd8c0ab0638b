/- Texts in one: Rq Pq -/
import Derived.Test.YtilhjecnkaokeaaGreatDoorToP
import Derived.Deep.Cut
namespace Go.Proofs.YtilhjecnkaokeaaGreatDoor.rd
open Go.RowKit
def rpRes (neg:Bool) (all:ByteArray) (ex:Int):Dn × Int :=
 if (oneForm neg (digs all) ex).2 then ((oneForm neg (digs all) ex).1,0) else (zed,4)
def rpEnd (s:ByteArray) (neg:Bool) (all:ByteArray) (k bh:Nat):Dn × Int :=
 if (rex s k).2 then rpRes neg all ((rex s k).1 - bh) else (zed,3)
def rpFrom (s:ByteArray) (neg:Bool) (i:Nat):Dn × Int :=
 if nu.nd s i=0∨(nu.at_ s i=some 48∧1 < nu.nd s i) then (zed,3)
 else if nu.at_ s (i+nu.nd s i)=some 46 then
  (if nu.nd s (i+nu.nd s i+1)=0 then (zed,3)
   else rpEnd s neg (s.extract i (i+nu.nd s i)++s.extract (i+nu.nd s i+1) (i+nu.nd s i+1+nu.nd s (i+nu.nd s i+1))) (i+nu.nd s i+1+nu.nd s (i+nu.nd s i+1)) (nu.nd s (i+nu.nd s i+1)))
 else rpEnd s neg (s.extract i (i+nu.nd s i)) (i+nu.nd s i) 0
def rparse (s:ByteArray):Dn × Int:=if nu.at_ s 0=some 45 then rpFrom s true 1 else rpFrom s false 0
theorem rexD_bd (s:ByteArray) (neg:Bool) (j:Nat):-10000000000000≤(rexD s neg j).1∧(rexD s neg j).1≤10000000000000:=by
 have:=rsize_bd ((s.data.toList.drop j).take (nu.nd s j)) (take_dig s j _ (Nat.le_refl _))
 unfold rexD
 split
 · simp
 · simp only
   split <;> omega
theorem rex_bd (s:ByteArray) (k:Nat):-10000000000000≤(rex s k).1∧(rex s k).1≤10000000000000:=by
 unfold rex
 split
 · simp
 · split
   · split
     · split
       · exact rexD_bd _ _ _
       · split
         · exact rexD_bd _ _ _
         · exact rexD_bd _ _ _
     · exact rexD_bd _ _ _
   · simp
theorem rpEnd_ok {s:ByteArray}{neg:Bool}{all:ByteArray}{k bh:Nat}{ex:Int} (h:rex s k=(ex,true)):rpEnd s neg all k bh=rpRes neg all (ex - bh):=by
 unfold rpEnd;rw [h];exact if_pos rfl
theorem rpEnd_no {s:ByteArray}{neg:Bool}{all:ByteArray}{k bh:Nat}{ex:Int} (h:rex s k=(ex,false)):rpEnd s neg all k bh=(zed,3):=by
 unfold rpEnd;rw [h];exact if_neg Bool.false_ne_true
theorem rpRes_ok {neg:Bool}{all:ByteArray}{ex:Int}{d:Dn} (h:oneForm neg (digs all) ex=(d,true)):rpRes neg all ex=(d,0):=by
 unfold rpRes;rw [h];exact if_pos rfl
theorem rpRes_no {neg:Bool}{all:ByteArray}{ex:Int}{d:Dn} (h:oneForm neg (digs all) ex=(d,false)):rpRes neg all ex=(zed,4):=by
 unfold rpRes;rw [h];exact if_neg Bool.false_ne_true
theorem slice_at (u:World) (s:ByteArray) (a b:Int) (i j:Nat) (ha:a=(i:Int)) (hb:b=(j:Int)) (h1:i≤j) (h2:j≤s.size) :
 (Instr.slice 9 (.string s) (some (.int .i64 a)) (some (.int .i64 b)) none).run Tryz.prog u=.ok (.string (s.extract i j)) u:=by
 subst ha hb
 rw [run_slice_string u 9 s .i64 .i64 i j Tryz.underlying9 (by omega) (by omega) (by omega)]
 rfl
theorem told_at (neg:Bool) (v:Value) (zs:List Int) (ex:Int) (w:World) (a:Int) (ha:a=ex) (hv:Ints w v zs) (hl:zs.length≤1099511627776) (hd:Dig10 zs) (h0:-9223372036854775808≤ex) (h1:ex≤9223372036854775807) :
 Calls Tryz.prog 103 #[.bool neg,v,.int .i64 a] w fun e w'=>e=.returned (.tuple #[dv (told neg zs ex).1,.bool (told neg zs ex).2])∧Below w.heap.size w w':=by
 subst ha;exact told_any neg v zs a w hv hl hd h0 h1
theorem ret_rparse {m:Nat} (w:World) (d:Dn) (c:Int) (h:DLies w m d) (tmps:Array Value) (h2:tmps.getD 2 undef=.pointer (some ⟨m,0,none⟩)) (h3:tmps.getD 3 undef=.int .i64 c) :
 (results Tryz.f120 tmps).run Tryz.prog w=.ok (.tuple #[dv d,.int .i64 c]) w:=by
 obtain ⟨q0,q1,q2⟩:=h.cells
 rw [results_cell_tmp Tryz.results120,h2,h3]
 simp [go_sem,q0,q1,q2,dv]
theorem rp_start (s:ByteArray):∃ (ng:Bool) (i:Nat),decide (nu.at_ s 0=some 45)=ng∧i=(if ng then 1 else 0)∧rparse s=rpFrom s ng i∧i≤s.size:=by
 by_cases h:nu.at_ s 0=some 45
 · refine ⟨true,1,decide_eq_true h,rfl,by unfold rparse;rw [if_pos h],?_⟩
   rcases Nat.lt_or_ge 0 s.size with h'|h'
   · exact h'
   · rw [nu.at_none s 0 (by omega)] at h;cases h
 · exact ⟨false,0,decide_eq_false h,rfl,by unfold rparse;rw [if_neg h],Nat.zero_le _⟩
set_option maxRecDepth 100000 in
set_option maxHeartbeats 6400000 in
theorem rparse_any (s:ByteArray) (w:World) (hs0:s.size≤549755813888) :
 Calls Tryz.prog 120 #[.string s] w fun e w'=>e=.returned (.tuple #[dv (rparse s).1,.int .i64 (rparse s).2])∧Below w.heap.size w w':=by
 have hs:s.size≤1099511627776:=by omega
 obtain ⟨ng,i,hng,hi,hfrom,hi0⟩:=rp_start s
 have HNG:=hide hng
 have HI:=hide hi
 have HFR:=hide hfrom
 clear hng hi hfrom
 have c1:=hide (fun w=>number_any s i w hs hi0)
 have hn1:=nu.nd_le s i hi0
 have HF:Hid (rparse s=if nu.nd s i=0∨(nu.at_ s i=some 48∧1 < nu.nd s i) then (zed,3) else _):=HFR.out.trans (by unfold rpFrom;rfl)
 clear HFR
 generalize nu.nd s i=n at *
 have c2:=fun (h:i+n < s.size)=>hide (fun w a ha=>number_at s (i+n+1) w a ha hs h)
 have hn2:=fun (h:i+n < s.size)=>nu.nd_le s (i+n+1) h
 generalize nu.nd s (i+n+1)=b at *
 obtain ⟨bad,hbad⟩:∃ bad:Bool,decide (n=0∨(nu.at_ s i=some 48∧1 < n))=bad:=⟨_,rfl⟩
 have HBAD:=hide hbad
 clear hbad
 obtain ⟨pt,hpt⟩:∃ pt:Bool,decide (nu.at_ s (i+n)=some 46)=pt:=⟨_,rfl⟩
 have HPT:=hide hpt
 clear hpt
 go_enter Tryz.func120,Tryz.ntmps120
 go_upto_region 2 with fail
 go_cut [5] from 14 (fun s5 wx=>s5=.bool ng∧wx=(w.alloc (.cells #[.bool false,.string ⟨#[]⟩,.int .i64 0] 24)))
 case first =>
  by_cases hz:0 < s.size
  · have hat:=nu.at_some s 0 hz
    by_cases h45:s[0]=45
    · have HB:Hid (ng=true):=by show _=_;rw [← HNG.out,hat,h45];rfl
      have t45:(s[0].toNat:Int)=45:=by rw [h45];rfl
      clear h45 hat
      go_wp2_with fail
      go_meet
      exact ⟨by rw [HB.out],rfl⟩
    · have HB:Hid (ng=false):=by
       show _=_;rw [← HNG.out,hat];exact decide_eq_false (fun e=>h45 (Option.some.inj e))
      have t45:((s[0].toNat:Int) == 45)=false:=byte_neb (b:=45) h45
      clear h45 hat
      go_wp2_with fail
      go_meet
      exact ⟨by rw [HB.out],rfl⟩
  · have HB:Hid (ng=false):=by
     show _=_;rw [← HNG.out,nu.at_none s 0 (by omega)];rfl
    have hz':(s.size:Int)≤0:=by omega
    go_wp2_with fail
    go_meet
    exact ⟨by rw [HB.out],rfl⟩
 case rest =>
  obtain ⟨rfl,rfl⟩:=hcut
  clear HNG
  go_upto_if 22 with fail
  go_cut [4,5] from 14 (fun s4 s5 wx=>s4=.int .i64 (i:Int)∧s5=.bool ng∧wx=(w.alloc (.cells #[.bool false,.string ⟨#[]⟩,.int .i64 0] 24)))
  case first =>
   cases ng
   · go_wp2_with fail
     go_meet
     exact ⟨by rw [HI.out];rfl,rfl,rfl⟩
   · go_wp2_with fail
     go_meet
     exact ⟨by rw [HI.out];rfl,rfl,rfl⟩
  case rest =>
   obtain ⟨rfl,rfl,rfl⟩:=hcut
   clear HI
   go_upto_region 6 with (go_at_call 144;refine (uh c1 _).mono ?_;rintro e w0 ⟨rfl,rfl⟩)
   go_cut [40] from 14 (fun s40 wx=>s40=.bool bad∧wx=(w.alloc (.cells #[.bool false,.string ⟨#[]⟩,.int .i64 0] 24)))
   case first =>
    by_cases hn0:n=0
    · have HB:Hid (bad=true):=by show _=_;rw [← HBAD.out];exact decide_eq_true (.inl hn0)
      subst hn0
      go_wp2_with fail
      go_meet
      exact ⟨by rw [HB.out],rfl⟩
    · have hbq:((i:Int)+(n:Int) == (i:Int))=false:=by simp;omega
      have hix:i < s.size:=by omega
      have hat:=nu.at_some s i hix
      by_cases h48:s[i]=48
      · have t48:(s[i].toNat:Int)=48:=by rw [h48];rfl
        by_cases hn2':1 < n
        · have HB:Hid (bad=true):=by show _=_;rw [← HBAD.out];exact decide_eq_true (.inr ⟨by rw [hat,h48],hn2'⟩)
          have hgt:(i:Int)+1 < (i:Int)+(n:Int):=by omega
          clear h48 hat hn0
          go_wp2_with fail
          go_meet
          exact ⟨by rw [HB.out],rfl⟩
        · have HB:Hid (bad=false):=by show _=_;rw [← HBAD.out];exact decide_eq_false (fun h=>by rcases h with h|h <;> omega)
          have hgt:(i:Int)+(n:Int)≤(i:Int)+1:=by omega
          clear h48 hat hn0
          go_wp2_with fail
          go_meet
          exact ⟨by rw [HB.out];congr 1;simp;omega,rfl⟩
      · have HB:Hid (bad=false):=by
         show _=_;rw [← HBAD.out,hat]
         exact decide_eq_false (fun h=>by
          rcases h with h|h
          · exact hn0 h
          · exact h48 (Option.some.inj h.1))
        have t48:((s[i].toNat:Int) == 48)=false:=byte_neb (b:=48) h48
        clear h48 hat hn0
        go_wp2_with fail
        go_meet
        exact ⟨by rw [HB.out],rfl⟩
   case rest =>
    obtain ⟨rfl,rfl⟩:=hcut
    cases bad
    case true =>
     have HR:Hid (rparse s=(zed,3)):=by show rparse s=_;rw [HF.out];exact if_pos (of_decide_eq_true HBAD.out)
     clear HF
     go_wp2
     exact bodyPost_ret (ret_rparse _ zed 3 (dlies_new w zed) _ rfl rfl) rfl ⟨by rw [HR.out],(Below.refl _ _).alloc (Nat.le_refl _) _⟩
    case false =>
     have hnb:=of_decide_eq_false HBAD.out
     have hn0:0 < n:=by
      rcases Nat.eq_zero_or_pos n with h|h
      · exact absurd (.inl h) hnb
      · exact h
     have HF2:=hide (HF.out.trans (if_neg hnb))
     clear HF hnb HBAD c1
     have hsl1:∀ u:World,(Instr.slice 9 (.string s) (some (.int .i64 (i:Int))) (some (.int .i64 ((i:Int)+(n:Int)))) none).run Tryz.prog u=.ok (.string (s.extract i (i+n))) u:=fun u=>slice_at u s _ _ i (i+n) rfl (by omega) (by omega) hn1
     have hal:=nu.ext_size s i (i+n)
     go_upto_region 10 with fail
     go_cut [55] from 14 (fun s55 wx=>s55=.bool pt∧wx=(w.alloc (.cells #[.bool false,.string ⟨#[]⟩,.int .i64 0] 24)))
     case first =>
      by_cases hlt:i+n < s.size
      · have hat:=nu.at_some s (i+n) hlt
        by_cases h46:s[i+n]=46
        · have HB:Hid (pt=true):=by show _=_;rw [← HPT.out];exact decide_eq_true (by rw [hat,h46])
          have t46:(s[i+n].toNat:Int)=46:=by rw [h46];rfl
          clear h46 hat
          go_wp2_with fail
          go_meet
          exact ⟨by rw [HB.out],rfl⟩
        · have HB:Hid (pt=false):=by show _=_;rw [← HPT.out,hat];exact decide_eq_false (fun e=>h46 (Option.some.inj e))
          have t46:((s[i+n].toNat:Int) == 46)=false:=byte_neb (b:=46) h46
          clear h46 hat
          go_wp2_with fail
          go_meet
          exact ⟨by rw [HB.out],rfl⟩
      · have HB:Hid (pt=false):=by show _=_;rw [← HPT.out,nu.at_none s (i+n) (by omega)];rfl
        have hend:(s.size:Int)≤(i:Int)+(n:Int):=by omega
        go_wp2_with fail
        go_meet
        exact ⟨by rw [HB.out],rfl⟩
     case rest =>
      obtain ⟨rfl,rfl⟩:=hcut
      go_upto_if 55 with fail
      go_cut [6,7,8] from 14 (fun s6 s7 s8 wx=>∃ (kk:Nat) (al:ByteArray) (bb:Nat),s6=.int .i64 (kk:Int)∧s7=.string al∧s8=.int .i64 (bb:Int)∧Hid (rparse s=rpEnd s ng al kk bb)∧kk≤s.size∧al.size≤1099511627776∧bb≤s.size∧wx=(w.alloc (.cells #[.bool false,.string ⟨#[]⟩,.int .i64 0] 24)))
      case first =>
       cases pt
       case false =>
        have HE:Hid (rparse s=rpEnd s ng (s.extract i (i+n)) (i+n) 0):=HF2.out.trans (if_neg (of_decide_eq_false HPT.out))
        go_wp2_with fail
        go_meet
        exact ⟨i+n,_,0,(by first|rfl|(congr 1;omega)),rfl,rfl,HE,hn1,by omega,by omega,rfl⟩
       case true =>
        have hpp:=of_decide_eq_true HPT.out
        have hlt:i+n < s.size:=by
         rcases Nat.lt_or_ge (i+n) s.size with h'|h'
         · exact h'
         · rw [nu.at_none s (i+n) (by omega)] at hpp;cases hpp
        have HF3:=hide (HF2.out.trans (if_pos hpp))
        have hn3:=hn2 hlt
        have cc:=c2 hlt
        clear hpp HF2 c2 hn2
        by_cases hb0:b=0
        · have HR:Hid (rparse s=(zed,3)):=by show rparse s=_;rw [HF3.out];exact if_pos hb0
          subst hb0
          clear HF3
          go_wp2_with (go_at_call 144;refine (uh cc _ _ (by omega)).mono ?_;rintro e w0 ⟨rfl,rfl⟩)
          exact bodyPost_ret (ret_rparse _ zed 3 (dlies_new w zed) _ rfl rfl) rfl ⟨by rw [HR.out],(Below.refl _ _).alloc (Nat.le_refl _) _⟩
        · have HE:=hide (HF3.out.trans (if_neg hb0))
          have hbb:((b:Int) == 0)=false:=by simpa using hb0
          have hb0':0 < b:=by omega
          clear HF3 hb0
          have hsl2:∀ u:World,(Instr.slice 9 (.string s) (some (.int .i64 ((i:Int)+(n:Int)+1))) (some (.int .i64 ((i:Int)+(n:Int)+1+(b:Int)))) none).run Tryz.prog u=.ok (.string (s.extract (i+n+1) (i+n+1+b))) u:=fun u=>slice_at u s _ _ (i+n+1) (i+n+1+b) (by omega) (by omega) (by omega) (by omega)
          have hal2:=nu.ext_size s (i+n+1) (i+n+1+b)
          have hall:(s.extract i (i+n)++s.extract (i+n+1) (i+n+1+b)).size=(s.extract i (i+n)).size+(s.extract (i+n+1) (i+n+1+b)).size:=ByteArray.size_append
          have hcat:∀ u:World,(Op.stringOp .add (s.extract i (i+n)) (s.extract (i+n+1) (i+n+1+b))).run Tryz.prog u=.ok (.string (s.extract i (i+n)++s.extract (i+n+1) (i+n+1+b))) u:=fun u=>run_string_add_sum u _ _ (by omega)
          have HALL:=hide (show (s.extract i (i+n)++s.extract (i+n+1) (i+n+1+b)).size≤1099511627776 by omega)
          clear hall
          go_wp2_with (go_at_call 144;refine (uh cc _ _ (by omega)).mono ?_;rintro e w0 ⟨rfl,rfl⟩)
          go_meet
          exact ⟨i+n+1+b,_,b,(by first|rfl|(congr 1;omega)),rfl,(by first|rfl|(congr 1;omega)),HE,hn3,uh HALL,by omega,rfl⟩
      case rest =>
       obtain ⟨kk,al,bb,rfl,rfl,rfl,HE,hkk,hals,hbbs,rfl⟩:=hcut
       clear HF2 c2 hn2 hsl1 hal hn1 hn0 HPT hi0
       have cx:=hide (fun w=>rexponent_any s kk w hs hkk)
       have hxb:=rex_bd s kk
       generalize hrx:rex s kk=rx at *
       obtain ⟨ex,ok⟩:=rx
       have HRX:=hide hrx
       clear hrx
       simp only at hxb cx
       cases ok
       case false =>
        have HR:Hid (rparse s=(zed,3)):=HE.out.trans (rpEnd_no HRX.out)
        clear HE
        go_wp2_with (go_at_call 145;refine (uh cx _).mono ?_;rintro e w1 ⟨rfl,rfl⟩)
        exact bodyPost_ret (ret_rparse _ zed 3 (dlies_new w zed) _ rfl rfl) rfl ⟨by rw [HR.out],(Below.refl _ _).alloc (Nat.le_refl _) _⟩
       case true =>
        have hE:=HE.out.trans (rpEnd_ok HRX.out)
        have cd:=hide (fun w=>digits_any al w hals)
        have ct:=fun v w a (ha:a=ex - (bb:Int)) (hv:Ints w v (cutN (dl al 0)))=>told_at ng v (cutN (dl al 0)) (ex - (bb:Int)) w a ha hv (Nat.le_trans (dl_short _) hals) (dl_dig10 _) (by omega) (by omega)
        rw [norm_eq] at ct
        generalize ho:oneForm ng (digs al) (ex - (bb:Int))=o at *
        generalize cutN (dl al 0)=zl at *
        obtain ⟨⟨rn,rg,rxx⟩,okk⟩:=o
        have HO:=hide ho
        simp only [dv] at ct
        have CT:=hide ct
        have HEE:=hide hE
        clear ct hE ho HE HRX
        go_upto_region 21 with (first
         | (go_at_call 145;refine (uh cx _).mono ?_;rintro e w1 ⟨rfl,rfl⟩)
         | (go_at_call 104;refine (uh cd _).mono ?_;rintro e w2 ⟨v2,rfl,hI2,hb2⟩;have l2:DLies w2 w.heap.size zed:=(dlies_new w zed).below hb2 (by simp))
         | (go_at_call 103;refine (uh CT _ _ _ rfl hI2).mono ?_;rintro e w3 ⟨rfl,hb3⟩;have l3:DLies w3 w.heap.size zed:=l2.below hb3 (blk_lt l2);have z3:w.heap.size < w3.heap.size:=blk_lt l3;have hbb:Below w.heap.size w w3:=(((Below.refl _ _).alloc (Nat.le_refl _) _).trans (hb2.mono (by simp))).trans (hb3.mono (Nat.le_of_lt (blk_lt l2)));obtain ⟨q0,q1,q2⟩:=l3.cells;obtain ⟨f0,f1,f2⟩:=l3.frees;clear hb2 hb3 l2 hI2))
        cases okk
        · go_wp2
          exact bodyPost_ret (ret_rparse _ zed 4 ((l3.set false ⟨#[]⟩ 0).alloc _) _ rfl rfl) rfl ⟨by rw [HEE.out,rpRes_no HO.out],below3a hbb (Nat.le_refl _) (by omega) _ _ _ _⟩
        · go_wp2
          exact bodyPost_ret (ret_rparse _ ⟨rn,rg,rxx⟩ 0 ((l3.set rn rg rxx).alloc _) _ rfl rfl) rfl ⟨by rw [HEE.out,rpRes_ok HO.out],below3a hbb (Nat.le_refl _) (by omega) _ _ _ _⟩
def fin1 (x:nu.Num):Dn × Int:=if (oneForm x.neg (x.wh++x.fr) (expo x)).2 then ((oneForm x.neg (x.wh++x.fr) (expo x)).1,0) else (zed,4)
def fin (o:Option nu.Num):Dn × Int:=match o with|none=>(zed,3)|some x=>fin1 x
theorem at_past (s:ByteArray) (k:Nat) (h:s.size≤k):nu.at_ s k=none:=by
 unfold nu.at_;apply List.getElem?_eq_none;simpa using h
theorem nd_past (s:ByteArray) (k:Nat) (h:s.size≤k):nu.nd s k=0:=by
 unfold nu.nd;rw [List.drop_eq_nil_of_le (by simpa using h)];rfl
theorem pw_eq (s:ByteArray) (ng:Bool) (j:Nat):nu.pwFirst s ng j=if nu.nd s j=0∨j+nu.nd s j < s.size then none else some (ng,s.extract j (j+nu.nd s j)):=by
 unfold nu.pwFirst
 rcases Nat.lt_or_ge j s.size with h|h
 · rw [nu.at_some s j h]
   simp only
   cases hd:nu.dig s[j] with
   | false=>rw [if_neg Bool.false_ne_true,if_pos (Or.inl (nu.nd_no s j h hd))]
   | true =>
     have e:=nu.nd_yes s j h hd
     have e':j+1+nu.nd s (j+1)=j+nu.nd s j:=by omega
     have l:=nu.nd_le s j (by omega)
     rw [if_pos rfl]
     unfold nu.pwRest
     rw [e']
     by_cases hz:j+nu.nd s j=s.size
     · rw [if_pos hz,if_neg (by omega)]
     · rw [if_neg hz,if_pos (by omega)]
 · rw [at_past s j h,if_pos (Or.inl (nd_past s j h))]
theorem far_step (l:List UInt8) (a b:Int) (hl:∀ c∈l,nu.dig c=true) (h0:0≤a) (h:a=b∨(1000000000000≤a∧1000000000000≤b)) :
 l.foldl pstep a=l.foldl rstep b∨(1000000000000≤l.foldl pstep a∧1000000000000≤l.foldl rstep b):=by
 induction l generalizing a b with
 | nil=>exact h
 | cons c r ih =>
   have hc:48≤c.toNat∧c.toNat≤57:=by
    have:=hl c (by simp)
    simpa [nu.dig] using this
   simp only [List.foldl_cons]
   refine ih (pstep a c) (rstep b c) (fun c' hc'=>hl c' (by simp [hc'])) ?_ ?_
   · unfold pstep;split <;> omega
   · unfold pstep rstep
     split <;> split <;> omega
theorem far_size (l:List UInt8) (hl:∀ c∈l,nu.dig c=true):psize l=rsize l∨(1000000000000≤psize l∧1000000000000≤rsize l) :=
 far_step l 0 0 hl (by omega) (Or.inl rfl)
theorem form_far (neg:Bool) (d:ByteArray) (a b:Int) (hd:d.size≤100000000000) (h:a=b∨(20000≤a∧20000≤b)∨(a≤-200000000000∧b≤-200000000000)):oneForm neg d a=oneForm neg d b:=by
 rcases h with h|h|h
 · rw [h]
 · unfold oneForm
   by_cases z:(trimR (trimL d)).size=0
   · rw [if_pos z,if_pos z]
   · rw [if_neg z,if_neg z,if_pos (by omega),if_pos (by omega)]
 · have l1:=trimL_le d
   unfold oneForm
   by_cases z:(trimR (trimL d)).size=0
   · rw [if_pos z,if_pos z]
   · have q:∀ c:Int,c≤-200000000000→(if 9999 < c then (zed,false) else if c+((trimL d).size - (trimR (trimL d)).size) < -9999∨9999 < c+((trimL d).size - (trimR (trimL d)).size) then (zed,false) else (⟨neg,trimR (trimL d),c+((trimL d).size - (trimR (trimL d)).size)⟩,true))=(zed,false):=by
      intro c hc
      rw [if_neg (by omega),if_pos (by omega)]
     rw [if_neg z,if_neg z,q a h.1,q b h.2]
theorem digs_self (d:ByteArray) (h:∀ c∈d.data.toList,nu.dig c=true):digs d=d:=by
 unfold digs
 rw [List.filter_eq_self.2 h,Array.toArray_toList]
theorem run_dig (s:ByteArray) (i:Nat):∀ c∈(s.extract i (i+nu.nd s i)).data.toList,nu.dig c=true:=by
 intro c hc
 rw [nu.pw_list] at hc
 exact (List.all_takeWhile (p:=nu.dig) (l:=s.data.toList.drop i) |> List.all_eq_true.1) c hc
theorem fin1_eq (neg:Bool) (wh fr:ByteArray) (pn:Bool) (pw:ByteArray) (e:Int) (bh:Nat) (hbh:bh=fr.size) (hz:(wh++fr).size≤100000000000) (hf:fr.size≤100000000000)
 (hd:∀ c∈(wh++fr).data.toList,nu.dig c=true) (hp:∀ c∈pw.data.toList,nu.dig c=true)
 (he:e=if pn then - rsize pw.data.toList else rsize pw.data.toList):fin1 ⟨neg,wh,fr,pn,pw⟩=rpRes neg (wh++fr) (e - bh):=by
 subst hbh
 have q:oneForm neg (wh++fr) (expo ⟨neg,wh,fr,pn,pw⟩)=oneForm neg (digs (wh++fr)) (e - fr.size):=by
  rw [digs_self _ hd]
  apply form_far _ _ _ _ hz
  subst he
  unfold expo
  have:=far_size pw.data.toList hp
  cases pn
  · simp only [Bool.false_eq_true,if_false];omega
  · simp only [if_true];omega
 unfold fin1 rpRes
 rw [q]
theorem app_dig (a b:ByteArray) (ha:∀ c∈a.data.toList,nu.dig c=true) (hb:∀ c∈b.data.toList,nu.dig c=true):∀ c∈(a++b).data.toList,nu.dig c=true:=by
 intro c hc
 rw [ByteArray.data_append,Array.toList_append,List.mem_append] at hc
 rcases hc with h|h
 · exact ha c h
 · exact hb c h
theorem meas_eq (s:ByteArray) (k:Nat) (neg:Bool) (wh fr:ByteArray) (bh:Nat) (hbh:bh=fr.size) (hz:(wh++fr).size≤100000000000) (hf:fr.size≤100000000000)
 (hd:∀ c∈(wh++fr).data.toList,nu.dig c=true):fin (nu.measured s k neg wh fr)=rpEnd s neg (wh++fr) k bh:=by
 have D:∀ (ng:Bool) (j:Nat),rex s k=rexD s ng j→(nu.measured s k neg wh fr=(nu.pwFirst s ng j).map (fun p=>⟨neg,wh,fr,p.1,p.2⟩))→fin (nu.measured s k neg wh fr)=rpEnd s neg (wh++fr) k bh:=by
  intro ng j h1 h2
  rw [h2,pw_eq]
  by_cases hq:nu.nd s j=0∨j+nu.nd s j < s.size
  · rw [if_pos hq]
    have:rex s k=(0,false):=by rw [h1];unfold rexD;rw [if_pos hq]
    rw [rpEnd_no this];rfl
  · rw [if_neg hq]
    have r1:(s.extract j (j+nu.nd s j)).data.toList=(s.data.toList.drop j).take (nu.nd s j):=by rw [nu.ext_list,Nat.add_sub_cancel_left]
    have:rex s k=(if ng then - rsize ((s.data.toList.drop j).take (nu.nd s j)) else rsize ((s.data.toList.drop j).take (nu.nd s j)),true):=by rw [h1];unfold rexD;rw [if_neg hq]
    rw [rpEnd_ok this]
    show fin1 ⟨neg,wh,fr,ng,s.extract j (j+nu.nd s j)⟩=_
    exact fin1_eq neg wh fr ng _ _ bh hbh hz hf hd (run_dig s j) (by rw [r1])
 cases hx:nu.at_ s k with
 | none =>
   have h1:rex s k=(0,true):=by unfold rex;rw [hx]
   have h2:nu.measured s k neg wh fr=some ⟨neg,wh,fr,false,.empty⟩:=by unfold nu.measured;rw [hx]
   rw [rpEnd_ok h1,h2]
   show fin1 _=_
   exact fin1_eq neg wh fr false .empty 0 bh hbh hz hf hd (by simp) (by simp [rsize])
 | some c =>
   by_cases hc:c=101∨c=69
   · cases hy:nu.at_ s (k+1) with
     | none =>
       have h1:rex s k=rexD s false (k+1):=by unfold rex;rw [hx];simp only;rw [if_pos hc,hy]
       have h2:nu.measured s k neg wh fr=(nu.pwFirst s false (k+1)).map (fun p=>⟨neg,wh,fr,p.1,p.2⟩):=by
        unfold nu.measured;rw [hx];simp only;rw [if_pos hc];unfold nu.power nu.pwFirst;rw [hy]
       exact D _ _ h1 h2
     | some d =>
       by_cases e1:d=45
       · refine D true (k+2) ?_ ?_
         · unfold rex;rw [hx];simp only;rw [if_pos hc,hy];simp only;rw [if_pos e1]
         · unfold nu.measured;rw [hx];simp only;rw [if_pos hc];unfold nu.power;rw [hy];simp only;rw [if_pos e1]
       · by_cases e2:d=43
         · refine D false (k+2) ?_ ?_
           · unfold rex;rw [hx];simp only;rw [if_pos hc,hy];simp only;rw [if_neg e1,if_pos e2]
           · unfold nu.measured;rw [hx];simp only;rw [if_pos hc];unfold nu.power;rw [hy];simp only;rw [if_neg e1,if_pos e2]
         · refine D false (k+1) ?_ ?_
           · unfold rex;rw [hx];simp only;rw [if_pos hc,hy];simp only;rw [if_neg e1,if_neg e2]
           · unfold nu.measured;rw [hx];simp only;rw [if_pos hc];unfold nu.power;rw [hy];simp only;rw [if_neg e1,if_neg e2]
   · have h1:rex s k=(0,false):=by unfold rex;rw [hx];simp only;rw [if_neg hc]
     have h2:nu.measured s k neg wh fr=none:=by unfold nu.measured;rw [hx];simp only;rw [if_neg hc]
     rw [rpEnd_no h1,h2];rfl
theorem ext_len (s:ByteArray) (i j:Nat) (h1:i≤j) (h2:j≤s.size):(s.extract i j).size=j - i:=by
 have:(s.extract i j).size=min j s.size - i:=by simp
 omega
def rpRun (s:ByteArray) (neg:Bool) (i:Nat):Dn × Int :=
 if nu.at_ s (i+nu.nd s i)=some 46 then
  (if nu.nd s (i+nu.nd s i+1)=0 then (zed,3)
   else rpEnd s neg (s.extract i (i+nu.nd s i)++s.extract (i+nu.nd s i+1) (i+nu.nd s i+1+nu.nd s (i+nu.nd s i+1))) (i+nu.nd s i+1+nu.nd s (i+nu.nd s i+1)) (nu.nd s (i+nu.nd s i+1)))
 else rpEnd s neg (s.extract i (i+nu.nd s i)) (i+nu.nd s i) 0
theorem count_eq (s:ByteArray) (i k:Nat) (neg:Bool) (hs:s.size≤40000000000) (hi:i≤s.size) (hk:k=i+nu.nd s i):fin (nu.counted s i k neg)=rpRun s neg i:=by
 subst hk
 have l1:=nu.nd_le s i hi
 unfold nu.counted rpRun
 have hA:(s.extract i (i+nu.nd s i)).size=nu.nd s i:=by rw [ext_len _ _ _ (by omega) l1];omega
 by_cases hp:nu.at_ s (i+nu.nd s i)=some 46
 · rw [if_pos hp,if_pos hp]
   generalize hE:i+nu.nd s i=E at *
   have hE1:E < s.size:=by
    rcases Nat.lt_or_ge E s.size with h|h
    · exact h
    · rw [at_past s E h] at hp;cases hp
   have l2:=nu.nd_le s (E+1) (by omega)
   unfold nu.point
   rcases Nat.lt_or_ge (E+1) s.size with h|h
   · rw [nu.at_some s (E+1) h]
     simp only
     cases hd:nu.dig s[E+1] with
     | false=>rw [if_neg Bool.false_ne_true,if_pos (nu.nd_no s _ h hd)];rfl
     | true =>
       have e:=nu.nd_yes s (E+1) h hd
       have e':E+1+1+nu.nd s (E+1+1)=E+1+nu.nd s (E+1):=by omega
       rw [if_pos rfl,if_neg (by omega)]
       unfold nu.fraction
       rw [e']
       have hB:(s.extract (E+1) (E+1+nu.nd s (E+1))).size=nu.nd s (E+1):=by rw [ext_len _ _ _ (by omega) l2];omega
       refine meas_eq s _ neg _ _ _ hB.symm ?_ ?_ (app_dig _ _ (hE ▸ run_dig s i) (run_dig s (E+1)))
       · rw [ByteArray.size_append];omega
       · omega
   · rw [at_past s _ h,if_pos (nd_past s _ h)];rfl
 · rw [if_neg hp,if_neg hp]
   have:=meas_eq s (i+nu.nd s i) neg (s.extract i (i+nu.nd s i)) .empty 0 rfl (by rw [ByteArray.size_append];simp only [ByteArray.size_empty];omega) (by simp) (app_dig _ _ (run_dig s i) (by simp))
   rw [this,ByteArray.append_empty]
theorem first_eq (s:ByteArray) (i:Nat) (neg:Bool) (hs:s.size≤40000000000):fin (nu.first s i neg)=rpFrom s neg i:=by
 have hr:rpFrom s neg i=if nu.nd s i=0∨(nu.at_ s i=some 48∧1 < nu.nd s i) then (zed,3) else rpRun s neg i:=rfl
 rw [hr]
 unfold nu.first
 rcases Nat.lt_or_ge i s.size with h|h
 · rw [nu.at_some s i h]
   simp only
   by_cases h48:s[i]=48
   · have hd:nu.dig s[i]=true:=by rw [h48];rfl
     have e:=nu.nd_yes s i h hd
     rw [if_pos h48]
     by_cases h2:1 < nu.nd s i
     · rw [if_pos (Or.inr ⟨by rw [h48],h2⟩)]
       have hk:i+1 < s.size:=by have:=nu.nd_le s i (by omega);omega
       have hdd:nu.dig s[i+1]=true:=by
        cases q:nu.dig s[i+1] with
        | true=>rfl
        | false=>have:=nu.nd_no s (i+1) hk q;omega
       have hv:48≤s[i+1].toNat∧s[i+1].toNat≤57:=by simpa [nu.dig] using hdd
       have n1:¬ s[i+1]=46:=fun q=>by rw [q] at hv;simp at hv
       have n2:¬ (s[i+1]=101∨s[i+1]=69):=by
        rintro (q|q) <;> (rw [q] at hv;simp at hv)
       unfold nu.counted
       rw [nu.at_some s (i+1) hk,if_neg (by simpa using n1)]
       unfold nu.measured
       rw [nu.at_some s (i+1) hk]
       simp only
       rw [if_neg n2];rfl
     · rw [if_neg (by omega)]
       exact count_eq s i (i+1) neg hs (by omega) (by omega)
   · rw [if_neg h48]
     cases hd:nu.dig s[i] with
     | false=>rw [if_neg Bool.false_ne_true,if_pos (Or.inl (nu.nd_no s i h hd))];rfl
     | true =>
       have e:=nu.nd_yes s i h hd
       rw [if_pos rfl,if_neg (by rintro (q|⟨q,_⟩);(· omega);(· exact h48 (by simpa using q)))]
       exact count_eq s i _ neg hs (by omega) (by omega)
 · rw [at_past s i h,if_pos (Or.inl (nd_past s i h))];rfl
theorem numeral_eq (s:ByteArray) (hs:s.size≤40000000000):fin (nu.numeral s)=rparse s:=by
 unfold nu.numeral rparse
 by_cases h:nu.at_ s 0=some 45
 · rw [if_pos h,if_pos h];exact first_eq s 1 true hs
 · rw [if_neg h,if_neg h];exact first_eq s 0 false hs
def tellP (p:Dn × Int) (eN eX:Value):Value × Value:=if p.2=0 then (dv p.1,.nilIface) else if p.2=3 then (dv zed,eN) else (dv zed,eX)
theorem parsed_eq (s:ByteArray) (eN eX:Value) (hs:s.size≤40000000000):parsed s eN eX=tellP (rparse s) eN eX:=by
 rw [← numeral_eq s hs]
 unfold parsed
 cases nu.numeral s with
 | none=>rfl
 | some x =>
   show bounded x.neg (x.wh++x.fr) (expo x) eX=tellP (fin1 x) eN eX
   unfold bounded fin1 tellP
   by_cases h:(oneForm x.neg (x.wh++x.fr) (expo x)).2=true
   · rw [if_pos h,if_pos h];exact (if_pos rfl).symm
   · rw [if_neg h,if_neg h]
     rw [if_neg (show ¬ ((zed,(4:Int)).2=0) by decide),if_neg (show ¬ ((zed,(4:Int)).2=3) by decide)]
theorem rparse_codes (s:ByteArray) (hs:s.size≤40000000000):(rparse s).2=0∨rparse s=(zed,3)∨rparse s=(zed,4):=by
 rw [← numeral_eq s hs]
 cases nu.numeral s with
 | none=>exact Or.inr (Or.inl rfl)
 | some x =>
   show (fin1 x).2=0∨fin1 x=(zed,3)∨fin1 x=(zed,4)
   unfold fin1
   by_cases h:(oneForm x.neg (x.wh++x.fr) (expo x)).2=true
   · rw [if_pos h];exact Or.inl rfl
   · rw [if_neg h];exact Or.inr (Or.inr rfl)
end Go.Proofs.YtilhjecnkaokeaaGreatDoor.rd
