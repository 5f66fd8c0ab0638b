/- Texts in one: Pu -/
import Derived.Test.YthnhobplgmojeaaGreatDoorOdP
import Derived.Test.YthnhobplgmojeaaGreatDoorShelfP
import Derived.Lib.ConvBytes
import Derived.Lib.UnsafeStr
import Derived.Deep.Cut
import Derived.Deep.CutBlock
namespace Go.Proofs.YthnhobplgmojeaaGreatDoor.rd
open Go.RowKit
def hexv (c:UInt8):Option Nat :=
 if 48≤c.toNat∧c.toNat≤57 then some (c.toNat - 48) else if 97≤c.toNat∧c.toNat≤102 then some (c.toNat - 87) else if 65≤c.toNat∧c.toNat≤70 then some (c.toNat - 55) else none
def hexFrom:List UInt8→Nat→Option Nat
 | [],n=>some n
 | c::r,n=>match hexv c with
   | none=>none
   | some d=>hexFrom r (n*16+d)
def lw (c:UInt8):Int:=bits .or .u8 (c.toNat:Int) 32
theorem lw_all:∀ n,n < 256→(0≤lw (UInt8.ofNat n)∧lw (UInt8.ofNat n)≤255)∧(¬ (48≤(UInt8.ofNat n).toNat∧(UInt8.ofNat n).toNat≤57) →
 (97≤lw (UInt8.ofNat n)∧lw (UInt8.ofNat n)≤102→hexv (UInt8.ofNat n)=some (lw (UInt8.ofNat n) - 87).toNat)∧(¬ (97≤lw (UInt8.ofNat n)∧lw (UInt8.ofNat n)≤102)→hexv (UInt8.ofNat n)=none)):=by
 decide +kernel
theorem lw_at (c:UInt8):(0≤lw c∧lw c≤255)∧(¬ (48≤c.toNat∧c.toNat≤57) →
 (97≤lw c∧lw c≤102→hexv c=some (lw c - 87).toNat)∧(¬ (97≤lw c∧lw c≤102)→hexv c=none)):=by
 have:=lw_all c.toNat c.toNat_lt;rw [UInt8.ofNat_toNat] at this;exact this
theorem lw_under (c:UInt8) (h:c.toNat=95):lw c=127:=by
 have:c=95:=UInt8.toNat_inj.1 h;subst this
 decide
theorem hexv_digit (c:UInt8) (h:48≤c.toNat∧c.toNat≤57):hexv c=some (c.toNat - 48):=if_pos h
theorem lower_any (c:UInt8) (w:World):Calls Tryz.prog 229 #[.int .u8 (c.toNat:Int)] w fun e w'=>e=.returned (.int .u8 (lw c))∧w'=w:=Tryz.internal_strconv_lower c.toNat w
set_option maxRecDepth 100000 in
set_option maxHeartbeats 3200000 in
theorem pui_any (s:ByteArray) (w:World) (hs:s.size=4) :
 Calls Tryz.prog 227 #[.string s,.int .i64 16,.int .i64 16] w fun e w' =>
  ((∃ n,hexFrom s.data.toList 0=some n∧n < 65536∧e=.returned (.tuple #[.int .u64 (n:Int),.nilIface]))∨(hexFrom s.data.toList 0=none∧e=.returned (.tuple #[.int .u64 0,.iface 256 (.int .i64 2)])))∧Below w.heap.size w w':=by
 have hcv:=fun w=>Lib.run_convert_string_bytes (P:=Tryz.prog) w 9 38 5 s Tryz.underlying9 Tryz.underlying38 Tryz.underlying5
 have hne:s.toList.isEmpty=false:=by rw [empty_iff];simp [hs]
 have hll:s.data.toList.length=4:=by rw [Array.length_toList];exact hs
 have HB:Hid (Below w.heap.size w (Lib.bytesWorld w 5 s)):=Lib.below_freeze (((Below.refl _ _).drew).alloc (Nat.le_refl _) _) (Nat.le_refl _) _
 go_enter Tryz.func227,Tryz.ntmps227
 go_wp2;clear hcv;have hs4:(s.size:Int)=4:=by omega
 go_loop [12,13,101] (fun u n i=>∃ (k:Nat) (v:Int),k≤4∧i=.int .i64 (k:Int)∧u=.bool false∧n=.int .u64 v∧0≤v∧Hid (v < 16 ^ k)∧Hid (hexFrom s.data.toList 0=hexFrom (s.data.toList.drop k) v.toNat)) (fun _ _ i=>4 - (intOf i).toNat)
 case atStart=>exact ⟨0,0,by omega,rfl,rfl,rfl,by omega,(by decide:(0:Int) < 16 ^ 0),rfl⟩
 case round =>
  obtain ⟨k,v,hk,rfl,rfl,rfl,hv0,hv,HH⟩:=hrel
  by_cases hlt:k < 4
  · have hv4:v < 4096:=by
     have h1:(16:Int) ^ k≤16 ^ 3:=by
      have:=Nat.pow_le_pow_right (show 0 < 16 by omega) (show k≤3 by omega)
      exact_mod_cast this
     have h2:=hv.out;omega
    have hlt':(k:Int) < 4:=by omega
    have hcell:=Lib.bytesWorld_cell w 5 s k (by omega);obtain ⟨c,hc⟩:∃ c,s.data.toList.getD k 0=c:=⟨_,rfl⟩
    have hdr:s.data.toList.drop k=c::s.data.toList.drop (k+1):=by
     rw [List.drop_eq_getElem_cons (by omega),← hc,List.getD_eq_getElem?_getD,List.getElem?_eq_getElem (by omega)];rfl
    rw [hc] at hcell;have hcb:=c.toNat_lt;obtain ⟨⟨l0,l1⟩,l2⟩:=lw_at c;have HD:=hide hdr;have LW:=hide (lower_any c);clear hdr hc
    have step:∀ d:Nat,hexv c=some d→d≤15→Hid (v*16+d < 16 ^ (k+1))∧Hid (hexFrom s.data.toList 0=hexFrom (s.data.toList.drop (k+1)) (v*16+d).toNat):=fun d h1 h2=>by
     constructor
     · have h3:=hv.out
       show _ < _;rw [Int.pow_succ];omega
     · show hexFrom _ 0=_
       rw [uh HH,uh HD];simp only [hexFrom,h1]
       congr 1
       omega
    have stop:hexv c=none→hexFrom s.data.toList 0=none:=fun h1=>by
     rw [uh HH,uh HD];simp only [hexFrom,h1]
    have STEP:=hide step;have STOP:=hide stop;clear step stop hs hll
    by_cases hd:48≤c.toNat∧c.toNat≤57
    · have d1:(48:Int)≤(c.toNat:Int):=by omega
      have d2:(c.toNat:Int)≤57:=by omega
      obtain ⟨HA,HC⟩:=uh STEP _ (hexv_digit c hd) (by omega);rw [show ((c.toNat - 48:Nat):Int)=(c.toNat:Int) - 48 by omega] at HA HC;clear l0 l1 l2 hd hcb STEP STOP HD HH hv LW;generalize (c.toNat:Int)=m at *;go_wp2
      go_round
      case rel =>
       exact ⟨k+1,v*16+(m - 48),by omega,by go_num,rfl,rfl,by omega,HA,HC⟩
      case measure=>simp [intOf];omega
    · have d0:¬ ((48:Int)≤(c.toNat:Int)∧(c.toNat:Int)≤57):=by omega
      obtain ⟨q1,q2⟩:=l2 hd
      by_cases ha:97≤lw c∧lw c≤102
      · obtain ⟨HA,HC⟩:=uh STEP _ (q1 ha) (by omega)
        rw [show ((lw c - 87).toNat:Int)=lw c - 87 by omega] at HA HC;obtain ⟨a1,a2⟩:=ha
        have h95:((c.toNat:Int) == 95)=false:=by
         simp only [beq_eq_false_iff_ne];intro q;have:=lw_under c (by omega);omega
        clear l0 l1 l2 hd hcb STEP STOP HD HH hv q1 q2;generalize lw c=m at *;generalize (c.toNat:Int)=b at *;have hd2:b < 48∨57 < b:=by omega
        clear d0
        rcases hd2 with hd2|hd2
        · go_wp2_with (go_at_call 229;refine (uh LW _).mono ?_;rintro e w1 ⟨rfl,rfl⟩)
          go_round
          case rel =>
           exact ⟨k+1,v*16+(m - 87),by omega,by go_num,rfl,by congr 1;omega,by omega,HA,HC⟩
          case measure=>simp [intOf];omega
        · go_wp2_with (go_at_call 229;refine (uh LW _).mono ?_;rintro e w1 ⟨rfl,rfl⟩)
          go_round
          case rel =>
           exact ⟨k+1,v*16+(m - 87),by omega,by go_num,rfl,by congr 1;omega,by omega,HA,HC⟩
          case measure=>simp [intOf];omega
      · have hno:=uh STOP (q2 ha)
        have HNO:=hide hno;clear hno l2 hd hcb STEP STOP HD HH hv q1 q2;generalize lw c=m at *;generalize (c.toNat:Int)=b at *;have hd2:b < 48∨57 < b:=by omega
        have hm2:m < 97∨(103≤m∧m≤122)∨122 < m:=by omega
        clear d0 ha
        by_cases h95:b=95
        · subst h95
          rcases hm2 with hm2|⟨hm2,hm3⟩|hm2
          all_goals go_wp2_with (go_at_call 229;refine (uh LW _).mono ?_;rintro e w1 ⟨rfl,rfl⟩)
          all_goals go_ret2
          all_goals exact ⟨.inr ⟨uh HNO,rfl⟩,uh HB⟩
        have h95':(b == 95)=false:=by simpa using h95
        clear h95
        rcases hd2 with hd2|hd2 <;> rcases hm2 with hm2|⟨hm2,hm3⟩|hm2
        all_goals go_wp2_with (go_at_call 229;refine (uh LW _).mono ?_;rintro e w1 ⟨rfl,rfl⟩)
        all_goals go_ret2
        all_goals exact ⟨.inr ⟨uh HNO,rfl⟩,uh HB⟩
  · have hk4:k=4:=by omega
    subst hk4
    have hres:hexFrom s.data.toList 0=some v.toNat:=by
     rw [uh HH,List.drop_of_length_le (by omega)];rfl
    have hv5:v < 65536:=hv.out;have HRE:=hide hres;clear hres HH hv hs hll;go_wp2
    go_ret2
    exact ⟨.inl ⟨v.toNat,uh HRE,by omega,by rw [show ((v.toNat:Nat):Int)=v by omega];rfl⟩,uh HB⟩
end Go.Proofs.YthnhobplgmojeaaGreatDoor.rd
