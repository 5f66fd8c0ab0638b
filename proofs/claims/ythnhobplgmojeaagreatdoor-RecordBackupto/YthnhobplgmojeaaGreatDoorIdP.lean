/- Texts in one: Id Wd -/
import Derived.Test.YthnhobplgmojeaaGreatDoorNuP
import Derived.Test.YthnhobplgmojeaaGreatDoorIeP
import Derived.Test.YthnhobplgmojeaaGreatDoorIbP
import Derived.Test.YthnhobplgmojeaaGreatDoorUbP
import Derived.Test.YthnhobplgmojeaaGreatDoorSdP
import Derived.Lib.TrimUEq
import Derived.Lib.RuneBytes
namespace Go.Proofs.YthnhobplgmojeaaGreatDoor.rd
open Go
def null:JT:=.mk 0 false zed ⟨#[]⟩ [] []
def nrm:JT→JT
 | .mk k t d x l f =>
   if k=1 then .mk 1 t zed ⟨#[]⟩ [] []
   else if k=2 then .mk 2 false (norm d) ⟨#[]⟩ [] []
   else if k=3 then .mk 3 false zed (pt.clean x) [] []
   else if k=4 then .mk 4 false zed ⟨#[]⟩ (l.attach.map fun v=>nrm v.1) []
   else if k=5 then .mk 5 false zed ⟨#[]⟩ [] (jn.puts (f.attach.map fun p=>(pt.clean p.1.1,nrm p.1.2)))
   else null
 termination_by v=>SizeOf.sizeOf v
 decreasing_by
  · exact sz_l v.2
  · exact sz_f p.2
theorem nrm_mk (k:Int) (t:Bool) (d:Dn) (x:ByteArray) (l:List JT) (f:List (ByteArray × JT)):nrm (.mk k t d x l f) =
 if k=1 then .mk 1 t zed ⟨#[]⟩ [] []
 else if k=2 then .mk 2 false (norm d) ⟨#[]⟩ [] []
 else if k=3 then .mk 3 false zed (pt.clean x) [] []
 else if k=4 then .mk 4 false zed ⟨#[]⟩ (l.map nrm) []
 else if k=5 then .mk 5 false zed ⟨#[]⟩ [] (jn.puts (f.map fun p=>(pt.clean p.1,nrm p.2)))
 else null:=by
 rw [nrm];simp only [List.map_attach_eq_pmap,List.pmap_eq_map]
end Go.Proofs.YthnhobplgmojeaaGreatDoor.rd
namespace Go.Proofs.YthnhobplgmojeaaGreatDoor.pt
open Go.Lib
theorem cut_cons (s:ByteArray) (k:Nat) (h:k < s.size):s.data.toList.drop k=s[k]::s.data.toList.drop (k+1):=by
 have h2:k < s.data.toList.length:=by rw [Array.length_toList];exact h
 rw [List.drop_eq_getElem_cons h2];rfl
theorem cut_take (s:ByteArray) (k n:Nat):s.extract k (k+n)=⟨((s.data.toList.drop k).take n).toArray⟩:=by
 apply ByteArray.ext;rw [ByteArray.data_extract];apply Array.ext';rw [Array.toList_extract,List.extract_eq_take_drop];rw [show k+n - k=n by omega]
theorem bad_cases (b0:Nat) (p2 p3 p4:Prop) [Decidable p2] [Decidable p3] [Decidable p4] (h:ltrC b0 (decide p2) (decide p3) (decide p4)=0) :
 128≤b0∧((b0 < 194∨244 < b0)∨(194≤b0∧b0 < 224∧¬ p2)∨(224≤b0∧b0 < 240∧¬ (p2∧p3))∨(240≤b0∧b0≤244∧¬ (p2∧p3∧p4))):=by
 unfold ltrC at h;simp only [decide_eq_true_eq] at h
 by_cases a:b0 < 128
 · rw [if_pos a] at h;cases h
 rw [if_neg a] at h;refine ⟨by omega,?_⟩
 by_cases b:b0 < 194∨244 < b0
 · exact .inl b
 rw [if_neg b] at h
 right
 by_cases c:b0 < 224
 · rw [if_pos c] at h
   left
   refine ⟨by omega,c,fun z=>?_⟩;rw [if_pos z] at h;cases h
 rw [if_neg c] at h
 right
 by_cases d:b0 < 240
 · rw [if_pos d] at h
   left
   refine ⟨by omega,d,fun z=>?_⟩;rw [if_pos z] at h;cases h
 rw [if_neg d] at h
 right
 refine ⟨by omega,by omega,fun z=>?_⟩;rw [if_pos z] at h;cases h
theorem bad_num (n b0 b1 b2 b3:Nat) (h0:b0 < 256) (hb:128≤b0∧((b0 < 194∨244 < b0)∨(194≤b0∧b0 < 224∧¬ (1 < n∧loC b0≤b1∧b1≤hiC b0))∨(224≤b0∧b0 < 240∧¬ ((1 < n∧loC b0≤b1∧b1≤hiC b0)∧2 < n∧128≤b2∧b2≤191))∨(240≤b0∧b0≤244∧¬ ((1 < n∧loC b0≤b1∧b1≤hiC b0)∧(2 < n∧128≤b2∧b2≤191)∧3 < n∧128≤b3∧b3≤191)))):decodeN n b0 b1 b2 b3=(65533,1):=by
 have l0:(b0=224∧loC b0=160)∨(b0=240∧loC b0=144)∨(b0≠224∧b0≠240∧loC b0=128):=by
  unfold loC
  by_cases x:b0=224
  · left;rw [if_pos x];exact ⟨x,rfl⟩
  · rw [if_neg x]
    by_cases y:b0=240
    · right;left;rw [if_pos y];exact ⟨y,rfl⟩
    · right;right;rw [if_neg y];exact ⟨x,y,rfl⟩
 have u0:(b0=237∧hiC b0=159)∨(b0=244∧hiC b0=143)∨(b0≠237∧b0≠244∧hiC b0=191):=by
  unfold hiC
  by_cases x:b0=237
  · left;rw [if_pos x];exact ⟨x,rfl⟩
  · rw [if_neg x]
    by_cases y:b0=244
    · right;left;rw [if_pos y];exact ⟨y,rfl⟩
    · right;right;rw [if_neg y];exact ⟨x,y,rfl⟩
 generalize loC b0=lo at *;generalize hiC b0=hi at *;unfold decodeN
 repeat' split
 all_goals first|rfl|(exfalso;omega)
theorem len_num (b0:Nat) (p2 p3 p4:Prop) [Decidable p2] [Decidable p3] [Decidable p4] (h:¬ ltrC b0 (decide p2) (decide p3) (decide p4)=0) :
 (b0 < 128∧ltrC b0 (decide p2) (decide p3) (decide p4)=1)∨((194≤b0∧b0≤223∧p2)∧ltrC b0 (decide p2) (decide p3) (decide p4)=2)∨((224≤b0∧b0≤239∧p2∧p3)∧ltrC b0 (decide p2) (decide p3) (decide p4)=3)∨((240≤b0∧b0≤244∧p2∧p3∧p4)∧ltrC b0 (decide p2) (decide p3) (decide p4)=4):=by
 unfold ltrC at *;simp only [decide_eq_true_eq] at *
 split
 · left;exact ⟨by assumption,rfl⟩
 · rename_i a
   rw [if_neg a] at h
   split
   · rename_i b;rw [if_pos b] at h;exact absurd rfl h
   · rename_i b
     rw [if_neg b] at h
     split
     · rename_i c
       rw [if_pos c] at h
       split
       · rename_i d;right;left;exact ⟨⟨by omega,by omega,d⟩,rfl⟩
       · rename_i d;rw [if_neg d] at h;exact absurd rfl h
     · rename_i c
       rw [if_neg c] at h
       split
       · rename_i g
         rw [if_pos g] at h
         split
         · rename_i d;right;right;left;exact ⟨⟨by omega,by omega,d⟩,rfl⟩
         · rename_i d;rw [if_neg d] at h;exact absurd rfl h
       · rename_i g
         rw [if_neg g] at h
         split
         · rename_i d;right;right;right;exact ⟨⟨by omega,by omega,d⟩,rfl⟩
         · rename_i d;rw [if_neg d] at h;exact absurd rfl h
theorem lo_ge (c:Nat):128≤loC c:=by unfold loC;split;omega;split <;> omega
theorem hi_le (c:Nat):hiC c≤191:=by unfold hiC;split;omega;split <;> omega
theorem num2 (n b0 b1 b2 b3:Nat) (h:194≤b0∧b0≤223) (h2:1 < n∧loC b0≤b1∧b1≤hiC b0):∃ r:Nat,decodeN n b0 b1 b2 b3=(r,2)∧encodeRuneZ (r:Int)=[(b0:Int),(b1:Int)]:=by
 have l:=lo_ge b0;have u:=hi_le b0;refine ⟨b0 % 32*64+b1 % 64,?_,?_⟩
 · unfold decodeN;rw [if_neg (by omega),if_pos (by omega),if_pos (by omega)]
 · rw [encodeRuneZ_two (by omega) (by omega)]
   have x1:(192:Int)+((b0 % 32*64+b1 % 64:Nat):Int) / 64=(b0:Int):=by omega
   have x2:(128:Int)+((b0 % 32*64+b1 % 64:Nat):Int) % 64=(b1:Int):=by omega
   rw [x1,x2]
theorem num3 (n b0 b1 b2 b3:Nat) (h:224≤b0∧b0≤239) (h2:1 < n∧loC b0≤b1∧b1≤hiC b0) (h3:2 < n∧128≤b2∧b2≤191):∃ r:Nat,decodeN n b0 b1 b2 b3=(r,3)∧encodeRuneZ (r:Int)=[(b0:Int),(b1:Int),(b2:Int)]:=by
 have l:=lo_ge b0;have u:=hi_le b0;have l2:b0=224→160≤b1:=fun z=>by subst z;exact h2.2.1
 have u2:b0=237→b1≤159:=fun z=>by subst z;exact h2.2.2
 have hr:2048≤b0 % 16*4096+b1 % 64*64+b2 % 64∧(b0 % 16*4096+b1 % 64*64+b2 % 64 < 55296∨57344≤b0 % 16*4096+b1 % 64*64+b2 % 64)∧b0 % 16*4096+b1 % 64*64+b2 % 64≤65535:=by
  refine ⟨by omega,?_,by omega⟩
  by_cases q:b0≤237
  · left;omega
  · right;omega
 refine ⟨b0 % 16*4096+b1 % 64*64+b2 % 64,?_,?_⟩
 · unfold decodeN;rw [if_neg (by omega),if_neg (by omega),if_pos (by omega),if_pos (by omega)]
 · have e:encodeRuneZ ((b0 % 16*4096+b1 % 64*64+b2 % 64:Nat):Int)=[224+((b0 % 16*4096+b1 % 64*64+b2 % 64:Nat):Int) / 4096,128+((b0 % 16*4096+b1 % 64*64+b2 % 64:Nat):Int) / 64 % 64,128+((b0 % 16*4096+b1 % 64*64+b2 % 64:Nat):Int) % 64]:=by
    unfold encodeRuneZ;rw [if_neg (by omega),if_neg (by omega),if_pos (by omega)]
   rw [e];have x1:(224:Int)+((b0 % 16*4096+b1 % 64*64+b2 % 64:Nat):Int) / 4096=(b0:Int):=by omega
   have x2:(128:Int)+((b0 % 16*4096+b1 % 64*64+b2 % 64:Nat):Int) / 64 % 64=(b1:Int):=by omega
   have x3:(128:Int)+((b0 % 16*4096+b1 % 64*64+b2 % 64:Nat):Int) % 64=(b2:Int):=by omega
   rw [x1,x2,x3]
theorem num4 (n b0 b1 b2 b3:Nat) (h:240≤b0∧b0≤244) (h2:1 < n∧loC b0≤b1∧b1≤hiC b0) (h3:2 < n∧128≤b2∧b2≤191) (h4:3 < n∧128≤b3∧b3≤191):∃ r:Nat,decodeN n b0 b1 b2 b3=(r,4)∧encodeRuneZ (r:Int)=[(b0:Int),(b1:Int),(b2:Int),(b3:Int)]:=by
 have l:=lo_ge b0;have u:=hi_le b0;have l2:b0=240→144≤b1:=fun z=>by subst z;exact h2.2.1
 have u2:b0=244→b1≤143:=fun z=>by subst z;exact h2.2.2
 have hr:65536≤b0 % 8*262144+b1 % 64*4096+b2 % 64*64+b3 % 64∧b0 % 8*262144+b1 % 64*4096+b2 % 64*64+b3 % 64≤1114111:=⟨by omega,by omega⟩;refine ⟨b0 % 8*262144+b1 % 64*4096+b2 % 64*64+b3 % 64,?_,?_⟩
 · unfold decodeN;rw [if_neg (by omega),if_neg (by omega),if_neg (by omega),if_pos (by omega),if_pos (by omega)]
 · have e:encodeRuneZ ((b0 % 8*262144+b1 % 64*4096+b2 % 64*64+b3 % 64:Nat):Int)=[240+((b0 % 8*262144+b1 % 64*4096+b2 % 64*64+b3 % 64:Nat):Int) / 262144,128+((b0 % 8*262144+b1 % 64*4096+b2 % 64*64+b3 % 64:Nat):Int) / 4096 % 64,128+((b0 % 8*262144+b1 % 64*4096+b2 % 64*64+b3 % 64:Nat):Int) / 64 % 64,128+((b0 % 8*262144+b1 % 64*4096+b2 % 64*64+b3 % 64:Nat):Int) % 64]:=by
    unfold encodeRuneZ;rw [if_neg (by omega),if_neg (by omega),if_neg (by omega),if_pos (by omega)]
   rw [e];have x1:(240:Int)+((b0 % 8*262144+b1 % 64*4096+b2 % 64*64+b3 % 64:Nat):Int) / 262144=(b0:Int):=by omega
   have x2:(128:Int)+((b0 % 8*262144+b1 % 64*4096+b2 % 64*64+b3 % 64:Nat):Int) / 4096 % 64=(b1:Int):=by omega
   have x3:(128:Int)+((b0 % 8*262144+b1 % 64*4096+b2 % 64*64+b3 % 64:Nat):Int) / 64 % 64=(b2:Int):=by omega
   have x4:(128:Int)+((b0 % 8*262144+b1 % 64*4096+b2 % 64*64+b3 % 64:Nat):Int) % 64=(b3:Int):=by omega
   rw [x1,x2,x3,x4]
def bt (s:ByteArray) (k:Nat):Nat:=(s.data.toList.getD k 0).toNat
theorem bt_at (s:ByteArray) (k:Nat) (h:k < s.size):bt s k=s[k].toNat:=by
 unfold bt;have h2:k < s.data.toList.length:=by rw [Array.length_toList];exact h
 rw [List.getD_eq_getElem?_getD,List.getElem?_eq_getElem h2];rfl
theorem fol_bt (s:ByteArray) (k j lo hi:Nat) (hk:k < s.size):fol s (k+j) lo hi=decide (j < s.size - k∧lo≤bt s (k+j)∧bt s (k+j)≤hi):=by
 rcases Nat.lt_or_ge (k+j) s.size with h|h
 · rw [fol_at s (k+j) lo hi h,bt_at s (k+j) h]
   apply decide_eq_decide.2
   constructor
   · rintro ⟨a,b⟩;exact ⟨by omega,a,b⟩
   · rintro ⟨_,a,b⟩;exact ⟨a,b⟩
 · rw [fol_end s (k+j) lo hi h]
   symm
   rw [decide_eq_false_iff_not];rintro ⟨a,_⟩;omega
theorem ltr_bt (s:ByteArray) (k:Nat) (hk:k < s.size):ltr s k=ltrC (bt s k) (decide (1 < s.size - k∧loC (bt s k)≤bt s (k+1)∧bt s (k+1)≤hiC (bt s k))) (decide (2 < s.size - k∧128≤bt s (k+2)∧bt s (k+2)≤191)) (decide (3 < s.size - k∧128≤bt s (k+3)∧bt s (k+3)≤191)):=by
 rw [← fol_bt s k 1 _ _ hk,← fol_bt s k 2 _ _ hk,← fol_bt s k 3 _ _ hk,bt_at s k hk];unfold ltr;have h2:k < s.data.toList.length:=by rw [Array.length_toList];exact hk
 rw [List.getElem?_eq_getElem h2];rfl
theorem dec_bt (s:ByteArray) (k:Nat):Utf8.decode s k=decodeN (s.size - k) (bt s k) (bt s (k+1)) (bt s (k+2)) (bt s (k+3)):=by
 rw [decode_N,Array.length_toList];rfl
theorem bt_byte (s:ByteArray) (k:Nat) (h:k < s.size):((bt s k:Nat):Int).toNat.toUInt8=s[k]:=by
 rw [bt_at s k h,Int.toNat_natCast];exact UInt8.ofNat_toNat
theorem place_says (s:ByteArray) (k:Nat) (hk:k < s.size) :
 (ltr s k=0∧Utf8.decode s k=(65533,1))∨(0 < ltr s k∧k+ltr s k≤s.size∧(Utf8.decode s k).2=ltr s k∧encodeRune (Utf8.decode s k).1=(s.extract k (k+ltr s k)).data.toList):=by
 have h0:bt s k < 256:=by rw [bt_at s k hk];exact UInt8.toNat_lt _
 rw [ltr_bt s k hk]
 by_cases hz:ltrC (bt s k) (decide (1 < s.size - k∧loC (bt s k)≤bt s (k+1)∧bt s (k+1)≤hiC (bt s k))) (decide (2 < s.size - k∧128≤bt s (k+2)∧bt s (k+2)≤191)) (decide (3 < s.size - k∧128≤bt s (k+3)∧bt s (k+3)≤191))=0
 · left
   exact ⟨hz,by rw [dec_bt];exact bad_num _ _ _ _ _ h0 (bad_cases _ _ _ _ hz)⟩
 · right
   rw [dec_bt]
   rcases len_num _ _ _ _ hz with ⟨a,e⟩|⟨a,e⟩|⟨a,e⟩|⟨a,e⟩
   · rw [e]
     have d:decodeN (s.size - k) (bt s k) (bt s (k+1)) (bt s (k+2)) (bt s (k+3))=(bt s k,1):=by unfold decodeN;rw [if_pos a]
     rw [d];refine ⟨by omega,by omega,rfl,?_⟩;rw [cut_take,cut_cons s k hk];unfold encodeRune;rw [encodeRuneZ_one (by omega) (by omega)];show [((bt s k:Nat):Int).toNat.toUInt8]=_;rw [bt_byte s k hk];rfl
   · rw [e]
     obtain ⟨r,d,er⟩:=num2 (s.size - k) _ _ (bt s (k+2)) (bt s (k+3)) ⟨a.1,a.2.1⟩ a.2.2;rw [d];refine ⟨by omega,by omega,rfl,?_⟩;rw [cut_take,cut_cons s k hk,cut_cons s (k+1) (by omega)];unfold encodeRune;rw [er];show [((bt s k:Nat):Int).toNat.toUInt8,((bt s (k+1):Nat):Int).toNat.toUInt8]=_;rw [bt_byte s k hk,bt_byte s (k+1) (by omega)];rfl
   · rw [e]
     obtain ⟨r,d,er⟩:=num3 (s.size - k) _ _ _ (bt s (k+3)) ⟨a.1,a.2.1⟩ a.2.2.1 a.2.2.2;rw [d];refine ⟨by omega,by omega,rfl,?_⟩;rw [cut_take,cut_cons s k hk,cut_cons s (k+1) (by omega),cut_cons s (k+1+1) (by omega)];unfold encodeRune;rw [er];show [((bt s k:Nat):Int).toNat.toUInt8,((bt s (k+1):Nat):Int).toNat.toUInt8,((bt s (k+2):Nat):Int).toNat.toUInt8]=_;rw [bt_byte s k hk,bt_byte s (k+1) (by omega),bt_byte s (k+2) (by omega)];rfl
   · rw [e]
     obtain ⟨r,d,er⟩:=num4 (s.size - k) _ _ _ _ ⟨a.1,a.2.1⟩ a.2.2.1 a.2.2.2.1 a.2.2.2.2;rw [d];refine ⟨by omega,by omega,rfl,?_⟩;rw [cut_take,cut_cons s k hk,cut_cons s (k+1) (by omega),cut_cons s (k+1+1) (by omega),cut_cons s (k+1+1+1) (by omega)];unfold encodeRune;rw [er];show [((bt s k:Nat):Int).toNat.toUInt8,((bt s (k+1):Nat):Int).toNat.toUInt8,((bt s (k+2):Nat):Int).toNat.toUInt8,((bt s (k+3):Nat):Int).toNat.toUInt8]=_;rw [bt_byte s k hk,bt_byte s (k+1) (by omega),bt_byte s (k+2) (by omega),bt_byte s (k+3) (by omega)];rfl
theorem said_from (s:ByteArray):∀ f k,rd.saidFrom s f k=clF s f k:=by
 intro f
 induction f with
 | zero=>intro k;rfl
 | succ f ih =>
   intro k;show (if k < s.size then encodeRune (Utf8.decode s k).1++rd.saidFrom s f (k+(Utf8.decode s k).2) else [])=(if k < s.size then (if ltr s k=0 then [239,191,189]++clF s f (k+1) else (s.extract k (k+ltr s k)).data.toList++clF s f (k+ltr s k)) else [])
   by_cases hk:k < s.size
   · rw [if_pos hk,if_pos hk]
     rcases place_says s k hk with ⟨a,d⟩|⟨a,_,d,e⟩
     · rw [if_pos a,d,ih];rfl
     · rw [if_neg (by omega),e,d,ih]
   · rw [if_neg hk,if_neg hk]
theorem said_clean (s:ByteArray):rd.said s=clean s:=by
 unfold rd.said rd.saidL clean;rw [said_from]
end Go.Proofs.YthnhobplgmojeaaGreatDoor.pt
