/- Texts in one: It -/
import Derived.Test.YthnhobplgmojeaaGreatDoorRuP
import Derived.Test.YthnhobplgmojeaaGreatDoorIdP
namespace Go.Proofs.YthnhobplgmojeaaGreatDoor.rd
open Go.RowKit
theorem bt_by (s:ByteArray) (k:Nat):by_ s k=(pt.bt s k:Int):=rfl
theorem bt_ext (s:ByteArray) (k j:Nat):pt.bt (s.extract k s.size) j=pt.bt s (k+j):=by
 have h:=by_ext s k j;rw [bt_by,bt_by] at h;omega
theorem dec_go (s:ByteArray) (k:Nat) (h:k < s.size):Lib.decodeGo (s.extract k s.size)=Utf8.decode s k:=by
 unfold Lib.decodeGo;rw [if_neg (by rw [ext_size];omega)];rw [pt.dec_bt,pt.dec_bt,ext_size,bt_ext,bt_ext,bt_ext,bt_ext];rfl
theorem dec_low (s:ByteArray) (k:Nat) (h:pt.bt s k < 128):Utf8.decode s k=(pt.bt s k,1):=by
 rw [pt.dec_bt];unfold Lib.decodeN;rw [if_pos h]
theorem decN_high (n b0 b1 b2 b3:Nat) (h:128≤b0):128≤(Lib.decodeN n b0 b1 b2 b3).1:=by
 unfold Lib.decodeN
 repeat' split
 all_goals simp only
 all_goals omega
theorem dec_high (s:ByteArray) (k:Nat) (h:128≤pt.bt s k):128≤(Utf8.decode s k).1:=by
 rw [pt.dec_bt];exact decN_high _ _ _ _ _ h
theorem nxt_dec (s:ByteArray) (k:Nat) (h:k < s.size):nxt s k=((Utf8.decode s k).1:Int):=by
 unfold nxt;rw [if_neg (by omega),dec_go s k h]
theorem nxt_low (s:ByteArray) (k:Nat) (h:k < s.size) (c:Nat) (hc:c < 128):nxt s k=(c:Int)↔by_ s k=(c:Int):=by
 rw [nxt_dec s k h,bt_by]
 rcases Nat.lt_or_ge (pt.bt s k) 128 with q|q
 · rw [dec_low s k q]
 · have:=dec_high s k q
   constructor <;> intro e <;> omega
theorem ltr_two (s:ByteArray) (k:Nat) (h:k < s.size) (hb:128≤pt.bt s k) (h0:0 < pt.ltr s k):2≤pt.ltr s k:=by
 rw [pt.ltr_bt s k h] at *;unfold pt.ltrC at *;rw [if_neg (by omega)] at *
 repeat' split at h0
 all_goals repeat' split
 all_goals omega
theorem ltr_one (s:ByteArray) (k:Nat) (h:k < s.size) (hb:pt.bt s k < 128):pt.ltr s k=1:=by
 rw [pt.ltr_bt s k h];unfold pt.ltrC;rw [if_pos hb]
theorem lettF_quote (s:ByteArray) (f k:Nat) (acc:List UInt8) (h:k < s.size) (q:by_ s k=34):lettF s (f+1) k acc=.inl (acc,k+1):=by
 unfold lettF;exact if_pos ((nxt_low s k h 34 (by omega)).2 q)
theorem letAt_esc (s:ByteArray) (k:Nat) (h:k < s.size) (q:by_ s k=92):letAt (s.extract k s.size)=escS s k:=by
 unfold letAt;have hb:pt.bt s k=92:=by rw [bt_by] at q;omega
 rw [dec_go s k h,dec_low s k (by omega),hb,esc_S s k q];rfl
theorem letAt_fit (s:ByteArray) (k:Nat) (h:k < s.size) (q1:32≤by_ s k) (q2:by_ s k≠92) (q:0 < pt.ltr s k) :
 (letAt (s.extract k s.size)).2=(pt.ltr s k:Int)∧Lib.encodeRune (letAt (s.extract k s.size)).1=(s.extract k (k+pt.ltr s k)).data.toList:=by
 unfold letAt;rw [dec_go s k h];rw [bt_by] at q1 q2
 rcases pt.place_says s k h with ⟨a,_⟩|⟨_,_,d2,d3⟩
 · omega
 rcases Nat.lt_or_ge (pt.bt s k) 128 with b|b
 · have e:=dec_low s k b
   have l:=ltr_one s k h b;rw [e] at d3 ⊢;unfold letC;simp only at d3 ⊢;rw [l] at d3;rw [if_neg (by omega),if_neg (by omega),if_neg (by omega),l];exact ⟨rfl,d3⟩
 · have e:=dec_high s k b
   have l:=ltr_two s k h b q;generalize Utf8.decode s k=D at *;obtain ⟨d,n⟩:=D;simp only at d2 d3 e;unfold letC;simp only;rw [if_neg (by omega),if_neg (by omega),if_neg (by omega)];exact ⟨by simp only;omega,d3⟩
theorem nxt_not (s:ByteArray) (k:Nat) (h:k < s.size) (q:by_ s k≠34):¬ nxt s k=34:=fun e=>q ((nxt_low s k h 34 (by omega)).1 e)
theorem lettF_esc0 (s:ByteArray) (f k:Nat) (acc:List UInt8) (h:k < s.size) (q:by_ s k=92) (z:(escS s k).2=0):lettF s (f+1) k acc=.inr k:=by
 unfold lettF;rw [if_neg (nxt_not s k h (by omega)),letAt_esc s k h q,if_pos z]
theorem lettF_esc (s:ByteArray) (f k:Nat) (acc:List UInt8) (h:k < s.size) (q:by_ s k=92) (z:(escS s k).2≠0):lettF s (f+1) k acc=lettF s f (k+(escS s k).2.toNat) (acc++Lib.encodeRune (escS s k).1):=by
 conv=>lhs;unfold lettF
 rw [if_neg (nxt_not s k h (by omega)),letAt_esc s k h q,if_neg z]
theorem lettF_fit (s:ByteArray) (f k:Nat) (acc:List UInt8) (h:k < s.size) (q0:by_ s k≠34) (q1:32≤by_ s k) (q2:by_ s k≠92) (q:0 < pt.ltr s k):lettF s (f+1) k acc=lettF s f (k+pt.ltr s k) (acc++(s.extract k (k+pt.ltr s k)).data.toList):=by
 obtain ⟨e1,e2⟩:=letAt_fit s k h q1 q2 q
 conv=>lhs;unfold lettF
 rw [if_neg (nxt_not s k h q0),e1,e2,if_neg (by omega)];rfl
end Go.Proofs.YthnhobplgmojeaaGreatDoor.rd
