/- Texts in one: It Iu -/
import Derived.Test.YtilhjecnkaokeaaGreatDoorIrP
import Derived.Test.YtilhjecnkaokeaaGreatDoorIdP
import Derived.Test.YtilhjecnkaokeaaGreatDoorRuP
import Derived.Lib.ConvBytes
namespace Go.Proofs.YtilhjecnkaokeaaGreatDoor.rd
open Go.RowKit
theorem bt_by (s:ByteArray) (k:Nat):by_ s k=(pt.bt s k:Int):=rfl
theorem bt_ext (s:ByteArray) (k j:Nat):pt.bt (s.extract k s.size) j=pt.bt s (k+j):=by
 have h:=by_ext s k j
 rw [bt_by,bt_by] at h
 omega
theorem dec_go (s:ByteArray) (k:Nat) (h:k < s.size):Lib.decodeGo (s.extract k s.size)=Utf8.decode s k:=by
 unfold Lib.decodeGo
 rw [if_neg (by rw [ext_size];omega)]
 rw [pt.dec_bt,pt.dec_bt,ext_size,bt_ext,bt_ext,bt_ext,bt_ext]
 rfl
theorem dec_low (s:ByteArray) (k:Nat) (h:pt.bt s k < 128):Utf8.decode s k=(pt.bt s k,1):=by
 rw [pt.dec_bt]
 unfold Lib.decodeN
 rw [if_pos h]
theorem decN_high (n b0 b1 b2 b3:Nat) (h:128≤b0):128≤(Lib.decodeN n b0 b1 b2 b3).1:=by
 unfold Lib.decodeN
 repeat' split
 all_goals simp only
 all_goals omega
theorem dec_high (s:ByteArray) (k:Nat) (h:128≤pt.bt s k):128≤(Utf8.decode s k).1:=by
 rw [pt.dec_bt]
 exact decN_high _ _ _ _ _ h
theorem nxt_dec (s:ByteArray) (k:Nat) (h:k < s.size):nxt s k=((Utf8.decode s k).1:Int):=by
 unfold nxt
 rw [if_neg (by omega),dec_go s k h]
theorem nxt_low (s:ByteArray) (k:Nat) (h:k < s.size) (c:Nat) (hc:c < 128):nxt s k=(c:Int)↔by_ s k=(c:Int):=by
 rw [nxt_dec s k h,bt_by]
 rcases Nat.lt_or_ge (pt.bt s k) 128 with q|q
 · rw [dec_low s k q]
 · have:=dec_high s k q
   constructor <;> intro e <;> omega
theorem ltr_two (s:ByteArray) (k:Nat) (h:k < s.size) (hb:128≤pt.bt s k) (h0:0 < pt.ltr s k):2≤pt.ltr s k:=by
 rw [pt.ltr_bt s k h] at *
 unfold pt.ltrC at *
 rw [if_neg (by omega)] at *
 repeat' split at h0
 all_goals repeat' split
 all_goals omega
theorem ltr_one (s:ByteArray) (k:Nat) (h:k < s.size) (hb:pt.bt s k < 128):pt.ltr s k=1:=by
 rw [pt.ltr_bt s k h]
 unfold pt.ltrC
 rw [if_pos hb]
theorem lettF_end (s:ByteArray) (f:Nat) (acc:List UInt8):lettF s f s.size acc=.inr s.size:=by
 cases f with
 | zero=>rfl
 | succ f =>
   unfold lettF
   have e1:nxt s s.size=-1:=if_pos rfl
   rw [e1,if_neg (by omega)]
   have e2:letAt (s.extract s.size s.size)=(0,0):=by
    unfold letAt Lib.decodeGo
    rw [if_pos (by rw [ext_size];omega)]
    rfl
   rw [e2,if_pos rfl]
theorem lettF_quote (s:ByteArray) (f k:Nat) (acc:List UInt8) (h:k < s.size) (q:by_ s k=34):lettF s (f+1) k acc=.inl (acc,k+1):=by
 unfold lettF
 exact if_pos ((nxt_low s k h 34 (by omega)).2 q)
theorem letAt_esc (s:ByteArray) (k:Nat) (h:k < s.size) (q:by_ s k=92):letAt (s.extract k s.size)=escS s k:=by
 unfold letAt
 have hb:pt.bt s k=92:=by rw [bt_by] at q;omega
 rw [dec_go s k h,dec_low s k (by omega),hb,esc_S s k q]
 rfl
theorem letAt_low (s:ByteArray) (k:Nat) (h:k < s.size) (q:by_ s k < 32):letAt (s.extract k s.size)=(0,0):=by
 unfold letAt
 have hb:pt.bt s k < 32:=by rw [bt_by] at q;omega
 rw [dec_go s k h,dec_low s k (by omega)]
 unfold letC
 simp only
 rw [if_neg (by omega),if_neg (by omega),if_pos (by omega)]
theorem letAt_bad (s:ByteArray) (k:Nat) (h:k < s.size) (q:pt.ltr s k=0):letAt (s.extract k s.size)=(0,0):=by
 unfold letAt
 rw [dec_go s k h]
 rcases pt.place_says s k h with ⟨_,d⟩|⟨a,_⟩
 · rw [d]
   rfl
 · omega
theorem letAt_fit (s:ByteArray) (k:Nat) (h:k < s.size) (q1:32≤by_ s k) (q2:by_ s k≠92) (q:0 < pt.ltr s k) :
 (letAt (s.extract k s.size)).2=(pt.ltr s k:Int)∧Lib.encodeRune (letAt (s.extract k s.size)).1=(s.extract k (k+pt.ltr s k)).data.toList:=by
 unfold letAt
 rw [dec_go s k h]
 rw [bt_by] at q1 q2
 rcases pt.place_says s k h with ⟨a,_⟩|⟨_,_,d2,d3⟩
 · omega
 rcases Nat.lt_or_ge (pt.bt s k) 128 with b|b
 · have e:=dec_low s k b
   have l:=ltr_one s k h b
   rw [e] at d3 ⊢
   unfold letC
   simp only at d3 ⊢
   rw [l] at d3
   rw [if_neg (by omega),if_neg (by omega),if_neg (by omega),l]
   exact ⟨rfl,d3⟩
 · have e:=dec_high s k b
   have l:=ltr_two s k h b q
   generalize Utf8.decode s k=D at *
   obtain ⟨d,n⟩:=D
   simp only at d2 d3 e
   unfold letC
   simp only
   rw [if_neg (by omega),if_neg (by omega),if_neg (by omega)]
   exact ⟨by simp only;omega,d3⟩
theorem nxt_not (s:ByteArray) (k:Nat) (h:k < s.size) (q:by_ s k≠34):¬ nxt s k=34:=fun e=>q ((nxt_low s k h 34 (by omega)).1 e)
theorem lettF_esc0 (s:ByteArray) (f k:Nat) (acc:List UInt8) (h:k < s.size) (q:by_ s k=92) (z:(escS s k).2=0):lettF s (f+1) k acc=.inr k:=by
 unfold lettF
 rw [if_neg (nxt_not s k h (by omega)),letAt_esc s k h q,if_pos z]
theorem lettF_esc (s:ByteArray) (f k:Nat) (acc:List UInt8) (h:k < s.size) (q:by_ s k=92) (z:(escS s k).2≠0):lettF s (f+1) k acc=lettF s f (k+(escS s k).2.toNat) (acc++Lib.encodeRune (escS s k).1):=by
 conv=>lhs;unfold lettF
 rw [if_neg (nxt_not s k h (by omega)),letAt_esc s k h q,if_neg z]
theorem lettF_low (s:ByteArray) (f k:Nat) (acc:List UInt8) (h:k < s.size) (q:by_ s k < 32):lettF s (f+1) k acc=.inr k:=by
 unfold lettF
 rw [if_neg (nxt_not s k h (by omega)),letAt_low s k h q,if_pos rfl]
theorem lettF_bad (s:ByteArray) (f k:Nat) (acc:List UInt8) (h:k < s.size) (q:by_ s k≠34) (z:pt.ltr s k=0):lettF s (f+1) k acc=.inr k:=by
 unfold lettF
 rw [if_neg (nxt_not s k h q),letAt_bad s k h z,if_pos rfl]
theorem lettF_fit (s:ByteArray) (f k:Nat) (acc:List UInt8) (h:k < s.size) (q0:by_ s k≠34) (q1:32≤by_ s k) (q2:by_ s k≠92) (q:0 < pt.ltr s k):lettF s (f+1) k acc=lettF s f (k+pt.ltr s k) (acc++(s.extract k (k+pt.ltr s k)).data.toList):=by
 obtain ⟨e1,e2⟩:=letAt_fit s k h q1 q2 q
 conv=>lhs;unfold lettF
 rw [if_neg (nxt_not s k h q0),e1,e2,if_neg (by omega)]
 rfl
theorem escS_bd (s:ByteArray) (k:Nat) (h:k < s.size) (q:by_ s k=92):0≤(escS s k).2∧(k:Int)+(escS s k).2≤s.size∧0≤(escS s k).1:=by
 have:=esc_bd (s.extract k s.size)
 rw [esc_S s k q,ext_size] at this
 omega
theorem encR_len (r:Int):(Lib.encodeRuneZ r).length≤4∧0 < (Lib.encodeRuneZ r).length:=by
 unfold Lib.encodeRuneZ
 repeat' split
 all_goals simp
theorem Mv.grown {rb:Nat}{a w w':World}{row:Option Nat} (h:Mv rb a w) (hg:w.grownBy w' row) (hr:∀ k,row=some k→a.heap.size≤k):Mv rb a w' :=
 ⟨hg.os.trans h.os,hg.tape.trans h.tape,hg.output.trans h.output,Nat.le_trans h.size hg.size,fun k hk hn =>
  (hg.block k (Nat.lt_of_lt_of_le hk h.size) (fun e=>by have:=hr k e.symm;omega)).trans (h.block k hk hn)⟩
theorem RF.below {w w':World}{rb:Nat}{s:ByteArray}{k c o:Int} (h:RF w rb s k c o) (hb:Below w.heap.size w w'):RF w' rb s k c o:=(hb.block rb (blk_lt h)).trans h
theorem RF.grown {w w':World}{rb:Nat}{s:ByteArray}{k c o:Int}{row:Option Nat} (h:RF w rb s k c o) (hg:w.grownBy w' row) (hr:∀ j,row=some j→rb < j):RF w' rb s k c o :=
 (hg.block rb (blk_lt h) (fun e=>by have:=hr rb e.symm;omega)).trans h
theorem upd_mv {rb:Nat}{w w':World} (h:Upd rb w w'):Mv rb w w':=⟨h.os,h.tape,h.output,by rw [h.size];exact Nat.le_refl _,fun k _ hn=>h.block k hn⟩
theorem owns_rf {rb B:Nat}{w w':World}{e:TypeId}{size:Nat}{v:Value}{n:Nat}{xs:List Value} (h:w.ownsRow B e size v n xs) (hm:Mv rb w w') (hB:rb < B):w'.ownsRow B e size v n xs :=
 owns_keep h fun b hb=>hm.block b (owns_ge h b hb).2 (by have:=(owns_ge h b hb).1;omega)
theorem below_bytes (w:World) (s:ByteArray):Below w.heap.size w (Lib.bytesWorld w 5 s):=Lib.below_freeze (((Below.refl _ _).drew).alloc (Nat.le_refl _) _) (Nat.le_refl _) _
def TxtPost (rb:Nat) (s:ByteArray) (o:Int) (w:World) (r:(List UInt8 × Nat) ⊕ Nat) (e:Ending) (w':World):Prop :=
 ((∃ l j,r=.inl (l,j)∧j≤s.size∧e=.returned (.string ⟨l.toArray⟩)∧RF w' rb s (j:Nat) 0 o) ∨
  (∃ j,r=.inr j∧j≤s.size∧e=.returned (.string ⟨#[]⟩)∧RF w' rb s (j:Nat) 5 o))∧Mv rb w w'
theorem esc_zero (s:ByteArray) (k:Nat) (hk:k < s.size) (hs:s.size≤1048576) (z:(escS s k).2=0) (w:World) :
 Calls Tryz.prog 119 #[.string s,.int .i64 (k:Int)] w fun e w'=>e=.returned (.tuple #[.slice none 0 0,.int .i64 0])∧w'=w :=
 (resc_any s k w hk hs).mono (by
  rintro e w' (h|h)
  · exact ⟨h.2.1,h.2.2⟩
  · omega)
def LB (w:World) (b:Nat) (bs:List UInt8):Prop:=∀ j u,(bs.map vb)[j]?=some u→w.cell? ((⟨b,0,none⟩:Addr).add j)=some u
theorem esc_some (s:ByteArray) (k:Nat) (hk:k < s.size) (hs:s.size≤1048576) (z:0 < (escS s k).2) (w:World) :
 Calls Tryz.prog 119 #[.string s,.int .i64 (k:Int)] w fun e w'=>∃ b,e=.returned (.tuple #[.slice (some ⟨b,0,none⟩) (Lib.encodeRune (escS s k).1).length (Lib.encodeRune (escS s k).1).length,.int .i64 (escS s k).2]) ∧
  Below w.heap.size w w'∧LB w' b (Lib.encodeRune (escS s k).1) :=
 (resc_any s k w hk hs).mono (by
  rintro e w' (h|h)
  · omega
  · obtain ⟨_,h2,rfl⟩:=h
    have e1:(Lib.encodeRuneZ (escS s k).1).length=(Lib.encodeRune (escS s k).1).length:=by simp [Lib.encodeRune]
    rw [e1] at h2
    refine ⟨w.heap.size,h2,(Below.refl _ _).alloc (Nat.le_refl _) _,fun j u hu=>?_⟩
    have e2:(Lib.encodeRune (escS s k).1).map vb=Lib.runeCells (escS s k).1:=Lib.byteCells_encodeRune _
    rw [e2] at hu
    exact World.news_of_block (cs:=(Lib.runeCells (escS s k).1).toArray) (t:=5) (fr:=(0,0)) (heap_alloc_new _ _) j u hu)
set_option maxRecDepth 100000 in
set_option maxHeartbeats 3200000 in
theorem rjtext_any (rb:Nat) (s:ByteArray) (k:Nat) (o:Int) (w:World) (h:RF w rb s k 0 o) (hk:k < s.size) (hs:s.size≤1048576) :
 Calls Tryz.prog 83 #[.pointer (some ⟨rb,0,none⟩)] w (TxtPost rb s o w (letts s k)):=by
 obtain ⟨i0,hi,hz0,hz1,hz2⟩:=info_parts info5
 have hrl:=blk_lt h
 obtain ⟨res,hres⟩:∃ res,res=letts s k:=⟨_,rfl⟩
 rw [← hres]
 have HR:Hid (res=lettF s (s.size+1 - k) (k+1) []):=hres
 clear hres
 have H:=hide h
 obtain ⟨c0,c1,c2,c3⟩:=h.cells
 obtain ⟨f1,f2,f3⟩:=h.frees
 have hkm:(k:Int) < 1048576:=by omega
 clear h c0 c2 c3 f2 f3
 go_enter Tryz.func83,Tryz.ntmps83
 go_wp2
 go_loopw [3] (fun v wr=>∃ (i f:Nat) (acc:List UInt8),i≤s.size∧s.size≤i+f∧acc.length≤4*i∧Hid (RF wr rb s i 0 o)∧Hid (Mv rb w wr)∧Hid (wr.ownsRow w.heap.size 5 1 v acc.length (acc.map vb))∧Hid (res=lettF s f i acc)) (fun _ wr=>s.size - atOf wr rb)
 case atStart=>exact ⟨k+1,s.size+1 - k,[],by omega,by omega,by simp,RF.at1 (uh H) _,Mv.set _ _ _,World.ownsRow_nil _ _ _ _,HR⟩
 case round =>
  obtain ⟨i,f,acc,hi1,hf,hacc,hR,hM,hO,hS⟩:=hrel
  clear H HR c1 f1 hkm
  obtain ⟨c0,c1,c2,c3⟩:=(uh hR).cells
  obtain ⟨f1,f2,f3⟩:=(uh hR).frees
  clear c2 c3 f2 f3
  by_cases hlt:i < s.size
  · have hlt':decide ((i:Int) < (s.size:Int))=true:=decide_eq_true (by omega)
    have hltN:decide (i < s.size)=true:=decide_eq_true hlt
    have hix:=index_any s i (i:Int) rfl hlt
    obtain ⟨f,rfl⟩:∃ g,f=g+1:=⟨f - 1,by omega⟩
    by_cases q34:by_ s i=34
    · skip
      have HS:=hide ((uh hS).trans (lettF_quote s f i acc hlt q34))
      rw [q34] at hix
      clear hS q34
      go_wp2
      go_quiet (fail)
      have hRq:RF (wr.drewN nq) rb s i 0 o:=(uh hR).drewN nq
      have hMq:=hide ((uh hM).drewN nq)
      have hOq:=hide (owns_keep (w':=wr.drewN nq) (uh hO) fun _ _=>rfl)
      clear hR hM hO c0 c1 f1
      generalize wr.drewN nq=wq at *
      obtain ⟨c0,c1,c2,c3⟩:=hRq.cells
      obtain ⟨f1,f2,f3⟩:=hRq.frees
      have HRq:=hide hRq
      clear hRq c2 c3 f2 f3
      have hne:((i:Int) == (s.size:Int))=false:=beq_eq_false_iff_ne.mpr (by omega)
      have hneN:(i == s.size)=false:=beq_eq_false_iff_ne.mpr (by omega)
      have him:(i:Int) < 1048576:=by omega
      go_wp2
      go_quiet (fail)
      have hcv:=pt.own_str (owns_rf (uh hOq) (((Mv.refl rb wq).drewN nq).trans (Mv.set (wq.drewN nq) 1 (.int .i64 ((i:Int)+1)))) hrl)
      go_wp2
      go_ret
      refine ⟨.inl ⟨acc,i+1,uh HS,by omega,rfl,?_⟩,?_⟩
      · exact RF.at1 (w:=wq.drewN nq) ((uh HRq).drewN nq) _
      · exact ((uh hMq).drewN nq).trans (Mv.set _ _ _)
    by_cases q92:by_ s i=92
    · by_cases z:(escS s i).2=0
      · skip
        have HS:=hide ((uh hS).trans (lettF_esc0 s f i acc hlt q92 z))
        have EZ:=hide (esc_zero s i hlt hs z)
        rw [q92] at hix
        clear hS q92 z q34
        go_wp2
        go_quiet (fail)
        have hRq:RF (wr.drewN nq) rb s i 0 o:=(uh hR).drewN nq
        have hMq:=hide ((uh hM).drewN nq)
        have hOq:=hide (owns_keep (w':=wr.drewN nq) (uh hO) fun _ _=>rfl)
        clear hR hM hO c0 c1 f1
        generalize wr.drewN nq=wq at *
        obtain ⟨c0,c1,c2,c3⟩:=hRq.cells
        obtain ⟨f1,f2,f3⟩:=hRq.frees
        have HRq:=hide hRq
        clear hRq c2 c3 f2 f3
        have F1:=hide (fun u hu=>rfails_on rb s (i:Nat) o (i:Nat) 5 u hu)
        go_wp2
        go_quiet (fail)
        have hRq:RF (wq.drewN nq) rb s i 0 o:=(uh HRq).drewN nq
        have hMq2:=hide ((uh hMq).drewN nq)
        clear HRq hMq c0 c1 f1 hOq
        generalize wq.drewN nq=wp at *
        obtain ⟨c0,c1,c2,c3⟩:=hRq.cells
        have HRq:=hide hRq
        clear hRq c2 c3
        go_wp2
        go_quiet ((go_at_call 119;exact Calls.quiet_of_same (uh EZ _)))
        go_wp2_with fail
        refine (uh F1 _ ((uh HRq).drewN nq)).mono ?_
        rintro e u ⟨rfl,hRu,hUu⟩
        have HRu:=hide hRu
        have HMu:=hide (((uh hMq2).drewN nq).trans (upd_mv hUu))
        clear hRu hUu F1
        go_wp2
        go_ret
        exact ⟨.inr ⟨i,uh HS,by omega,rfl,uh HRu⟩,uh HMu⟩
      · skip
        have hbd:=escS_bd s i hlt q92
        have HS:=hide ((uh hS).trans (lettF_esc s f i acc hlt q92 z))
        have ES:=hide (esc_some s i hlt hs (by omega))
        have hel:=encR_len (escS s i).1
        have e1:(Lib.encodeRuneZ (escS s i).1).length=(Lib.encodeRune (escS s i).1).length:=by simp [Lib.encodeRune]
        rw [e1] at hel
        rw [q92] at hix
        generalize escS s i=er at *
        obtain ⟨ea,en⟩:=er
        simp only at ES HS hbd hel z
        obtain ⟨n,rfl⟩:∃ n:Nat,en=(n:Int):=⟨en.toNat,by omega⟩
        rw [Int.toNat_natCast] at HS
        generalize Lib.encodeRune ea=bs at *
        have hz:((n:Int) == 0)=false:=beq_eq_false_iff_ne.mpr z
        have hnz:0 < n:=by omega
        have hnb:i+n≤s.size:=by omega
        have hnI:(i:Int)+(n:Int)≤1048576:=by omega
        clear hS q92 z q34 e1 hbd
        go_wp2
        go_quiet (fail)
        have hRq:RF (wr.drewN nq) rb s i 0 o:=(uh hR).drewN nq
        have hMq:=hide ((uh hM).drewN nq)
        have hOq:=hide (owns_keep (w':=wr.drewN nq) (uh hO) fun _ _=>rfl)
        have HAW:=hide (rf_at (uh hR))
        clear hR hM hO c0 c1 f1
        generalize wr.drewN nq=wq at *
        obtain ⟨c0,c1,c2,c3⟩:=hRq.cells
        obtain ⟨f1,f2,f3⟩:=hRq.frees
        have HRq:=hide hRq
        clear hRq c2 c3 f2 f3
        go_wp2
        go_quiet (fail)
        have hRq:RF (wq.drewN nq) rb s i 0 o:=(uh HRq).drewN nq
        have hMq2:=hide ((uh hMq).drewN nq)
        have hOq2:=hide (owns_keep (w':=wq.drewN nq) (uh hOq) fun _ _=>rfl)
        clear HRq hMq c0 c1 f1 hOq
        generalize wq.drewN nq=wp at *
        obtain ⟨c0,c1,c2,c3⟩:=hRq.cells
        have HRq:=hide hRq
        clear hRq c2 c3
        go_wp2_with fail
        go_region_held3 (fun w'=>w'.cell? ⟨rb,0,none⟩=some (.string s)∧w'.cell? ⟨rb,1,none⟩=some (.int .i64 (i:Int))) (((try dsimp only);(repeat' apply And.intro);all_goals first|(go_keep;done)|(simp;omega))) (first
         | (go_at_call 119;refine (uh ES _).mono ?_;rintro e u1 ⟨b1,rfl,hb1,hlb⟩;have k0:=keepC hb1 (b:=rb) (o:=0) (v:=.string s) (by first|assumption|go_keep);have k1:=keepC hb1 (b:=rb) (o:=1) (v:=.int .i64 (i:Int)) (by first|assumption|go_keep)))
        have hB1:Below wp.heap.size wp u1:=((Below.refl _ wp).drew).trans hb1
        have hR1:=hide ((uh HRq).below hB1)
        have hM1:=hide ((uh hMq2).trans (Mv.of hB1))
        have hO1:=hide (owns_keep (uh hOq2) fun b hb=>hB1.block b (owns_ge (uh hOq2) b hb).2)
        have hLB:=hide hlb
        have HBW:=hide (uh hM1).size
        have f1:=(uh hR1).frees.1
        clear HRq hMq2 hOq2 hb1 hlb hB1 c0 c1 ES hix
        have c0:=k0
        have c1:=k1
        clear k0 k1
        have HL:=hide (show (bs.map vb).length=bs.length*1 by simp)
        have H1:Hid (∀ u∈bs.map vb,u.oneCell'=true):=by
         intro u hu
         obtain ⟨c,_,rfl⟩:=List.mem_map.1 hu
         rfl
        have HM1:Hid (acc.length+bs.length≤maxLen):=by
         show _≤_
         unfold maxLen;omega
        have HM2:Hid ((acc.length+bs.length)*1≤140737488355328):=by
         show _≤_
         omega
        go_wp2_with (at_builtin;refine wpList_append_own _ rfl _ _ 81 rfl w.heap.size 5 i0 (.int .u8 0) 1 1 Tryz.underlying81 hi hz0 hz1 hz2 rfl (by decide) _ _ _ rfl (uh hO1) ⟨b1,0,none⟩ _ _ (bs.map vb) rfl (uh HL) (uh hLB) (uh H1) (uh HM1) (uh HM2) (uh HBW) ?_)
        intro v' w1 hown1 hgrow1 _
        have e2:(acc++bs).map vb=acc.map vb++bs.map vb:=List.map_append
        have hown2:=hide (show w1.ownsRow w.heap.size 5 1 v' (acc++bs).length ((acc++bs).map vb) by rw [e2,List.length_append];exact hown1)
        have hge:∀ j,Value.ownBlock _=some j→w.heap.size≤j:=fun j hj=>(mm.row_lt (uh hO1) j hj).1
        have hRw:RF w1 rb s i 0 o:=(uh hR1).grown hgrow1 (fun j hj=>Nat.lt_of_lt_of_le hrl (hge j hj))
        have hMw:=hide ((uh hM1).grown hgrow1 hge)
        clear hown1 hgrow1 e2 hge hR1 hM1 hO1 hLB c0 c1 f1
        obtain ⟨c0,c1,c2,c3⟩:=hRw.cells
        obtain ⟨f1,f2,f3⟩:=hRw.frees
        have HRw:=hide hRw
        clear hRw c0 c2 c3 f2 f3
        go_wp2
        exact ⟨⟨i+n,f,acc++bs,by omega,by omega,by rw [List.length_append];omega,RF.at1 (uh HRw) _,(uh hMw).trans (Mv.set _ _ _),owns_rf (uh hown2) (Mv.set _ _ _) hrl,HS⟩,by
         have hz2:atOf (w1.setCell ⟨rb,1,none⟩ (.int .i64 ((i:Int)+(n:Int)))) rb=i+n:=rf_at (k:=i+n) (RF.at1 (uh HRw) _)
         rw [uh HAW,hz2]
         omega⟩
    by_cases q32:by_ s i < 32
    · skip
      have HS:=hide ((uh hS).trans (lettF_low s f i acc hlt q32))
      have n92:(by_ s i == 92)=false:=beq_eq_false_iff_ne.mpr q92
      have n34:(by_ s i != 34)=true:=by simp [q34]
      have n32:decide (32≤by_ s i)=false:=decide_eq_false (by omega)
      clear hS q92 q34 q32
      generalize by_ s i=y at *
      go_wp2
      go_quiet (fail)
      have hRq:RF (wr.drewN nq) rb s i 0 o:=(uh hR).drewN nq
      have hMq:=hide ((uh hM).drewN nq)
      have hOq:=hide (owns_keep (w':=wr.drewN nq) (uh hO) fun _ _=>rfl)
      clear hR hM hO c0 c1 f1
      generalize wr.drewN nq=wq at *
      obtain ⟨c0,c1,c2,c3⟩:=hRq.cells
      obtain ⟨f1,f2,f3⟩:=hRq.frees
      have HRq:=hide hRq
      clear hRq c2 c3 f2 f3
      have F1:=hide (fun u hu=>rfails_on rb s (i:Nat) o (i:Nat) 5 u hu)
      go_wp2
      go_quiet (fail)
      go_wp2_with fail
      refine (uh F1 _ ((uh HRq).drewN nq)).mono ?_
      rintro e u ⟨rfl,hRu,hUu⟩
      have HRu:=hide hRu
      have HMu:=hide (((uh hMq).drewN nq).trans (upd_mv hUu))
      clear hRu hUu F1
      go_wp2
      go_ret
      exact ⟨.inr ⟨i,uh HS,by omega,rfl,uh HRu⟩,uh HMu⟩
    by_cases z:pt.ltr s i=0
    · skip
      have HS:=hide ((uh hS).trans (lettF_bad s f i acc hlt q34 z))
      have n92:(by_ s i == 92)=false:=beq_eq_false_iff_ne.mpr q92
      have n34:(by_ s i != 34)=true:=by simp [q34]
      have n32:decide (32≤by_ s i)=true:=decide_eq_true (by omega)
      have LT:=hide (fun u=>pt.letter_any s i u hlt (by omega))
      rw [z] at LT
      have hsl:∀ u:World,(Instr.slice 9 (.string s) (some (.int .i64 (i:Int))) (some (.int .i64 (i:Int))) none).run Tryz.prog u=.ok (.string ⟨#[]⟩) u:=fun u=>by
       have:=run_slice_string (P:=Tryz.prog) u 9 s .i64 .i64 (i:Int) (i:Int) Tryz.underlying9 (by omega) (by omega) (by omega)
       rw [this]
       congr 2
       apply ByteArray.ext
       rw [ByteArray.data_extract]
       apply Array.ext'
       rw [Array.toList_extract,List.extract_eq_take_drop]
       simp
      have hcv:=fun u=>Lib.run_convert_string_bytes (P:=Tryz.prog) u 9 81 5 ⟨#[]⟩ Tryz.underlying9 Tryz.underlying81 Tryz.underlying5
      clear hS q92 q34 q32 z
      generalize by_ s i=y at *
      go_wp2
      go_quiet (fail)
      have hRq:RF (wr.drewN nq) rb s i 0 o:=(uh hR).drewN nq
      have hMq:=hide ((uh hM).drewN nq)
      have hOq:=hide (owns_keep (w':=wr.drewN nq) (uh hO) fun _ _=>rfl)
      clear hR hM hO c0 c1 f1
      generalize wr.drewN nq=wq at *
      obtain ⟨c0,c1,c2,c3⟩:=hRq.cells
      obtain ⟨f1,f2,f3⟩:=hRq.frees
      have HRq:=hide hRq
      clear hRq c2 c3 f2 f3
      have F1:=hide (fun u hu=>rfails_on rb s (i:Nat) o (i:Nat) 5 u hu)
      go_wp2
      go_quiet (fail)
      have hRq:RF (wq.drewN nq) rb s i 0 o:=(uh HRq).drewN nq
      have hMq2:=hide ((uh hMq).drewN nq)
      clear HRq hMq c0 c1 f1 hOq
      generalize wq.drewN nq=wp at *
      obtain ⟨c0,c1,c2,c3⟩:=hRq.cells
      have HRq:=hide hRq
      clear hRq c2 c3
      go_wp2
      go_quiet ((go_at_call 102;exact Calls.quiet_of_same (uh LT _)))
      have hRq:RF (wp.drewN nq) rb s i 0 o:=(uh HRq).drewN nq
      have hMq:=hide ((uh hMq2).drewN nq)
      clear HRq hMq2 c0 c1
      generalize wp.drewN nq=wz at *
      obtain ⟨c0,c1,c2,c3⟩:=hRq.cells
      have HRq:=hide hRq
      clear hRq c2 c3
      go_wp2
      go_region
      have hBz:Below wz.heap.size wz (Lib.bytesWorld wz.drew 5 ⟨#[]⟩):=(Below.refl wz.heap.size wz).drew.trans (below_bytes wz.drew ⟨#[]⟩)
      have hRz:=(uh HRq).below hBz
      have hMz:=hide ((uh hMq).trans (Mv.of hBz))
      clear HRq hMq hBz hcv hsl c0 c1
      generalize Lib.bytesWorld wz.drew 5 ⟨#[]⟩=wy at *
      obtain ⟨c0,c1,c2,c3⟩:=hRz.cells
      have HRz:=hide hRz
      clear hRz c0 c2 c3
      go_wp2_with fail
      refine (uh F1 _ (uh HRz)).mono ?_
      rintro e u ⟨rfl,hRu,hUu⟩
      have HRu:=hide hRu
      have HMu:=hide ((uh hMz).trans (upd_mv hUu))
      clear hRu hUu F1
      go_wp2
      go_ret
      exact ⟨.inr ⟨i,uh HS,by omega,rfl,uh HRu⟩,uh HMu⟩
    · skip
      have HS:=hide ((uh hS).trans (lettF_fit s f i acc hlt q34 (by omega) q92 (by omega)))
      have n92:(by_ s i == 92)=false:=beq_eq_false_iff_ne.mpr q92
      have n34:(by_ s i != 34)=true:=by simp [q34]
      have n32:decide (32≤by_ s i)=true:=decide_eq_true (by omega)
      have LT:=hide (fun u=>pt.letter_any s i u hlt (by omega))
      have hle:=pt.ltr_le s i hlt
      generalize pt.ltr s i=n at *
      have hsl:∀ u:World,(Instr.slice 9 (.string s) (some (.int .i64 (i:Int))) (some (.int .i64 ((i:Int)+(n:Int)))) none).run Tryz.prog u=.ok (.string (s.extract i (i+n))) u:=fun u=>by
       have:=run_slice_string (P:=Tryz.prog) u 9 s .i64 .i64 (i:Int) ((i:Int)+(n:Int)) Tryz.underlying9 (by omega) (by omega) (by omega)
       rw [this]
       congr 3
      have hxs:(s.extract i (i+n)).size=n:=by rw [ByteArray.size_extract];omega
      have hcv:=fun u=>Lib.run_convert_string_bytes (P:=Tryz.prog) u 9 81 5 (s.extract i (i+n)) Tryz.underlying9 Tryz.underlying81 Tryz.underlying5
      rw [hxs] at hcv
      have hz:((n:Int) == 0)=false:=beq_eq_false_iff_ne.mpr (by omega)
      have hnz:0 < n:=by omega
      have hnI:(i:Int)+(n:Int)≤1048576:=by omega
      have hnI0:(i:Int)≤(i:Int)+(n:Int):=by omega
      have hnI1:(i:Int)+(n:Int)≤(s.size:Int):=by omega
      have hLz:=hide (fun u:World=>fun j hj=>Lib.bytesWorld_cell u 5 (s.extract i (i+n)) j hj)
      have HXS:=hide hxs
      clear hS q92 q34 q32 z hxs
      generalize by_ s i=y at *
      generalize s.extract i (i+n)=pc at *
      go_wp2
      go_quiet (fail)
      have hRq:RF (wr.drewN nq) rb s i 0 o:=(uh hR).drewN nq
      have hMq:=hide ((uh hM).drewN nq)
      have hOq:=hide (owns_keep (w':=wr.drewN nq) (uh hO) fun _ _=>rfl)
      have HAW:=hide (rf_at (uh hR))
      clear hR hM hO c0 c1 f1
      generalize wr.drewN nq=wq at *
      obtain ⟨c0,c1,c2,c3⟩:=hRq.cells
      obtain ⟨f1,f2,f3⟩:=hRq.frees
      have HRq:=hide hRq
      clear hRq c2 c3 f2 f3
      go_wp2
      go_quiet (fail)
      have hRq:RF (wq.drewN nq) rb s i 0 o:=(uh HRq).drewN nq
      have hMq2:=hide ((uh hMq).drewN nq)
      have hOq2:=hide (owns_keep (w':=wq.drewN nq) (uh hOq) fun _ _=>rfl)
      clear HRq hMq c0 c1 f1 hOq
      generalize wq.drewN nq=wp at *
      obtain ⟨c0,c1,c2,c3⟩:=hRq.cells
      have HRq:=hide hRq
      clear hRq c2 c3
      go_wp2
      go_quiet ((go_at_call 102;exact Calls.quiet_of_same (uh LT _)))
      have hRq:RF (wp.drewN nq) rb s i 0 o:=(uh HRq).drewN nq
      have hMq:=hide ((uh hMq2).drewN nq)
      have hOq:=hide (owns_keep (w':=wp.drewN nq) (uh hOq2) fun _ _=>rfl)
      clear HRq hMq2 c0 c1 hOq2
      generalize wp.drewN nq=wz at *
      obtain ⟨c0,c1,c2,c3⟩:=hRq.cells
      have HRq:=hide hRq
      clear hRq c2 c3
      go_wp2
      go_region
      have hB1:Below wz.heap.size wz (Lib.bytesWorld wz.drew 5 pc):=(Below.refl wz.heap.size wz).drew.trans (below_bytes wz.drew pc)
      have hR1:=hide ((uh HRq).below hB1)
      have hM1:=hide ((uh hMq).trans (Mv.of hB1))
      have hO1:=hide (owns_keep (uh hOq) fun b hb=>hB1.block b (owns_ge (uh hOq) b hb).2)
      obtain ⟨bs,hbs⟩:∃ bs,bs=pc.data.toList:=⟨_,rfl⟩
      have hbn:bs.length=n:=by rw [hbs];exact Array.length_toList.trans (uh HXS)
      have hLB:Hid (LB (Lib.bytesWorld wz.drew 5 pc) wz.heap.size bs):=by
       intro j u hu
       have hj:j < bs.length:=by
        obtain ⟨h1,_⟩:=List.getElem?_eq_some_iff.1 hu
        rwa [List.length_map] at h1
       have e1:(⟨wz.heap.size,0,none⟩:Addr).add j=⟨wz.heap.size,j,none⟩:=by unfold Addr.add;split <;> simp_all
       have:=uh hLz wz.drew j (by rw [uh HXS];omega)
       rw [e1]
       refine this.trans ?_
       rw [← hu,List.getElem?_map,hbs,List.getD_eq_getElem?_getD,List.getElem?_eq_getElem (by rw [← hbs];exact hj)]
       rfl
      rw [← hbs] at HS
      have HBW:=hide (uh hM1).size
      have f1:=(uh hR1).frees.1
      have HBN:=hide hbn
      clear HRq hMq hOq hB1 hcv hsl c0 c1 hLz HXS hbs hbn
      obtain ⟨b1,hb1⟩:∃ b1,b1=wz.heap.size:=⟨_,rfl⟩
      rw [← hb1] at hLB
      obtain ⟨cc,hcc⟩:∃ cc,cc=grownCap wz.drew n 0 5:=⟨_,rfl⟩
      rw [← hb1,← hcc]
      have hbn:=uh HBN
      subst hbn
      clear hb1 hcc HBN
      generalize Lib.bytesWorld wz.drew 5 pc=wy at *
      obtain ⟨c0,c1,c2,c3⟩:=(uh hR1).cells
      clear c2 c3
      have HL:=hide (show (bs.map vb).length=bs.length*1 by simp)
      have H1:Hid (∀ u∈bs.map vb,u.oneCell'=true):=by
       intro u hu
       obtain ⟨c,_,rfl⟩:=List.mem_map.1 hu
       rfl
      have HM1:Hid (acc.length+bs.length≤maxLen):=by
       show _≤_
       unfold maxLen;omega
      have HM2:Hid ((acc.length+bs.length)*1≤140737488355328):=by
       show _≤_
       omega
      go_wp2_with (at_builtin;refine wpList_append_own _ rfl _ _ 81 rfl w.heap.size 5 i0 (.int .u8 0) 1 1 Tryz.underlying81 hi hz0 hz1 hz2 rfl (by decide) _ _ _ rfl (uh hO1) ⟨b1,0,none⟩ _ _ (bs.map vb) rfl (uh HL) (uh hLB) (uh H1) (uh HM1) (uh HM2) (uh HBW) ?_)
      intro v' w1 hown1 hgrow1 _
      have e2:(acc++bs).map vb=acc.map vb++bs.map vb:=List.map_append
      have hown2:=hide (show w1.ownsRow w.heap.size 5 1 v' (acc++bs).length ((acc++bs).map vb) by rw [e2,List.length_append];exact hown1)
      have hge:∀ j,Value.ownBlock _=some j→w.heap.size≤j:=fun j hj=>(mm.row_lt (uh hO1) j hj).1
      have hRw:RF w1 rb s i 0 o:=(uh hR1).grown hgrow1 (fun j hj=>Nat.lt_of_lt_of_le hrl (hge j hj))
      have hMw:=hide ((uh hM1).grown hgrow1 hge)
      clear hown1 hgrow1 e2 hge hR1 hM1 hO1 hLB c0 c1 f1
      obtain ⟨c0,c1,c2,c3⟩:=hRw.cells
      obtain ⟨f1,f2,f3⟩:=hRw.frees
      have HRw:=hide hRw
      clear hRw c0 c2 c3 f2 f3
      go_wp2
      exact ⟨⟨i+bs.length,f,acc++bs,by omega,by omega,by rw [List.length_append];omega,RF.at1 (uh HRw) _,(uh hMw).trans (Mv.set _ _ _),owns_rf (uh hown2) (Mv.set _ _ _) hrl,HS⟩,by
       have hz2:atOf (w1.setCell ⟨rb,1,none⟩ (.int .i64 ((i:Int)+(bs.length:Int)))) rb=i+bs.length:=rf_at (k:=i+bs.length) (RF.at1 (uh HRw) _)
       rw [uh HAW,hz2]
       omega⟩
  · skip
    have hlt':decide ((i:Int) < (s.size:Int))=false:=decide_eq_false (by omega)
    have hltN:decide (i < s.size)=false:=decide_eq_false hlt
    obtain rfl:i=s.size:=by omega
    have HS:=hide ((uh hS).trans (lettF_end s f acc))
    clear hS hlt
    go_wp2
    go_quiet (fail)
    have hRq:RF (wr.drewN nq) rb s s.size 0 o:=(uh hR).drewN nq
    have hMq:=hide ((uh hM).drewN nq)
    have hOq:=hide (owns_keep (w':=wr.drewN nq) (uh hO) fun _ _=>rfl)
    clear hR hM hO c0 c1 f1
    generalize wr.drewN nq=wq at *
    obtain ⟨c0,c1,c2,c3⟩:=hRq.cells
    obtain ⟨f1,f2,f3⟩:=hRq.frees
    have HRq:=hide hRq
    clear hRq c2 c3 f2 f3
    have F1:=hide (fun u hu=>rfails_on rb s (s.size:Nat) o (s.size:Nat) 5 u hu)
    go_wp2
    go_quiet (fail)
    go_wp2_with fail
    refine (uh F1 _ ((uh HRq).drewN nq)).mono ?_
    rintro e u ⟨rfl,hRu,hUu⟩
    have HRu:=hide hRu
    have HMu:=hide (((uh hMq).drewN nq).trans (upd_mv hUu))
    clear hRu hUu F1
    go_wp2
    go_ret
    exact ⟨.inr ⟨s.size,uh HS,Nat.le_refl _,rfl,uh HRu⟩,uh HMu⟩
end Go.Proofs.YtilhjecnkaokeaaGreatDoor.rd
