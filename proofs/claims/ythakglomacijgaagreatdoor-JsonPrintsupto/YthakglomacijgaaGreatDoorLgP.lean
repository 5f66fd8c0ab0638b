/- Texts in one: Lg Tq Tld -/
import Derived.Test.YthakglomacijgaaGreatDoorFo3P
import Derived.Test.YthakglomacijgaaGreatDoorIeP
import Derived.Test.YthakglomacijgaaGreatDoorByaP
import Derived.Deep.RegionLaw
namespace Go.Proofs.YthakglomacijgaaGreatDoor.rd
open Go.RowKit
theorem sum_mem {α:Type}{g:α→Nat}:∀ {l:List α}{a:α},a∈l→g a≤(l.map g).sum
 | b::l,a,h=>by
   rw [List.map_cons,List.sum_cons]
   rcases List.mem_cons.1 h with rfl|h
   · omega
   · have:=sum_mem (g:=g) h;omega
theorem cnt_l {k:Int}{t:Bool}{d:Dn}{x:ByteArray}{l:List JT}{f:List (ByteArray × JT)}{v:JT} (h:v∈l):cntV v+1≤cntV (.mk k t d x l f):=by
 rw [cntV_mk]
 have:=sum_mem (g:=cntV) h
 omega
theorem cnt_f {k:Int}{t:Bool}{d:Dn}{x:ByteArray}{l:List JT}{f:List (ByteArray × JT)}{p:ByteArray × JT} (h:p∈f):cntV p.2+p.1.size+1≤cntV (.mk k t d x l f):=by
 rw [cntV_mk]
 have:=sum_mem (g:=fun p:ByteArray × JT=>p.1.size+cntV p.2) h
 omega
theorem light_gd (n:Nat):∀ v,SizeOf.sizeOf v < n→Bd v→cntV v≤1000000000→Gd v:=by
 induction n with
 | zero=>intro v h;omega
 | succ n IH =>
   intro v hn hb hc
   cases hb with
   | @mk k t d x l f hk h0 h1 h2 h3 h4 hl hnm hf =>
     have hfl:f.length≤1000000000:=by rw [cntV_mk] at hc;omega
     exact .mk (fun _=>fok_all f hfl hnm) (fun _ v hv=>IH v (by have:=sz_l (k:=k) (t:=t) (d:=d) (x:=x) (f:=f) hv;omega) (hl v hv) (by have:=cnt_l (k:=k) (t:=t) (d:=d) (x:=x) (f:=f) hv;omega))
      (fun _ p hp=>IH p.2 (by have:=sz_f (k:=k) (t:=t) (d:=d) (x:=x) (l:=l) hp;omega) (hf p hp) (by have:=cnt_f (k:=k) (t:=t) (d:=d) (x:=x) (l:=l) hp;omega))
theorem pf_mono {n:Nat}{v:JT} (h:Pf n v):∀ m,n≤m→Pf m v:=by
 induction h with
 | null n=>exact fun m _=>.null m
 | truth n b=>exact fun m _=>.truth m b
 | num n h hz=>exact fun m _=>.num m h hz
 | text n h hz=>exact fun m _=>.text m h hz
 | list h hz ih =>
   intro m hm
   obtain ⟨m,rfl⟩:∃ q,m=q+1:=⟨m - 1,by omega⟩
   exact .list (fun v hv=>ih v hv m (by omega)) hz
 | obj hn hr h hz ih =>
   intro m hm
   obtain ⟨m,rfl⟩:∃ q,m=q+1:=⟨m - 1,by omega⟩
   exact .obj hn hr (fun p hp=>ih p hp m (by omega)) hz
theorem clF_ok (s:ByteArray):∀ f k,Ltc (pt.clF s f k)∧(pt.clF s f k).length≤4*f
 | 0,k=>⟨.nil,by simp [pt.clF]⟩
 | f+1,k=>by
   rw [pt.clF]
   split
   · rename_i hk
     split
     · obtain ⟨h1,h2⟩:=clF_ok s f (k+1)
       refine ⟨.cons ?_ h1,by simp;omega⟩
       have:=lt1_enc 65533
       exact this
     · rename_i hz
       obtain ⟨h1,h2⟩:=clF_ok s f (k+pt.ltr s k)
       have e:(s.extract k (k+pt.ltr s k)).data.toList=(s.data.toList.drop k).take (ltrL (s.data.toList.drop k)):=by
        rw [pt.cut_take,ltr_drop s k hk]
       rw [e]
       have hl:=lt1_take (s.data.toList.drop k) (by rw [← ltr_drop s k hk];omega)
       refine ⟨.cons hl h1,?_⟩
       have h4:pt.ltr s k≤4:=by
        rcases pt.place_says s k hk with ⟨a,_⟩|⟨_,_,d2,d3⟩
        · omega
        · have:=enc_le ((Utf8.decode s k).1:Int)
          rw [d3,pt.cut_take] at this
          have hle:=pt.ltr_le s k hk
          have h2:s.data.toList.length=s.size:=Array.length_toList
          simp only [List.length_take,List.length_drop] at this
          omega
       rw [List.length_append,List.length_take,← ltr_drop s k hk]
       omega
   · exact ⟨.nil,by simp⟩
theorem clean_ltc (s:ByteArray):Ltc (pt.clean s).data.toList∧(pt.clean s).size≤4*s.size:=by
 obtain ⟨h1,h2⟩:=clF_ok s s.size 0
 refine ⟨h1,?_⟩
 show (pt.clF s s.size 0).toArray.size≤_
 simpa using h2
theorem norm_ok (d:Dn):Whole1 (norm d)∧(norm d).dg.size≤d.dg.size:=by
 refine ⟨?_,?_⟩
 · unfold norm
   exact oneForm_formed _ _ _ (digs_dig _)
 · unfold norm
   exact wh.oneForm_size _ _ _
theorem putP_sum {α:Type} (g:ByteArray × α→Nat) (acc:List (ByteArray × α)) (p:ByteArray × α):((jn.putP acc p).map g).sum≤(acc.map g).sum+g p∧(jn.putP acc p).length≤acc.length+1:=by
 unfold jn.putP
 split
 · omega
 · have h:=jn.ins_perm acc p
   rw [(h.map g).sum_nat,h.length_eq,List.map_cons,List.sum_cons,List.length_cons]
   omega
theorem puts_sum {α:Type} (g:ByteArray × α→Nat) (F:List (ByteArray × α)):((jn.puts F).map g).sum≤(F.map g).sum∧(jn.puts F).length≤F.length:=by
 have key:∀ (F acc:List (ByteArray × α)),((F.foldl jn.putP acc).map g).sum≤(acc.map g).sum+(F.map g).sum∧(F.foldl jn.putP acc).length≤acc.length+F.length:=by
  intro F
  induction F with
  | nil=>intro acc;simp
  | cons p F ih =>
    intro acc
    have h1:=ih (jn.putP acc p)
    have h2:=putP_sum g acc p
    rw [List.foldl_cons,List.map_cons,List.sum_cons,List.length_cons]
    omega
 have:=key F []
 simpa [jn.puts] using this
theorem sum_le {α:Type}{g h:α→Nat}:∀ {l:List α},(∀ a∈l,g a≤h a)→(l.map g).sum≤(l.map h).sum
 | [],_=>by simp
 | a::l,q=>by
   rw [List.map_cons,List.map_cons,List.sum_cons,List.sum_cons]
   have:=q a (by simp)
   have:=sum_le (l:=l) fun b hb=>q b (by simp [hb])
   omega
theorem sum_mul {α:Type}{g:α→Nat} (c:Nat):∀ l:List α,(l.map fun a=>c*g a).sum=c*(l.map g).sum
 | []=>by simp
 | a::l=>by
   rw [List.map_cons,List.map_cons,List.sum_cons,List.sum_cons,sum_mul c l,Nat.mul_add]
def escB (c:UInt8):List UInt8 :=
 if c=34∨c=92 then [92,c] else if c=8 then [92,98] else if c=9 then [92,116] else if c=10 then [92,110] else if c=12 then [92,102] else if c=13 then [92,114]
 else if c.toNat < 32 then [92,117,48,48,hxd (c.toNat / 16),hxd (c.toNat % 16)] else [c]
theorem escB_high {c:UInt8} (h:128≤c.toNat):escB c=[c]:=by
 have ne:∀ z:UInt8,z.toNat < 128→c≠z:=fun z hz e=>by rw [e] at h;omega
 unfold escB
 rw [if_neg (fun q=>q.elim (ne 34 (by decide)) (ne 92 (by decide))),if_neg (ne 8 (by decide)),if_neg (ne 9 (by decide)),if_neg (ne 10 (by decide)),if_neg (ne 12 (by decide)),if_neg (ne 13 (by decide)),if_neg (by omega)]
theorem enc_all (r:Nat) (h:128≤r):∀ c∈Lib.encodeRune (r:Int),128≤c.toNat:=by
 have key:∀ l:List Int,Lib.encodeRuneZ (r:Int)=l→(∀ a∈l,128≤a∧a≤255)→∀ c∈Lib.encodeRune (r:Int),128≤c.toNat:=fun l e hl c hc=>by
  unfold Lib.encodeRune at hc
  rw [e] at hc
  obtain ⟨a,ha,rfl⟩:=List.mem_map.1 hc
  obtain ⟨h1,h2⟩:=hl a ha
  rw [u8_nat a (by omega) h2]
  omega
 by_cases h2:r≤2047
 · refine key _ (Lib.encodeRuneZ_two (by omega) (by omega)) fun a ha=>?_
   simp only [List.mem_cons,List.not_mem_nil,or_false] at ha
   rcases ha with rfl|rfl <;> omega
 by_cases h3:(2048≤(r:Int)∧(r:Int) < 55296)∨(57343 < (r:Int)∧(r:Int)≤65535)
 · refine key _ (Lib.encodeRuneZ_three h3) fun a ha=>?_
   simp only [List.mem_cons,List.not_mem_nil,or_false] at ha
   rcases ha with rfl|rfl|rfl <;> omega
 by_cases h4:65536≤r∧r≤1114111
 · refine key _ (Lib.encodeRuneZ_four (by omega) (by omega)) fun a ha=>?_
   simp only [List.mem_cons,List.not_mem_nil,or_false] at ha
   rcases ha with rfl|rfl|rfl|rfl <;> omega
 · refine key _ (Lib.encodeRuneZ_bad (by omega)) fun a ha=>?_
   simp only [List.mem_cons,List.not_mem_nil,or_false] at ha
   rcases ha with rfl|rfl|rfl <;> omega
theorem flat_high:∀ l:List UInt8,(∀ c∈l,128≤c.toNat)→l.flatMap escB=l
 | [],_=>rfl
 | c::l,h=>by rw [List.flatMap_cons,escB_high (h c (by simp)),flat_high l fun d hd=>h d (by simp [hd])];rfl
theorem ltt_esc (r:Nat):ltt r=(Lib.encodeRune (r:Int)).flatMap escB:=by
 by_cases h:r < 128
 · have hu:=nat_u8 r (by omega)
   have eqv:∀ z:Nat,z < 128→(r.toUInt8=z.toUInt8↔r=z):=fun z hz=>by
    constructor
    · intro e
      have:=congrArg UInt8.toNat e
      rwa [hu,nat_u8 z (by omega)] at this
    · intro e;rw [e]
   have e34:=eqv 34 (by omega)
   have e92:=eqv 92 (by omega)
   have e8:=eqv 8 (by omega)
   have e9:=eqv 9 (by omega)
   have e10:=eqv 10 (by omega)
   have e12:=eqv 12 (by omega)
   have e13:=eqv 13 (by omega)
   rw [enc_low r h,List.flatMap_cons,List.flatMap_nil,List.append_nil]
   unfold ltt escB
   by_cases q1:r=34∨r=92
   · rw [if_pos q1,if_pos (show r.toUInt8=34∨r.toUInt8=92 from q1.imp e34.2 e92.2),enc_low r h]
   rw [if_neg q1,if_neg (show ¬ (r.toUInt8=34∨r.toUInt8=92) from fun q=>q1 (q.imp e34.1 e92.1))]
   by_cases q2:r=8
   · rw [if_pos q2,if_pos (show r.toUInt8=8 from e8.2 q2)]
   rw [if_neg q2,if_neg (show ¬ r.toUInt8=8 from fun q=>q2 (e8.1 q))]
   by_cases q3:r=9
   · rw [if_pos q3,if_pos (show r.toUInt8=9 from e9.2 q3)]
   rw [if_neg q3,if_neg (show ¬ r.toUInt8=9 from fun q=>q3 (e9.1 q))]
   by_cases q4:r=10
   · rw [if_pos q4,if_pos (show r.toUInt8=10 from e10.2 q4)]
   rw [if_neg q4,if_neg (show ¬ r.toUInt8=10 from fun q=>q4 (e10.1 q))]
   by_cases q5:r=12
   · rw [if_pos q5,if_pos (show r.toUInt8=12 from e12.2 q5)]
   rw [if_neg q5,if_neg (show ¬ r.toUInt8=12 from fun q=>q5 (e12.1 q))]
   by_cases q6:r=13
   · rw [if_pos q6,if_pos (show r.toUInt8=13 from e13.2 q6)]
   rw [if_neg q6,if_neg (show ¬ r.toUInt8=13 from fun q=>q6 (e13.1 q)),hu]
   by_cases q7:32≤r
   · rw [if_pos q7,if_neg (by omega),enc_low r h]
   · rw [if_neg q7,if_pos (by omega)]
 · rw [flat_high _ (enc_all r (by omega))]
   unfold ltt
   rw [if_neg (by omega),if_neg (by omega),if_neg (by omega),if_neg (by omega),if_neg (by omega),if_neg (by omega),if_pos (by omega)]
theorem lts_esc (X:ByteArray) {l:List UInt8} (hl:Ltc l):∀ (fuel pos:Nat),X.data.toList.drop pos=l→l.length≤fuel→ltsF X fuel pos=l.flatMap escB:=by
 induction hl with
 | nil =>
   intro fuel pos hX _
   have h2:X.data.toList.length=X.size:=Array.length_toList
   have hz:=congrArg List.length hX
   rw [List.length_drop,h2,List.length_nil] at hz
   rw [ltsF_end X fuel pos (by omega)]
   rfl
 | @cons x l hx hl ih =>
   intro fuel pos hX hfu
   have h2:X.data.toList.length=X.size:=Array.length_toList
   have hz:=congrArg List.length hX
   have hp:=hx.1
   rw [List.length_append] at hfu
   rw [List.length_drop,h2,List.length_append] at hz
   have hlt:pos < X.size:=by omega
   have hr:pt.ltr X pos=x.length:=by rw [ltr_drop X pos hlt,hX];exact hx.2 l
   obtain ⟨g,rfl⟩:∃ g,fuel=g+1:=⟨fuel - 1,by omega⟩
   rcases pt.place_says X pos hlt with ⟨a,_⟩|⟨_,_,d1,d2⟩
   · omega
   rw [hr] at d1 d2
   have d3:Lib.encodeRune ((Utf8.decode X pos).1:Int)=x:=by
    rw [d2,pt.cut_take,hX]
    simp
   rw [ltsF,if_pos hlt,d1,ltt_esc,d3,List.flatMap_append,ih g (pos+x.length) (by rw [← List.drop_drop,hX,List.drop_left]) (by omega)]
theorem txtJ_esc {X:ByteArray} (h:Ltc X.data.toList):txtJ X=34::(X.data.toList.flatMap escB++[34]):=by
 unfold txtJ
 have h2:X.data.toList.length=X.size:=Array.length_toList
 rw [lts_esc X h X.size 0 rfl (by omega)]
theorem esc_at (s:ByteArray) (k:Nat) (c:UInt8) (h:s.data.toList[k]?=some c):(s.data.toList.take (k+1)).flatMap escB=(s.data.toList.take k).flatMap escB++escB c:=by
 rw [take_succ' h,List.flatMap_append]
 simp
theorem esc_len (c:UInt8):(escB c).length≤6:=by
 unfold escB
 split
 · simp
 · repeat' split
   all_goals simp
theorem escs_len:∀ l:List UInt8,(l.flatMap escB).length≤6*l.length
 | []=>by simp
 | c::l=>by
   have:=esc_len c
   have:=escs_len l
   rw [List.flatMap_cons,List.length_append,List.length_cons]
   omega
def TL (w:World) (s:ByteArray) (k:Nat) (v:Value) (wr:World):Prop:=OB wr w.heap.size v (34::(s.data.toList.take k).flatMap escB)∧Below w.heap.size w wr
theorem TL.step {w wr w1:World}{s:ByteArray}{k:Nat}{v v':Value}{c:UInt8}{ys:List UInt8} (h:TL w s k v wr) (hc:s.data.toList[k]?=some c) (e:escB c=ys) (h1:OB w1 w.heap.size v' ((34::(s.data.toList.take k).flatMap escB)++ys)) (h2:Below w.heap.size wr w1):TL w s (k+1) v' w1:=by
 refine ⟨?_,h.2.trans h2⟩
 rw [esc_at s k c hc,e,← List.cons_append]
 exact h1
set_option maxRecDepth 1000000 in
set_option maxHeartbeats 12800000 in
theorem rtold_any (s:ByteArray) (w:World) (hs:s.size≤20000000000000) (hl:Ltc s.data.toList) :
 Calls Tryz.prog 73 #[.string s] w fun e w'=>e=.returned (.string ⟨(txtJ s).toArray⟩)∧Below w.heap.size w w':=by
 have HT:=hide (txtJ_esc hl)
 have H0:Hid (TL w s 0 (.slice (some ⟨w.heap.size,0,none⟩) 1 1) (w.alloc (.cells #[.int .u8 34] 5))):=by
  refine ⟨?_,(Below.refl _ w).alloc (Nat.le_refl _) _⟩
  exact mm.own_new w w.heap.size 5 1 1 #[.int .u8 34] (Nat.le_refl _) rfl (by unfold maxLen;omega)
 clear hl
 go_enter Tryz.func73,Tryz.ntmps73
 go_wp2
 go_loopw [4,5] (fun sv i wr=>∃ (k:Nat),k≤s.size∧i=.int .i64 (k:Int)∧Hid (TL w s k sv wr)) (fun _ i _=>s.size - (intOf i).toNat)
 case atStart=>exact ⟨0,by omega,rfl,H0⟩
 case round =>
  clear H0
  obtain ⟨k,hk,rfl,HB⟩:=hrel
  have hsz:=(uh HB).2.size
  have hln:=escs_len (s.data.toList.take k)
  have hst:(s.data.toList.take k).length≤k:=by rw [List.length_take];omega
  by_cases hlt:k < s.size
  · have hlt':(k:Int) < (s.size:Int):=by omega
    obtain ⟨c,hc⟩:∃ c,s.data.toList[k]?=some c:=⟨_,List.getElem?_eq_getElem (by rw [Array.length_toList];exact hlt)⟩
    have HO:=hide (uh HB).1
    have HSZ:=hide hsz
    have HL6:Hid ((34::(s.data.toList.take k).flatMap escB).length+6≤140000000000000):=by show _≤_;rw [List.length_cons];omega
    have hcg:s[k]=c:=by
     have h2:k < s.data.toList.length:=by rw [Array.length_toList];exact hlt
     rw [List.getElem?_eq_getElem h2] at hc
     exact Option.some.inj hc
    have HC:=hide hc
    generalize hPRE:34::(s.data.toList.take k).flatMap escB=pre at HO HL6
    have HP:=hide hPRE
    clear hln hst hsz hc hPRE
    by_cases hcc:c=34∨c=92∨c=8∨c=9∨c=10∨c=12∨c=13∨c=0∨c=1∨c=2∨c=3∨c=4∨c=5∨c=6∨c=7∨c=11∨c=14∨c=15∨c=16∨c=17∨c=18∨c=19∨c=20∨c=21∨c=22∨c=23∨c=24∨c=25∨c=26∨c=27∨c=28∨c=29∨c=30∨c=31
    · rcases hcc with rfl|rfl|rfl|rfl|rfl|rfl|rfl|rfl|rfl|rfl|rfl|rfl|rfl|rfl|rfl|rfl|rfl|rfl|rfl|rfl|rfl|rfl|rfl|rfl|rfl|rfl|rfl|rfl|rfl|rfl|rfl|rfl|rfl|rfl
      · have HE:Hid (escB 34=[92,34]):=by show _=_;decide
        have hz:(s[k].toNat:Int)=34:=by rw [hcg];rfl
        have HL:Hid (pre.length+[(92:UInt8),(34:UInt8)].length≤140000000000000):=by have:=uh HL6;show _+2≤_;omega
        clear hcg HL6
        go_wp2_with (at_builtin;refine wpl_apB [92,34] wr _ w.heap.size _ pre rfl _ _ rfl rfl rfl rfl HO HSZ HL ?_)
        intro v' w1 HO1 HB1 _
        go_wp2
        all_goals exact ⟨⟨k+1,by omega,by go_num,(uh HB).step (uh HC) (uh HE) (by rw [uh HP];exact uh HO1) (uh HB1)⟩,by simp [intOf];omega⟩
      · have HE:Hid (escB 92=[92,92]):=by show _=_;decide
        have hz:(s[k].toNat:Int)=92:=by rw [hcg];rfl
        have HL:Hid (pre.length+[(92:UInt8),(92:UInt8)].length≤140000000000000):=by have:=uh HL6;show _+2≤_;omega
        clear hcg HL6
        go_wp2_with (at_builtin;refine wpl_apB [92,92] wr _ w.heap.size _ pre rfl _ _ rfl rfl rfl rfl HO HSZ HL ?_)
        intro v' w1 HO1 HB1 _
        go_wp2
        all_goals exact ⟨⟨k+1,by omega,by go_num,(uh HB).step (uh HC) (uh HE) (by rw [uh HP];exact uh HO1) (uh HB1)⟩,by simp [intOf];omega⟩
      · have HE:Hid (escB 8=[92,98]):=by show _=_;decide
        have hz:(s[k].toNat:Int)=8:=by rw [hcg];rfl
        have HL:Hid (pre.length+[(92:UInt8),(98:UInt8)].length≤140000000000000):=by have:=uh HL6;show _+2≤_;omega
        clear hcg HL6
        go_wp2_with (at_builtin;refine wpl_apB [92,98] wr _ w.heap.size _ pre rfl _ _ rfl rfl rfl rfl HO HSZ HL ?_)
        intro v' w1 HO1 HB1 _
        go_wp2
        all_goals exact ⟨⟨k+1,by omega,by go_num,(uh HB).step (uh HC) (uh HE) (by rw [uh HP];exact uh HO1) (uh HB1)⟩,by simp [intOf];omega⟩
      · have HE:Hid (escB 9=[92,116]):=by show _=_;decide
        have hz:(s[k].toNat:Int)=9:=by rw [hcg];rfl
        have HL:Hid (pre.length+[(92:UInt8),(116:UInt8)].length≤140000000000000):=by have:=uh HL6;show _+2≤_;omega
        clear hcg HL6
        go_wp2_with (at_builtin;refine wpl_apB [92,116] wr _ w.heap.size _ pre rfl _ _ rfl rfl rfl rfl HO HSZ HL ?_)
        intro v' w1 HO1 HB1 _
        go_wp2
        all_goals exact ⟨⟨k+1,by omega,by go_num,(uh HB).step (uh HC) (uh HE) (by rw [uh HP];exact uh HO1) (uh HB1)⟩,by simp [intOf];omega⟩
      · have HE:Hid (escB 10=[92,110]):=by show _=_;decide
        have hz:(s[k].toNat:Int)=10:=by rw [hcg];rfl
        have HL:Hid (pre.length+[(92:UInt8),(110:UInt8)].length≤140000000000000):=by have:=uh HL6;show _+2≤_;omega
        clear hcg HL6
        go_wp2_with (at_builtin;refine wpl_apB [92,110] wr _ w.heap.size _ pre rfl _ _ rfl rfl rfl rfl HO HSZ HL ?_)
        intro v' w1 HO1 HB1 _
        go_wp2
        all_goals exact ⟨⟨k+1,by omega,by go_num,(uh HB).step (uh HC) (uh HE) (by rw [uh HP];exact uh HO1) (uh HB1)⟩,by simp [intOf];omega⟩
      · have HE:Hid (escB 12=[92,102]):=by show _=_;decide
        have hz:(s[k].toNat:Int)=12:=by rw [hcg];rfl
        have HL:Hid (pre.length+[(92:UInt8),(102:UInt8)].length≤140000000000000):=by have:=uh HL6;show _+2≤_;omega
        clear hcg HL6
        go_wp2_with (at_builtin;refine wpl_apB [92,102] wr _ w.heap.size _ pre rfl _ _ rfl rfl rfl rfl HO HSZ HL ?_)
        intro v' w1 HO1 HB1 _
        go_wp2
        all_goals exact ⟨⟨k+1,by omega,by go_num,(uh HB).step (uh HC) (uh HE) (by rw [uh HP];exact uh HO1) (uh HB1)⟩,by simp [intOf];omega⟩
      · have HE:Hid (escB 13=[92,114]):=by show _=_;decide
        have hz:(s[k].toNat:Int)=13:=by rw [hcg];rfl
        have HL:Hid (pre.length+[(92:UInt8),(114:UInt8)].length≤140000000000000):=by have:=uh HL6;show _+2≤_;omega
        clear hcg HL6
        go_wp2_with (at_builtin;refine wpl_apB [92,114] wr _ w.heap.size _ pre rfl _ _ rfl rfl rfl rfl HO HSZ HL ?_)
        intro v' w1 HO1 HB1 _
        go_wp2
        all_goals exact ⟨⟨k+1,by omega,by go_num,(uh HB).step (uh HC) (uh HE) (by rw [uh HP];exact uh HO1) (uh HB1)⟩,by simp [intOf];omega⟩
      · have HE:Hid (escB 0=[92,117,48,48,48,48]):=by show _=_;decide
        have hz:(s[k].toNat:Int)=0:=by rw [hcg];rfl
        have HL:Hid (pre.length+[(92:UInt8),(117:UInt8),(48:UInt8),(48:UInt8),(48:UInt8),(48:UInt8)].length≤140000000000000):=by have:=uh HL6;show _+6≤_;omega
        clear hcg HL6
        have hw1:IntKind.u8.wrap 0=0:=by decide
        have hw2:IntKind.u8.wrap 0=0:=by decide
        go_upto_region 9 with fail
        go_region_law (refine step_apB [92,117,48,48,48,48] wr.drew _ w.heap.size _ pre rfl _ _ rfl rfl rfl rfl HO HSZ HL ?_
                       intro v' w1 HO1 HB0 _
                       have HB1:Hid (Below w.heap.size wr w1):=⟨(uh HB0).os,(uh HB0).tape,(uh HB0).output,(uh HB0).size,(uh HB0).block⟩)
        all_goals go_wp2
        all_goals exact ⟨⟨k+1,by omega,by go_num,(uh HB).step (uh HC) (uh HE) (by rw [uh HP];exact uh HO1) (uh HB1)⟩,by simp [intOf];omega⟩
      · have HE:Hid (escB 1=[92,117,48,48,48,49]):=by show _=_;decide
        have hz:(s[k].toNat:Int)=1:=by rw [hcg];rfl
        have HL:Hid (pre.length+[(92:UInt8),(117:UInt8),(48:UInt8),(48:UInt8),(48:UInt8),(49:UInt8)].length≤140000000000000):=by have:=uh HL6;show _+6≤_;omega
        clear hcg HL6
        have hw1:IntKind.u8.wrap 0=0:=by decide
        have hw2:IntKind.u8.wrap 1=1:=by decide
        go_upto_region 9 with fail
        go_region_law (refine step_apB [92,117,48,48,48,49] wr.drew _ w.heap.size _ pre rfl _ _ rfl rfl rfl rfl HO HSZ HL ?_
                       intro v' w1 HO1 HB0 _
                       have HB1:Hid (Below w.heap.size wr w1):=⟨(uh HB0).os,(uh HB0).tape,(uh HB0).output,(uh HB0).size,(uh HB0).block⟩)
        all_goals go_wp2
        all_goals exact ⟨⟨k+1,by omega,by go_num,(uh HB).step (uh HC) (uh HE) (by rw [uh HP];exact uh HO1) (uh HB1)⟩,by simp [intOf];omega⟩
      · have HE:Hid (escB 2=[92,117,48,48,48,50]):=by show _=_;decide
        have hz:(s[k].toNat:Int)=2:=by rw [hcg];rfl
        have HL:Hid (pre.length+[(92:UInt8),(117:UInt8),(48:UInt8),(48:UInt8),(48:UInt8),(50:UInt8)].length≤140000000000000):=by have:=uh HL6;show _+6≤_;omega
        clear hcg HL6
        have hw1:IntKind.u8.wrap 0=0:=by decide
        have hw2:IntKind.u8.wrap 2=2:=by decide
        go_upto_region 9 with fail
        go_region_law (refine step_apB [92,117,48,48,48,50] wr.drew _ w.heap.size _ pre rfl _ _ rfl rfl rfl rfl HO HSZ HL ?_
                       intro v' w1 HO1 HB0 _
                       have HB1:Hid (Below w.heap.size wr w1):=⟨(uh HB0).os,(uh HB0).tape,(uh HB0).output,(uh HB0).size,(uh HB0).block⟩)
        all_goals go_wp2
        all_goals exact ⟨⟨k+1,by omega,by go_num,(uh HB).step (uh HC) (uh HE) (by rw [uh HP];exact uh HO1) (uh HB1)⟩,by simp [intOf];omega⟩
      · have HE:Hid (escB 3=[92,117,48,48,48,51]):=by show _=_;decide
        have hz:(s[k].toNat:Int)=3:=by rw [hcg];rfl
        have HL:Hid (pre.length+[(92:UInt8),(117:UInt8),(48:UInt8),(48:UInt8),(48:UInt8),(51:UInt8)].length≤140000000000000):=by have:=uh HL6;show _+6≤_;omega
        clear hcg HL6
        have hw1:IntKind.u8.wrap 0=0:=by decide
        have hw2:IntKind.u8.wrap 3=3:=by decide
        go_upto_region 9 with fail
        go_region_law (refine step_apB [92,117,48,48,48,51] wr.drew _ w.heap.size _ pre rfl _ _ rfl rfl rfl rfl HO HSZ HL ?_
                       intro v' w1 HO1 HB0 _
                       have HB1:Hid (Below w.heap.size wr w1):=⟨(uh HB0).os,(uh HB0).tape,(uh HB0).output,(uh HB0).size,(uh HB0).block⟩)
        all_goals go_wp2
        all_goals exact ⟨⟨k+1,by omega,by go_num,(uh HB).step (uh HC) (uh HE) (by rw [uh HP];exact uh HO1) (uh HB1)⟩,by simp [intOf];omega⟩
      · have HE:Hid (escB 4=[92,117,48,48,48,52]):=by show _=_;decide
        have hz:(s[k].toNat:Int)=4:=by rw [hcg];rfl
        have HL:Hid (pre.length+[(92:UInt8),(117:UInt8),(48:UInt8),(48:UInt8),(48:UInt8),(52:UInt8)].length≤140000000000000):=by have:=uh HL6;show _+6≤_;omega
        clear hcg HL6
        have hw1:IntKind.u8.wrap 0=0:=by decide
        have hw2:IntKind.u8.wrap 4=4:=by decide
        go_upto_region 9 with fail
        go_region_law (refine step_apB [92,117,48,48,48,52] wr.drew _ w.heap.size _ pre rfl _ _ rfl rfl rfl rfl HO HSZ HL ?_
                       intro v' w1 HO1 HB0 _
                       have HB1:Hid (Below w.heap.size wr w1):=⟨(uh HB0).os,(uh HB0).tape,(uh HB0).output,(uh HB0).size,(uh HB0).block⟩)
        all_goals go_wp2
        all_goals exact ⟨⟨k+1,by omega,by go_num,(uh HB).step (uh HC) (uh HE) (by rw [uh HP];exact uh HO1) (uh HB1)⟩,by simp [intOf];omega⟩
      · have HE:Hid (escB 5=[92,117,48,48,48,53]):=by show _=_;decide
        have hz:(s[k].toNat:Int)=5:=by rw [hcg];rfl
        have HL:Hid (pre.length+[(92:UInt8),(117:UInt8),(48:UInt8),(48:UInt8),(48:UInt8),(53:UInt8)].length≤140000000000000):=by have:=uh HL6;show _+6≤_;omega
        clear hcg HL6
        have hw1:IntKind.u8.wrap 0=0:=by decide
        have hw2:IntKind.u8.wrap 5=5:=by decide
        go_upto_region 9 with fail
        go_region_law (refine step_apB [92,117,48,48,48,53] wr.drew _ w.heap.size _ pre rfl _ _ rfl rfl rfl rfl HO HSZ HL ?_
                       intro v' w1 HO1 HB0 _
                       have HB1:Hid (Below w.heap.size wr w1):=⟨(uh HB0).os,(uh HB0).tape,(uh HB0).output,(uh HB0).size,(uh HB0).block⟩)
        all_goals go_wp2
        all_goals exact ⟨⟨k+1,by omega,by go_num,(uh HB).step (uh HC) (uh HE) (by rw [uh HP];exact uh HO1) (uh HB1)⟩,by simp [intOf];omega⟩
      · have HE:Hid (escB 6=[92,117,48,48,48,54]):=by show _=_;decide
        have hz:(s[k].toNat:Int)=6:=by rw [hcg];rfl
        have HL:Hid (pre.length+[(92:UInt8),(117:UInt8),(48:UInt8),(48:UInt8),(48:UInt8),(54:UInt8)].length≤140000000000000):=by have:=uh HL6;show _+6≤_;omega
        clear hcg HL6
        have hw1:IntKind.u8.wrap 0=0:=by decide
        have hw2:IntKind.u8.wrap 6=6:=by decide
        go_upto_region 9 with fail
        go_region_law (refine step_apB [92,117,48,48,48,54] wr.drew _ w.heap.size _ pre rfl _ _ rfl rfl rfl rfl HO HSZ HL ?_
                       intro v' w1 HO1 HB0 _
                       have HB1:Hid (Below w.heap.size wr w1):=⟨(uh HB0).os,(uh HB0).tape,(uh HB0).output,(uh HB0).size,(uh HB0).block⟩)
        all_goals go_wp2
        all_goals exact ⟨⟨k+1,by omega,by go_num,(uh HB).step (uh HC) (uh HE) (by rw [uh HP];exact uh HO1) (uh HB1)⟩,by simp [intOf];omega⟩
      · have HE:Hid (escB 7=[92,117,48,48,48,55]):=by show _=_;decide
        have hz:(s[k].toNat:Int)=7:=by rw [hcg];rfl
        have HL:Hid (pre.length+[(92:UInt8),(117:UInt8),(48:UInt8),(48:UInt8),(48:UInt8),(55:UInt8)].length≤140000000000000):=by have:=uh HL6;show _+6≤_;omega
        clear hcg HL6
        have hw1:IntKind.u8.wrap 0=0:=by decide
        have hw2:IntKind.u8.wrap 7=7:=by decide
        go_upto_region 9 with fail
        go_region_law (refine step_apB [92,117,48,48,48,55] wr.drew _ w.heap.size _ pre rfl _ _ rfl rfl rfl rfl HO HSZ HL ?_
                       intro v' w1 HO1 HB0 _
                       have HB1:Hid (Below w.heap.size wr w1):=⟨(uh HB0).os,(uh HB0).tape,(uh HB0).output,(uh HB0).size,(uh HB0).block⟩)
        all_goals go_wp2
        all_goals exact ⟨⟨k+1,by omega,by go_num,(uh HB).step (uh HC) (uh HE) (by rw [uh HP];exact uh HO1) (uh HB1)⟩,by simp [intOf];omega⟩
      · have HE:Hid (escB 11=[92,117,48,48,48,98]):=by show _=_;decide
        have hz:(s[k].toNat:Int)=11:=by rw [hcg];rfl
        have HL:Hid (pre.length+[(92:UInt8),(117:UInt8),(48:UInt8),(48:UInt8),(48:UInt8),(98:UInt8)].length≤140000000000000):=by have:=uh HL6;show _+6≤_;omega
        clear hcg HL6
        have hw1:IntKind.u8.wrap 0=0:=by decide
        have hw2:IntKind.u8.wrap 11=11:=by decide
        go_upto_region 9 with fail
        go_region_law (refine step_apB [92,117,48,48,48,98] wr.drew _ w.heap.size _ pre rfl _ _ rfl rfl rfl rfl HO HSZ HL ?_
                       intro v' w1 HO1 HB0 _
                       have HB1:Hid (Below w.heap.size wr w1):=⟨(uh HB0).os,(uh HB0).tape,(uh HB0).output,(uh HB0).size,(uh HB0).block⟩)
        all_goals go_wp2
        all_goals exact ⟨⟨k+1,by omega,by go_num,(uh HB).step (uh HC) (uh HE) (by rw [uh HP];exact uh HO1) (uh HB1)⟩,by simp [intOf];omega⟩
      · have HE:Hid (escB 14=[92,117,48,48,48,101]):=by show _=_;decide
        have hz:(s[k].toNat:Int)=14:=by rw [hcg];rfl
        have HL:Hid (pre.length+[(92:UInt8),(117:UInt8),(48:UInt8),(48:UInt8),(48:UInt8),(101:UInt8)].length≤140000000000000):=by have:=uh HL6;show _+6≤_;omega
        clear hcg HL6
        have hw1:IntKind.u8.wrap 0=0:=by decide
        have hw2:IntKind.u8.wrap 14=14:=by decide
        go_upto_region 9 with fail
        go_region_law (refine step_apB [92,117,48,48,48,101] wr.drew _ w.heap.size _ pre rfl _ _ rfl rfl rfl rfl HO HSZ HL ?_
                       intro v' w1 HO1 HB0 _
                       have HB1:Hid (Below w.heap.size wr w1):=⟨(uh HB0).os,(uh HB0).tape,(uh HB0).output,(uh HB0).size,(uh HB0).block⟩)
        all_goals go_wp2
        all_goals exact ⟨⟨k+1,by omega,by go_num,(uh HB).step (uh HC) (uh HE) (by rw [uh HP];exact uh HO1) (uh HB1)⟩,by simp [intOf];omega⟩
      · have HE:Hid (escB 15=[92,117,48,48,48,102]):=by show _=_;decide
        have hz:(s[k].toNat:Int)=15:=by rw [hcg];rfl
        have HL:Hid (pre.length+[(92:UInt8),(117:UInt8),(48:UInt8),(48:UInt8),(48:UInt8),(102:UInt8)].length≤140000000000000):=by have:=uh HL6;show _+6≤_;omega
        clear hcg HL6
        have hw1:IntKind.u8.wrap 0=0:=by decide
        have hw2:IntKind.u8.wrap 15=15:=by decide
        go_upto_region 9 with fail
        go_region_law (refine step_apB [92,117,48,48,48,102] wr.drew _ w.heap.size _ pre rfl _ _ rfl rfl rfl rfl HO HSZ HL ?_
                       intro v' w1 HO1 HB0 _
                       have HB1:Hid (Below w.heap.size wr w1):=⟨(uh HB0).os,(uh HB0).tape,(uh HB0).output,(uh HB0).size,(uh HB0).block⟩)
        all_goals go_wp2
        all_goals exact ⟨⟨k+1,by omega,by go_num,(uh HB).step (uh HC) (uh HE) (by rw [uh HP];exact uh HO1) (uh HB1)⟩,by simp [intOf];omega⟩
      · have HE:Hid (escB 16=[92,117,48,48,49,48]):=by show _=_;decide
        have hz:(s[k].toNat:Int)=16:=by rw [hcg];rfl
        have HL:Hid (pre.length+[(92:UInt8),(117:UInt8),(48:UInt8),(48:UInt8),(49:UInt8),(48:UInt8)].length≤140000000000000):=by have:=uh HL6;show _+6≤_;omega
        clear hcg HL6
        have hw1:IntKind.u8.wrap 1=1:=by decide
        have hw2:IntKind.u8.wrap 0=0:=by decide
        go_upto_region 9 with fail
        go_region_law (refine step_apB [92,117,48,48,49,48] wr.drew _ w.heap.size _ pre rfl _ _ rfl rfl rfl rfl HO HSZ HL ?_
                       intro v' w1 HO1 HB0 _
                       have HB1:Hid (Below w.heap.size wr w1):=⟨(uh HB0).os,(uh HB0).tape,(uh HB0).output,(uh HB0).size,(uh HB0).block⟩)
        all_goals go_wp2
        all_goals exact ⟨⟨k+1,by omega,by go_num,(uh HB).step (uh HC) (uh HE) (by rw [uh HP];exact uh HO1) (uh HB1)⟩,by simp [intOf];omega⟩
      · have HE:Hid (escB 17=[92,117,48,48,49,49]):=by show _=_;decide
        have hz:(s[k].toNat:Int)=17:=by rw [hcg];rfl
        have HL:Hid (pre.length+[(92:UInt8),(117:UInt8),(48:UInt8),(48:UInt8),(49:UInt8),(49:UInt8)].length≤140000000000000):=by have:=uh HL6;show _+6≤_;omega
        clear hcg HL6
        have hw1:IntKind.u8.wrap 1=1:=by decide
        have hw2:IntKind.u8.wrap 1=1:=by decide
        go_upto_region 9 with fail
        go_region_law (refine step_apB [92,117,48,48,49,49] wr.drew _ w.heap.size _ pre rfl _ _ rfl rfl rfl rfl HO HSZ HL ?_
                       intro v' w1 HO1 HB0 _
                       have HB1:Hid (Below w.heap.size wr w1):=⟨(uh HB0).os,(uh HB0).tape,(uh HB0).output,(uh HB0).size,(uh HB0).block⟩)
        all_goals go_wp2
        all_goals exact ⟨⟨k+1,by omega,by go_num,(uh HB).step (uh HC) (uh HE) (by rw [uh HP];exact uh HO1) (uh HB1)⟩,by simp [intOf];omega⟩
      · have HE:Hid (escB 18=[92,117,48,48,49,50]):=by show _=_;decide
        have hz:(s[k].toNat:Int)=18:=by rw [hcg];rfl
        have HL:Hid (pre.length+[(92:UInt8),(117:UInt8),(48:UInt8),(48:UInt8),(49:UInt8),(50:UInt8)].length≤140000000000000):=by have:=uh HL6;show _+6≤_;omega
        clear hcg HL6
        have hw1:IntKind.u8.wrap 1=1:=by decide
        have hw2:IntKind.u8.wrap 2=2:=by decide
        go_upto_region 9 with fail
        go_region_law (refine step_apB [92,117,48,48,49,50] wr.drew _ w.heap.size _ pre rfl _ _ rfl rfl rfl rfl HO HSZ HL ?_
                       intro v' w1 HO1 HB0 _
                       have HB1:Hid (Below w.heap.size wr w1):=⟨(uh HB0).os,(uh HB0).tape,(uh HB0).output,(uh HB0).size,(uh HB0).block⟩)
        all_goals go_wp2
        all_goals exact ⟨⟨k+1,by omega,by go_num,(uh HB).step (uh HC) (uh HE) (by rw [uh HP];exact uh HO1) (uh HB1)⟩,by simp [intOf];omega⟩
      · have HE:Hid (escB 19=[92,117,48,48,49,51]):=by show _=_;decide
        have hz:(s[k].toNat:Int)=19:=by rw [hcg];rfl
        have HL:Hid (pre.length+[(92:UInt8),(117:UInt8),(48:UInt8),(48:UInt8),(49:UInt8),(51:UInt8)].length≤140000000000000):=by have:=uh HL6;show _+6≤_;omega
        clear hcg HL6
        have hw1:IntKind.u8.wrap 1=1:=by decide
        have hw2:IntKind.u8.wrap 3=3:=by decide
        go_upto_region 9 with fail
        go_region_law (refine step_apB [92,117,48,48,49,51] wr.drew _ w.heap.size _ pre rfl _ _ rfl rfl rfl rfl HO HSZ HL ?_
                       intro v' w1 HO1 HB0 _
                       have HB1:Hid (Below w.heap.size wr w1):=⟨(uh HB0).os,(uh HB0).tape,(uh HB0).output,(uh HB0).size,(uh HB0).block⟩)
        all_goals go_wp2
        all_goals exact ⟨⟨k+1,by omega,by go_num,(uh HB).step (uh HC) (uh HE) (by rw [uh HP];exact uh HO1) (uh HB1)⟩,by simp [intOf];omega⟩
      · have HE:Hid (escB 20=[92,117,48,48,49,52]):=by show _=_;decide
        have hz:(s[k].toNat:Int)=20:=by rw [hcg];rfl
        have HL:Hid (pre.length+[(92:UInt8),(117:UInt8),(48:UInt8),(48:UInt8),(49:UInt8),(52:UInt8)].length≤140000000000000):=by have:=uh HL6;show _+6≤_;omega
        clear hcg HL6
        have hw1:IntKind.u8.wrap 1=1:=by decide
        have hw2:IntKind.u8.wrap 4=4:=by decide
        go_upto_region 9 with fail
        go_region_law (refine step_apB [92,117,48,48,49,52] wr.drew _ w.heap.size _ pre rfl _ _ rfl rfl rfl rfl HO HSZ HL ?_
                       intro v' w1 HO1 HB0 _
                       have HB1:Hid (Below w.heap.size wr w1):=⟨(uh HB0).os,(uh HB0).tape,(uh HB0).output,(uh HB0).size,(uh HB0).block⟩)
        all_goals go_wp2
        all_goals exact ⟨⟨k+1,by omega,by go_num,(uh HB).step (uh HC) (uh HE) (by rw [uh HP];exact uh HO1) (uh HB1)⟩,by simp [intOf];omega⟩
      · have HE:Hid (escB 21=[92,117,48,48,49,53]):=by show _=_;decide
        have hz:(s[k].toNat:Int)=21:=by rw [hcg];rfl
        have HL:Hid (pre.length+[(92:UInt8),(117:UInt8),(48:UInt8),(48:UInt8),(49:UInt8),(53:UInt8)].length≤140000000000000):=by have:=uh HL6;show _+6≤_;omega
        clear hcg HL6
        have hw1:IntKind.u8.wrap 1=1:=by decide
        have hw2:IntKind.u8.wrap 5=5:=by decide
        go_upto_region 9 with fail
        go_region_law (refine step_apB [92,117,48,48,49,53] wr.drew _ w.heap.size _ pre rfl _ _ rfl rfl rfl rfl HO HSZ HL ?_
                       intro v' w1 HO1 HB0 _
                       have HB1:Hid (Below w.heap.size wr w1):=⟨(uh HB0).os,(uh HB0).tape,(uh HB0).output,(uh HB0).size,(uh HB0).block⟩)
        all_goals go_wp2
        all_goals exact ⟨⟨k+1,by omega,by go_num,(uh HB).step (uh HC) (uh HE) (by rw [uh HP];exact uh HO1) (uh HB1)⟩,by simp [intOf];omega⟩
      · have HE:Hid (escB 22=[92,117,48,48,49,54]):=by show _=_;decide
        have hz:(s[k].toNat:Int)=22:=by rw [hcg];rfl
        have HL:Hid (pre.length+[(92:UInt8),(117:UInt8),(48:UInt8),(48:UInt8),(49:UInt8),(54:UInt8)].length≤140000000000000):=by have:=uh HL6;show _+6≤_;omega
        clear hcg HL6
        have hw1:IntKind.u8.wrap 1=1:=by decide
        have hw2:IntKind.u8.wrap 6=6:=by decide
        go_upto_region 9 with fail
        go_region_law (refine step_apB [92,117,48,48,49,54] wr.drew _ w.heap.size _ pre rfl _ _ rfl rfl rfl rfl HO HSZ HL ?_
                       intro v' w1 HO1 HB0 _
                       have HB1:Hid (Below w.heap.size wr w1):=⟨(uh HB0).os,(uh HB0).tape,(uh HB0).output,(uh HB0).size,(uh HB0).block⟩)
        all_goals go_wp2
        all_goals exact ⟨⟨k+1,by omega,by go_num,(uh HB).step (uh HC) (uh HE) (by rw [uh HP];exact uh HO1) (uh HB1)⟩,by simp [intOf];omega⟩
      · have HE:Hid (escB 23=[92,117,48,48,49,55]):=by show _=_;decide
        have hz:(s[k].toNat:Int)=23:=by rw [hcg];rfl
        have HL:Hid (pre.length+[(92:UInt8),(117:UInt8),(48:UInt8),(48:UInt8),(49:UInt8),(55:UInt8)].length≤140000000000000):=by have:=uh HL6;show _+6≤_;omega
        clear hcg HL6
        have hw1:IntKind.u8.wrap 1=1:=by decide
        have hw2:IntKind.u8.wrap 7=7:=by decide
        go_upto_region 9 with fail
        go_region_law (refine step_apB [92,117,48,48,49,55] wr.drew _ w.heap.size _ pre rfl _ _ rfl rfl rfl rfl HO HSZ HL ?_
                       intro v' w1 HO1 HB0 _
                       have HB1:Hid (Below w.heap.size wr w1):=⟨(uh HB0).os,(uh HB0).tape,(uh HB0).output,(uh HB0).size,(uh HB0).block⟩)
        all_goals go_wp2
        all_goals exact ⟨⟨k+1,by omega,by go_num,(uh HB).step (uh HC) (uh HE) (by rw [uh HP];exact uh HO1) (uh HB1)⟩,by simp [intOf];omega⟩
      · have HE:Hid (escB 24=[92,117,48,48,49,56]):=by show _=_;decide
        have hz:(s[k].toNat:Int)=24:=by rw [hcg];rfl
        have HL:Hid (pre.length+[(92:UInt8),(117:UInt8),(48:UInt8),(48:UInt8),(49:UInt8),(56:UInt8)].length≤140000000000000):=by have:=uh HL6;show _+6≤_;omega
        clear hcg HL6
        have hw1:IntKind.u8.wrap 1=1:=by decide
        have hw2:IntKind.u8.wrap 8=8:=by decide
        go_upto_region 9 with fail
        go_region_law (refine step_apB [92,117,48,48,49,56] wr.drew _ w.heap.size _ pre rfl _ _ rfl rfl rfl rfl HO HSZ HL ?_
                       intro v' w1 HO1 HB0 _
                       have HB1:Hid (Below w.heap.size wr w1):=⟨(uh HB0).os,(uh HB0).tape,(uh HB0).output,(uh HB0).size,(uh HB0).block⟩)
        all_goals go_wp2
        all_goals exact ⟨⟨k+1,by omega,by go_num,(uh HB).step (uh HC) (uh HE) (by rw [uh HP];exact uh HO1) (uh HB1)⟩,by simp [intOf];omega⟩
      · have HE:Hid (escB 25=[92,117,48,48,49,57]):=by show _=_;decide
        have hz:(s[k].toNat:Int)=25:=by rw [hcg];rfl
        have HL:Hid (pre.length+[(92:UInt8),(117:UInt8),(48:UInt8),(48:UInt8),(49:UInt8),(57:UInt8)].length≤140000000000000):=by have:=uh HL6;show _+6≤_;omega
        clear hcg HL6
        have hw1:IntKind.u8.wrap 1=1:=by decide
        have hw2:IntKind.u8.wrap 9=9:=by decide
        go_upto_region 9 with fail
        go_region_law (refine step_apB [92,117,48,48,49,57] wr.drew _ w.heap.size _ pre rfl _ _ rfl rfl rfl rfl HO HSZ HL ?_
                       intro v' w1 HO1 HB0 _
                       have HB1:Hid (Below w.heap.size wr w1):=⟨(uh HB0).os,(uh HB0).tape,(uh HB0).output,(uh HB0).size,(uh HB0).block⟩)
        all_goals go_wp2
        all_goals exact ⟨⟨k+1,by omega,by go_num,(uh HB).step (uh HC) (uh HE) (by rw [uh HP];exact uh HO1) (uh HB1)⟩,by simp [intOf];omega⟩
      · have HE:Hid (escB 26=[92,117,48,48,49,97]):=by show _=_;decide
        have hz:(s[k].toNat:Int)=26:=by rw [hcg];rfl
        have HL:Hid (pre.length+[(92:UInt8),(117:UInt8),(48:UInt8),(48:UInt8),(49:UInt8),(97:UInt8)].length≤140000000000000):=by have:=uh HL6;show _+6≤_;omega
        clear hcg HL6
        have hw1:IntKind.u8.wrap 1=1:=by decide
        have hw2:IntKind.u8.wrap 10=10:=by decide
        go_upto_region 9 with fail
        go_region_law (refine step_apB [92,117,48,48,49,97] wr.drew _ w.heap.size _ pre rfl _ _ rfl rfl rfl rfl HO HSZ HL ?_
                       intro v' w1 HO1 HB0 _
                       have HB1:Hid (Below w.heap.size wr w1):=⟨(uh HB0).os,(uh HB0).tape,(uh HB0).output,(uh HB0).size,(uh HB0).block⟩)
        all_goals go_wp2
        all_goals exact ⟨⟨k+1,by omega,by go_num,(uh HB).step (uh HC) (uh HE) (by rw [uh HP];exact uh HO1) (uh HB1)⟩,by simp [intOf];omega⟩
      · have HE:Hid (escB 27=[92,117,48,48,49,98]):=by show _=_;decide
        have hz:(s[k].toNat:Int)=27:=by rw [hcg];rfl
        have HL:Hid (pre.length+[(92:UInt8),(117:UInt8),(48:UInt8),(48:UInt8),(49:UInt8),(98:UInt8)].length≤140000000000000):=by have:=uh HL6;show _+6≤_;omega
        clear hcg HL6
        have hw1:IntKind.u8.wrap 1=1:=by decide
        have hw2:IntKind.u8.wrap 11=11:=by decide
        go_upto_region 9 with fail
        go_region_law (refine step_apB [92,117,48,48,49,98] wr.drew _ w.heap.size _ pre rfl _ _ rfl rfl rfl rfl HO HSZ HL ?_
                       intro v' w1 HO1 HB0 _
                       have HB1:Hid (Below w.heap.size wr w1):=⟨(uh HB0).os,(uh HB0).tape,(uh HB0).output,(uh HB0).size,(uh HB0).block⟩)
        all_goals go_wp2
        all_goals exact ⟨⟨k+1,by omega,by go_num,(uh HB).step (uh HC) (uh HE) (by rw [uh HP];exact uh HO1) (uh HB1)⟩,by simp [intOf];omega⟩
      · have HE:Hid (escB 28=[92,117,48,48,49,99]):=by show _=_;decide
        have hz:(s[k].toNat:Int)=28:=by rw [hcg];rfl
        have HL:Hid (pre.length+[(92:UInt8),(117:UInt8),(48:UInt8),(48:UInt8),(49:UInt8),(99:UInt8)].length≤140000000000000):=by have:=uh HL6;show _+6≤_;omega
        clear hcg HL6
        have hw1:IntKind.u8.wrap 1=1:=by decide
        have hw2:IntKind.u8.wrap 12=12:=by decide
        go_upto_region 9 with fail
        go_region_law (refine step_apB [92,117,48,48,49,99] wr.drew _ w.heap.size _ pre rfl _ _ rfl rfl rfl rfl HO HSZ HL ?_
                       intro v' w1 HO1 HB0 _
                       have HB1:Hid (Below w.heap.size wr w1):=⟨(uh HB0).os,(uh HB0).tape,(uh HB0).output,(uh HB0).size,(uh HB0).block⟩)
        all_goals go_wp2
        all_goals exact ⟨⟨k+1,by omega,by go_num,(uh HB).step (uh HC) (uh HE) (by rw [uh HP];exact uh HO1) (uh HB1)⟩,by simp [intOf];omega⟩
      · have HE:Hid (escB 29=[92,117,48,48,49,100]):=by show _=_;decide
        have hz:(s[k].toNat:Int)=29:=by rw [hcg];rfl
        have HL:Hid (pre.length+[(92:UInt8),(117:UInt8),(48:UInt8),(48:UInt8),(49:UInt8),(100:UInt8)].length≤140000000000000):=by have:=uh HL6;show _+6≤_;omega
        clear hcg HL6
        have hw1:IntKind.u8.wrap 1=1:=by decide
        have hw2:IntKind.u8.wrap 13=13:=by decide
        go_upto_region 9 with fail
        go_region_law (refine step_apB [92,117,48,48,49,100] wr.drew _ w.heap.size _ pre rfl _ _ rfl rfl rfl rfl HO HSZ HL ?_
                       intro v' w1 HO1 HB0 _
                       have HB1:Hid (Below w.heap.size wr w1):=⟨(uh HB0).os,(uh HB0).tape,(uh HB0).output,(uh HB0).size,(uh HB0).block⟩)
        all_goals go_wp2
        all_goals exact ⟨⟨k+1,by omega,by go_num,(uh HB).step (uh HC) (uh HE) (by rw [uh HP];exact uh HO1) (uh HB1)⟩,by simp [intOf];omega⟩
      · have HE:Hid (escB 30=[92,117,48,48,49,101]):=by show _=_;decide
        have hz:(s[k].toNat:Int)=30:=by rw [hcg];rfl
        have HL:Hid (pre.length+[(92:UInt8),(117:UInt8),(48:UInt8),(48:UInt8),(49:UInt8),(101:UInt8)].length≤140000000000000):=by have:=uh HL6;show _+6≤_;omega
        clear hcg HL6
        have hw1:IntKind.u8.wrap 1=1:=by decide
        have hw2:IntKind.u8.wrap 14=14:=by decide
        go_upto_region 9 with fail
        go_region_law (refine step_apB [92,117,48,48,49,101] wr.drew _ w.heap.size _ pre rfl _ _ rfl rfl rfl rfl HO HSZ HL ?_
                       intro v' w1 HO1 HB0 _
                       have HB1:Hid (Below w.heap.size wr w1):=⟨(uh HB0).os,(uh HB0).tape,(uh HB0).output,(uh HB0).size,(uh HB0).block⟩)
        all_goals go_wp2
        all_goals exact ⟨⟨k+1,by omega,by go_num,(uh HB).step (uh HC) (uh HE) (by rw [uh HP];exact uh HO1) (uh HB1)⟩,by simp [intOf];omega⟩
      · have HE:Hid (escB 31=[92,117,48,48,49,102]):=by show _=_;decide
        have hz:(s[k].toNat:Int)=31:=by rw [hcg];rfl
        have HL:Hid (pre.length+[(92:UInt8),(117:UInt8),(48:UInt8),(48:UInt8),(49:UInt8),(102:UInt8)].length≤140000000000000):=by have:=uh HL6;show _+6≤_;omega
        clear hcg HL6
        have hw1:IntKind.u8.wrap 1=1:=by decide
        have hw2:IntKind.u8.wrap 15=15:=by decide
        go_upto_region 9 with fail
        go_region_law (refine step_apB [92,117,48,48,49,102] wr.drew _ w.heap.size _ pre rfl _ _ rfl rfl rfl rfl HO HSZ HL ?_
                       intro v' w1 HO1 HB0 _
                       have HB1:Hid (Below w.heap.size wr w1):=⟨(uh HB0).os,(uh HB0).tape,(uh HB0).output,(uh HB0).size,(uh HB0).block⟩)
        all_goals go_wp2
        all_goals exact ⟨⟨k+1,by omega,by go_num,(uh HB).step (uh HC) (uh HE) (by rw [uh HP];exact uh HO1) (uh HB1)⟩,by simp [intOf];omega⟩
    · have HE:Hid (escB c=[c]):=by
       show _=_
       unfold escB
       rw [if_neg (by simp_all),if_neg (by simp_all),if_neg (by simp_all),if_neg (by simp_all),if_neg (by simp_all),if_neg (by simp_all),if_neg]
       intro q
       apply hcc
       have:c.toNat=0∨c.toNat=1∨c.toNat=2∨c.toNat=3∨c.toNat=4∨c.toNat=5∨c.toNat=6∨c.toNat=7∨c.toNat=8∨c.toNat=9∨c.toNat=10∨c.toNat=11∨c.toNat=12∨c.toNat=13∨c.toNat=14∨c.toNat=15∨c.toNat=16∨c.toNat=17∨c.toNat=18∨c.toNat=19∨c.toNat=20∨c.toNat=21∨c.toNat=22∨c.toNat=23∨c.toNat=24∨c.toNat=25∨c.toNat=26∨c.toNat=27∨c.toNat=28∨c.toNat=29∨c.toNat=30∨c.toNat=31:=by omega
       have e:∀ z:UInt8,c.toNat=z.toNat→c=z:=fun z h=>UInt8.toNat_inj.mp h
       rcases this with h|h|h|h|h|h|h|h|h|h|h|h|h|h|h|h|h|h|h|h|h|h|h|h|h|h|h|h|h|h|h|h
       · have:=e 0 h;simp [this]
       · have:=e 1 h;simp [this]
       · have:=e 2 h;simp [this]
       · have:=e 3 h;simp [this]
       · have:=e 4 h;simp [this]
       · have:=e 5 h;simp [this]
       · have:=e 6 h;simp [this]
       · have:=e 7 h;simp [this]
       · have:=e 8 h;simp [this]
       · have:=e 9 h;simp [this]
       · have:=e 10 h;simp [this]
       · have:=e 11 h;simp [this]
       · have:=e 12 h;simp [this]
       · have:=e 13 h;simp [this]
       · have:=e 14 h;simp [this]
       · have:=e 15 h;simp [this]
       · have:=e 16 h;simp [this]
       · have:=e 17 h;simp [this]
       · have:=e 18 h;simp [this]
       · have:=e 19 h;simp [this]
       · have:=e 20 h;simp [this]
       · have:=e 21 h;simp [this]
       · have:=e 22 h;simp [this]
       · have:=e 23 h;simp [this]
       · have:=e 24 h;simp [this]
       · have:=e 25 h;simp [this]
       · have:=e 26 h;simp [this]
       · have:=e 27 h;simp [this]
       · have:=e 28 h;simp [this]
       · have:=e 29 h;simp [this]
       · have:=e 30 h;simp [this]
       · have:=e 31 h;simp [this]
      have hn:∀ z:UInt8,c≠z→¬ (c.toNat:Int)=(z.toNat:Int):=fun z h q=>h (UInt8.toNat_inj.mp (by omega))
      have n34:¬ (c.toNat:Int)=34:=hn 34 (fun q=>hcc (by simp [q]))
      have n92:¬ (c.toNat:Int)=92:=hn 92 (fun q=>hcc (by simp [q]))
      have n8:¬ (c.toNat:Int)=8:=hn 8 (fun q=>hcc (by simp [q]))
      have n9:¬ (c.toNat:Int)=9:=hn 9 (fun q=>hcc (by simp [q]))
      have n10:¬ (c.toNat:Int)=10:=hn 10 (fun q=>hcc (by simp [q]))
      have n12:¬ (c.toNat:Int)=12:=hn 12 (fun q=>hcc (by simp [q]))
      have n13:¬ (c.toNat:Int)=13:=hn 13 (fun q=>hcc (by simp [q]))
      have n32:¬ (c.toNat:Int) < 32:=by
       intro q
       apply hcc
       have:c.toNat=0∨c.toNat=1∨c.toNat=2∨c.toNat=3∨c.toNat=4∨c.toNat=5∨c.toNat=6∨c.toNat=7∨c.toNat=8∨c.toNat=9∨c.toNat=10∨c.toNat=11∨c.toNat=12∨c.toNat=13∨c.toNat=14∨c.toNat=15∨c.toNat=16∨c.toNat=17∨c.toNat=18∨c.toNat=19∨c.toNat=20∨c.toNat=21∨c.toNat=22∨c.toNat=23∨c.toNat=24∨c.toNat=25∨c.toNat=26∨c.toNat=27∨c.toNat=28∨c.toNat=29∨c.toNat=30∨c.toNat=31:=by omega
       have e:∀ z:UInt8,c.toNat=z.toNat→c=z:=fun z h=>UInt8.toNat_inj.mp h
       rcases this with h|h|h|h|h|h|h|h|h|h|h|h|h|h|h|h|h|h|h|h|h|h|h|h|h|h|h|h|h|h|h|h
       · have:=e 0 h;simp [this]
       · have:=e 1 h;simp [this]
       · have:=e 2 h;simp [this]
       · have:=e 3 h;simp [this]
       · have:=e 4 h;simp [this]
       · have:=e 5 h;simp [this]
       · have:=e 6 h;simp [this]
       · have:=e 7 h;simp [this]
       · have:=e 8 h;simp [this]
       · have:=e 9 h;simp [this]
       · have:=e 10 h;simp [this]
       · have:=e 11 h;simp [this]
       · have:=e 12 h;simp [this]
       · have:=e 13 h;simp [this]
       · have:=e 14 h;simp [this]
       · have:=e 15 h;simp [this]
       · have:=e 16 h;simp [this]
       · have:=e 17 h;simp [this]
       · have:=e 18 h;simp [this]
       · have:=e 19 h;simp [this]
       · have:=e 20 h;simp [this]
       · have:=e 21 h;simp [this]
       · have:=e 22 h;simp [this]
       · have:=e 23 h;simp [this]
       · have:=e 24 h;simp [this]
       · have:=e 25 h;simp [this]
       · have:=e 26 h;simp [this]
       · have:=e 27 h;simp [this]
       · have:=e 28 h;simp [this]
       · have:=e 29 h;simp [this]
       · have:=e 30 h;simp [this]
       · have:=e 31 h;simp [this]
      have hz:(s[k].toNat:Int)=(c.toNat:Int):=by rw [hcg]
      have HL:Hid (pre.length+[c].length≤140000000000000):=by have:=uh HL6;show _+1≤_;omega
      clear hcg HL6 hcc hn
      go_wp2_with (at_builtin;refine wpl_apB [c] wr _ w.heap.size _ pre rfl _ _ rfl rfl rfl rfl HO HSZ HL ?_)
      intro v' w1 HO1 HB1 _
      go_wp2
      exact ⟨⟨k+1,by omega,by go_num,(uh HB).step (uh HC) (uh HE) (by rw [uh HP];exact uh HO1) (uh HB1)⟩,by simp [intOf];omega⟩
  · have hlt':¬ (k:Int) < (s.size:Int):=by omega
    obtain rfl:k=s.size:=by omega
    have e1:s.data.toList.take s.size=s.data.toList:=List.take_of_length_le (by rw [Array.length_toList];exact Nat.le_refl _)
    obtain ⟨HO,HBe⟩:=HB
    rw [e1] at HO hln
    have hlx:s.data.toList.length=s.size:=Array.length_toList
    have HO':=hide HO
    have HSZ:=hide hsz
    have HBe':=hide HBe
    have HL:Hid ((34::s.data.toList.flatMap escB).length+[(34:UInt8)].length≤140000000000000):=by show _+1≤_;rw [List.length_cons];omega
    clear HO HBe hln hst hsz e1 hlx
    go_wp2_with (at_builtin;refine wpl_apB [34] wr _ w.heap.size _ _ rfl _ _ rfl rfl rfl rfl HO' HSZ HL ?_)
    intro v' w1 HO1 HB1 _
    have hcv:=(uh HO1).str
    go_wp2
    go_ret
    refine ⟨?_,(uh HBe').trans (uh HB1)⟩
    rw [uh HT]
    rfl
end Go.Proofs.YthakglomacijgaaGreatDoor.rd
