/- Texts in one: Rw -/
import Derived.Test.YthnhobplgmojeaaGreatDoorPvP
import Derived.Test.YthnhobplgmojeaaGreatDoorSdP
import Derived.Shelf.Unicode.DecodeLastEight
namespace Go.Proofs.YthnhobplgmojeaaGreatDoor.rd
open Go.RowKit
def lettF (s:ByteArray):Nat→Nat→List UInt8→(List UInt8 × Nat) ⊕ Nat
 | 0,k,_=>.inr k
 | f+1,k,acc =>
   if nxt s k=34 then .inl (acc,k+1) else
   if (letAt (s.extract k s.size)).2=0 then .inr k
   else lettF s f (k+(letAt (s.extract k s.size)).2.toNat) (acc++Lib.encodeRune (letAt (s.extract k s.size)).1)
def letts (s:ByteArray) (k:Nat):(List UInt8 × Nat) ⊕ Nat:=lettF s (s.size+1 - k) (k+1) []
theorem hexv_lt (c:UInt8) (d:Nat) (h:hexv c=some d):d≤15:=by
 unfold hexv at h
 repeat' split at h
 all_goals simp at h
 all_goals omega
theorem hexFrom_lt (l:List UInt8) (n m:Nat) (h:hexFrom l n=some m):m < (n+1)*16 ^ l.length:=by
 induction l generalizing n with
 | nil =>
   simp only [hexFrom,Option.some.injEq] at h;simp;omega
 | cons c l ih =>
   simp only [hexFrom] at h
   split at h
   · cases h
   · rename_i d hd
     have h1:=hexv_lt c d hd;have h2:=ih _ h;have h3:(n*16+d+1)*16 ^ l.length≤(n+1)*16*16 ^ l.length:=Nat.mul_le_mul_right _ (by omega);simp only [List.length_cons];rw [Nat.pow_succ,Nat.mul_comm (16 ^ l.length) 16,← Nat.mul_assoc];omega
theorem numd_bd (s:ByteArray):0≤(numd s).2∧(numd s).2≤s.size∧0≤(numd s).1∧(numd s).1≤2147483647:=by
 unfold numd
 split
 · simp
 · rename_i n h1
   have z1:=numAt_size s n h1
   have n1:n < 65536:=by
    unfold numAt at h1
    split at h1
    · have h2:=hexFrom_lt _ _ _ h1
      have h3:(s.extract 2 6).data.toList.length≤4:=by
       have e:(s.extract 2 6).data.toList.length=(s.extract 2 6).size:=by rw [Array.length_toList];rfl
       rw [e,ByteArray.size_extract];omega
      have h4:16 ^ (s.extract 2 6).data.toList.length≤16 ^ 4:=Nat.pow_le_pow_right (by omega) h3;omega
    · cases h1
   split
   · simp only;omega
   · split
     · simp
     · split
       · simp
       · rename_i m h2
         have z2:=numAt_size _ m h2;rw [ByteArray.size_extract] at z2
         split
         · simp
         · simp only;omega
theorem esc_bd (s:ByteArray):0≤(esc s).2∧(esc s).2≤s.size∧0≤(esc s).1∧(esc s).1≤2147483647:=by
 unfold esc
 split
 · simp
 · have h1:=numd_bd s
   have h2:=by_bd s 1;unfold escC
   repeat' split
   all_goals (try simp only)
   all_goals omega
theorem letAt_bd (s:ByteArray):0≤(letAt s).2∧(letAt s).2≤s.size∧0≤(letAt s).1∧(letAt s).1≤2147483647:=by
 have h1:=esc_bd s;have h2:=Lib.decodeGo_le_size s;have h3:=decodeGo_bd s;unfold letAt letC
 repeat' split
 all_goals (try simp only)
 all_goals omega
theorem nxt_bd (s:ByteArray) (k:Nat):-1≤nxt s k∧nxt s k≤2147483647:=by
 have h3:=decodeGo_bd (s.extract k s.size);unfold nxt
 split <;> omega
theorem nxt_34 (s:ByteArray) (k:Nat) (hk:k≤s.size) (h:nxt s k=34):k < s.size:=by
 unfold nxt at h
 split at h
 · cases h
 · omega
theorem Bld.keep {B b:Nat}{l:List UInt8}{w w':World} (h:Bld B b l w) (hk:∀ k o,B≤k→w.heap[k]?=some o→w'.heap[k]?=some o):Bld B b l w':=by
 have key:∀ p,Lib.BuilderAtF 128 5 B b p (Lib.byteCells l) w→Lib.BuilderAtF 128 5 B b p (Lib.byteCells l) w':=by
  rintro p ⟨h1,v,h2,h3,h4⟩;refine ⟨h1,v,hk _ _ h1 h2,⟨h3.1,?_⟩,h4⟩
  rcases h3.2 with h5|⟨g,cap,cur,fz,e1,e2,e3,e4⟩
  · exact .inl h5
  · exact .inr ⟨g,cap,cur,fz,e1,e2,hk _ _ e2 e3,e4⟩
 exact h.imp (key _) (key _)
theorem Bld.below {B b:Nat}{l:List UInt8}{w w':World} (h:Bld B b l w) (hb:Below w.heap.size w w'):Bld B b l w':=h.keep fun k _ _ hc=>(hb.block k (blk_lt hc)).trans hc
theorem Bld.mv {B b rb:Nat}{l:List UInt8}{w w':World} (h:Bld B b l w) (hm:Mv rb w w') (hr:rb < B):Bld B b l w':=h.keep fun k _ hB hc=>(hm.block k (blk_lt hc) (by omega)).trans hc
theorem Mv.then {rb:Nat}{w a b:World} (h:Mv rb w a) (hb:Below w.heap.size a b):Mv rb w b :=
 ⟨hb.os.trans h.os,hb.tape.trans h.tape,hb.output.trans h.output,Nat.le_trans h.size hb.size,fun k hk hn=>(hb.block k hk).trans (h.block k hk hn)⟩
def FL (w:World) (b:Nat) (at_:Int) (et:TypeId) (ev:Value):Prop:=w.heap[b]?=some (.cells #[.int .i64 at_,.string ⟨#[]⟩,.iface et ev] 180 (0,0))
set_option maxRecDepth 100000 in
set_option maxHeartbeats 3200000 in
theorem letters_any (rb:Nat) (s:ByteArray) (k:Nat) (o:Int) (w:World) (h:RL w rb s k o) (hk:k < s.size) (hs:s.size≤1099511627776) (E:Nat→Value) (hE:Env E w) (hr:17≤rb) :
 Calls Tryz.prog 159 #[.pointer (some ⟨rb,0,none⟩)] w fun e w' =>
  ((∃ l j,letts s k=.inl (l,j)∧j≤s.size∧e=.returned (.tuple #[.string ⟨l.toArray⟩,.nilIface])∧RL w' rb s j o) ∨
   (∃ j fb,letts s k=.inr j∧j≤s.size∧e=.returned (.tuple #[.string ⟨#[]⟩,.iface 178 (.pointer (some ⟨fb,0,none⟩))])∧RL w' rb s j o∧w.heap.size≤fb∧FL w' fb j 264 (E 8)))∧Mv rb w w':=by
 have hrl:=blk_lt h;obtain ⟨c0,c1,c2⟩:=h.cells;obtain ⟨f1,f2⟩:=h.frees;have HH:=hide h;have HEn:=hide hE;clear hE;have HL:Hid (letts s k=lettF s (s.size+1 - k) (k+1) []):=rfl;generalize letts s k=res at HL ⊢
 go_enter Tryz.func159,Tryz.ntmps159
 go_wp2;clear c0 c1 c2 f1 f2
 have hR0:RL ((w.setCell ⟨rb,1,none⟩ (.int .i64 ((k:Int)+1))).alloc (.cells #[.pointer none,.slice none 0 0] 128)) rb s ((k+1:Nat):Int) o:=by
  have h1:=(uh HH).to ((k:Int)+1);exact (Below.heap_alloc _ _ rb (blk_lt h1)).trans h1
 have hM0:Mv rb w ((w.setCell ⟨rb,1,none⟩ (.int .i64 ((k:Int)+1))).alloc (.cells #[.pointer none,.slice none 0 0] 128)) :=
  (Mv.set w 1 _).trans (Mv.of ((Below.refl _ _).alloc (Nat.le_refl _) _))
 have hz0:(w.setCell ⟨rb,1,none⟩ (.int .i64 ((k:Int)+1))).heap.size=w.heap.size:=by simp [World.setCell]
 have hB0:Bld w.heap.size w.heap.size [] ((w.setCell ⟨rb,1,none⟩ (.int .i64 ((k:Int)+1))).alloc (.cells #[.pointer none,.slice none 0 0] 128)):=by
  have:=Lib.IsBuilderF.of (Lib.fresh_isBuilder 128 5 (w.setCell ⟨rb,1,none⟩ (.int .i64 ((k:Int)+1))));rw [hz0] at this;exact this
 go_loopw [] (fun wr=>∃ (j f:Nat) (acc:List UInt8),j≤s.size∧Hid (Bld w.heap.size w.heap.size acc wr)∧Hid (RL wr rb s j o)∧Hid (Mv rb w wr)∧Hid (res=lettF s f j acc)∧s.size+1≤j+f∧acc.length≤4*j) (fun wr=>s.size - atOf wr rb)
 case atStart=>exact ⟨k+1,s.size+1 - k,[],by omega,hB0,hR0,hM0,HL,by omega,by simp⟩
 case round =>
  clear hB0 hR0 hM0 HL hz0;obtain ⟨j,f,acc,hj,hBd,hR,hM,hL,hf,hacc⟩:=hrel;obtain ⟨f,rfl⟩:∃ g,f=g+1:=⟨f - 1,by omega⟩;have hAt:=hide (uh hR).atOf;have NX:=hide (fun h1 h2=>next_any rb s j o wr h1 hj E h2);obtain ⟨n0,n1⟩:=nxt_bd s j;have HN34:=hide (nxt_34 s j hj);have HL2:Hid (lettF s (f+1) j acc=if nxt s j=34 then .inl (acc,j+1) else if (letAt (s.extract j s.size)).2=0 then .inr j else lettF s f (j+(letAt (s.extract j s.size)).2.toNat) (acc++Lib.encodeRune (letAt (s.extract j s.size)).1)):=rfl;have HL3:=hide ((uh hL).trans (uh HL2));clear hL HL2;generalize nxt s j=nx at *
  go_wp2_with fail
  refine (uh NX (uh hR) ((uh HEn).mv (uh hM) hr)).mono ?_;rintro e u1 ⟨rfl,ha⟩;have hR1:=hide ((uh hR).below ha (blk_lt (uh hR)));have hBd1:=hide ((uh hBd).below ha);have hM1:=hide ((uh hM).trans (Mv.of ha));clear ha NX hR hBd hM
  by_cases hq:nx=34
  · subst hq
    have hr2:res=.inl (acc,j+1):=(uh HL3).trans (if_pos rfl);have hjl:=uh HN34 rfl;have HR2:=hide hr2;obtain ⟨c0,c1,c2⟩:=(uh hR1).cells;obtain ⟨f1,f2⟩:=(uh hR1).frees;clear HL3 hr2 HN34;have hM2:Mv rb u1 (u1.setCell ⟨rb,1,none⟩ (.int .i64 ((j:Int)+1))):=Mv.set _ _ _;have hBd2:=hide ((uh hBd1).mv hM2 hrl);have hR2:=hide (show RL (u1.setCell ⟨rb,1,none⟩ (.int .i64 ((j:Int)+1))) rb s ((j+1:Nat):Int) o from (uh hR1).to _);have hM3:=hide ((uh hM1).trans hM2);have hz2:w.heap.size≤(u1.setCell ⟨rb,1,none⟩ (.int .i64 ((j:Int)+1))).heap.size:=(uh hM3).size
    go_wp2_with fail
    refine (Tryz.Builder_String_any_k w.heap.size w.heap.size acc _ (uh hBd2) hz2).mono ?_;rintro e u2 ⟨rfl,_,hb,_⟩;go_wp2
    go_ret2
    exact ⟨.inl ⟨acc,j+1,uh HR2,by omega,rfl,(uh hR2).below hb hrl⟩,(uh hM3).then hb⟩
  · have hq':(nx == 34)=false:=by simpa using hq
    have hr2:res=if (letAt (s.extract j s.size)).2=0 then .inr j else lettF s f (j+(letAt (s.extract j s.size)).2.toNat) (acc++Lib.encodeRune (letAt (s.extract j s.size)).1):=(uh HL3).trans (if_neg hq)
    have HR2:=hide hr2;obtain ⟨c0,c1,c2⟩:=(uh hR1).cells;obtain ⟨f1,f2⟩:=(uh hR1).frees;obtain ⟨l0,l1,l2,l3⟩:=letAt_bd (s.extract j s.size);have LA:=hide (fun w h1 h2=>letterAt_any (s.extract j s.size) 264 (E 15) w h1 h2);have hsl:∀ u:World,(Instr.slice 9 (.string s) (some (.int .i64 (j:Int))) none none).run Tryz.prog u=.ok (.string (s.extract j s.size)) u:=fun u=>run_slice_string_l u 9 s Tryz.underlying9 .i64 j (by omega) (by omega)
    rw [ByteArray.size_extract] at l1;have l1':(letAt (s.extract j s.size)).2≤(s.size:Int) - (j:Int):=by omega
    have hj':(j:Int)≤(s.size:Int):=by omega
    clear l1 HL3 hr2 HN34 hq;generalize letAt (s.extract j s.size)=la at *;generalize s.extract j s.size=q at *;obtain ⟨lr,lz⟩:=la;simp only at l0 l1' l2 l3 LA HR2;go_upto_region 4 with fail
    go_cut [5,6] from 14 to 44 (fun s5 s6 wx=>s5=.int .i32 lr∧s6=.int .i64 lz∧Hid (Bld w.heap.size w.heap.size acc wx)∧Hid (RL wx rb s j o)∧Hid (Mv rb w wx))
    case first =>
     have hEn1:=hide ((uh HEn).mv (uh hM1) hr)
     go_region_held3 (fun w'=>w'.cell? ⟨rb,0,none⟩=some (.string s)∧w'.cell? ⟨rb,1,none⟩=some (.int .i64 (j:Int))) (((try dsimp only);(repeat' apply And.intro);all_goals first|(go_keep;done)|(simp;omega))) (first
      | (go_at_call 189;refine (uh LA _ (by exact (uh hEn1).syn) (by exact (uh hEn1).tabs)).mono ?_;rintro e u2 ⟨rfl,ha⟩;have k0:=keepC ha (b:=rb) (o:=0) (v:=.string s) (by first|assumption|go_keep);have k1:=keepC ha (b:=rb) (o:=1) (v:=.int .i64 (j:Int)) (by first|assumption|go_keep)))
     go_wp2_with fail
     go_meet;have ha':Below u1.heap.size u1 u2:=((Below.refl _ u1).drew).trans ha;exact ⟨rfl,rfl,(uh hBd1).below ha',(uh hR1).below ha' (blk_lt (uh hR1)),(uh hM1).trans (Mv.of ha')⟩
    case rest =>
     clear c0 c1 c2 f1 f2 hR1 hBd1 hM1 LA hsl;obtain ⟨rfl,rfl,hBd1,hR1,hM1⟩:=hcut;obtain ⟨c0,c1,c2⟩:=(uh hR1).cells;obtain ⟨f1,f2⟩:=(uh hR1).frees
     by_cases hz:lz=0
     · subst hz
       have hr3:res=.inr j:=(uh HR2).trans (if_pos rfl);have HR3:=hide hr3;have FA:=hide (fault_any rb s j o 264 (E 8) wc (uh hR1));have hT:=((uh HEn).mv (uh hM1) hr).err 8 (by simp);clear HR2 hr3
       go_wp2_with fail
       refine (uh FA).mono ?_;rintro e u3 ⟨rfl,rfl⟩;have hb:Below wc.heap.size wc (wc.alloc (.cells #[.int .i64 (j:Int),.string ⟨#[]⟩,.iface 264 (E 8)] 180)):=(Below.refl _ _).alloc (Nat.le_refl _) _
       have hfl:FL (wc.alloc (.cells #[.int .i64 (j:Int),.string ⟨#[]⟩,.iface 264 (E 8)] 180)) wc.heap.size j 264 (E 8):=by
        show (wc.heap.push _)[wc.heap.size]?=_;rw [Array.getElem?_push_size]
       go_wp2
       go_ret2
       exact ⟨.inr ⟨j,_,uh HR3,by omega,rfl,(uh hR1).below hb (blk_lt (uh hR1)),(uh hM1).size,hfl⟩,(uh hM1).trans (Mv.of hb)⟩
     · have hz':(lz == 0)=false:=by simpa using hz
       have hr3:res=lettF s f (j+lz.toNat) (acc++Lib.encodeRune lr):=(uh HR2).trans (if_neg hz);have HR3:=hide hr3;have hle:=Lib.runeCells_le lr;rw [Lib.runeCells_length] at hle;have WR:=hide (fun h1 h2=>writeRune_any w.heap.size w.heap.size acc lr (by omega) (by omega) wc h1 (by omega) h2);have HZ:Hid (lz≠0):=hz;clear HR2 hr3 hz
       go_wp2_with fail
       refine (uh WR (uh hBd1) (uh hM1).size).mono ?_;rintro e u3 ⟨rfl,hBd3,hb3,_⟩;have hR3:=hide ((uh hR1).below hb3 hrl);have hM3:=hide ((uh hM1).then hb3);have HBd3:=hide hBd3;clear c0 c1 c2 f1 f2 hb3 hBd3;obtain ⟨c0,c1,c2⟩:=(uh hR3).cells;obtain ⟨f1,f2⟩:=(uh hR3).frees;go_wp2;have hMs:Mv rb u3 (u3.setCell ⟨rb,1,none⟩ (.int .i64 ((j:Int)+lz))):=Mv.set _ _ _
       have hR4:RL (u3.setCell ⟨rb,1,none⟩ (.int .i64 ((j:Int)+lz))) rb s ((j+lz.toNat:Nat):Int) o:=by
        have:=(uh hR3).to ((j:Int)+lz);rw [show ((j+lz.toNat:Nat):Int)=(j:Int)+lz by omega];exact this
       have hzn:=HZ.out
       go_roundw
       case rel =>
        refine ⟨j+lz.toNat,f,acc++Lib.encodeRune lr,by omega,(uh HBd3).mv hMs hrl,hR4,(uh hM3).trans hMs,HR3,by omega,?_⟩;rw [List.length_append];omega
       case measure =>
        rw [hR4.atOf,hAt.out];omega
end Go.Proofs.YthnhobplgmojeaaGreatDoor.rd
