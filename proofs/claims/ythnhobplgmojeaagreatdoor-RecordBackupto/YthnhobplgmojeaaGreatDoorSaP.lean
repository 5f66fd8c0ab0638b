/- Texts in one: Sa Sb Sg Se -/
import Derived.Test.YthnhobplgmojeaaGreatDoorSdP
import Derived.Test.YthnhobplgmojeaaGreatDoorIiP
import Derived.BigCall
import Derived.Conc.MuLone
namespace Go.Proofs.YthnhobplgmojeaaGreatDoor.rd
open Go.RowKit
def hxd (n:Nat):UInt8:=if n < 10 then (48+n).toUInt8 else (87+n).toUInt8
def ltt (r:Nat):List UInt8 :=
 if r=34∨r=92 then 92::Lib.encodeRune r
 else if r=8 then [92,98] else if r=9 then [92,116] else if r=10 then [92,110] else if r=12 then [92,102] else if r=13 then [92,114]
 else if 32≤r then Lib.encodeRune r else [92,117,48,48,hxd (r / 16),hxd (r % 16)]
theorem enc_le (r:Int):(Lib.encodeRune r).length≤4:=by
 have:=(Lib.runeCells_le r).2
 rwa [Lib.runeCells_length] at this
theorem ltt_le (r:Nat):(ltt r).length≤6:=by
 have:=enc_le r;unfold ltt
 repeat' split
 all_goals simp
 all_goals omega
def PO (B b:Nat) (l:List UInt8) (w:World) (e:Ending) (w':World):Prop:=e=.returned (.tuple #[])∧Bld B b l w'∧Below B w w'∧Lib.OthersKept 5 (some b) w w'
def LC (r:Nat):Prop:=∀ (B b:Nat) (l:List UInt8) (w:World),Bld B b l w→l.length+6≤140737488355328→B≤w.heap.size→Calls Tryz.prog 110 #[.pointer (some ⟨b,0,none⟩),.int .i32 (r:Int)] w (PO B b (l++ltt r) w)
set_option maxHeartbeats 3200000 in
set_option maxRecDepth 1000000 in
theorem letter_plain (r:Nat) (h32:32≤r) (h34:r≠34) (h92:r≠92) (hr:r≤2147483647):LC r:=by
 intro B b l w h hl hB;have WR:=hide (writeRune_any B b l (r:Int) (by omega) (by omega) w h (by omega) hB)
 have e:ltt r=Lib.encodeRune r:=by
  unfold ltt;rw [if_neg (by omega),if_neg (by omega),if_neg (by omega),if_neg (by omega),if_neg (by omega),if_neg (by omega),if_pos h32]
 rw [e];generalize Lib.encodeRune (r:Int)=x at *;have e1:((r:Int) == 34)=false:=by simp;omega
 have e2:((r:Int) == 92)=false:=by simp;omega
 have e3:((r:Int) == 8)=false:=by simp;omega
 have e4:((r:Int) == 9)=false:=by simp;omega
 have e5:((r:Int) == 10)=false:=by simp;omega
 have e6:((r:Int) == 12)=false:=by simp;omega
 have e7:((r:Int) == 13)=false:=by simp;omega
 have e8:(32:Int)≤(r:Int):=by omega
 clear e h hr h34 h92
 go_enter Tryz.func110,Tryz.ntmps110
 go_wp2_with (go_at_call 131;refine (uh WR).mono ?_;rintro e u1 ⟨rfl,hb1,hc1,hk1⟩)
 go_end0
 exact ⟨rfl,hb1,hc1,hk1⟩
set_option maxHeartbeats 3200000 in
set_option maxRecDepth 1000000 in
theorem letter_esc (r:Nat) (hr:r=34∨r=92):LC r:=by
 intro B b l w h hl hB;have WB:=hide (writeByte_any B b l 92 w h (by omega) hB);have WR:=hide (fun (u:World) h1 h2=>writeRune_any B b (l++[92]) (r:Int) (by omega) (by omega) u h1 (by simp;omega) h2)
 have e:l++ltt r=l++[92]++Lib.encodeRune r:=by
  unfold ltt;rw [if_pos hr];simp
 rw [e];generalize hx:Lib.encodeRune (r:Int)=x at WR ⊢;clear e h hx
 rcases hr with rfl|rfl
 · go_enter Tryz.func110,Tryz.ntmps110
   go_wp2_with (first
    | (go_at_call 89;refine (uh WB).mono ?_;rintro e u1 ⟨rfl,hb1,hc1,hk1⟩
       have W2:=hide (uh WR u1 hb1 (Nat.le_trans hB hc1.size)))
    | (go_at_call 131;refine (uh W2).mono ?_;rintro e u2 ⟨rfl,hb2,hc2,hk2⟩))
   go_end0
   exact ⟨rfl,hb2,hc1.trans hc2,hk1.trans hk2⟩
 · go_enter Tryz.func110,Tryz.ntmps110
   go_wp2_with (first
    | (go_at_call 89;refine (uh WB).mono ?_;rintro e u1 ⟨rfl,hb1,hc1,hk1⟩
       have W2:=hide (uh WR u1 hb1 (Nat.le_trans hB hc1.size)))
    | (go_at_call 131;refine (uh W2).mono ?_;rintro e u2 ⟨rfl,hb2,hc2,hk2⟩))
   go_end0
   exact ⟨rfl,hb2,hc1.trans hc2,hk1.trans hk2⟩
def ltsF (s:ByteArray):Nat→Nat→List UInt8
 | 0,_=>[]
 | n+1,pos=>if pos < s.size then ltt (Utf8.decode s pos).1++ltsF s n (pos+(Utf8.decode s pos).2) else []
def txtJ (s:ByteArray):List UInt8:=34::(ltsF s s.size 0++[34])
theorem ltsF_end (s:ByteArray) (fuel pos:Nat) (h:¬ pos < s.size):ltsF s fuel pos=[]:=by
 cases fuel with
 | zero=>rfl
 | succ f=>simp [ltsF,h]
theorem kept_iterAt {b:Nat}{a w:World} (h:Lib.OthersKept 5 (some b) a w) {k:Nat} (hk:a.heap.size≤k) (s:ByteArray) (pos:Nat):Lib.OthersKept 5 (some b) a (w.iterAt k s pos):=by
 intro i o hi hb ho;rw [Lib.iterAt_other w k i s pos (by have:=(Array.getElem?_eq_some_iff.1 hi).1;omega)];exact h i o hi hb ho
set_option maxHeartbeats 4000000 in
set_option maxRecDepth 1000000 in
theorem writeText_any (B b:Nat) (l:List UInt8) (s:ByteArray) (w:World) (h:Bld B b l w) (hl:l.length+6*s.size+10≤140737488355328) (hB:B≤w.heap.size) (hbs:b < w.heap.size) (hL:∀ pos,pos < s.size→LC (Utf8.decode s pos).1) :
 Calls Tryz.prog 88 #[.pointer (some ⟨b,0,none⟩),.string s] w (PO B b (l++txtJ s) w):=by
 have WB:=hide (writeByte_any B b l 34 w h (by omega) hB);have HL:=hide hL;clear h hL
 go_enter Tryz.func88,Tryz.ntmps88
 go_wp2_with (go_at_call 89;refine (uh WB).mono ?_;rintro e u1 ⟨rfl,hb1,hc1,hk1⟩)
 clear WB;have hsz1:=hc1.size
 go_loopw [] (fun wr=>∃ (pos fuel:Nat) (acc:List UInt8),Bld B b (l++[34]++acc) wr∧wr.heap[u1.heap.size]?=some (.stringIter s pos)∧Below B w wr∧Lib.OthersKept 5 (some b) w wr∧acc++ltsF s fuel pos=ltsF s s.size 0∧s.size≤pos+fuel∧acc.length+6*fuel≤6*s.size) (fun wr=>s.size - wr.iterPos u1.heap.size)
 case atStart =>
  refine ⟨0,s.size,[],?_,?_,hc1.alloc (by omega) _,hk1.alloc _,rfl,by omega,by simp⟩
  · rw [List.append_nil]
    exact Lib.IsBuilderF.alloc hb1 _
  · have:=World.iter_heap u1 s 0
    simpa using this
 case round =>
  obtain ⟨pos,fuel,acc,hI,hit,hbw,hkw,hacc,hfu,hal⟩:=hrel;have hsz:u1.heap.size < wr.heap.size:=(Array.getElem?_eq_some_iff.1 hit).1;clear hb1 hk1 hc1
  by_cases hp:pos < s.size
  · have hnx:∀ ty,(Instr.next (.pointer (some ⟨u1.heap.size,0,none⟩)) true ty).run Tryz.prog wr=_:=fun ty=>Lib.run_next_any_at wr u1.heap.size s pos ty hit hp
    have hwd:=width_pos s pos hp;have hd1:=decode_le s pos;have hI2:=Lib.IsBuilderF.iterAt hI hit (pos+(Utf8.decode s pos).2);have hit2:=Lib.iterAt_heap wr u1.heap.size s pos (pos+(Utf8.decode s pos).2) hit;have hbw2:=Lib.below_iterAt hbw (k:=u1.heap.size) (by omega) s (pos+(Utf8.decode s pos).2);have hkw2:=kept_iterAt hkw (k:=u1.heap.size) (by omega) s (pos+(Utf8.decode s pos).2);have hsz2:B≤(wr.iterAt u1.heap.size s (pos+(Utf8.decode s pos).2)).heap.size:=by rw [Lib.iterAt_size];omega
    have hlen:(l++[34]++acc).length+6≤140737488355328:=by simp;omega
    have CL:=hide (uh HL pos hp B b _ _ hI2 hlen hsz2);obtain ⟨f,rfl⟩:∃ f,fuel=f+1:=⟨fuel - 1,by omega⟩
    go_wp2_with (go_at_call 110;refine (uh CL).mono ?_)
    rintro e W1 ⟨rfl,h1,b1,k1⟩;go_wp2
    go_roundw
    case rel =>
     have hl6:=ltt_le (Utf8.decode s pos).1;refine ⟨pos+(Utf8.decode s pos).2,f,acc++ltt (Utf8.decode s pos).1,by rw [← List.append_assoc];exact h1,k1.iter hit2 (by omega),hbw2.trans b1,hkw2.trans k1,?_,by omega,by simp;omega⟩;rw [← hacc];simp [ltsF,hp]
    case measure =>
     simp only [World.iterPos,k1.iter hit2 (by omega),hit];omega
  · have hnx:∀ ty,(Instr.next (.pointer (some ⟨u1.heap.size,0,none⟩)) true ty).run Tryz.prog wr=_:=fun ty=>Lib.run_next_end_at wr u1.heap.size s pos ty hit hp
    have WB:=hide (writeByte_any B b (l++[34]++acc) 34 wr hI (by simp;omega) (by omega))
    go_wp2_with (go_at_call 89;refine (uh WB).mono ?_)
    rintro e W1 ⟨rfl,h1,b1,k1⟩;go_wp2
    go_end0
    rw [ltsF_end s fuel pos hp,List.append_nil] at hacc;subst hacc;refine ⟨rfl,?_,hbw.trans b1,hkw.trans k1⟩;have e:l++txtJ s=l++[34]++ltsF s s.size 0++[34]:=by simp [txtJ]
    rw [e];exact h1
def trueB:List UInt8:=[116,114,117,101]
def falseB:List UInt8:=[102,97,108,115,101]
set_option maxHeartbeats 1600000 in
theorem truthWord_any (t:Bool) (w:World):Calls Tryz.prog 92 #[.bool t] w fun e w'=>e=.returned (.string (if t then ⟨#[116,114,117,101]⟩ else ⟨#[102,97,108,115,101]⟩))∧w'=w:=by
 cases t
 · go_enter Tryz.func92,Tryz.ntmps92
   go_wp2;go_ret;exact ⟨rfl,rfl⟩
 · go_enter Tryz.func92,Tryz.ntmps92
   go_wp2;go_ret;exact ⟨rfl,rfl⟩
def comma:List (List UInt8)→List UInt8
 | []=>[]
 | x::xs=>x++(xs.map fun y=>44::y).flatten
theorem comma_snoc (l:List (List UInt8)) (x:List UInt8) (h:l≠[]):comma (l++[x])=comma l++44::x:=by
 cases l with
 | nil=>exact absurd rfl h
 | cons y ys=>simp [comma]
theorem VRep.kept {w w':World}{B b:Nat}{v:JT}{cs:List Value}{p:List Nat} (h:VRep w B v cs p) (hk:Lib.OthersKept 5 (some b) w w') (hb:b ∉ p):VRep w' B v cs p:=by
 induction h with
 | mk hl hf h1 h2 h3 h4 hle hfe ih1 ih2 =>
   have row:∀ {e:TypeId}{s n:Nat}{v:Value}{xs:List Value},w.ownsRow B e s v n xs→e≠5→b ∉ own v→w'.ownsRow B e s v n xs:=by
    intro e s n v xs h he hb;obtain ⟨hl,⟨rfl,h0⟩|⟨g,cap,cur,rfl,hb',hg,r⟩⟩:=h
    · exact ⟨hl,Or.inl ⟨rfl,h0⟩⟩
    · refine ⟨hl,Or.inr ⟨g,cap,cur,rfl,hb',hk g _ hg (fun q=>hb ?_) (fun c fz q=>he ?_),r⟩⟩
      · simp only [Option.some.injEq] at q
        simp [own,Value.ownBlock,q]
      · simp only [Obj.cells.injEq] at q
        exact q.2.1
   simp only [List.mem_append,not_or] at hb;refine .mk (row hl (by decide) hb.1.1.1) (row hf (by decide) hb.1.1.2) h1 h2 h3 h4 ?_ ?_
   · intro i v c p e1 e2 e3
     exact ih1 i v c p e1 e2 e3 fun q=>hb.1.2 (mem_flat e3 q)
   · intro i n v c p e1 e2 e3
     exact ih2 i n v c p e1 e2 e3 fun q=>hb.2 (mem_flat e3 q)
theorem cell_kept {w w':World}{b:Nat} (hk:Lib.OthersKept 5 (some b) w w') {g:Nat}{cs:Array Value}{t:TypeId}{f:Nat × Nat} (h:w.heap[g]?=some (.cells cs t f)) (ht:t≠5) (hb:g≠b):w'.heap[g]?=some (.cells cs t f) :=
 hk g _ h (fun q=>hb (by simpa using q)) (fun c fz q=>ht (by simp only [Obj.cells.injEq] at q;exact q.2.1))
set_option maxHeartbeats 12800000 in
set_option maxRecDepth 1000000 in
theorem letter_spec (r:Nat) (x:UInt8) (h:(r=8∧x=98)∨(r=9∧x=116)∨(r=10∧x=110)∨(r=12∧x=102)∨(r=13∧x=114)):LC r:=by
 intro B b l w h0 hl hB
 rcases h with ⟨rfl,rfl⟩|⟨rfl,rfl⟩|⟨rfl,rfl⟩|⟨rfl,rfl⟩|⟨rfl,rfl⟩
 all_goals
  first
  | have WS:=hide (writeString_any B b l ⟨#[92,98]⟩ w h0 (by show _+2≤_;omega) hB);rw [show ltt 8=[92,98] by decide]
  | have WS:=hide (writeString_any B b l ⟨#[92,116]⟩ w h0 (by show _+2≤_;omega) hB);rw [show ltt 9=[92,116] by decide]
  | have WS:=hide (writeString_any B b l ⟨#[92,110]⟩ w h0 (by show _+2≤_;omega) hB);rw [show ltt 10=[92,110] by decide]
  | have WS:=hide (writeString_any B b l ⟨#[92,102]⟩ w h0 (by show _+2≤_;omega) hB);rw [show ltt 12=[92,102] by decide]
  | have WS:=hide (writeString_any B b l ⟨#[92,114]⟩ w h0 (by show _+2≤_;omega) hB);rw [show ltt 13=[92,114] by decide]
  clear h0
  go_enter Tryz.func110,Tryz.ntmps110
  go_wp2_with (go_at_call 91;refine (uh WS).mono ?_;rintro e u1 ⟨rfl,hb1,hc1,hk1⟩)
  go_end0
  exact ⟨rfl,hb1,hc1,hk1⟩
set_option maxHeartbeats 12800000 in
set_option maxRecDepth 1000000 in
theorem letter_low (r:Nat) (x y:UInt8) (h:r < 32) (hn:r≠8∧r≠9∧r≠10∧r≠12∧r≠13) (hx:hxd (r / 16)=x) (hy:hxd (r % 16)=y):LC r:=by
 intro B b l w h0 hl hB;have WS:=hide (writeString_any B b l ⟨#[92,117,48,48]⟩ w h0 (by show _+4≤_;omega) hB);have W1:=hide (fun (u:World) h1 h2=>writeByte_any B b (l++[92,117,48,48]) x u h1 (by rw [List.length_append];show _+4+1≤_;omega) h2);have W2:=hide (fun (u:World) h1 h2=>writeByte_any B b (l++[92,117,48,48]++[x]) y u h1 (by rw [List.length_append,List.length_append];show _+4+1+1≤_;omega) h2)
 have e:l++ltt r=l++[92,117,48,48]++[x]++[y]:=by
  unfold ltt;rw [if_neg (by omega),if_neg (by omega),if_neg (by omega),if_neg (by omega),if_neg (by omega),if_neg (by omega),if_neg (by omega),hx,hy];simp
 rw [e];have hr:r=0∨r=1∨r=2∨r=3∨r=4∨r=5∨r=6∨r=7∨r=11∨r=14∨r=15∨r=16∨r=17∨r=18∨r=19∨r=20∨r=21∨r=22∨r=23∨r=24∨r=25∨r=26∨r=27∨r=28∨r=29∨r=30∨r=31:=by omega
 clear h0 e h hn
 rcases hr with rfl|rfl|rfl|rfl|rfl|rfl|rfl|rfl|rfl|rfl|rfl|rfl|rfl|rfl|rfl|rfl|rfl|rfl|rfl|rfl|rfl|rfl|rfl|rfl|rfl|rfl|rfl
 all_goals
  subst hx hy
  go_enter Tryz.func110,Tryz.ntmps110
  go_wp2_with (go_at_call 91;refine (uh WS).mono ?_;rintro e u1 ⟨rfl,hb1,hc1,hk1⟩
               have W1':=hide (uh W1 u1 hb1 (Nat.le_trans hB hc1.size))
               clear WS W1)
  refine (uh W1').mono ?_;rintro e u2 ⟨rfl,hb2,hc2,hk2⟩;have W2':=hide (uh W2 u2 hb2 (Nat.le_trans hB (hc1.trans hc2).size));clear W1' W2
  go_wp2_with fail
  refine (uh W2').mono ?_;rintro e u3 ⟨rfl,hb3,hc3,hk3⟩;go_wp2
  go_end0
  exact ⟨rfl,hb3,(hc1.trans hc2).trans hc3,(hk1.trans hk2).trans hk3⟩
theorem letter_any (r:Nat) (hr:r≤2147483647):LC r:=by
 by_cases h:32≤r
 · by_cases h2:r=34∨r=92
   · exact letter_esc r h2
   · exact letter_plain r h (by omega) (by omega) hr
 · by_cases h2:r≠8∧r≠9∧r≠10∧r≠12∧r≠13
   · exact letter_low r _ _ (by omega) h2 rfl rfl
   · have h3:r=8∨r=9∨r=10∨r=12∨r=13:=by omega
     rcases h3 with rfl|rfl|rfl|rfl|rfl
     · exact letter_spec 8 98 (by simp)
     · exact letter_spec 9 116 (by simp)
     · exact letter_spec 10 110 (by simp)
     · exact letter_spec 12 102 (by simp)
     · exact letter_spec 13 114 (by simp)
theorem comma_len:∀ (ps:List (List UInt8)) (qs:List Nat),ps.length=qs.length→(∀ (j:Nat) (x:List UInt8) (q:Nat),ps[j]?=some x→qs[j]?=some q→x.length≤q)→(comma ps).length≤qs.sum+qs.length:=by
 have aux:∀ (ps:List (List UInt8)) (qs:List Nat),ps.length=qs.length→(∀ (j:Nat) (x:List UInt8) (q:Nat),ps[j]?=some x→qs[j]?=some q→x.length≤q)→((ps.map fun y=>44::y).flatten).length≤qs.sum+qs.length:=by
  intro ps
  induction ps with
  | nil=>intro qs _ _;simp
  | cons x ps ih =>
    intro qs hl h
    match qs,hl with
    | q::qs,hl =>
      have h0:=h 0 x q rfl rfl;have h1:=ih qs (by simpa using hl) (fun j y r e1 e2=>h (j+1) y r (by simpa using e1) (by simpa using e2));simp only [List.map_cons,List.flatten_cons,List.length_append,List.length_cons,List.sum_cons];omega
 intro ps qs hl h
 match ps,qs,hl with
 | [],[],_=>simp [comma]
 | x::ps,q::qs,hl =>
   have h0:=h 0 x q rfl rfl;have h1:=aux ps qs (by simpa using hl) (fun j y r e1 e2=>h (j+1) y r (by simpa using e1) (by simpa using e2));simp only [comma,List.length_append,List.length_cons,List.sum_cons];omega
theorem sum_take_le (qs:List Nat) (i:Nat):(qs.take i).sum≤qs.sum:=by
 have h:=List.sum_append_nat (l₁:=qs.take i) (l₂:=qs.drop i);rw [List.take_append_drop] at h;omega
theorem sum_take_at {qs:List Nat}{i q:Nat} (h:qs[i]?=some q):(qs.take i).sum+q≤qs.sum:=by
 have h1:=sum_take_le qs (i+1);rw [take_succ' h,List.sum_append_nat] at h1;simpa using h1
theorem enter_tell (args:Array Value) (w:World):(callFunc 90 args).run Tryz.prog w=.ok (.enter 90 args) w :=
 MuLone.run_callFunc_enter Tryz.func90 (by kernel_rfl) (c:=Tryz.f90.body.get (by kernel_rfl)) (by kernel_rfl) args w
theorem enter_tellF (args:Array Value) (w:World):(callFunc 87 args).run Tryz.prog w=.ok (.enter 87 args) w :=
 MuLone.run_callFunc_enter Tryz.func87 (by kernel_rfl) (c:=Tryz.f87.body.get (by kernel_rfl)) (by kernel_rfl) args w
theorem row_kept {w w':World}{b B e s n:Nat}{v:Value}{xs:List Value} (h:w.ownsRow B e s v n xs) (hk:Lib.OthersKept 5 (some b) w w') (he:e≠5) (hb:v.ownBlock≠some b):w'.ownsRow B e s v n xs:=by
 obtain ⟨hl,⟨rfl,h0⟩|⟨g,cap,cur,rfl,hb',hg,r⟩⟩:=h
 · exact ⟨hl,Or.inl ⟨rfl,h0⟩⟩
 · exact ⟨hl,Or.inr ⟨g,cap,cur,rfl,hb',cell_kept hk hg he (fun q=>hb (by rw [q];rfl)),r⟩⟩
def V8 (c:List Value):Prop:=∃ (kk:Int) (tt ng:Bool) (dg:ByteArray) (ex:Int) (xx:ByteArray) (q1:Option Addr) (n1 m1:Nat) (q2:Option Addr) (n2 m2:Nat),c=[.int .i64 kk,.bool tt,.bool ng,.string dg,.int .i64 ex,.string xx,.slice q1 n1 m1,.slice q2 n2 m2]
def V9 (c:List Value):Prop:=∃ (nm:ByteArray) (kk:Int) (tt ng:Bool) (dg:ByteArray) (ex:Int) (xx:ByteArray) (q1:Option Addr) (n1 m1:Nat) (q2:Option Addr) (n2 m2:Nat),c=[.string nm,.int .i64 kk,.bool tt,.bool ng,.string dg,.int .i64 ex,.string xx,.slice q1 n1 m1,.slice q2 n2 m2]
set_option maxHeartbeats 4000000 in
set_option maxRecDepth 1000000 in
theorem writeRowV (B b nb fb:Nat) (l:List UInt8) (c1 c2:UInt8) (css:List (List Value)) (ps:List (List UInt8)) (qs:List Nat) (oa:Option Addr) (c Bz:Nat) (w:World) (h:Bld B b l w) (hB:B≤w.heap.size) (hbs:b < w.heap.size)
 (hl1:ps.length=css.length) (hl2:qs.length=css.length) (hn:css.length≤1000000000000) (hrow:w.ownsRow Bz 28 8 (.slice oa css.length c) css.length css.flatten) (hne:(Value.slice oa css.length c).ownBlock≠some b) (hv:∀ cc∈css,V8 cc)
 (IC:∀ (j:Nat) (cs:List Value) (x:List UInt8) (q:Nat),css[j]?=some cs→ps[j]?=some x→qs[j]?=some q→∀ (l:List UInt8) (u:World),Bld B b l u→l.length+q≤140737488355328→B≤u.heap.size→b < u.heap.size→Below B w u→Lib.OthersKept 5 (some b) w u→Calls Tryz.prog 90 #[.agg cs.toArray,.pointer (some ⟨b,0,none⟩),.pointer (some ⟨nb,0,none⟩),.pointer (some ⟨fb,0,none⟩)] u (PO B b (l++x) u))
 (hq:∀ (j:Nat) (x:List UInt8) (q:Nat),ps[j]?=some x→qs[j]?=some q→x.length≤q) (hN:l.length+qs.sum+css.length+10≤140737488355328) :
 Calls Tryz.prog 94 #[.pointer (some ⟨b,0,none⟩),.int .u8 c1.toNat,.slice oa css.length c,.func (.func 90) #[] #[.pointer (some ⟨b,0,none⟩),.pointer (some ⟨nb,0,none⟩),.pointer (some ⟨fb,0,none⟩)],.int .u8 c2.toNat] w (PO B b (l++c1::(comma ps++[c2])) w):=by
 have WB0:=hide (writeByte_any B b l c1 w h (by omega) hB);have WB:=hide (fun (l:List UInt8) (c:UInt8) (u:World) h1 h2 h3=>writeByte_any B b l c u h1 h2 h3);have HI:=hide IC;have HR:=hide hrow;have HNE:=hide hne;have HV:=hide hv;have HQ:=hide hq;have eg:=enter_tell;clear h IC hrow hne hv hq
 go_enter Tryz.func94,Tryz.ntmps94
 go_wp2_with (go_at_call 89;refine (uh WB0).mono ?_;rintro e u1 ⟨rfl,hb1,hc1,hk1⟩)
 clear WB0
 go_loopw [17] (fun iv wr=>∃ i:Nat,i≤css.length∧iv=.int .i64 (i:Int)∧Hid (Bld B b (l++[c1]++comma (ps.take i)) wr)∧Hid (Below B w wr)∧Hid (Lib.OthersKept 5 (some b) w wr)) (fun iv _=>css.length - (intOf iv).toNat)
 case atStart=>exact ⟨0,by omega,rfl,by refine hide ?_;simpa [comma] using hb1,hc1,hk1⟩
 case round =>
  obtain ⟨i,hi,rfl,hI,hbw,hkw⟩:=hrel;clear hb1 hc1 hk1;have hsz:B≤wr.heap.size:=Nat.le_trans hB (uh hbw).size;have hbz:b < wr.heap.size:=Nat.lt_of_lt_of_le hbs (uh hbw).size
  have hcl:(comma (ps.take i)).length≤(qs.take i).sum+i:=by
   have:=comma_len (ps.take i) (qs.take i) (by rw [List.length_take,List.length_take];omega) (fun j x q e1 e2=>by
    rw [List.getElem?_take] at e1 e2
    split at e1
    · rename_i hj
      rw [if_pos hj] at e2;exact uh HQ j x q e1 e2
    · cases e1)
   rw [List.length_take] at this;omega
  have hst:=sum_take_le qs i
  by_cases hlt:i < css.length
  · obtain ⟨cs,hcs⟩:∃ x,css[i]?=some x:=⟨_,List.getElem?_eq_getElem hlt⟩
    obtain ⟨x,hx⟩:∃ x,ps[i]?=some x:=⟨_,List.getElem?_eq_getElem (by omega)⟩;obtain ⟨q,hqi⟩:∃ x,qs[i]?=some x:=⟨_,List.getElem?_eq_getElem (by omega)⟩;have hsq:=sum_take_at hqi;obtain ⟨kk,tt,ng,dg2,ex2,xx,k1,n1,m1,k2,n2,m2,rfl⟩:=uh HV cs (List.mem_of_getElem? hcs);obtain ⟨a,c',e,_,_,hat0⟩:=(mm.own_sv (row_kept (uh HR) (uh hkw) (by decide) (uh HNE))).some (by omega);simp only [Value.slice.injEq] at e;obtain ⟨rfl,_,rfl⟩:=e
    have h8:∀ c∈css,c.length=8:=fun c hc=>by
     obtain ⟨_,_,_,_,_,_,_,_,_,_,_,_,rfl⟩:=uh HV c hc;rfl
    have hat:=sv_at h8 hat0 hcs;obtain ⟨x0,x1,x2,x3,x4,x5,x6,x7⟩:=cells8 hat;generalize ha:a.add (i*8)=ad at *;have CI:=hide (fun l u h1 h2 h3 h4 h5 h6=>uh HI i _ x q hcs hx hqi l u h1 h2 h3 h4 h5 h6);have hi1:(i:Int) < (css.length:Int):=by omega
    have hi0:(0:Int)≤(i:Int):=by omega
    have HX:=hide hx;have IA:=hide (Lib.IsBuilderF.alloc (uh hI) (.cells #[.int .i64 kk,.bool tt,.bool ng,.string dg2,.int .i64 ex2,.string xx,.slice k1 n1 m1,.slice k2 n2 m2] 28));have BA:=hide ((uh hbw).alloc hsz (.cells #[.int .i64 kk,.bool tt,.bool ng,.string dg2,.int .i64 ex2,.string xx,.slice k1 n1 m1,.slice k2 n2 m2] 28));have KA:=hide ((uh hkw).alloc (.cells #[.int .i64 kk,.bool tt,.bool ng,.string dg2,.int .i64 ex2,.string xx,.slice k1 n1 m1,.slice k2 n2 m2] 28))
    have hsA:Hid (B≤(wr.alloc (.cells #[.int .i64 kk,.bool tt,.bool ng,.string dg2,.int .i64 ex2,.string xx,.slice k1 n1 m1,.slice k2 n2 m2] 28)).heap.size∧b < (wr.alloc (.cells #[.int .i64 kk,.bool tt,.bool ng,.string dg2,.int .i64 ex2,.string xx,.slice k1 n1 m1,.slice k2 n2 m2] 28)).heap.size):=by
     show _∧_;rw [World.size_alloc];omega
    have hbx:(wr.alloc (.cells #[.int .i64 kk,.bool tt,.bool ng,.string dg2,.int .i64 ex2,.string xx,.slice k1 n1 m1,.slice k2 n2 m2] 28)).heap[wr.heap.size]?=some (.cells #[.int .i64 kk,.bool tt,.bool ng,.string dg2,.int .i64 ex2,.string xx,.slice k1 n1 m1,.slice k2 n2 m2] 28 (0,0)):=heap_alloc_new wr _;have hwb:wr.heap.size≠b:=by omega
    clear hat0 hat hcs hx hqi h8
    by_cases h0:i=0
    · have e0:comma (ps.take i)=[]:=by rw [h0];rfl
      have e1:Hid (comma (ps.take (i+1))=x):=by
       show _=_;rw [take_succ' (uh HX),h0];simp [comma]
      rw [e0,List.append_nil] at IA;have hig:¬ (0:Int) < (i:Int):=by omega
      have H0:=hide h0;clear e0 h0;go_upto_region 6 with fail;generalize wr.alloc (.cells #[.int .i64 kk,.bool tt,.bool ng,.string dg2,.int .i64 ex2,.string xx,.slice k1 n1 m1,.slice k2 n2 m2] 28)=wa at *;obtain ⟨g0,g1,g2,g3,g4,g5,g6,g7⟩:=BX.cells hbx;have CJ:=hide (uh CI (l++[c1]) wa (uh IA) (by rw [List.length_append];show _+1+_≤_;omega) (uh hsA).1 (uh hsA).2 (uh BA) (uh KA))
      go_wp2_with (go_at_call 90;refine (uh CJ).mono ?_;rintro e u3 ⟨rfl,hb3,hc3,hk3⟩)
      exact ⟨⟨i+1,by omega,by go_num,by rw [uh e1];exact hb3,(uh BA).trans hc3,(uh KA).trans hk3⟩,by simp [intOf];omega⟩
    · have e1:comma (ps.take (i+1))=comma (ps.take i)++44::x:=by
       rw [take_succ' (uh HX),comma_snoc _ _ (fun q=>by have:=congrArg List.length q;rw [List.length_take,List.length_nil] at this;omega)]
      have hig:(0:Int) < (i:Int):=by omega
      go_upto_region 5 with fail;generalize wr.alloc (.cells #[.int .i64 kk,.bool tt,.bool ng,.string dg2,.int .i64 ex2,.string xx,.slice k1 n1 m1,.slice k2 n2 m2] 28)=wa at *;have WC:=hide (uh WB _ 44 wa (uh IA) (by simp only [List.length_append,List.length_singleton];omega) (uh hsA).1)
      go_wp2_with (first
       | (go_at_call 89;refine (uh WC).mono ?_;rintro e u2 ⟨rfl,hb2,hc2,hk2⟩
          have hbx2:=cell_kept hk2 hbx (by decide) hwb;obtain ⟨g0,g1,g2,g3,g4,g5,g6,g7⟩:=BX.cells hbx2
          have CJ:=hide (uh CI _ u2 hb2 (by simp only [List.length_append,List.length_singleton];omega) (Nat.le_trans (uh hsA).1 hc2.size) (Nat.lt_of_lt_of_le (uh hsA).2 hc2.size) ((uh BA).trans hc2) ((uh KA).trans hk2)))
       | (go_at_call 90;refine (uh CJ).mono ?_;rintro e u3 ⟨rfl,hb3,hc3,hk3⟩))
      refine ⟨⟨i+1,by omega,by go_num,?_,((uh BA).trans hc2).trans hc3,((uh KA).trans hk2).trans hk3⟩,by simp [intOf];omega⟩;rw [e1];have:l++[c1]++(comma (ps.take i)++44::x)=l++[c1]++comma (ps.take i)++[44]++x:=by simp
      rw [this];exact hb3
  · obtain rfl:i=css.length:=by omega
    have hno:¬ (css.length:Int) < (css.length:Int):=by omega
    rw [List.take_of_length_le (by omega)] at hI hcl;have WC:=hide (uh WB _ c2 wr (uh hI) (by simp only [List.length_append,List.length_singleton];omega) hsz)
    go_wp2_with (go_at_call 89;refine (uh WC).mono ?_;rintro e u2 ⟨rfl,hb2,hc2,hk2⟩)
    go_end0
    refine ⟨rfl,?_,(uh hbw).trans hc2,(uh hkw).trans hk2⟩;have:l++c1::(comma ps++[c2])=l++[c1]++comma ps++[c2]:=by simp
    rw [this];exact hb2
set_option maxHeartbeats 4000000 in
set_option maxRecDepth 1000000 in
theorem writeRowF (B b nb:Nat) (l:List UInt8) (c1 c2:UInt8) (css:List (List Value)) (ps:List (List UInt8)) (qs:List Nat) (oa:Option Addr) (c Bz:Nat) (w:World) (h:Bld B b l w) (hB:B≤w.heap.size) (hbs:b < w.heap.size)
 (hl1:ps.length=css.length) (hl2:qs.length=css.length) (hn:css.length≤1000000000000) (hrow:w.ownsRow Bz 70 9 (.slice oa css.length c) css.length css.flatten) (hne:(Value.slice oa css.length c).ownBlock≠some b) (hv:∀ cc∈css,V9 cc)
 (IC:∀ (j:Nat) (cs:List Value) (x:List UInt8) (q:Nat),css[j]?=some cs→ps[j]?=some x→qs[j]?=some q→∀ (l:List UInt8) (u:World),Bld B b l u→l.length+q≤140737488355328→B≤u.heap.size→b < u.heap.size→Below B w u→Lib.OthersKept 5 (some b) w u→Calls Tryz.prog 87 #[.agg cs.toArray,.pointer (some ⟨b,0,none⟩),.pointer (some ⟨nb,0,none⟩)] u (PO B b (l++x) u))
 (hq:∀ (j:Nat) (x:List UInt8) (q:Nat),ps[j]?=some x→qs[j]?=some q→x.length≤q) (hN:l.length+qs.sum+css.length+10≤140737488355328) :
 Calls Tryz.prog 95 #[.pointer (some ⟨b,0,none⟩),.int .u8 c1.toNat,.slice oa css.length c,.func (.func 87) #[] #[.pointer (some ⟨b,0,none⟩),.pointer (some ⟨nb,0,none⟩)],.int .u8 c2.toNat] w (PO B b (l++c1::(comma ps++[c2])) w):=by
 have WB0:=hide (writeByte_any B b l c1 w h (by omega) hB);have WB:=hide (fun (l:List UInt8) (c:UInt8) (u:World) h1 h2 h3=>writeByte_any B b l c u h1 h2 h3);have HI:=hide IC;have HR:=hide hrow;have HNE:=hide hne;have HV:=hide hv;have HQ:=hide hq;have eg:=enter_tellF;clear h IC hrow hne hv hq
 go_enter Tryz.func95,Tryz.ntmps95
 go_wp2_with (go_at_call 89;refine (uh WB0).mono ?_;rintro e u1 ⟨rfl,hb1,hc1,hk1⟩)
 clear WB0
 go_loopw [17] (fun iv wr=>∃ i:Nat,i≤css.length∧iv=.int .i64 (i:Int)∧Hid (Bld B b (l++[c1]++comma (ps.take i)) wr)∧Hid (Below B w wr)∧Hid (Lib.OthersKept 5 (some b) w wr)) (fun iv _=>css.length - (intOf iv).toNat)
 case atStart=>exact ⟨0,by omega,rfl,by refine hide ?_;simpa [comma] using hb1,hc1,hk1⟩
 case round =>
  obtain ⟨i,hi,rfl,hI,hbw,hkw⟩:=hrel;clear hb1 hc1 hk1;have hsz:B≤wr.heap.size:=Nat.le_trans hB (uh hbw).size;have hbz:b < wr.heap.size:=Nat.lt_of_lt_of_le hbs (uh hbw).size
  have hcl:(comma (ps.take i)).length≤(qs.take i).sum+i:=by
   have:=comma_len (ps.take i) (qs.take i) (by rw [List.length_take,List.length_take];omega) (fun j x q e1 e2=>by
    rw [List.getElem?_take] at e1 e2
    split at e1
    · rename_i hj
      rw [if_pos hj] at e2;exact uh HQ j x q e1 e2
    · cases e1)
   rw [List.length_take] at this;omega
  have hst:=sum_take_le qs i
  by_cases hlt:i < css.length
  · obtain ⟨cs,hcs⟩:∃ x,css[i]?=some x:=⟨_,List.getElem?_eq_getElem hlt⟩
    obtain ⟨x,hx⟩:∃ x,ps[i]?=some x:=⟨_,List.getElem?_eq_getElem (by omega)⟩;obtain ⟨q,hqi⟩:∃ x,qs[i]?=some x:=⟨_,List.getElem?_eq_getElem (by omega)⟩;have hsq:=sum_take_at hqi;obtain ⟨nm,kk,tt,ng,dg2,ex2,xx,k1,n1,m1,k2,n2,m2,rfl⟩:=uh HV cs (List.mem_of_getElem? hcs);obtain ⟨a,c',e,_,_,hat0⟩:=(mm.own_sv (row_kept (uh HR) (uh hkw) (by decide) (uh HNE))).some (by omega);simp only [Value.slice.injEq] at e;obtain ⟨rfl,_,rfl⟩:=e
    have h9:∀ c∈css,c.length=9:=fun c hc=>by
     obtain ⟨_,_,_,_,_,_,_,_,_,_,_,_,_,rfl⟩:=uh HV c hc;rfl
    have hat:=sv_at h9 hat0 hcs;obtain ⟨xn,x0,x1,x2,x3,x4,x5,x6,x7⟩:=cells9 hat;generalize ha:a.add (i*9)=ad at *;have CI:=hide (fun l u h1 h2 h3 h4 h5 h6=>uh HI i _ x q hcs hx hqi l u h1 h2 h3 h4 h5 h6);have hi1:(i:Int) < (css.length:Int):=by omega
    have hi0:(0:Int)≤(i:Int):=by omega
    have HX:=hide hx;have IA:=hide (Lib.IsBuilderF.alloc (uh hI) (.cells #[.string nm,.int .i64 kk,.bool tt,.bool ng,.string dg2,.int .i64 ex2,.string xx,.slice k1 n1 m1,.slice k2 n2 m2] 70));have BA:=hide ((uh hbw).alloc hsz (.cells #[.string nm,.int .i64 kk,.bool tt,.bool ng,.string dg2,.int .i64 ex2,.string xx,.slice k1 n1 m1,.slice k2 n2 m2] 70));have KA:=hide ((uh hkw).alloc (.cells #[.string nm,.int .i64 kk,.bool tt,.bool ng,.string dg2,.int .i64 ex2,.string xx,.slice k1 n1 m1,.slice k2 n2 m2] 70))
    have hsA:Hid (B≤(wr.alloc (.cells #[.string nm,.int .i64 kk,.bool tt,.bool ng,.string dg2,.int .i64 ex2,.string xx,.slice k1 n1 m1,.slice k2 n2 m2] 70)).heap.size∧b < (wr.alloc (.cells #[.string nm,.int .i64 kk,.bool tt,.bool ng,.string dg2,.int .i64 ex2,.string xx,.slice k1 n1 m1,.slice k2 n2 m2] 70)).heap.size):=by
     show _∧_;rw [World.size_alloc];omega
    have hbx:(wr.alloc (.cells #[.string nm,.int .i64 kk,.bool tt,.bool ng,.string dg2,.int .i64 ex2,.string xx,.slice k1 n1 m1,.slice k2 n2 m2] 70)).heap[wr.heap.size]?=some (.cells #[.string nm,.int .i64 kk,.bool tt,.bool ng,.string dg2,.int .i64 ex2,.string xx,.slice k1 n1 m1,.slice k2 n2 m2] 70 (0,0)):=heap_alloc_new wr _;have hwb:wr.heap.size≠b:=by omega
    clear hat0 hat hcs hx hqi h9
    by_cases h0:i=0
    · have e0:comma (ps.take i)=[]:=by rw [h0];rfl
      have e1:Hid (comma (ps.take (i+1))=x):=by
       show _=_;rw [take_succ' (uh HX),h0];simp [comma]
      rw [e0,List.append_nil] at IA;have hig:¬ (0:Int) < (i:Int):=by omega
      have H0:=hide h0;clear e0 h0;go_upto_region 6 with fail;generalize wr.alloc (.cells #[.string nm,.int .i64 kk,.bool tt,.bool ng,.string dg2,.int .i64 ex2,.string xx,.slice k1 n1 m1,.slice k2 n2 m2] 70)=wa at *;obtain ⟨gn,g0,g1,g2,g3,g4,g5,g6,g7⟩:=BF.cells hbx;have CJ:=hide (uh CI (l++[c1]) wa (uh IA) (by rw [List.length_append];show _+1+_≤_;omega) (uh hsA).1 (uh hsA).2 (uh BA) (uh KA))
      go_wp2_with (go_at_call 87;refine (uh CJ).mono ?_;rintro e u3 ⟨rfl,hb3,hc3,hk3⟩)
      exact ⟨⟨i+1,by omega,by go_num,by rw [uh e1];exact hb3,(uh BA).trans hc3,(uh KA).trans hk3⟩,by simp [intOf];omega⟩
    · have e1:comma (ps.take (i+1))=comma (ps.take i)++44::x:=by
       rw [take_succ' (uh HX),comma_snoc _ _ (fun q=>by have:=congrArg List.length q;rw [List.length_take,List.length_nil] at this;omega)]
      have hig:(0:Int) < (i:Int):=by omega
      go_upto_region 5 with fail;generalize wr.alloc (.cells #[.string nm,.int .i64 kk,.bool tt,.bool ng,.string dg2,.int .i64 ex2,.string xx,.slice k1 n1 m1,.slice k2 n2 m2] 70)=wa at *;have WC:=hide (uh WB _ 44 wa (uh IA) (by simp only [List.length_append,List.length_singleton];omega) (uh hsA).1)
      go_wp2_with (first
       | (go_at_call 89;refine (uh WC).mono ?_;rintro e u2 ⟨rfl,hb2,hc2,hk2⟩
          have hbx2:=cell_kept hk2 hbx (by decide) hwb;obtain ⟨gn,g0,g1,g2,g3,g4,g5,g6,g7⟩:=BF.cells hbx2
          have CJ:=hide (uh CI _ u2 hb2 (by simp only [List.length_append,List.length_singleton];omega) (Nat.le_trans (uh hsA).1 hc2.size) (Nat.lt_of_lt_of_le (uh hsA).2 hc2.size) ((uh BA).trans hc2) ((uh KA).trans hk2)))
       | (go_at_call 87;refine (uh CJ).mono ?_;rintro e u3 ⟨rfl,hb3,hc3,hk3⟩))
      refine ⟨⟨i+1,by omega,by go_num,?_,((uh BA).trans hc2).trans hc3,((uh KA).trans hk2).trans hk3⟩,by simp [intOf];omega⟩;rw [e1];have:l++[c1]++(comma (ps.take i)++44::x)=l++[c1]++comma (ps.take i)++[44]++x:=by simp
      rw [this];exact hb3
  · obtain rfl:i=css.length:=by omega
    have hno:¬ (css.length:Int) < (css.length:Int):=by omega
    rw [List.take_of_length_le (by omega)] at hI hcl;have WC:=hide (uh WB _ c2 wr (uh hI) (by simp only [List.length_append,List.length_singleton];omega) hsz)
    go_wp2_with (go_at_call 89;refine (uh WC).mono ?_;rintro e u2 ⟨rfl,hb2,hc2,hk2⟩)
    go_end0
    refine ⟨rfl,?_,(uh hbw).trans hc2,(uh hkw).trans hk2⟩;have:l++c1::(comma ps++[c2])=l++[c1]++comma ps++[c2]:=by simp
    rw [this];exact hb2
end Go.Proofs.YthnhobplgmojeaaGreatDoor.rd
