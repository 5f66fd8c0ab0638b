/- Texts in one: Pv Rr Rk -/
import Derived.Test.YthnhobplgmojeaaGreatDoorPuP
import Derived.LaidEql
import Derived.Deep.RegionHeld3
import Derived.Deep.QuietTactic
import Derived.BigQuiet
namespace Go.Proofs.YthnhobplgmojeaaGreatDoor.rd
open Go.RowKit
theorem below_drewN {B:Nat}{a w:World} (h:Below B a w) (n:Nat):Below B a (w.drewN n):=by
 cases h
 constructor <;> assumption
def by_ (s:ByteArray) (k:Nat):Int:=(s.data.toList.getD k 0).toNat
theorem by_bd (s:ByteArray) (k:Nat):0≤by_ s k∧by_ s k≤255:=by
 unfold by_;have:=(s.data.toList.getD k 0).toNat_lt;omega
theorem index_any (s:ByteArray) (k:Nat) (i:Int) (hi:i=k) (h:k < s.size) (u:World):(Instr.index 9 (.string s) (.int .i64 i)).run Tryz.prog u=.ok (.int .u8 (by_ s k)) u:=by
 subst hi;rw [run_index_string u 9 s .i64 k Tryz.underlying9,dif_pos ⟨by omega,by omega⟩];unfold by_;have h2:k < s.data.toList.length:=by rw [Array.length_toList];exact h
 rw [List.getD_eq_getElem?_getD,List.getElem?_eq_getElem h2];rfl
theorem eql_syntax (w:World):(binOp .eql 40 (.iface 256 (.int .i64 2)) (.iface 256 (.int .i64 2))).run Tryz.prog w=.ok (.bool true) w:=by kernel_rfl
theorem syntaxError_any (f s:ByteArray) (et:TypeId) (ev:Value) (w:World) (hs:s.size≤4096) (hE:w.cell? ⟨15,0,none⟩=some (.iface et ev)) :
 Calls Tryz.prog 231 #[.string f,.string s] w fun e w'=>(∃ b,e=.returned (.pointer (some ⟨b,0,none⟩)))∧Below w.heap.size w w':=by
 have hl:=cell_lt hE;have C:=hide (fun w=>Tryz.stringslite_Clone s w (by omega));have HE:=hide hE
 go_enter Tryz.func231,Tryz.ntmps231
 go_wp2_with fail
 go_region_held3 (fun w'=>w'.cell? ⟨15,0,none⟩=some (.iface et ev)) (((try dsimp only);(repeat' apply And.intro);all_goals first|(go_keep;done)|(simp;omega))) (first
  | (go_at_call 176;refine (uh C _).mono ?_;rintro e u1 ⟨rfl,ha⟩;have hk:=keepC ha (b:=15) (o:=0) (v:=.iface et ev) (by first|assumption|go_keep)))
 go_wp2;go_ret;have hb:Below w.heap.size w u1:=((Below.refl _ _).drew).trans ha;exact ⟨⟨_,rfl⟩,hb.alloc hb.size _⟩
theorem toError_any (f s:ByteArray) (a b:Int) (et:TypeId) (ev:Value) (w:World) (hs:s.size≤4096) (hE:w.cell? ⟨15,0,none⟩=some (.iface et ev)) :
 Calls Tryz.prog 228 #[.string f,.string s,.int .i64 a,.int .i64 b,.iface 256 (.int .i64 2)] w fun e w'=>(∃ c,e=.returned (.iface 258 (.pointer (some ⟨c,0,none⟩))))∧Below w.heap.size w w':=by
 have heq:=eql_syntax;have C:=hide (syntaxError_any f s et ev w hs hE)
 go_enter Tryz.func228,Tryz.ntmps228
 go_wp2_with fail
 refine (uh C).mono ?_;rintro e u1 ⟨⟨c,rfl⟩,ha⟩;go_wp2;go_ret;exact ⟨⟨c,rfl⟩,ha⟩
theorem parseUint_any (s:ByteArray) (et:TypeId) (ev:Value) (w:World) (hs:s.size=4) (hE:w.cell? ⟨15,0,none⟩=some (.iface et ev)) :
 Calls Tryz.prog 226 #[.string s,.int .i64 16,.int .i64 16] w fun e w' =>
  ((∃ n,hexFrom s.data.toList 0=some n∧n < 65536∧e=.returned (.tuple #[.int .u64 (n:Int),.nilIface]))∨(hexFrom s.data.toList 0=none∧∃ c,e=.returned (.tuple #[.int .u64 0,.iface 258 (.pointer (some ⟨c,0,none⟩))])))∧Below w.heap.size w w':=by
 have P1:=hide (pui_any s w hs);have T1:=hide (fun f a b w h=>toError_any f s a b et ev w (by omega) h);have HE:=hide hE;clear hE
 go_enter Tryz.func226,Tryz.ntmps226
 go_wp2_with fail
 refine (uh P1).mono ?_;rintro e u1 ⟨h,ha⟩
 rcases h with ⟨n,h1,h2,rfl⟩|⟨h1,rfl⟩
 · have H1:=hide h1
   clear h1;go_wp2
   go_ret2
   exact ⟨.inl ⟨n,uh H1,h2,rfl⟩,ha⟩
 · have H1:=hide h1
   clear h1
   go_wp2_with fail
   refine (uh T1 _ _ _ _ (keepC ha (uh HE))).mono ?_;rintro e u2 ⟨⟨c,rfl⟩,hb⟩;go_wp2
   go_ret2
   exact ⟨.inr ⟨uh H1,c,rfl⟩,ha.trans (hb.mono ha.size)⟩
def numAt (s:ByteArray):Option Nat:=if 6≤s.size∧Lib.hasPrefix s.data.toList [92,117]=true then hexFrom (s.extract 2 6).data.toList 0 else none
theorem numberAt_any (s:ByteArray) (et:TypeId) (ev:Value) (w:World) (hE:w.cell? ⟨15,0,none⟩=some (.iface et ev)) :
 Calls Tryz.prog 224 #[.string s] w fun e w' =>
  ((∃ n,numAt s=some n∧n < 65536∧e=.returned (.tuple #[.int .i32 (n:Int),.bool true]))∨(numAt s=none∧e=.returned (.tuple #[.int .i32 0,.bool false])))∧Below w.heap.size w w':=by
 have HP:=hide (fun w=>Tryz.strings_HasPrefix s ⟨#[92,117]⟩ w);have HN:Hid (numAt s=if 6≤s.size∧Lib.hasPrefix s.data.toList [92,117]=true then hexFrom (s.extract 2 6).data.toList 0 else none):=rfl;generalize numAt s=res at HN ⊢;have e0:Lib.hasPrefix s.data.toList (⟨#[92,117]⟩:ByteArray).data.toList=Lib.hasPrefix s.data.toList [92,117]:=rfl;rw [e0] at HP
 by_cases hz:6≤s.size
 · have hz':¬ (s.size:Int) < 6:=by omega
   cases hp:Lib.hasPrefix s.data.toList [92,117] with
   | false =>
     have HR:Hid (res=none):=by rw [HN.out,if_neg (by rw [hp];simp)];rfl
     rw [hp] at HP;clear HN hp
     go_enter Tryz.func224,Tryz.ntmps224
     go_wp2_with (go_at_call 157;refine (uh HP _).mono ?_;rintro e u1 ⟨rfl,rfl⟩)
     go_ret2
     exact ⟨.inr ⟨uh HR,rfl⟩,Below.refl _ _⟩
   | true =>
     have hr:res=hexFrom (s.extract 2 6).data.toList 0:=by rw [HN.out,if_pos ⟨hz,hp⟩]
     rw [hp] at HP;have hsz:(s.extract 2 6).size=4:=by simp [ByteArray.size_extract];omega
     have PU:=hide (fun w h=>parseUint_any (s.extract 2 6) et ev w hsz h);rw [← hr] at PU;have hsl:∀ u:World,(Instr.slice 9 (.string s) (some (.int .i64 2)) (some (.int .i64 6)) none).run Tryz.prog u=.ok (.string (s.extract 2 6)) u:=fun u=>run_slice_string u 9 s .i64 .i64 2 6 Tryz.underlying9 (by omega) (by omega) (by omega)
     have HE:=hide hE;generalize s.extract 2 6=q at *;clear HN hp hr hE hsz
     go_enter Tryz.func224,Tryz.ntmps224
     go_wp2_with (go_at_call 157;refine (uh HP _).mono ?_;rintro e u1 ⟨rfl,rfl⟩)
     refine (uh PU _ (uh HE)).mono ?_;rintro e u1 ⟨h,ha⟩
     rcases h with ⟨n,h1,h2,rfl⟩|⟨h1,c,rfl⟩
     · have H1:=hide h1
       clear h1;go_wp2
       go_quiet (fail)
       go_wp2
       go_ret2
       exact ⟨.inl ⟨n,uh H1,h2,rfl⟩,below_drewN ha _⟩
     · have H1:=hide h1
       clear h1;go_wp2
       go_quiet (fail)
       go_wp2
       go_ret2
       exact ⟨.inr ⟨uh H1,rfl⟩,below_drewN ha _⟩
 · have hz':(s.size:Int) < 6:=by omega
   have HR:Hid (res=none):=by rw [HN.out,if_neg (fun q=>hz q.1)];rfl
   clear HN
   go_enter Tryz.func224,Tryz.ntmps224
   go_wp2
   go_ret2
   exact ⟨.inr ⟨uh HR,rfl⟩,Below.refl _ _⟩
def numd (s:ByteArray):Int × Int:=match numAt s with
 | none=>(0,0)
 | some n=>if n < 55296∨57343 < n then ((n:Int),6) else if 56320≤n then (0,0) else match numAt (s.extract 6 s.size) with
   | none=>(0,0)
   | some m=>if m < 56320∨57343 < m then (0,0) else (65536+((n:Int) - 55296)*1024+((m:Int) - 56320),12)
theorem numAt_size (s:ByteArray) (n:Nat) (h:numAt s=some n):6≤s.size:=by
 unfold numAt at h
 split at h
 · rename_i hh;exact hh.1
 · cases h
set_option maxRecDepth 100000 in
set_option maxHeartbeats 1600000 in
theorem numbered_any (s:ByteArray) (et:TypeId) (ev:Value) (w:World) (hE:w.cell? ⟨15,0,none⟩=some (.iface et ev)) :
 Calls Tryz.prog 215 #[.string s] w fun e w'=>e=.returned (.tuple #[.int .i32 (numd s).1,.int .i64 (numd s).2])∧Below w.heap.size w w':=by
 have N1:=hide (fun w h=>numberAt_any s et ev w h);have N2:=hide (fun w h=>numberAt_any (s.extract 6 s.size) et ev w h);have HS:=hide (numAt_size s)
 have HD:Hid (numd s=match numAt s with
  | none=>(0,0)
  | some n=>if n < 55296∨57343 < n then ((n:Int),6) else if 56320≤n then (0,0) else match numAt (s.extract 6 s.size) with
    | none=>(0,0)
    | some m=>if m < 56320∨57343 < m then (0,0) else (65536+((n:Int) - 55296)*1024+((m:Int) - 56320),12)):=rfl
 generalize numd s=res at HD ⊢;have HE:=hide hE;clear hE
 go_enter Tryz.func215,Tryz.ntmps215
 go_wp2_with fail
 refine (uh N1 _ (uh HE)).mono ?_;rintro e u1 ⟨h,ha⟩
 rcases h with ⟨n,h1,h2,rfl⟩|⟨h1,rfl⟩
 · by_cases c1:n < 55296∨57343 < n
   · have hr:res=((n:Int),6):=by rw [HD.out,h1];exact if_pos c1
     subst hr;clear h1 HD
     rcases c1 with c1|c1
     · have c1':(n:Int) < 55296:=by omega
       go_wp2
       go_ret2
       exact ⟨rfl,ha⟩
     · have c1':(57343:Int) < (n:Int):=by omega
       go_wp2
       go_ret2
       exact ⟨rfl,ha⟩
   · have c2:(55296:Int)≤(n:Int):=by omega
     have c3:(n:Int)≤57343:=by omega
     by_cases c4:56320≤n
     · have hr:res=(0,0):=by rw [HD.out,h1];exact (if_neg c1).trans (if_pos c4)
       subst hr;have c5:(56320:Int)≤(n:Int):=by omega
       clear h1 HD;go_wp2
       go_ret2
       exact ⟨rfl,ha⟩
     · have c5:(n:Int) < 56320:=by omega
       have hz:=uh HS n h1
       have hr:res=match numAt (s.extract 6 s.size) with
        | none=>(0,0)
        | some m=>if m < 56320∨57343 < m then (0,0) else (65536+((n:Int) - 55296)*1024+((m:Int) - 56320),12):=by
        rw [HD.out,h1];exact (if_neg c1).trans (if_neg c4)
       have HR:=hide hr;have hsl:∀ u:World,(Instr.slice 9 (.string s) (some (.int .i64 6)) none none).run Tryz.prog u=.ok (.string (s.extract 6 s.size)) u:=fun u=>run_slice_string_l u 9 s Tryz.underlying9 .i64 6 (by omega) (by omega)
       clear h1 hr HD c1 c4 h2 HS N1;generalize s.extract 6 s.size=q at *;generalize (n:Int)=a at *
       go_wp2_with fail
       refine (uh N2 _ (keepC ha (uh HE))).mono ?_;rintro e u2 ⟨h,hb⟩;have hB:Below w.heap.size w u2:=ha.trans (hb.mono ha.size)
       rcases h with ⟨m,g1,g2,rfl⟩|⟨g1,rfl⟩
       · by_cases e1:m < 56320∨57343 < m
         · have hr2:res=(0,0):=by rw [HR.out,g1];exact if_pos e1
           subst hr2;clear HR g1
           rcases e1 with e1|e1
           · have e1':(m:Int) < 56320:=by omega
             go_wp2
             go_ret2
             exact ⟨rfl,hB⟩
           · have e1':(57343:Int) < (m:Int):=by omega
             go_wp2
             go_ret2
             exact ⟨rfl,hB⟩
         · have hr2:res=(65536+(a - 55296)*1024+((m:Int) - 56320),12):=by rw [HR.out,g1];exact if_neg e1
           have HR2:=hide hr2;have e2:(56320:Int)≤(m:Int):=by omega
           have e3:(m:Int)≤57343:=by omega
           clear HR g1 hr2 e1 g2 hz N2;generalize (m:Int)=b at *;go_wp2
           go_ret2
           rw [HR2.out];exact ⟨rfl,hB⟩
       · have hr2:res=(0,0):=by rw [HR.out,g1]
         subst hr2;clear HR g1;go_wp2
         go_ret2
         exact ⟨rfl,hB⟩
 · have hr:res=(0,0):=by rw [HD.out,h1]
   subst hr;clear h1 HD;go_wp2
   go_ret2
   exact ⟨rfl,ha⟩
def escC (c:Int) (nd:Int × Int):Int × Int :=
 if c=34∨c=92∨c=47 then (c,2) else if c=98 then (8,2) else if c=102 then (12,2) else if c=110 then (10,2) else if c=114 then (13,2) else if c=116 then (9,2) else if c=117 then nd else (0,0)
def esc (s:ByteArray):Int × Int:=if s.size < 2 then (0,0) else escC (by_ s 1) (numd s)
set_option maxRecDepth 100000 in
set_option maxHeartbeats 1600000 in
theorem escaped_any (s:ByteArray) (et:TypeId) (ev:Value) (w:World) (hE:w.cell? ⟨15,0,none⟩=some (.iface et ev)) :
 Calls Tryz.prog 203 #[.string s] w fun e w'=>e=.returned (.tuple #[.int .i32 (esc s).1,.int .i64 (esc s).2])∧Below w.heap.size w w':=by
 have N1:=hide (numbered_any s et ev w hE);have HD:Hid (esc s=if s.size < 2 then (0,0) else escC (by_ s 1) (numd s)):=rfl;generalize esc s=res at HD ⊢;generalize numd s=nd at *
 by_cases hz:s.size < 2
 · have hz':(s.size:Int) < 2:=by omega
   have hr:res=(0,0):=by rw [HD.out,if_pos hz]
   subst hr;clear HD
   go_enter Tryz.func203,Tryz.ntmps203
   go_wp2
   go_ret2
   exact ⟨rfl,Below.refl _ _⟩
 · have hz':¬ (s.size:Int) < 2:=by omega
   have hix:=index_any s 1 1 rfl (by omega);obtain ⟨hb0,hb1⟩:=by_bd s 1;have hr:=HD.out;rw [if_neg hz] at hr;clear HD;generalize by_ s 1=c at *;subst hr
   by_cases h:c=34∨c=92∨c=47∨c=98∨c=102∨c=110∨c=114∨c=116
   · rcases h with rfl|rfl|rfl|rfl|rfl|rfl|rfl|rfl
     all_goals clear N1
     all_goals go_enter Tryz.func203,Tryz.ntmps203
     all_goals go_wp2
     all_goals go_ret2
     all_goals exact ⟨rfl,Below.refl _ _⟩
   · have e1:(c == 34)=false:=by simp;omega
     have e2:(c == 92)=false:=by simp;omega
     have e3:(c == 47)=false:=by simp;omega
     have e4:(c == 98)=false:=by simp;omega
     have e5:(c == 102)=false:=by simp;omega
     have e6:(c == 110)=false:=by simp;omega
     have e7:(c == 114)=false:=by simp;omega
     have e8:(c == 116)=false:=by simp;omega
     by_cases h9:c=117
     · subst h9
       have hr:escC 117 nd=nd:=rfl;rw [hr];clear e1 e2 e3 e4 e5 e6 e7 e8 h
       go_enter Tryz.func203,Tryz.ntmps203
       go_wp2_with fail
       refine (uh N1).mono ?_;rintro e u1 ⟨rfl,ha⟩;go_wp2
       go_ret2
       exact ⟨rfl,ha⟩
     · have e9:(c == 117)=false:=by simpa using h9
       have hr:escC c nd=(0,0):=by
        unfold escC;rw [if_neg (by omega),if_neg (by omega),if_neg (by omega),if_neg (by omega),if_neg (by omega),if_neg (by omega),if_neg (by omega)]
       rw [hr];clear h h9 N1
       go_enter Tryz.func203,Tryz.ntmps203
       go_wp2
       go_ret2
       exact ⟨rfl,Below.refl _ _⟩
def letC (r:Nat × Nat) (es:Int × Int):Int × Int :=
 if r.1=92 then es else if r.1=65533∧r.2≤1 then (0,0) else if r.1 < 32 then (0,0) else (r.1,r.2)
def letAt (s:ByteArray):Int × Int:=letC (Lib.decodeGo s) (esc s)
theorem decodeGo_bd (s:ByteArray):(Lib.decodeGo s).1≤2147483647∧(Lib.decodeGo s).2≤4:=by
 unfold Lib.decodeGo
 split
 · exact ⟨by omega,by omega⟩
 · refine ⟨decode_le s 0,?_⟩
   simp only [Utf8.decode]
   repeat' split
   all_goals simp
set_option maxRecDepth 100000 in
set_option maxHeartbeats 1600000 in
theorem letterAt_any (s:ByteArray) (et:TypeId) (ev:Value) (w:World) (hE:w.cell? ⟨15,0,none⟩=some (.iface et ev)) (hT:Lib.Utf8Tabs 2 3 w) :
 Calls Tryz.prog 189 #[.string s] w fun e w'=>e=.returned (.tuple #[.int .i32 (letAt s).1,.int .i64 (letAt s).2])∧Below w.heap.size w w':=by
 have D1:=hide (Tryz.utf8_DecodeRuneInString s w hT);have E1:=hide (fun w h=>escaped_any s et ev w h);have HL:Hid (letAt s=letC (Lib.decodeGo s) (esc s)):=rfl;have HE:=hide hE;obtain ⟨b1,b2⟩:=decodeGo_bd s;clear hE hT;generalize letAt s=res at HL ⊢;generalize Lib.decodeGo s=r at *;generalize esc s=es at *;obtain ⟨r1,r2⟩:=r;simp only [letC] at b1 b2 D1 HL;have a1:(0:Int)≤(r1:Int):=by omega
 have a2:(r1:Int)≤2147483647:=by omega
 have a3:(0:Int)≤(r2:Int):=by omega
 have a4:(r2:Int)≤4:=by omega
 have HQ:Hid (((r1:Int)=92∧res=es)∨((r1:Int)≠92∧(r1:Int)=65533∧(r2:Int)≤1∧res=(0,0))∨((r1:Int)≠92∧¬ ((r1:Int)=65533∧(r2:Int)≤1)∧(r1:Int) < 32∧res=(0,0))∨((r1:Int)≠92∧¬ ((r1:Int)=65533∧(r2:Int)≤1)∧32≤(r1:Int)∧res=((r1:Int),(r2:Int)))):=by
  show _∨_;have hr:=HL.out
  by_cases h1:r1=92
  · rw [if_pos h1] at hr;exact .inl ⟨by omega,hr⟩
  · rw [if_neg h1] at hr
    by_cases h2:r1=65533∧r2≤1
    · rw [if_pos h2] at hr;exact .inr (.inl ⟨by omega,by omega,by omega,hr⟩)
    · rw [if_neg h2] at hr
      by_cases h3:r1 < 32
      · rw [if_pos h3] at hr;exact .inr (.inr (.inl ⟨by omega,by omega,by omega,hr⟩))
      · rw [if_neg h3] at hr;exact .inr (.inr (.inr ⟨by omega,by omega,by omega,hr⟩))
 clear HL b1 b2;generalize (r1:Int)=x at *;generalize (r2:Int)=z at *
 go_enter Tryz.func189,Tryz.ntmps189
 go_wp2_with fail
 refine (uh D1).mono ?_;rintro e u1 ⟨rfl,ha⟩
 rcases HQ.out with ⟨rfl,rfl⟩|⟨h1,rfl,h3,rfl⟩|⟨h1,h2,h3,rfl⟩|⟨h1,h2,h3,rfl⟩
 · clear HQ
   go_wp2_with fail
   refine (uh E1 _ (keepC ha (uh HE))).mono ?_;rintro e u2 ⟨rfl,hb⟩;go_wp2
   go_ret2
   exact ⟨rfl,ha.trans (hb.mono ha.size)⟩
 · clear HQ E1 HE h1
   go_wp2
   go_ret2
   exact ⟨rfl,ha⟩
 · have h1':(x == 92)=false:=by simpa using h1
   have h2':(x == 65533)=false:=by simp;omega
   clear HQ E1 HE h1 h2;go_wp2
   go_ret2
   exact ⟨rfl,ha⟩
 · have h1':(x == 92)=false:=by simpa using h1
   clear HQ E1 HE h1
   by_cases h4:x=65533
   · subst h4
     have h5:1 < z:=by omega
     clear h2;go_wp2
     go_ret2
     exact ⟨rfl,ha⟩
   · have h2':(x == 65533)=false:=by simpa using h4
     clear h2 h4;go_wp2
     go_ret2
     exact ⟨rfl,ha⟩
def RL (w:World) (rb:Nat) (s:ByteArray) (at_ op:Int):Prop:=w.heap[rb]?=some (.cells #[.string s,.int .i64 at_,.int .i64 op] 157 (0,0))
theorem RL.cells {w:World}{rb:Nat}{s:ByteArray}{a o:Int} (h:RL w rb s a o):w.cell? ⟨rb,0,none⟩=some (.string s)∧w.cell? ⟨rb,1,none⟩=some (.int .i64 a)∧w.cell? ⟨rb,2,none⟩=some (.int .i64 o) :=
 ⟨blk_cell h 0,blk_cell h 1,blk_cell h 2⟩
theorem RL.frees {w:World}{rb:Nat}{s:ByteArray}{a o:Int} (h:RL w rb s a o):w.frozen? ⟨rb,1,none⟩=false∧w.frozen? ⟨rb,2,none⟩=false :=
 ⟨blk_free h 1,blk_free h 2⟩
theorem RL.to {w:World}{rb:Nat}{s:ByteArray}{a o:Int} (h:RL w rb s a o) (x:Int):RL (w.setCell ⟨rb,1,none⟩ (.int .i64 x)) rb s x o:=blk_set h 1 _
theorem RL.opens {w:World}{rb:Nat}{s:ByteArray}{a o:Int} (h:RL w rb s a o) (x:Int):RL (w.setCell ⟨rb,2,none⟩ (.int .i64 x)) rb s a x:=blk_set h 2 _
theorem RL.below {B:Nat}{w w':World}{rb:Nat}{s:ByteArray}{a o:Int} (h:RL w rb s a o) (hb:Below B w w') (hr:rb < B):RL w' rb s a o:=(hb.block rb hr).trans h
structure Mv (rb:Nat) (w w':World):Prop where
 os:w'.os=w.os
 tape:w'.tape=w.tape
 output:w'.output=w.output
 size:w.heap.size≤w'.heap.size
 block:∀ k,k < w.heap.size→k≠rb→w'.heap[k]?=w.heap[k]?
theorem Mv.refl (rb:Nat) (w:World):Mv rb w w:=⟨rfl,rfl,rfl,Nat.le_refl _,fun _ _ _=>rfl⟩
theorem Mv.trans {rb:Nat}{a b c:World} (h:Mv rb a b) (k:Mv rb b c):Mv rb a c :=
 ⟨k.os.trans h.os,k.tape.trans h.tape,k.output.trans h.output,Nat.le_trans h.size k.size,fun i hi hn=>(k.block i (Nat.lt_of_lt_of_le hi h.size) hn).trans (h.block i hi hn)⟩
theorem Mv.of {rb:Nat}{w w':World} (h:Below w.heap.size w w'):Mv rb w w':=⟨h.os,h.tape,h.output,h.size,fun k hk _=>h.block k hk⟩
theorem Mv.set {rb:Nat} (w:World) (o:Nat) (v:Value):Mv rb w (w.setCell ⟨rb,o,none⟩ v) :=
 ⟨rfl,rfl,rfl,by simp [World.setCell],fun k _ hn=>Below.heap_setCell _ _ _ _ hn⟩
theorem Mv.drewN {rb:Nat}{w w':World} (h:Mv rb w w') (n:Nat):Mv rb w (w'.drewN n):=⟨h.os,h.tape,h.output,h.size,h.block⟩
theorem Mv.below {rb B:Nat}{w w':World} (h:Mv rb w w') (hB:B≤rb) (hs:B≤w.heap.size):Below B w w':=⟨h.os,h.tape,h.output,h.size,fun k hk=>h.block k (by omega) (by omega)⟩
theorem Mv.cell {rb:Nat}{w w':World} (h:Mv rb w w') {b o:Nat}{v:Value} (hn:b≠rb) (hc:w.cell? ⟨b,o,none⟩=some v):w'.cell? ⟨b,o,none⟩=some v:=by
 have hl:=cell_lt hc;rw [World.cell?_of_block (w:=w) (w':=w') (h.block b hl hn)];exact hc
structure Env (E:Nat→Value) (w:World):Prop where
 tabs:Lib.Utf8Tabs 2 3 w
 err:∀ g,g=4∨g=5∨g=7∨g=12∨g=8∨g=9∨g=10∨g=15→w.cell? ⟨g,0,none⟩=some (.iface 264 (E g))
theorem Env.keep {E:Nat→Value}{w w':World} (h:Env E w) (hk:∀ b o v,b < 17→w.cell? ⟨b,o,none⟩=some v→w'.cell? ⟨b,o,none⟩=some v):Env E w':=by
 refine ⟨⟨fun c hc=>hk _ _ _ (by decide) (h.tabs.1 c hc),fun i hi=>⟨hk _ _ _ (by decide) (h.tabs.2 i hi).1,hk _ _ _ (by decide) (h.tabs.2 i hi).2⟩⟩,fun g hg=>hk _ _ _ ?_ (h.err g hg)⟩;omega
theorem Env.below {E:Nat→Value}{w w':World} (h:Env E w) (hb:Below w.heap.size w w'):Env E w':=h.keep fun _ _ _ _ hc=>keepC hb hc
theorem Env.mv {E:Nat→Value}{rb:Nat}{w w':World} (h:Env E w) (hm:Mv rb w w') (hr:17≤rb):Env E w':=h.keep fun _ _ _ hb hc=>hm.cell (by omega) hc
theorem Env.syn {E:Nat→Value}{w:World} (h:Env E w):w.cell? ⟨15,0,none⟩=some (.iface 264 (E 15)):=h.err _ (by simp)
theorem fault_any (rb:Nat) (s:ByteArray) (a o:Int) (et:TypeId) (ev:Value) (w:World) (h:RL w rb s a o) :
 Calls Tryz.prog 117 #[.pointer (some ⟨rb,0,none⟩),.iface et ev] w fun e w'=>e=.returned (.iface 178 (.pointer (some ⟨w.heap.size,0,none⟩)))∧w'=w.alloc (.cells #[.int .i64 a,.string ⟨#[]⟩,.iface et ev] 180):=by
 obtain ⟨c0,c1,c2⟩:=h.cells
 go_enter Tryz.func117,Tryz.ntmps117
 go_wp2;go_ret;exact ⟨rfl,rfl⟩
def nxt (s:ByteArray) (k:Nat):Int:=if k=s.size then -1 else (Lib.decodeGo (s.extract k s.size)).1
set_option maxRecDepth 100000 in
set_option maxHeartbeats 1600000 in
theorem next_any (rb:Nat) (s:ByteArray) (k:Nat) (o:Int) (w:World) (h:RL w rb s k o) (hk:k≤s.size) (E:Nat→Value) (hE:Env E w) :
 Calls Tryz.prog 120 #[.pointer (some ⟨rb,0,none⟩)] w fun e w'=>e=.returned (.int .i32 (nxt s k))∧Below w.heap.size w w':=by
 obtain ⟨c0,c1,c2⟩:=h.cells
 by_cases he:k=s.size
 · have hr:nxt s k=-1:=if_pos he
   rw [hr];have he':((k:Int) == (s.size:Int))=true:=by simp;omega
   clear hE hr
   go_enter Tryz.func120,Tryz.ntmps120
   go_wp2
   go_quiet (fail)
   go_wp2;go_ret;exact ⟨rfl,below_drewN (Below.refl _ _) _⟩
 · have hr:nxt s k=(Lib.decodeGo (s.extract k s.size)).1:=if_neg he
   rw [hr];have he':((k:Int) == (s.size:Int))=false:=by simp;omega
   have D1:=hide (fun w h=>Tryz.utf8_DecodeRuneInString (s.extract k s.size) w h);have hk':(k:Int)≤(s.size:Int):=by omega
   have hsl:∀ u:World,(Instr.slice 9 (.string s) (some (.int .i64 (k:Int))) none none).run Tryz.prog u=.ok (.string (s.extract k s.size)) u:=fun u=>run_slice_string_l u 9 s Tryz.underlying9 .i64 k (by omega) (by omega)
   obtain ⟨b1,b2⟩:=decodeGo_bd (s.extract k s.size);have HEn:=hide hE;generalize Lib.decodeGo (s.extract k s.size)=r at *;generalize s.extract k s.size=q at *;obtain ⟨r1,r2⟩:=r;simp only at b1 b2 D1;clear hE hr
   go_enter Tryz.func120,Tryz.ntmps120
   go_wp2
   go_quiet (fail)
   go_wp2_with fail
   go_region_held3 (fun w'=>w'.cell? ⟨rb,0,none⟩=some (.string s)∧w'.cell? ⟨rb,1,none⟩=some (.int .i64 (k:Int))) (((try dsimp only);(repeat' apply And.intro);all_goals first|(go_keep;done)|(simp;omega))) (first
    | (go_at_call 146;refine (uh D1 _ (by exact (uh HEn).tabs)).mono ?_;rintro e u1 ⟨rfl,ha⟩;have k0:=keepC ha (b:=rb) (o:=0) (v:=.string s) (by first|assumption|go_keep);have k1:=keepC ha (b:=rb) (o:=1) (v:=.int .i64 (k:Int)) (by first|assumption|go_keep)))
   go_wp2;go_ret;exact ⟨rfl,(below_drewN (Below.refl _ w) _).drew.trans (ha.mono (by exact Nat.le_refl _))⟩
def inB (kd:List UInt8) (c:UInt8):Bool:=decide (0≤Lib.indexByte kd c)
def skipTo (kd:List UInt8) (s:ByteArray) (k:Nat):Nat:=k+((s.data.toList.drop k).takeWhile (inB kd)).length
theorem skipTo_on (kd:List UInt8) (s:ByteArray) (k:Nat) (h:k < s.size) (hi:inB kd s[k]=true):skipTo kd s k=skipTo kd s (k+1):=by
 unfold skipTo;have h2:k < s.data.toList.length:=by rw [Array.length_toList];exact h
 rw [List.drop_eq_getElem_cons h2,List.takeWhile_cons];have e:s.data.toList[k]=s[k]:=rfl;rw [e,hi];simp only [if_true,List.length_cons];omega
theorem skipTo_off (kd:List UInt8) (s:ByteArray) (k:Nat) (h:k < s.size) (hi:inB kd s[k]=false):skipTo kd s k=k:=by
 unfold skipTo;have h2:k < s.data.toList.length:=by rw [Array.length_toList];exact h
 rw [List.drop_eq_getElem_cons h2,List.takeWhile_cons];have e:s.data.toList[k]=s[k]:=rfl;rw [e,hi];simp
theorem skipTo_end (kd:List UInt8) (s:ByteArray) (k:Nat) (h:s.size≤k):skipTo kd s k=k:=by
 unfold skipTo;rw [List.drop_of_length_le (by rw [Array.length_toList];exact h)];simp
theorem skipTo_le (kd:List UInt8) (s:ByteArray) (k:Nat) (h:k≤s.size):k≤skipTo kd s k∧skipTo kd s k≤s.size:=by
 unfold skipTo
 have h1:∀ l:List UInt8,(l.takeWhile (inB kd)).length≤l.length:=fun l=>by
  induction l with
  | nil=>exact Nat.le_refl _
  | cons a l ih =>
    rw [List.takeWhile_cons]
    split
    · simp only [List.length_cons];omega
    · simp
 have h1:=h1 (s.data.toList.drop k);have e2:s.data.toList.length=s.size:=by rw [Array.length_toList];rfl
 rw [List.length_drop,e2] at h1;omega
def atOf (w:World) (rb:Nat):Nat:=match w.cell? ⟨rb,1,none⟩ with
 | some (.int _ x)=>x.toNat
 | _=>0
theorem RL.atOf {w:World}{rb:Nat}{s:ByteArray}{k:Nat}{o:Int} (h:RL w rb s k o):atOf w rb=k:=by
 unfold rd.atOf;rw [h.cells.2.1];simp
set_option maxRecDepth 100000 in
set_option maxHeartbeats 1600000 in
theorem skip_any (kd:ByteArray) (rb:Nat) (s:ByteArray) (k:Nat) (o:Int) (w:World) (h:RL w rb s k o) (hk:k≤s.size) (hs:s.size≤4611686018427387904) :
 Calls Tryz.prog 119 #[.pointer (some ⟨rb,0,none⟩),.string kd] w fun e w'=>e=.returned (.tuple #[])∧RL w' rb s (skipTo kd.data.toList s k) o∧Mv rb w w':=by
 go_enter Tryz.func119,Tryz.ntmps119
 go_wp2
 go_loopw [] (fun wr=>∃ j:Nat,j≤s.size∧Hid (RL wr rb s j o)∧Hid (Mv rb w wr)∧Hid (skipTo kd.data.toList s k=skipTo kd.data.toList s j)) (fun wr=>s.size - atOf wr rb)
 case atStart=>exact ⟨k,hk,h,Mv.refl _ _,rfl⟩
 case round =>
  obtain ⟨j,hj,hR,hM,hS⟩:=hrel;obtain ⟨c0,c1,c2⟩:=(uh hR).cells;obtain ⟨f1,f2⟩:=(uh hR).frees
  by_cases hlt:j < s.size
  · have hlt':(j:Int) < (s.size:Int):=by omega
    cases hi:inB kd.data.toList s[j] with
    | true =>
      have hi':0≤Lib.indexByte kd.data.toList s[j]:=by simpa [inB] using hi
      have HS2:=hide ((uh hS).trans (skipTo_on kd.data.toList s j hlt hi));clear hi h hS;go_wp2
      go_quiet ((go_at_call 145;exact Calls.quiet_of_same (Tryz.strings_IndexByte _ _ _)))
      go_wp2;have hR2:RL ((wr.drewN nq).setCell ⟨rb,1,none⟩ (.int .i64 ((j:Int)+1))) rb s ((j+1:Nat):Int) o:=RL.to (w:=wr.drewN nq) (uh hR) _;refine ⟨⟨j+1,by omega,hR2,((uh hM).drewN nq).trans (Mv.set _ _ _),HS2⟩,?_⟩;rw [hR2.atOf,(uh hR).atOf];omega
    | false =>
      have hi':Lib.indexByte kd.data.toList s[j] < 0:=by simpa [inB] using hi
      have HS2:=hide ((uh hS).trans (skipTo_off kd.data.toList s j hlt hi));clear hi h hS;go_wp2
      go_quiet ((go_at_call 145;exact Calls.quiet_of_same (Tryz.strings_IndexByte _ _ _)))
      go_wp2
      go_end0
      rw [HS2.out];exact ⟨rfl,uh hR,(uh hM).drewN nq⟩
  · have hlt':¬ (j:Int) < (s.size:Int):=by omega
    have HS2:=hide ((uh hS).trans (skipTo_end kd.data.toList s j (by omega)));clear h hS;go_wp2
    go_quiet (fail)
    go_wp2
    go_end0
    rw [HS2.out];exact ⟨rfl,uh hR,(uh hM).drewN nq⟩
end Go.Proofs.YthnhobplgmojeaaGreatDoor.rd
