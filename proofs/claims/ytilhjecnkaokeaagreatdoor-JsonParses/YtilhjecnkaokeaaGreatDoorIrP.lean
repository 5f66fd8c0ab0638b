/- Texts in one: Ir Is -/
import Derived.Test.YtilhjecnkaokeaaGreatDoorRuP
import Derived.Lib.RuneBytes
namespace Go.Proofs.YtilhjecnkaokeaaGreatDoor.rd
open Go.RowKit
set_option maxRecDepth 100000 in
set_option maxHeartbeats 1600000 in
theorem rbytes_any (r:Int) (w:World) (h0:0≤r) (h1:r≤1114111) (hn:¬ (55296≤r∧r≤57343)) :
 Calls Tryz.prog 143 #[.int .i64 r] w fun e w'=>e=.returned (.slice (some ⟨w.heap.size,0,none⟩) (Lib.encodeRuneZ r).length (Lib.encodeRuneZ r).length)∧w'=w.alloc (.cells (Lib.runeCells r).toArray 5):=by
 obtain ⟨rc,hrc⟩:∃ rc,rc=Lib.runeCells r:=⟨_,rfl⟩
 rw [← hrc]
 obtain ⟨n,hnn⟩:∃ n,n=(Lib.encodeRuneZ r).length:=⟨_,rfl⟩
 rw [← hnn]
 have t64:Int.tdiv r 64=r / 64:=Int.tdiv_eq_ediv_of_nonneg h0
 have t4096:Int.tdiv r 4096=r / 4096:=Int.tdiv_eq_ediv_of_nonneg h0
 have t262:Int.tdiv r 262144=r / 262144:=Int.tdiv_eq_ediv_of_nonneg h0
 have m64:Int.tmod r 64=r % 64:=Int.tmod_eq_emod_of_nonneg h0
 have m1:Int.tmod (r / 64) 64=r / 64 % 64:=Int.tmod_eq_emod_of_nonneg (by omega)
 have m2:Int.tmod (r / 4096) 64=r / 4096 % 64:=Int.tmod_eq_emod_of_nonneg (by omega)
 rcases (show (r≤127)∨(128≤r∧r≤2047)∨((2048≤r∧r < 55296)∨(57343 < r∧r≤65535))∨(65536≤r∧r≤1114111) by omega) with q|q|q|q
 · have e1:Lib.encodeRuneZ r=[r]:=Lib.encodeRuneZ_one h0 q
   have HC:Hid (rc=[.int .u8 r]):=by show rc=_;rw [hrc];unfold Lib.runeCells;rw [e1];rfl
   have HN:Hid (n=1):=by show n=_;rw [hnn,e1];rfl
   clear hrc hnn t64 t4096 t262 m64 m1 m2 hn
   have a1:r < 128:=by omega
   go_enter Tryz.func143,Tryz.ntmps143
   go_wp2
   go_ret
   rw [uh HC,uh HN]
   exact ⟨rfl,rfl⟩
 · have e1:=Lib.encodeRuneZ_two q.1 q.2
   have HC:Hid (rc=[.int .u8 (192+r / 64),.int .u8 (128+r % 64)]):=by show rc=_;rw [hrc];unfold Lib.runeCells;rw [e1];rfl
   have HN:Hid (n=2):=by show n=_;rw [hnn,e1];rfl
   clear hrc hnn t4096 t262 m1 m2 hn e1
   have a0:¬ r < 128:=by omega
   have a1:r < 2048:=by omega
   obtain ⟨x,hx⟩:∃ x,x=r / 64:=⟨_,rfl⟩
   obtain ⟨y,hy⟩:∃ y,y=r % 64:=⟨_,rfl⟩
   rw [← hx] at t64 HC
   rw [← hy] at m64 HC
   have bx:0≤x∧x≤31:=by omega
   have bb:0≤y∧y≤63:=by omega
   clear hx hy
   go_enter Tryz.func143,Tryz.ntmps143
   go_wp2
   go_ret
   rw [uh HC,uh HN]
   exact ⟨rfl,rfl⟩
 · have e1:=Lib.encodeRuneZ_three q
   have HC:Hid (rc=[.int .u8 (224+r / 4096),.int .u8 (128+r / 64 % 64),.int .u8 (128+r % 64)]):=by show rc=_;rw [hrc];unfold Lib.runeCells;rw [e1];rfl
   have HN:Hid (n=3):=by show n=_;rw [hnn,e1];rfl
   clear hrc hnn t262 m2 hn e1
   have a0:¬ r < 128:=by omega
   have a1:¬ r < 2048:=by omega
   have a2:r < 65536:=by omega
   obtain ⟨x,hx⟩:∃ x,x=r / 4096:=⟨_,rfl⟩
   obtain ⟨z,hz⟩:∃ z,z=r / 64 % 64:=⟨_,rfl⟩
   obtain ⟨y,hy⟩:∃ y,y=r % 64:=⟨_,rfl⟩
   rw [← hx] at t4096 HC
   rw [← hz] at m1 HC
   rw [← hy] at m64 HC
   have bx:0≤x∧x≤15:=by omega
   have bz:0≤z∧z≤63:=by omega
   have bb:0≤y∧y≤63:=by omega
   have b6:0≤r / 64∧r / 64≤1023:=by omega
   clear hx hy hz q
   generalize r / 64=v at *
   go_enter Tryz.func143,Tryz.ntmps143
   go_wp2
   go_ret
   rw [uh HC,uh HN]
   exact ⟨rfl,rfl⟩
 · have e1:Lib.encodeRuneZ r=[240+r / 262144,128+r / 4096 % 64,128+r / 64 % 64,128+r % 64]:=by
    unfold Lib.encodeRuneZ
    rw [if_neg (by omega),if_neg (by omega),if_neg (by omega),if_pos (by omega)]
   have HC:Hid (rc=[.int .u8 (240+r / 262144),.int .u8 (128+r / 4096 % 64),.int .u8 (128+r / 64 % 64),.int .u8 (128+r % 64)]):=by show rc=_;rw [hrc];unfold Lib.runeCells;rw [e1];rfl
   have HN:Hid (n=4):=by show n=_;rw [hnn,e1];rfl
   clear hrc hnn hn e1
   have a0:¬ r < 128:=by omega
   have a1:¬ r < 2048:=by omega
   have a2:¬ r < 65536:=by omega
   obtain ⟨x,hx⟩:∃ x,x=r / 262144:=⟨_,rfl⟩
   obtain ⟨u,hu⟩:∃ u,u=r / 4096 % 64:=⟨_,rfl⟩
   obtain ⟨z,hz⟩:∃ z,z=r / 64 % 64:=⟨_,rfl⟩
   obtain ⟨y,hy⟩:∃ y,y=r % 64:=⟨_,rfl⟩
   rw [← hx] at t262 HC
   rw [← hu] at m2 HC
   rw [← hz] at m1 HC
   rw [← hy] at m64 HC
   have bx:0≤x∧x≤4:=by omega
   have bu:0≤u∧u≤63:=by omega
   have bz:0≤z∧z≤63:=by omega
   have bb:0≤y∧y≤63:=by omega
   have b6:0≤r / 64∧r / 64≤17407:=by omega
   have b4:0≤r / 4096∧r / 4096≤271:=by omega
   clear hx hy hz hu q
   generalize r / 64=v at *
   generalize r / 4096=v4 at *
   go_enter Tryz.func143,Tryz.ntmps143
   go_wp2
   go_ret
   rw [uh HC,uh HN]
   exact ⟨rfl,rfl⟩
def EscPost (w:World) (r:Int × Int) (e:Ending) (w':World):Prop :=
 (r.2=0∧e=.returned (.tuple #[.slice none 0 0,.int .i64 0])∧w'=w) ∨
 (0 < r.2∧e=.returned (.tuple #[.slice (some ⟨w.heap.size,0,none⟩) (Lib.encodeRuneZ r.1).length (Lib.encodeRuneZ r.1).length,.int .i64 r.2])∧w'=w.alloc (.cells (Lib.runeCells r.1).toArray 5))
theorem by_out (s:ByteArray) (k:Nat) (h:s.size≤k):by_ s k=0:=by
 unfold by_
 rw [List.getD_eq_getElem?_getD,List.getElem?_eq_none (by rw [Array.length_toList];exact h)]
 rfl
set_option maxRecDepth 100000 in
set_option maxHeartbeats 6400000 in
theorem resc_any (s:ByteArray) (k:Nat) (w:World) (hk:k < s.size) (hs:s.size≤1048576) :
 Calls Tryz.prog 119 #[.string s,.int .i64 (k:Int)] w (EscPost w (escS s k)):=by
 obtain ⟨r,hr⟩:∃ r,r=escS s k:=⟨_,rfl⟩
 rw [← hr]
 unfold escS at hr
 by_cases a:s.size≤k+1
 · rw [if_pos a] at hr
   subst hr
   have a':(s.size:Int)≤(k:Int)+1:=by omega
   go_enter Tryz.func119,Tryz.ntmps119
   go_wp2
   go_ret2
   exact Or.inl ⟨rfl,rfl,rfl⟩
 rw [if_neg a] at hr
 have a':¬ (s.size:Int)≤(k:Int)+1:=by omega
 have hix:=index_any s (k+1) ((k:Int)+1) (by omega) (by omega)
 have hyb:=by_bd s (k+1)
 obtain ⟨ns,hns⟩:∃ ns,ns=numS s k:=⟨_,rfl⟩
 rw [← hns] at hr
 generalize by_ s (k+1)=y at *
 by_cases q:y=34∨y=92∨y=47∨y=98∨y=102∨y=110∨y=114∨y=116
 · clear hns hyb
   have hkm:(k:Int) < 1048576:=by omega
   rcases q with rfl|rfl|rfl|rfl|rfl|rfl|rfl|rfl
   · have hr2:r=(34,2):=hr
     clear hr
     subst hr2
     have HN:Hid (Lib.encodeRuneZ 34=[34]):=by
      show _=_
      decide
     go_enter Tryz.func119,Tryz.ntmps119
     go_wp2
     go_ret2
     refine Or.inr ⟨by show (0:Int) < 2;decide,?_,?_⟩
     · show _=Ending.returned (.tuple #[.slice _ (Lib.encodeRuneZ 34).length (Lib.encodeRuneZ 34).length,.int .i64 2])
       rw [uh HN];rfl
     · unfold Lib.runeCells
       show _=w.alloc (.cells ((Lib.encodeRuneZ 34).map _).toArray _)
       rw [uh HN];rfl
   · have hr2:r=(92,2):=hr
     clear hr
     subst hr2
     have HN:Hid (Lib.encodeRuneZ 92=[92]):=by
      show _=_
      decide
     go_enter Tryz.func119,Tryz.ntmps119
     go_wp2
     go_ret2
     refine Or.inr ⟨by show (0:Int) < 2;decide,?_,?_⟩
     · show _=Ending.returned (.tuple #[.slice _ (Lib.encodeRuneZ 92).length (Lib.encodeRuneZ 92).length,.int .i64 2])
       rw [uh HN];rfl
     · unfold Lib.runeCells
       show _=w.alloc (.cells ((Lib.encodeRuneZ 92).map _).toArray _)
       rw [uh HN];rfl
   · have hr2:r=(47,2):=hr
     clear hr
     subst hr2
     have HN:Hid (Lib.encodeRuneZ 47=[47]):=by
      show _=_
      decide
     go_enter Tryz.func119,Tryz.ntmps119
     go_wp2
     go_ret2
     refine Or.inr ⟨by show (0:Int) < 2;decide,?_,?_⟩
     · show _=Ending.returned (.tuple #[.slice _ (Lib.encodeRuneZ 47).length (Lib.encodeRuneZ 47).length,.int .i64 2])
       rw [uh HN];rfl
     · unfold Lib.runeCells
       show _=w.alloc (.cells ((Lib.encodeRuneZ 47).map _).toArray _)
       rw [uh HN];rfl
   · have hr2:r=(8,2):=hr
     clear hr
     subst hr2
     have HN:Hid (Lib.encodeRuneZ 8=[8]):=by
      show _=_
      decide
     go_enter Tryz.func119,Tryz.ntmps119
     go_wp2
     go_ret2
     refine Or.inr ⟨by show (0:Int) < 2;decide,?_,?_⟩
     · show _=Ending.returned (.tuple #[.slice _ (Lib.encodeRuneZ 8).length (Lib.encodeRuneZ 8).length,.int .i64 2])
       rw [uh HN];rfl
     · unfold Lib.runeCells
       show _=w.alloc (.cells ((Lib.encodeRuneZ 8).map _).toArray _)
       rw [uh HN];rfl
   · have hr2:r=(12,2):=hr
     clear hr
     subst hr2
     have HN:Hid (Lib.encodeRuneZ 12=[12]):=by
      show _=_
      decide
     go_enter Tryz.func119,Tryz.ntmps119
     go_wp2
     go_ret2
     refine Or.inr ⟨by show (0:Int) < 2;decide,?_,?_⟩
     · show _=Ending.returned (.tuple #[.slice _ (Lib.encodeRuneZ 12).length (Lib.encodeRuneZ 12).length,.int .i64 2])
       rw [uh HN];rfl
     · unfold Lib.runeCells
       show _=w.alloc (.cells ((Lib.encodeRuneZ 12).map _).toArray _)
       rw [uh HN];rfl
   · have hr2:r=(10,2):=hr
     clear hr
     subst hr2
     have HN:Hid (Lib.encodeRuneZ 10=[10]):=by
      show _=_
      decide
     go_enter Tryz.func119,Tryz.ntmps119
     go_wp2
     go_ret2
     refine Or.inr ⟨by show (0:Int) < 2;decide,?_,?_⟩
     · show _=Ending.returned (.tuple #[.slice _ (Lib.encodeRuneZ 10).length (Lib.encodeRuneZ 10).length,.int .i64 2])
       rw [uh HN];rfl
     · unfold Lib.runeCells
       show _=w.alloc (.cells ((Lib.encodeRuneZ 10).map _).toArray _)
       rw [uh HN];rfl
   · have hr2:r=(13,2):=hr
     clear hr
     subst hr2
     have HN:Hid (Lib.encodeRuneZ 13=[13]):=by
      show _=_
      decide
     go_enter Tryz.func119,Tryz.ntmps119
     go_wp2
     go_ret2
     refine Or.inr ⟨by show (0:Int) < 2;decide,?_,?_⟩
     · show _=Ending.returned (.tuple #[.slice _ (Lib.encodeRuneZ 13).length (Lib.encodeRuneZ 13).length,.int .i64 2])
       rw [uh HN];rfl
     · unfold Lib.runeCells
       show _=w.alloc (.cells ((Lib.encodeRuneZ 13).map _).toArray _)
       rw [uh HN];rfl
   · have hr2:r=(9,2):=hr
     clear hr
     subst hr2
     have HN:Hid (Lib.encodeRuneZ 9=[9]):=by
      show _=_
      decide
     go_enter Tryz.func119,Tryz.ntmps119
     go_wp2
     go_ret2
     refine Or.inr ⟨by show (0:Int) < 2;decide,?_,?_⟩
     · show _=Ending.returned (.tuple #[.slice _ (Lib.encodeRuneZ 9).length (Lib.encodeRuneZ 9).length,.int .i64 2])
       rw [uh HN];rfl
     · unfold Lib.runeCells
       show _=w.alloc (.cells ((Lib.encodeRuneZ 9).map _).toArray _)
       rw [uh HN];rfl
 by_cases q2:y=117
 · subst q2
   have hr2:r=ns:=hr
   clear hr q hyb
   subst hr2
   unfold numS at hns
   have hkm:(k:Int) < 1048576:=by omega
   have X1:=hide (rhex_any s (k+2) ((k:Int)+2) (by omega) w (by omega) hs)
   have hl:=hexR_lt s (k+2)
   cases hx:hexR s (k+2) with
   | none =>
     rw [hx] at hns X1
     clear hl hx
     have hr2:r=(0,0):=hns
     clear hns
     subst hr2
     simp only [hexI] at X1
     go_enter Tryz.func119,Tryz.ntmps119
     go_wp2_with fail
     refine (uh X1).mono ?_
     rintro e u ⟨rfl,hu⟩
     obtain rfl:=hu.symm
     clear hu X1
     go_wp2
     go_ret2
     exact Or.inl ⟨rfl,rfl,rfl⟩
   | some n =>
     obtain ⟨hn,hn6⟩:=hl n hx
     rw [hx] at hns X1
     clear hl hx
     simp only at hns
     simp only [hexI] at X1
     obtain ⟨ni,hni⟩:∃ ni:Int,ni=(n:Int):=⟨_,rfl⟩
     rw [← hni] at hns X1
     have hn0:decide (ni < 0)=false:=decide_eq_false (by omega)
     by_cases c1:n < 55296
     · rw [if_pos (.inl c1)] at hns
       subst hns
       have d1:decide (56320≤ni)=false:=decide_eq_false (by omega)
       have d2:decide (ni < 55296)=true:=decide_eq_true (by omega)
       have B1:=hide (rbytes_any ni w (by omega) (by omega) (by omega))
       clear hni hn c1 hn6
       go_enter Tryz.func119,Tryz.ntmps119
       go_wp2_with fail
       refine (uh X1).mono ?_
       rintro e u ⟨rfl,hu⟩
       obtain rfl:=hu.symm
       clear hu X1
       go_wp2_with fail
       refine (uh B1).mono ?_
       rintro e u1 ⟨rfl,hu⟩
       have HU:=hide hu
       clear hu B1
       go_wp2
       go_ret2
       exact Or.inr ⟨by show (0:Int) < 6;decide,rfl,uh HU⟩
     by_cases c2:57343 < n
     · rw [if_pos (.inr c2)] at hns
       subst hns
       have d0:decide (56320≤ni)=true:=decide_eq_true (by omega)
       have d1:decide (ni≤57343)=false:=decide_eq_false (by omega)
       have d2:decide (ni < 55296)=false:=decide_eq_false (by omega)
       have d3:decide (57343 < ni)=true:=decide_eq_true (by omega)
       have B1:=hide (rbytes_any ni w (by omega) (by omega) (by omega))
       clear hni hn c1 c2 hn6
       go_enter Tryz.func119,Tryz.ntmps119
       go_wp2_with fail
       refine (uh X1).mono ?_
       rintro e u ⟨rfl,hu⟩
       obtain rfl:=hu.symm
       clear hu X1
       go_wp2_with fail
       refine (uh B1).mono ?_
       rintro e u1 ⟨rfl,hu⟩
       have HU:=hide hu
       clear hu B1
       go_wp2
       go_ret2
       exact Or.inr ⟨by show (0:Int) < 6;decide,rfl,uh HU⟩
     rw [if_neg (by omega)] at hns
     by_cases c3:56320≤n
     · rw [if_pos c3] at hns
       subst hns
       have d0:decide (56320≤ni)=true:=decide_eq_true (by omega)
       have d1:decide (ni≤57343)=true:=decide_eq_true (by omega)
       clear hni hn c1 c2 c3 hn6
       go_enter Tryz.func119,Tryz.ntmps119
       go_wp2_with fail
       refine (uh X1).mono ?_
       rintro e u ⟨rfl,hu⟩
       obtain rfl:=hu.symm
       clear hu X1
       go_wp2
       go_ret2
       exact Or.inl ⟨rfl,rfl,rfl⟩
     rw [if_neg c3] at hns
     have d1:decide (56320≤ni)=false:=decide_eq_false (by omega)
     have d2:decide (ni < 55296)=false:=decide_eq_false (by omega)
     have d3:decide (57343 < ni)=false:=decide_eq_false (by omega)
     by_cases g:s.size≤k+7
     · have g':decide ((s.size:Int)≤(k:Int)+7)=true:=decide_eq_true (by omega)
       rw [by_out s (k+7) g,if_neg (by omega)] at hns
       subst hns
       clear hni hn c1 c2 c3 hn6 g
       go_enter Tryz.func119,Tryz.ntmps119
       go_wp2_with fail
       refine (uh X1).mono ?_
       rintro e u ⟨rfl,hu⟩
       obtain rfl:=hu.symm
       clear hu X1
       go_wp2
       go_ret2
       exact Or.inl ⟨rfl,rfl,rfl⟩
     have g':decide ((s.size:Int)≤(k:Int)+7)=false:=decide_eq_false (by omega)
     have hi6:=index_any s (k+6) ((k:Int)+6) (by omega) (by omega)
     have hi7:=index_any s (k+7) ((k:Int)+7) (by omega) (by omega)
     generalize by_ s (k+6)=y6 at *
     generalize by_ s (k+7)=y7 at *
     by_cases g6:y6=92
     · subst g6
       by_cases g7:y7=117
       · subst g7
         rw [if_pos ⟨rfl,rfl⟩] at hns
         have X2:=hide (rhex_any s (k+8) ((k:Int)+8) (by omega) w (by omega) hs)
         have hl:=hexR_lt s (k+8)
         cases hx:hexR s (k+8) with
         | none =>
           rw [hx] at hns X2
           clear hl hx
           have hr2:r=(0,0):=hns
           clear hns
           subst hr2
           simp only [hexI] at X2
           clear hni hn c1 c2 c3 hn6 g
           go_enter Tryz.func119,Tryz.ntmps119
           go_wp2_with fail
           refine (uh X1).mono ?_
           rintro e u ⟨rfl,hu⟩
           obtain rfl:=hu.symm
           clear hu X1
           go_wp2_with fail
           refine (uh X2).mono ?_
           rintro e u ⟨rfl,hu⟩
           obtain rfl:=hu.symm
           clear hu X2
           go_wp2
           go_ret2
           exact Or.inl ⟨rfl,rfl,rfl⟩
         | some m =>
           obtain ⟨hm,hm6⟩:=hl m hx
           rw [hx] at hns X2
           clear hl hx
           simp only at hns
           simp only [hexI] at X2
           obtain ⟨mi,hmi⟩:∃ mi:Int,mi=(m:Int):=⟨_,rfl⟩
           rw [← hmi] at hns X2
           by_cases p1:m < 56320
           · rw [if_pos (.inl p1)] at hns
             subst hns
             have p1':decide (mi < 56320)=true:=decide_eq_true (by omega)
             clear hni hn c1 c2 c3 hn6 g hmi hm hm6 p1
             go_enter Tryz.func119,Tryz.ntmps119
             go_wp2_with fail
             refine (uh X1).mono ?_
             rintro e u ⟨rfl,hu⟩
             obtain rfl:=hu.symm
             clear hu X1
             go_wp2_with fail
             refine (uh X2).mono ?_
             rintro e u ⟨rfl,hu⟩
             obtain rfl:=hu.symm
             clear hu X2
             go_wp2
             go_ret2
             exact Or.inl ⟨rfl,rfl,rfl⟩
           have p1':decide (mi < 56320)=false:=decide_eq_false (by omega)
           by_cases p2:57343 < m
           · rw [if_pos (.inr p2)] at hns
             subst hns
             have p2':decide (57343 < mi)=true:=decide_eq_true (by omega)
             clear hni hn c1 c2 c3 hn6 g hmi hm hm6 p1 p2
             go_enter Tryz.func119,Tryz.ntmps119
             go_wp2_with fail
             refine (uh X1).mono ?_
             rintro e u ⟨rfl,hu⟩
             obtain rfl:=hu.symm
             clear hu X1
             go_wp2_with fail
             refine (uh X2).mono ?_
             rintro e u ⟨rfl,hu⟩
             obtain rfl:=hu.symm
             clear hu X2
             go_wp2
             go_ret2
             exact Or.inl ⟨rfl,rfl,rfl⟩
           have p2':decide (57343 < mi)=false:=decide_eq_false (by omega)
           rw [if_neg (by omega)] at hns
           have B1:=hide (fun (x:Int) (hx:x=65536+(ni - 55296)*1024+(mi - 56320))=>rbytes_any x w (by omega) (by omega) (by omega))
           obtain ⟨x,hx⟩:∃ x:Int,x=65536+(ni - 55296)*1024+(mi - 56320):=⟨_,rfl⟩
           rw [← hx] at hns
           subst hns
           have B2:=hide (uh B1 x hx)
           have hx2:65536+(ni - 55296)*1024+mi - 56320=x:=by omega
           have HX2:=hide hx2
           have HB:Hid (55296≤ni∧ni≤56319∧56320≤mi∧mi≤57343):=by
            show _∧_
            omega
           clear B1 hx hx2
           clear hni hn c1 c2 c3 hn6 g hmi hm hm6 p1 p2
           go_enter Tryz.func119,Tryz.ntmps119
           go_wp2_with fail
           refine (uh X1).mono ?_
           rintro e u ⟨rfl,hu⟩
           obtain rfl:=hu.symm
           clear hu X1
           go_wp2_with fail
           refine (uh X2).mono ?_
           rintro e u ⟨rfl,hu⟩
           obtain rfl:=hu.symm
           clear hu X2
           go_upto_region 29 with fail
           obtain ⟨n1,n2,m1,m2⟩:=uh HB
           clear hn0 d1 d2 d3 p1' p2'
           go_wp2_with fail
           rw [uh HX2]
           refine (uh B2).mono ?_
           rintro e u1 ⟨rfl,hu⟩
           have HU:=hide hu
           clear hu B2
           go_wp2
           go_ret2
           exact Or.inr ⟨by show (0:Int) < 12;decide,rfl,uh HU⟩
       · rw [if_neg (fun z=>g7 z.2)] at hns
         subst hns
         have g7':(y7 != 117)=true:=by simp [g7]
         clear hni hn c1 c2 c3 hn6 g g7
         go_enter Tryz.func119,Tryz.ntmps119
         go_wp2_with fail
         refine (uh X1).mono ?_
         rintro e u ⟨rfl,hu⟩
         obtain rfl:=hu.symm
         clear hu X1
         go_wp2
         go_ret2
         exact Or.inl ⟨rfl,rfl,rfl⟩
     · rw [if_neg (fun z=>g6 z.1)] at hns
       subst hns
       have g6':(y6 != 92)=true:=by simp [g6]
       clear hni hn c1 c2 c3 hn6 g g6
       go_enter Tryz.func119,Tryz.ntmps119
       go_wp2_with fail
       refine (uh X1).mono ?_
       rintro e u ⟨rfl,hu⟩
       obtain rfl:=hu.symm
       clear hu X1
       go_wp2
       go_ret2
       exact Or.inl ⟨rfl,rfl,rfl⟩
 · have hr2:r=(0,0):=by
    rw [hr];unfold escC
    rw [if_neg (by omega),if_neg (by omega),if_neg (by omega),if_neg (by omega),if_neg (by omega),if_neg (by omega),if_neg q2]
   clear hr hns
   subst hr2
   have n34:(y == 34)=false:=beq_eq_false_iff_ne.mpr (by omega)
   have n92:(y == 92)=false:=beq_eq_false_iff_ne.mpr (by omega)
   have n47:(y == 47)=false:=beq_eq_false_iff_ne.mpr (by omega)
   have n98:(y == 98)=false:=beq_eq_false_iff_ne.mpr (by omega)
   have n102:(y == 102)=false:=beq_eq_false_iff_ne.mpr (by omega)
   have n110:(y == 110)=false:=beq_eq_false_iff_ne.mpr (by omega)
   have n114:(y == 114)=false:=beq_eq_false_iff_ne.mpr (by omega)
   have n116:(y == 116)=false:=beq_eq_false_iff_ne.mpr (by omega)
   have n117:(y == 117)=false:=beq_eq_false_iff_ne.mpr (by omega)
   have hkm:(k:Int) < 1048576:=by omega
   clear q q2 hyb
   go_enter Tryz.func119,Tryz.ntmps119
   go_wp2
   go_ret2
   exact Or.inl ⟨rfl,rfl,rfl⟩
end Go.Proofs.YtilhjecnkaokeaaGreatDoor.rd
