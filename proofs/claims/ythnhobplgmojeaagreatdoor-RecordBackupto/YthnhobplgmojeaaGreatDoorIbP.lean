/- Texts in one: Ib Pa Su Sp -/
import Derived.Test.YthnhobplgmojeaaGreatDoorOdP
import Derived.Deep.RegionWith
import Derived.Deep.RegionHeld3
import Derived.Test.YthnhobplgmojeaaGreatDoorNuP
import Derived.Lib.Repeat
namespace Go.Proofs.YthnhobplgmojeaaGreatDoor.rd
open Go.RowKit
def bounded (neg:Bool) (s:ByteArray) (ex:Int) (eX:Value):Value × Value :=
 if (oneForm neg s ex).2 then (dv (oneForm neg s ex).1,.nilIface) else (dv zed,eX)
theorem ret_inBounds {m:Nat} (w:World) (d:Dn) (ev:Value) (h:DLies w m d) (tmps:Array Value) (h2:tmps.getD 6 undef=.pointer (some ⟨m,0,none⟩)) (h3:tmps.getD 7 undef=ev) :
 (results Tryz.f187 tmps).run Tryz.prog w=.ok (.tuple #[dv d,ev]) w:=by
 obtain ⟨q0,q1,q2⟩:=h.cells;rw [results_cell_tmp Tryz.results187,h2,h3];simp [go_sem,q0,q1,q2,dv]
set_option maxRecDepth 100000 in
set_option maxHeartbeats 800000 in
theorem inBounds_any (neg:Bool) (s:ByteArray) (ex:Int) (eX:Value) (w:World) (hs:s.size≤140737488351232) (h0:-9223372036854775808≤ex) (h1:ex≤9223372036854775807)
 (hg:12 < w.heap.size) (hE:w.cell? ⟨12,0,none⟩=some eX) :
 Calls Tryz.prog 187 #[.bool neg,.string s,.int .i64 ex] w fun e w'=>e=.returned (.tuple #[(bounded neg s ex eX).1,(bounded neg s ex eX).2])∧Below w.heap.size w w':=by
 have c:=fun w=>oneForm_any neg s ex w hs h0 h1
 have HB:Hid (bounded neg s ex eX=if (oneForm neg s ex).2 then (dv (oneForm neg s ex).1,.nilIface) else (dv zed,eX)):=rfl;generalize bounded neg s ex eX=r at HB ⊢;generalize oneForm neg s ex=o at *;obtain ⟨d,ok⟩:=o;have C:=hide c;clear c
 go_enter Tryz.func187,Tryz.ntmps187
 go_wp2_with fail
 refine (uh C _).mono ?_;rintro e w1 ⟨rfl,hb1⟩;have hz1:w.heap.size < w1.heap.size:=by have:=hb1.size;simp at this;omega
 have l1:DLies w1 w.heap.size zed:=(dlies_new w zed).below hb1 (by simp)
 have hE1:w1.cell? ⟨12,0,none⟩=some eX:=by
  rw [hb1.cell (by simp <;> omega)];simpa [World.cell?_alloc_past,hg] using hE
 have hg1:12 < w1.heap.size:=by omega
 have hbb:Below w.heap.size w w1:=((Below.refl _ _).alloc (Nat.le_refl _) _).trans (hb1.mono (by simp));obtain ⟨q0,q1,q2⟩:=l1.cells;obtain ⟨f0,f1,f2⟩:=l1.frees;obtain ⟨dn,dd,de⟩:=d;simp only [dv]
 cases ok
 · have hr:r=(dv zed,eX):=by rw [HB.out];rfl
   subst hr;clear HB
   go_wp2_with fail
   go_region
   all_goals go_wp2
   exact bodyPost_ret (ret_inBounds _ zed eX ((l1.set false ⟨#[]⟩ 0).alloc _).drew _ rfl rfl) rfl ⟨rfl,(below3a hbb (Nat.le_refl _) (by omega) _ _ _ _).drew⟩
 · have hr:r=(dv ⟨dn,dd,de⟩,.nilIface):=by rw [HB.out];rfl
   subst hr;clear HB;go_wp2;exact bodyPost_ret (ret_inBounds _ ⟨dn,dd,de⟩ .nilIface ((l1.set dn dd de).alloc _) _ rfl rfl) rfl ⟨rfl,below3a hbb (Nat.le_refl _) (by omega) _ _ _ _⟩
def norm (d:Dn):Dn:=(oneForm d.neg (digs d.dg) d.ex).1
theorem digs_le (s:ByteArray):(digs s).size≤s.size:=by
 have h:(s.data.toList.filter nu.dig).length≤s.data.toList.length:=List.length_filter_le _ _;have e1:(digs s).size=(s.data.toList.filter nu.dig).length:=by unfold digs;exact List.size_toArray
 have e2:s.data.toList.length=s.size:=by rw [Array.length_toList];rfl
 omega
theorem keepS {b c:Nat}{v0 v1 v2 u0 u1 u2:Value}{W w1:World} (hb:Below W.heap.size W w1)
 (h:W.cell? ⟨b,0,none⟩=some v0∧W.cell? ⟨b,1,none⟩=some v1∧W.cell? ⟨b,2,none⟩=some v2∧W.cell? ⟨c,0,none⟩=some u0∧W.cell? ⟨c,1,none⟩=some u1∧W.cell? ⟨c,2,none⟩=some u2 ∧
  W.frozen? ⟨c,0,none⟩=false∧W.frozen? ⟨c,1,none⟩=false∧W.frozen? ⟨c,2,none⟩=false∧b < W.heap.size∧c < W.heap.size) :
 w1.cell? ⟨b,0,none⟩=some v0∧w1.cell? ⟨b,1,none⟩=some v1∧w1.cell? ⟨b,2,none⟩=some v2∧w1.cell? ⟨c,0,none⟩=some u0∧w1.cell? ⟨c,1,none⟩=some u1∧w1.cell? ⟨c,2,none⟩=some u2 ∧
  w1.frozen? ⟨c,0,none⟩=false∧w1.frozen? ⟨c,1,none⟩=false∧w1.frozen? ⟨c,2,none⟩=false∧b < w1.heap.size∧c < w1.heap.size:=by
 obtain ⟨h0,h1,h2,g0,g1,g2,f0,f1,f2,lb,lc⟩:=h;have hs:=hb.size;have ec:∀ m o,m < W.heap.size→w1.cell? ⟨m,o,none⟩=W.cell? ⟨m,o,none⟩:=fun m o hm=>hb.cell (p:=⟨m,o,none⟩) hm
 have ef:∀ m o,m < W.heap.size→w1.frozen? ⟨m,o,none⟩=W.frozen? ⟨m,o,none⟩:=fun m o hm=>hb.frozen (p:=⟨m,o,none⟩) hm
 rw [ec b 0 lb,ec b 1 lb,ec b 2 lb,ec c 0 lc,ec c 1 lc,ec c 2 lc,ef c 0 lc,ef c 1 lc,ef c 2 lc];exact ⟨h0,h1,h2,g0,g1,g2,f0,f1,f2,by omega,by omega⟩
theorem ret_norm {m:Nat} (w:World) (d:Dn) (h0:w.cell? ⟨m,0,none⟩=some (.bool d.neg)) (h1:w.cell? ⟨m,1,none⟩=some (.string d.dg)) (h2:w.cell? ⟨m,2,none⟩=some (.int .i64 d.ex)) (tmps:Array Value) (ht:tmps[2]?.getD undef=.pointer (some ⟨m,0,none⟩)) :
 (results Tryz.f112 tmps).run Tryz.prog w=.ok (dv d) w:=by
 simp [results,Tryz.results112,ht,go_sem,h0,h1,h2,dv]
set_option maxRecDepth 100000 in
set_option maxHeartbeats 800000 in
theorem norm_any (d:Dn) (w:World) (hs:d.dg.size≤140737488351232) (h0:-9223372036854775808≤d.ex) (h1:d.ex≤9223372036854775807) :
 Calls Tryz.prog 112 #[dv d] w fun e w'=>e=.returned (dv (norm d))∧Below w.heap.size w w':=by
 obtain ⟨n,g,x⟩:=d;simp only at hs h0 h1;have hl:=digs_le g;have c2:=fun w=>oneForm_any n (digs g) x w (by omega) h0 h1
 have HB:Hid (norm ⟨n,g,x⟩=(oneForm n (digs g) x).1):=rfl;generalize norm ⟨n,g,x⟩=r at HB ⊢;have c1:=fun w=>onlyDigits_any g w hs
 generalize digs g=dg at *;generalize oneForm n dg x=o at *;obtain ⟨r',ok⟩:=o;obtain rfl:r=r':=HB;obtain ⟨rn,rg,rx⟩:=r;simp only [dv] at c2 ⊢;have C1:=hide c1;have C2:=hide c2;clear c1 c2;have n3:w.heap.size+1+1≠w.heap.size:=by omega
 have n4:w.heap.size≠w.heap.size+1+1:=by omega
 have n5:w.heap.size+1+1≠w.heap.size+1:=by omega
 have n6:w.heap.size+1≠w.heap.size+1+1:=by omega
 go_enter Tryz.func112,Tryz.ntmps112
 go_wp2_with fail
 go_region_held3 (fun w'=>w'.cell? ⟨w.heap.size,0,none⟩=some (.bool n)∧w'.cell? ⟨w.heap.size,1,none⟩=some (.string g)∧w'.cell? ⟨w.heap.size,2,none⟩=some (.int .i64 x)∧w'.cell? ⟨w.heap.size+1,0,none⟩=some (.bool false)∧w'.cell? ⟨w.heap.size+1,1,none⟩=some (.string ⟨#[]⟩)∧w'.cell? ⟨w.heap.size+1,2,none⟩=some (.int .i64 0)∧w'.frozen? ⟨w.heap.size+1,0,none⟩=false∧w'.frozen? ⟨w.heap.size+1,1,none⟩=false∧w'.frozen? ⟨w.heap.size+1,2,none⟩=false∧w.heap.size < w'.heap.size∧w.heap.size+1 < w'.heap.size) (((try dsimp only);(repeat' apply And.intro);all_goals first|(go_keep;done)|(simp [*,World.frozen?_alloc_past];done)|(simp;omega)|(simp [World.setCell];omega))) (first
  | (go_at_call 134;refine (uh C1 _).mono ?_;rintro e w1 ⟨rfl,hb1⟩;obtain ⟨k0,k1,k2,k3,k4,k5,k6,k7,k8,k9,k10⟩:=keepS (v0:=.bool n) (v1:=.string g) (v2:=.int .i64 x) (u0:=.bool false) (u1:=.string ⟨#[]⟩) (u2:=.int .i64 0) (b:=w.heap.size) (c:=w.heap.size+1) hb1 (by first|assumption|go_keep);obtain ⟨bc1,bf1⟩:=bcell hb1;have hs1:=hb1.size;have HB1:Hid (Below w.heap.size w w1):=(by refine Below.trans ?_ (hb1.mono (by first|(simp;omega)|simp|omega));repeat (first|exact Below.refl _ _|apply Below.drew|refine Below.alloc ?_ (by first|(simp;omega)|simp|omega) _));clear hb1;simp only [heap_drew,World.size_alloc,Nat.add_one_le_iff] at hs1 bc1 bf1;have n1:w1.heap.size≠w.heap.size:=(by omega);have n1':w.heap.size≠w1.heap.size:=(by omega);have n7:w1.heap.size≠w.heap.size+1:=(by omega);have n7':w.heap.size+1≠w1.heap.size:=(by omega))
  | (go_at_call 133;refine (uh C2 _).mono ?_;rintro e w2 ⟨rfl,hb2⟩;obtain ⟨m0,m1,m2,m3,m4,m5,m6,m7,m8,m9,m10⟩:=keepS (v0:=.bool n) (v1:=.string g) (v2:=.int .i64 x) (u0:=.bool false) (u1:=.string ⟨#[]⟩) (u2:=.int .i64 0) (b:=w.heap.size) (c:=w.heap.size+1) hb2 (by first|assumption|go_keep);obtain ⟨bc2,bf2⟩:=bcell hb2;have hs2:=hb2.size;have HB2:Hid (Below w.heap.size w w2):=(by refine Below.trans ?_ (hb2.mono (by first|(simp;omega)|simp|omega));repeat (first|exact HB1.out|apply Below.drew|refine Below.alloc ?_ (by first|(simp;omega)|simp|omega) _));clear hb2;(try simp only [World.size_alloc] at hs2 bc2 bf2);have n2:w2.heap.size≠w.heap.size:=(by omega);have n2':w.heap.size≠w2.heap.size:=(by omega)))
 all_goals go_wp2
 all_goals refine bodyPost_ret (ret_norm _ ⟨rn,rg,rx⟩ (by simp [go_sem, *]) (by simp [go_sem, *]) (by simp [go_sem, *]) _ rfl) rfl ⟨rfl,?_⟩
 · exact below3a HB2.out (by omega) (by omega) _ _ _ _
 · exact below3 (below3 HB2.out (by omega) _ _ _) (by omega) _ _ _
 · exact below3 (below3 HB2.out (by omega) _ _ _) (by omega) _ _ _
def parsed (s:ByteArray) (eN eX:Value):Value × Value :=
 match nu.numeral s with
 | none=>(dv zed,eN)
 | some x=>bounded x.neg (x.wh++x.fr) (expo x) eX
theorem ret_parse {m:Nat} (w:World) (d:Dn) (ev:Value) (h0:w.cell? ⟨m,0,none⟩=some (.bool d.neg)) (h1:w.cell? ⟨m,1,none⟩=some (.string d.dg)) (h2:w.cell? ⟨m,2,none⟩=some (.int .i64 d.ex)) (tmps:Array Value) (ht:tmps.getD 2 undef=.pointer (some ⟨m,0,none⟩)) (h3:tmps.getD 3 undef=ev) :
 (results Tryz.f158 tmps).run Tryz.prog w=.ok (.tuple #[dv d,ev]) w:=by
 rw [results_cell_tmp Tryz.results158,ht,h3];simp [go_sem,h0,h1,h2,dv]
theorem ret_parse2 {m:Nat} (w:World) (d:Dn) (ev:Value) (h:DLies w m d) (tmps:Array Value) (h2:tmps.getD 2 undef=.pointer (some ⟨m,0,none⟩)) (h3:tmps.getD 3 undef=ev) :
 (results Tryz.f158 tmps).run Tryz.prog w=.ok (.tuple #[dv d,ev]) w:=ret_parse w d ev h.cells.1 h.cells.2.1 h.cells.2.2 tmps h2 h3
theorem keepPa {b0 b1 b2:Nat}{v0 v1 v2 v3 v4 v5:Value}{W w1:World} (hb:Below W.heap.size W w1)
 (h:W.cell? ⟨b0,0,none⟩=some v0∧W.cell? ⟨b0,1,none⟩=some v1∧W.cell? ⟨b0,2,none⟩=some v2∧W.cell? ⟨b0,3,none⟩=some v3∧W.cell? ⟨b0,4,none⟩=some v4∧W.cell? ⟨b1,0,none⟩=some v5∧b0 < W.heap.size∧b2 < W.heap.size∧b1 < W.heap.size) :
 w1.cell? ⟨b0,0,none⟩=some v0∧w1.cell? ⟨b0,1,none⟩=some v1∧w1.cell? ⟨b0,2,none⟩=some v2∧w1.cell? ⟨b0,3,none⟩=some v3∧w1.cell? ⟨b0,4,none⟩=some v4∧w1.cell? ⟨b1,0,none⟩=some v5∧b0 < w1.heap.size∧b2 < w1.heap.size∧b1 < w1.heap.size:=by
 obtain ⟨c0,c1,c2,c3,c4,c5,z0,z1,z2⟩:=h;exact ⟨keepC hb c0,keepC hb c1,keepC hb c2,keepC hb c3,keepC hb c4,keepC hb c5,Nat.lt_of_lt_of_le z0 hb.size,Nat.lt_of_lt_of_le z1 hb.size,Nat.lt_of_lt_of_le z2 hb.size⟩
theorem bounded_form (neg:Bool) (s:ByteArray) (ex:Int) (eX:Value):∃ d ev,bounded neg s ex eX=(dv d,ev):=by
 unfold bounded;split
 · exact ⟨_,_,rfl⟩
 · exact ⟨_,_,rfl⟩
set_option maxRecDepth 100000 in
set_option maxHeartbeats 1600000 in
theorem parse_any (s:ByteArray) (eN eX:Value) (w:World) (hs:s.size≤1099511627776)
 (hg0:7 < w.heap.size) (hE0:w.cell? ⟨7,0,none⟩=some eN)
 (hg1:12 < w.heap.size) (hE1:w.cell? ⟨12,0,none⟩=some eX) :
 Calls Tryz.prog 158 #[.string s] w fun e w'=>e=.returned (.tuple #[(parsed s eN eX).1,(parsed s eN eX).2])∧Below w.heap.size w w':=by
 have HP:Hid (parsed s eN eX=parsed s eN eX):=rfl;generalize hr:parsed s eN eX=r;have HR:=hide hr;clear hr HP
 cases hnum:nu.numeral s with
 | none =>
   have hr:r=(dv zed,eN):=by rw [← HR.out];unfold parsed;rw [hnum]
   subst hr;have HN:=hide hnum;clear hnum HR
   go_enter Tryz.func158,Tryz.ntmps158
   go_wp2_with fail
   refine (numeral_any _ s (by omega)).mono ?_;rintro e w1 ⟨x,ok,rfl,hb1,hy,hn⟩
   obtain rfl:ok=false:=by
    cases ok with
    | false=>rfl
    | true=>rw [uh HN] at hy;cases hy rfl
   have hz1:w.heap.size < w1.heap.size:=by have:=hb1.size;simp at this;omega
   have g0:7 < w1.heap.size:=by omega
   have l1:DLies w1 w.heap.size zed:=(dlies_new w zed).below hb1 (by simp)
   have e0:w1.cell? ⟨7,0,none⟩=some eN:=by
    rw [hb1.cell (by first|(simp;done)|(simp;omega))];simpa [World.cell?_alloc_past,hg0] using hE0
   have hbb:Below w.heap.size w w1:=((Below.refl _ _).alloc (Nat.le_refl _) _).trans (hb1.mono (by simp));obtain ⟨q0,q1,q2⟩:=l1.cells;obtain ⟨f0,f1,f2⟩:=l1.frees;clear hy hn hb1 hE0 hE1;obtain ⟨a,b,c,d,e⟩:=x;simp only
   go_wp2_with fail
   go_region
   all_goals go_wp2
   exact bodyPost_ret (ret_parse2 _ zed eN ((l1.set false ⟨#[]⟩ 0).alloc _).drew _ rfl rfl) rfl ⟨rfl,(below3a hbb (Nat.le_refl _) (by omega) _ _ _ _).drew⟩
 | some x =>
   have hgood:=nu.numeral_good s x hnum;have hp:r=bounded x.neg (x.wh++x.fr) (expo x) eX:=by rw [← HR.out];unfold parsed;rw [hnum]
   have hbd:=psize_bd x.pw.data.toList hgood.dg
   have hexb:-10995116277770 - 1099511627776≤expo x∧expo x≤10995116277770:=by
    have:=hgood.fr;unfold expo
    split <;> omega
   have c1:=fun w=>exponent_any x w hgood.dg (by have:=hgood.pw;omega) (by have:=hgood.fr;omega)
   have c2:=fun w (h1:12 < w.heap.size) (h2:w.cell? ⟨12,0,none⟩=some eX)=>inBounds_any x.neg (x.wh++x.fr) (expo x) eX w (by have:=hgood.wh;have:=hgood.fr;simp;omega) (by omega) (by omega) h1 h2
   have hsum:x.wh.size+x.fr.size≤9223372036854775807:=by have:=hgood.wh;have:=hgood.fr;omega
   obtain ⟨bd,bev,hbf⟩:=bounded_form x.neg (x.wh++x.fr) (expo x) eX;rw [hbf] at c2 hp;subst hp;have HN:=hide hnum;clear hbf hgood hbd HR hnum;obtain ⟨a,b,c,d,e⟩:=x;obtain ⟨dn,dd,de⟩:=bd;simp only [dv] at c1 c2 hsum ⊢;have HX:Hid (expo ⟨a,b,c,d,e⟩=expo ⟨a,b,c,d,e⟩):=rfl;generalize expo ⟨a,b,c,d,e⟩=ex at *;have C1:=hide c1;have C2:=hide c2;clear c1 c2 HX
   go_enter Tryz.func158,Tryz.ntmps158
   go_wp2_with fail
   refine (numeral_any _ s (by omega)).mono ?_;rintro e' w1 ⟨x,ok,rfl,hb1,hy,hn⟩
   obtain rfl:ok=true:=by
    cases ok with
    | true=>rfl
    | false=>rw [uh HN] at hn;cases hn rfl
   obtain rfl:x=⟨a,b,c,d,e⟩:=by
    rw [uh HN] at hy;exact (Option.some.inj (hy rfl)).symm
   have hz1:w.heap.size < w1.heap.size:=by have:=hb1.size;simp at this;omega
   have g1:12 < w1.heap.size:=by omega
   have l1:DLies w1 w.heap.size zed:=(dlies_new w zed).below hb1 (by simp)
   have e1:w1.cell? ⟨12,0,none⟩=some eX:=by
    rw [hb1.cell (by first|(simp;done)|(simp;omega))];simpa [World.cell?_alloc_past,hg1] using hE1
   have hbb:Below w.heap.size w w1:=((Below.refl _ _).alloc (Nat.le_refl _) _).trans (hb1.mono (by simp));have q0:w1.cell? ⟨w.heap.size,0,none⟩=some (.bool false):=l1.cells.1;have q1:w1.cell? ⟨w.heap.size,1,none⟩=some (.string ⟨#[]⟩):=l1.cells.2.1;have q2:w1.cell? ⟨w.heap.size,2,none⟩=some (.int .i64 0):=l1.cells.2.2;obtain ⟨f0,f1,f2⟩:=l1.frees;clear hy hn hb1 hE0 hE1;simp only;have hcat:∀ u:World,(Op.stringOp .add b c).run Tryz.prog u=.ok (.string (b++c)) u:=fun u=>run_string_add_sum u b c hsum
   have n1:w1.heap.size≠w.heap.size:=by omega
   have n3:w.heap.size≠12:=by omega
   have n4:12≠w.heap.size:=by omega
   have n2:w.heap.size≠w1.heap.size:=by omega
   go_wp2_with fail
   go_region_held3 (fun w'=>w'.cell? ⟨w1.heap.size,0,none⟩=some (.bool a)∧w'.cell? ⟨w1.heap.size,1,none⟩=some (.string b)∧w'.cell? ⟨w1.heap.size,2,none⟩=some (.string c)∧w'.cell? ⟨w1.heap.size,3,none⟩=some (.bool d)∧w'.cell? ⟨w1.heap.size,4,none⟩=some (.string e)∧w'.cell? ⟨12,0,none⟩=some (eX)∧w1.heap.size < w'.heap.size∧w.heap.size < w'.heap.size∧12 < w'.heap.size) (((try dsimp only);(repeat' apply And.intro);all_goals first|(go_keep;done)|(simp;omega)|(simp [World.setCell];omega))) (first
    | (go_at_call 188;refine (uh C1 _).mono ?_;rintro e w2 ⟨rfl,hb2⟩;obtain ⟨k0,k1,k2,k3,k4,k5,k6,k7,k8⟩:=keepPa (b0:=w1.heap.size) (b1:=12) (b2:=w.heap.size) (v0:=.bool a) (v1:=.string b) (v2:=.string c) (v3:=.bool d) (v4:=.string e) (v5:=eX) hb2 (by first|assumption|go_keep);have rc0:=keepC (b:=w.heap.size) (o:=0) (v:=.bool false) hb2 (by first|assumption|(go_keep;done)|(simp [*,World.cell?_alloc_past];done));have rc1:=keepC (b:=w.heap.size) (o:=1) (v:=.string ⟨#[]⟩) hb2 (by first|assumption|(go_keep;done)|(simp [*,World.cell?_alloc_past];done));have rc2:=keepC (b:=w.heap.size) (o:=2) (v:=.int .i64 0) hb2 (by first|assumption|(go_keep;done)|(simp [*,World.cell?_alloc_past];done));have rf0:=keepF (b:=w.heap.size) (o:=0) (o':=0) (v:=.bool false) hb2 (by first|assumption|(go_keep;done)|(simp [*,World.cell?_alloc_past];done)) (by first|assumption|(simp [*,World.frozen?_alloc_past];done));have rf1:=keepF (b:=w.heap.size) (o:=0) (o':=1) (v:=.bool false) hb2 (by first|assumption|(go_keep;done)|(simp [*,World.cell?_alloc_past];done)) (by first|assumption|(simp [*,World.frozen?_alloc_past];done));have rf2:=keepF (b:=w.heap.size) (o:=0) (o':=2) (v:=.bool false) hb2 (by first|assumption|(go_keep;done)|(simp [*,World.cell?_alloc_past];done)) (by first|assumption|(simp [*,World.frozen?_alloc_past];done));have HB2:Hid (Below w.heap.size w w2):=(by refine Below.trans ?_ (hb2.mono (by first|(simp;omega)|simp|omega));repeat (first|exact hbb|apply Below.drew|refine Below.alloc ?_ (by first|(simp;omega)|simp|omega) _));clear hb2)
    | (go_at_call 187;refine (uh C2 _ (by assumption) (by assumption)).mono ?_;rintro e w3 ⟨rfl,hb3⟩;obtain ⟨m0,m1,m2,m3,m4,m5,m6,m7,m8⟩:=keepPa (b0:=w1.heap.size) (b1:=12) (b2:=w.heap.size) (v0:=.bool a) (v1:=.string b) (v2:=.string c) (v3:=.bool d) (v4:=.string e) (v5:=eX) hb3 (by first|assumption|go_keep);have tc0:=keepC (b:=w.heap.size) (o:=0) (v:=.bool false) hb3 (by first|assumption|(go_keep;done)|(simp [*,World.cell?_alloc_past];done));have tc1:=keepC (b:=w.heap.size) (o:=1) (v:=.string ⟨#[]⟩) hb3 (by first|assumption|(go_keep;done)|(simp [*,World.cell?_alloc_past];done));have tc2:=keepC (b:=w.heap.size) (o:=2) (v:=.int .i64 0) hb3 (by first|assumption|(go_keep;done)|(simp [*,World.cell?_alloc_past];done));have tf0:=keepF (b:=w.heap.size) (o:=0) (o':=0) (v:=.bool false) hb3 (by first|assumption|(go_keep;done)|(simp [*,World.cell?_alloc_past];done)) (by first|assumption|(simp [*,World.frozen?_alloc_past];done));have tf1:=keepF (b:=w.heap.size) (o:=0) (o':=1) (v:=.bool false) hb3 (by first|assumption|(go_keep;done)|(simp [*,World.cell?_alloc_past];done)) (by first|assumption|(simp [*,World.frozen?_alloc_past];done));have tf2:=keepF (b:=w.heap.size) (o:=0) (o':=2) (v:=.bool false) hb3 (by first|assumption|(go_keep;done)|(simp [*,World.cell?_alloc_past];done)) (by first|assumption|(simp [*,World.frozen?_alloc_past];done));have HB3:Hid (Below w.heap.size w w3):=(by refine Below.trans ?_ (hb3.mono (by first|(simp;omega)|simp|omega));repeat (first|exact HB2.out|apply Below.drew|refine Below.alloc ?_ (by first|(simp;omega)|simp|omega) _));clear hb3))
   all_goals go_wp2
   all_goals refine bodyPost_ret (ret_parse _ ⟨dn,dd,de⟩ bev (by simp [go_sem, *]) (by simp [go_sem, *]) (by simp [go_sem, *]) _ rfl rfl) rfl ⟨rfl,?_⟩
   all_goals exact below3 HB3.out (Nat.le_refl _) _ _ _
def sumL:List UInt8→List UInt8→List UInt8 × Nat
 | a::xs,b::ys=>((48+((a.toNat - 48)+(b.toNat - 48)+(sumL xs ys).2) % 10).toUInt8::(sumL xs ys).1,((a.toNat - 48)+(b.toNat - 48)+(sumL xs ys).2) / 10)
 | _,_=>([],0)
def sumD (x y:ByteArray):ByteArray:=⟨((48+(sumL x.data.toList y.data.toList).2).toUInt8::(sumL x.data.toList y.data.toList).1).toArray⟩
def AllDig (s:ByteArray):Prop:=∀ c∈s.data.toList,nu.dig c=true
theorem drop_at (s:ByteArray) (k:Nat) (h:k < s.size):s.data.toList.drop k=s[k]::s.data.toList.drop (k+1):=by
 have h':k < s.data.toList.length:=by simpa using h
 rw [List.drop_eq_getElem_cons h'];rfl
theorem drop_end (s:ByteArray):s.data.toList.drop s.size=[]:=List.drop_eq_nil_of_le (by simp)
def row (k:Nat) (l:List UInt8):Array Value:=(List.replicate k (Value.int .u8 0)++l.map vb).toArray
theorem u8_of (n:Nat) (h:n < 256):((n.toUInt8).toNat:Int)=(n:Int):=by
 have:n.toUInt8.toNat=n:=by simp [Nat.toUInt8,Nat.mod_eq_of_lt h]
 omega
def zeros (c:Nat):ByteArray:=⟨(Lib.repeatL (⟨#[48]⟩:ByteArray).data.toList c).toArray⟩
def spreadB (g:ByteArray) (ahead behind:Nat):ByteArray:=zeros ahead++g++zeros behind
end Go.Proofs.YthnhobplgmojeaaGreatDoor.rd
