/- Texts in one: Ib -/
import Derived.Test.YthakglomacijgaaGreatDoorOdPG
import Derived.Deep.RegionWith
import Derived.Deep.RegionHeld3
namespace Go.Proofs.YthakglomacijgaaGreatDoor.rd
open Go.RowKit
def bounded (neg:Bool) (s:ByteArray) (ex:Int) (eX:Value):Value × Value :=
 if (oneForm neg s ex).2 then (dv (oneForm neg s ex).1,.nilIface) else (dv zed,eX)
theorem ret_inBounds {m:Nat} (w:World) (d:Dn) (ev:Value) (h:DLies w m d) (tmps:Array Value) (h2:tmps.getD 6 undef=.pointer (some ⟨m,0,none⟩)) (h3:tmps.getD 7 undef=ev) :
 (results Tryz.f134 tmps).run Tryz.prog w=.ok (.tuple #[dv d,ev]) w:=by
 obtain ⟨q0,q1,q2⟩:=h.cells
 rw [results_cell_tmp Tryz.results134,h2,h3]
 simp [go_sem,q0,q1,q2,dv]
set_option maxRecDepth 100000 in
set_option maxHeartbeats 800000 in
theorem inBounds_any (neg:Bool) (s:ByteArray) (ex:Int) (eX:Value) (w:World) (hs:s.size≤140737488351232) (h0:-9223372036854775808≤ex) (h1:ex≤9223372036854775807)
 (hg:10 < w.heap.size) (hE:w.cell? ⟨10,0,none⟩=some eX) :
 Calls Tryz.prog 134 #[.bool neg,.string s,.int .i64 ex] w fun e w'=>e=.returned (.tuple #[(bounded neg s ex eX).1,(bounded neg s ex eX).2])∧Below w.heap.size w w':=by
 have c:=fun w=>oneForm_any neg s ex w hs h0 h1
 have HB:Hid (bounded neg s ex eX=if (oneForm neg s ex).2 then (dv (oneForm neg s ex).1,.nilIface) else (dv zed,eX)):=rfl
 generalize bounded neg s ex eX=r at HB ⊢
 generalize oneForm neg s ex=o at *
 obtain ⟨d,ok⟩:=o
 have C:=hide c
 clear c
 go_enter Tryz.func134,Tryz.ntmps134
 go_wp2_with fail
 refine (uh C _).mono ?_
 rintro e w1 ⟨rfl,hb1⟩
 have hz1:w.heap.size < w1.heap.size:=by have:=hb1.size;simp at this;omega
 have l1:DLies w1 w.heap.size zed:=(dlies_new w zed).below hb1 (by simp)
 have hE1:w1.cell? ⟨10,0,none⟩=some eX:=by
  rw [hb1.cell (by simp <;> omega)]
  simpa [World.cell?_alloc_past,hg] using hE
 have hg1:10 < w1.heap.size:=by omega
 have hbb:Below w.heap.size w w1:=((Below.refl _ _).alloc (Nat.le_refl _) _).trans (hb1.mono (by simp))
 obtain ⟨q0,q1,q2⟩:=l1.cells
 obtain ⟨f0,f1,f2⟩:=l1.frees
 obtain ⟨dn,dd,de⟩:=d
 simp only [dv]
 cases ok
 · have hr:r=(dv zed,eX):=by rw [HB.out];rfl
   subst hr
   clear HB
   go_wp2_with fail
   go_region
   all_goals go_wp2
   exact bodyPost_ret (ret_inBounds _ zed eX ((l1.set false ⟨#[]⟩ 0).alloc _).drew _ rfl rfl) rfl ⟨rfl,(below3a hbb (Nat.le_refl _) (by omega) _ _ _ _).drew⟩
 · have hr:r=(dv ⟨dn,dd,de⟩,.nilIface):=by rw [HB.out];rfl
   subst hr
   clear HB
   go_wp2
   exact bodyPost_ret (ret_inBounds _ ⟨dn,dd,de⟩ .nilIface ((l1.set dn dd de).alloc _) _ rfl rfl) rfl ⟨rfl,below3a hbb (Nat.le_refl _) (by omega) _ _ _ _⟩
def norm (d:Dn):Dn:=(oneForm d.neg (digs d.dg) d.ex).1
theorem digs_le (s:ByteArray):(digs s).size≤s.size:=by
 have h:(s.data.toList.filter nu.dig).length≤s.data.toList.length:=List.length_filter_le _ _
 have e1:(digs s).size=(s.data.toList.filter nu.dig).length:=by unfold digs;exact List.size_toArray
 have e2:s.data.toList.length=s.size:=by rw [Array.length_toList];rfl
 omega
theorem keepS {b c:Nat}{v0 v1 v2 u0 u1 u2:Value}{W w1:World} (hb:Below W.heap.size W w1)
 (h:W.cell? ⟨b,0,none⟩=some v0∧W.cell? ⟨b,1,none⟩=some v1∧W.cell? ⟨b,2,none⟩=some v2∧W.cell? ⟨c,0,none⟩=some u0∧W.cell? ⟨c,1,none⟩=some u1∧W.cell? ⟨c,2,none⟩=some u2 ∧
  W.frozen? ⟨c,0,none⟩=false∧W.frozen? ⟨c,1,none⟩=false∧W.frozen? ⟨c,2,none⟩=false∧b < W.heap.size∧c < W.heap.size) :
 w1.cell? ⟨b,0,none⟩=some v0∧w1.cell? ⟨b,1,none⟩=some v1∧w1.cell? ⟨b,2,none⟩=some v2∧w1.cell? ⟨c,0,none⟩=some u0∧w1.cell? ⟨c,1,none⟩=some u1∧w1.cell? ⟨c,2,none⟩=some u2 ∧
  w1.frozen? ⟨c,0,none⟩=false∧w1.frozen? ⟨c,1,none⟩=false∧w1.frozen? ⟨c,2,none⟩=false∧b < w1.heap.size∧c < w1.heap.size:=by
 obtain ⟨h0,h1,h2,g0,g1,g2,f0,f1,f2,lb,lc⟩:=h
 have hs:=hb.size
 have ec:∀ m o,m < W.heap.size→w1.cell? ⟨m,o,none⟩=W.cell? ⟨m,o,none⟩:=fun m o hm=>hb.cell (p:=⟨m,o,none⟩) hm
 have ef:∀ m o,m < W.heap.size→w1.frozen? ⟨m,o,none⟩=W.frozen? ⟨m,o,none⟩:=fun m o hm=>hb.frozen (p:=⟨m,o,none⟩) hm
 rw [ec b 0 lb,ec b 1 lb,ec b 2 lb,ec c 0 lc,ec c 1 lc,ec c 2 lc,ef c 0 lc,ef c 1 lc,ef c 2 lc]
 exact ⟨h0,h1,h2,g0,g1,g2,f0,f1,f2,by omega,by omega⟩
theorem ret_norm {m:Nat} (w:World) (d:Dn) (h0:w.cell? ⟨m,0,none⟩=some (.bool d.neg)) (h1:w.cell? ⟨m,1,none⟩=some (.string d.dg)) (h2:w.cell? ⟨m,2,none⟩=some (.int .i64 d.ex)) (tmps:Array Value) (ht:tmps[2]?.getD undef=.pointer (some ⟨m,0,none⟩)) :
 (results Tryz.f47 tmps).run Tryz.prog w=.ok (dv d) w:=by
 simp [results,Tryz.results47,ht,go_sem,h0,h1,h2,dv]
set_option maxRecDepth 100000 in
set_option maxHeartbeats 800000 in
theorem norm_any (d:Dn) (w:World) (hs:d.dg.size≤140737488351232) (h0:-9223372036854775808≤d.ex) (h1:d.ex≤9223372036854775807) :
 Calls Tryz.prog 47 #[dv d] w fun e w'=>e=.returned (dv (norm d))∧Below w.heap.size w w':=by
 obtain ⟨n,g,x⟩:=d
 simp only at hs h0 h1
 have hl:=digs_le g
 have c2:=fun w=>oneForm_any n (digs g) x w (by omega) h0 h1
 have HB:Hid (norm ⟨n,g,x⟩=(oneForm n (digs g) x).1):=rfl
 generalize norm ⟨n,g,x⟩=r at HB ⊢
 have c1:=fun w=>onlyDigits_any g w hs
 generalize digs g=dg at *
 generalize oneForm n dg x=o at *
 obtain ⟨r',ok⟩:=o
 obtain rfl:r=r':=HB
 obtain ⟨rn,rg,rx⟩:=r
 simp only [dv] at c2 ⊢
 have C1:=hide c1
 have C2:=hide c2
 clear c1 c2
 have n3:w.heap.size+1+1≠w.heap.size:=by omega
 have n4:w.heap.size≠w.heap.size+1+1:=by omega
 have n5:w.heap.size+1+1≠w.heap.size+1:=by omega
 have n6:w.heap.size+1≠w.heap.size+1+1:=by omega
 go_enter Tryz.func47,Tryz.ntmps47
 go_wp2_with fail
 go_region_held3 (fun w'=>w'.cell? ⟨w.heap.size,0,none⟩=some (.bool n)∧w'.cell? ⟨w.heap.size,1,none⟩=some (.string g)∧w'.cell? ⟨w.heap.size,2,none⟩=some (.int .i64 x)∧w'.cell? ⟨w.heap.size+1,0,none⟩=some (.bool false)∧w'.cell? ⟨w.heap.size+1,1,none⟩=some (.string ⟨#[]⟩)∧w'.cell? ⟨w.heap.size+1,2,none⟩=some (.int .i64 0)∧w'.frozen? ⟨w.heap.size+1,0,none⟩=false∧w'.frozen? ⟨w.heap.size+1,1,none⟩=false∧w'.frozen? ⟨w.heap.size+1,2,none⟩=false∧w.heap.size < w'.heap.size∧w.heap.size+1 < w'.heap.size) (((try dsimp only);(repeat' apply And.intro);all_goals first|(go_keep;done)|(simp [*,World.frozen?_alloc_past];done)|(simp;omega)|(simp [World.setCell];omega))) (first
  | (go_at_call 75;refine (uh C1 _).mono ?_;rintro e w1 ⟨rfl,hb1⟩;obtain ⟨k0,k1,k2,k3,k4,k5,k6,k7,k8,k9,k10⟩:=keepS (v0:=.bool n) (v1:=.string g) (v2:=.int .i64 x) (u0:=.bool false) (u1:=.string ⟨#[]⟩) (u2:=.int .i64 0) (b:=w.heap.size) (c:=w.heap.size+1) hb1 (by first|assumption|go_keep);obtain ⟨bc1,bf1⟩:=bcell hb1;have hs1:=hb1.size;have HB1:Hid (Below w.heap.size w w1):=(by refine Below.trans ?_ (hb1.mono (by first|(simp;omega)|simp|omega));repeat (first|exact Below.refl _ _|apply Below.drew|refine Below.alloc ?_ (by first|(simp;omega)|simp|omega) _));clear hb1;simp only [heap_drew,World.size_alloc,Nat.add_one_le_iff] at hs1 bc1 bf1;have n1:w1.heap.size≠w.heap.size:=(by omega);have n1':w.heap.size≠w1.heap.size:=(by omega);have n7:w1.heap.size≠w.heap.size+1:=(by omega);have n7':w.heap.size+1≠w1.heap.size:=(by omega))
  | (go_at_call 74;refine (uh C2 _).mono ?_;rintro e w2 ⟨rfl,hb2⟩;obtain ⟨m0,m1,m2,m3,m4,m5,m6,m7,m8,m9,m10⟩:=keepS (v0:=.bool n) (v1:=.string g) (v2:=.int .i64 x) (u0:=.bool false) (u1:=.string ⟨#[]⟩) (u2:=.int .i64 0) (b:=w.heap.size) (c:=w.heap.size+1) hb2 (by first|assumption|go_keep);obtain ⟨bc2,bf2⟩:=bcell hb2;have hs2:=hb2.size;have HB2:Hid (Below w.heap.size w w2):=(by refine Below.trans ?_ (hb2.mono (by first|(simp;omega)|simp|omega));repeat (first|exact HB1.out|apply Below.drew|refine Below.alloc ?_ (by first|(simp;omega)|simp|omega) _));clear hb2;(try simp only [World.size_alloc] at hs2 bc2 bf2);have n2:w2.heap.size≠w.heap.size:=(by omega);have n2':w.heap.size≠w2.heap.size:=(by omega)))
 all_goals go_wp2
 all_goals refine bodyPost_ret (ret_norm _ ⟨rn,rg,rx⟩ (by simp [go_sem, *]) (by simp [go_sem, *]) (by simp [go_sem, *]) _ rfl) rfl ⟨rfl,?_⟩
 · exact below3a HB2.out (by omega) (by omega) _ _ _ _
 · exact below3 (below3 HB2.out (by omega) _ _ _) (by omega) _ _ _
 · exact below3 (below3 HB2.out (by omega) _ _ _) (by omega) _ _ _
end Go.Proofs.YthakglomacijgaaGreatDoor.rd
