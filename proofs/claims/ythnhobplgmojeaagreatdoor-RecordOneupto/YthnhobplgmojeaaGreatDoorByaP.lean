/- Texts in one: Bya -/
import Derived.Test.YthnhobplgmojeaaGreatDoorUbP
import Derived.Test.YthnhobplgmojeaaGreatDoorIeP
import Derived.Test.YthnhobplgmojeaaGreatDoorMrP
namespace Go.Proofs.YthnhobplgmojeaaGreatDoor.rd
open Go.RowKit
def OB (w:World) (B:Nat) (v:Value) (l:List UInt8):Prop:=w.ownsRow B 5 1 v l.length (l.map vb)
theorem OB.nil (w:World) (B:Nat):OB w B (.slice none 0 0) []:=World.ownsRow_nil _ _ _ _
theorem OB.keep {w w':World}{B:Nat}{v:Value}{l:List UInt8} (h:OB w B v l) (hb:Below w.heap.size w w'):OB w' B v l:=mm.row_below h hb (Nat.le_refl _)
theorem OB.base {w:World}{B B':Nat}{v:Value}{l:List UInt8} (h:OB w B v l) (hb:B'≤B):OB w B' v l:=owns_base h hb
theorem OB.str {w:World}{B:Nat}{v:Value}{l:List UInt8} (h:OB w B v l):(convert 38 9 v).run Tryz.prog w=.ok (.string ⟨l.toArray⟩) w:=pt.own_str h
theorem OB.len {w:World}{B:Nat}{v:Value}{l:List UInt8} (h:OB w B v l):∃ oa c,v=.slice oa l.length c:=by
 obtain ⟨oa,c,e,_⟩:=mm.SV.form (mm.own_sv h);exact ⟨oa,c,e⟩
structure Ext (u u':World) (v v':Value):Prop where
 grow:u.grownBy u' v.ownBlock
 blk:v'.ownBlock=v.ownBlock∨∀ q,v'.ownBlock=some q→u.heap.size≤q
theorem Ext.trans {u u1 u2:World}{a b c:Value} (h1:Ext u u1 a b) (h2:Ext u1 u2 b c):Ext u u2 a c:=by
 have hb:∀ k,k < u.heap.size→a.ownBlock≠some k→b.ownBlock≠some k:=fun k hk ha q=>by
  rcases h1.blk with e|e
  · exact ha (e.symm.trans q)
  · have:=e k q;omega
 refine ⟨⟨h2.grow.os.trans h1.grow.os,h2.grow.tape.trans h1.grow.tape,h2.grow.output.trans h1.grow.output,Nat.le_trans h1.grow.size h2.grow.size,fun k hk ha=>?_⟩,?_⟩
 · exact (h2.grow.block k (Nat.lt_of_lt_of_le hk h1.grow.size) (fun q=>hb k hk (fun q2=>ha q2.symm) q.symm)).trans (h1.grow.block k hk ha)
 · rcases h2.blk with e|e
   · rw [e];exact h1.blk
   · exact .inr fun q hq=>Nat.le_trans h1.grow.size (e q hq)
theorem Ext.below {u u':World}{v v':Value}{B:Nat}{l:List UInt8} (h:Ext u u' v v') (ho:OB u B v l) (hB:B≤u.heap.size):Below B u u' :=
 (Below.refl B u).grown h.grow hB (pt.own_ge ho)
theorem Ext.new {u u':World}{v v':Value} (h:Ext u u' v v') {m:Nat} (hm:m < u.heap.size) (hv:v.ownBlock≠some m):v'.ownBlock≠some m:=fun q=>by
 rcases h.blk with e|e
 · exact hv (e.symm.trans q)
 · have:=e m q;omega
theorem Ext.of_below {u u1 u':World}{v v':Value} (hb:Below u.heap.size u u1) (h:Ext u1 u' v v'):Ext u u' v v':=by
 refine ⟨⟨h.grow.os.trans hb.os,h.grow.tape.trans hb.tape,h.grow.output.trans hb.output,Nat.le_trans hb.size h.grow.size,fun k hk ha=>(h.grow.block k (Nat.lt_of_lt_of_le hk hb.size) ha).trans (hb.block k hk)⟩,?_⟩
 rcases h.blk with e|e
 · exact .inl e
 · exact .inr fun q hq=>Nat.le_trans hb.size (e q hq)
theorem run_apS2 {w:World}{B:Nat}{v:Value}{l:List UInt8}{ty:TypeId} (hown:OB w B v l) (s:ByteArray) (hz:l.length+s.size≤140000000000000) (hB:B≤w.heap.size) :
 ∃ v' w',(Builtin.append_ #[38,9] ty #[v,.string s]).run Tryz.prog w=.ok v' w'∧OB w' B v' (l++s.data.toList)∧Ext w w' v v':=by
 obtain ⟨i0,hi,hz0,hz1,hz2⟩:=info_parts info5;have e1:s.data.toList.length=s.size:=Array.length_toList;have e2:(l++s.data.toList).map vb=l.map vb++Lib.strCells s:=by rw [List.map_append];rfl
 have h63:l.length+s.size≤maxLen:=by unfold maxLen;omega
 have hby:l.length+s.size≤140737488355328:=by omega
 obtain ⟨v',w',hr,h1,h2,_⟩:=Lib.run_append_own_string (P:=Tryz.prog) (w:=w) B 38 9 ty 5 i0 Tryz.underlying38 Tryz.underlying9 hi hz0 hz1 hz2 v l.length (l.map vb) hown s h63 hby hB
 have h1':OB w' B v' (l++s.data.toList):=by
  show w'.ownsRow B 5 1 v' (l++s.data.toList).length ((l++s.data.toList).map vb);rw [e2,List.length_append,e1];exact h1
 refine ⟨v',w',hr,h1',h2,?_⟩
 rcases hown.2 with ⟨rfl,h0⟩|⟨g,cap,cur,rfl,hbg,hg,hnc,hcm,hcs,htake⟩
 · right
   have hl:l=[]:=List.eq_nil_of_length_eq_zero h0;subst hl;obtain ⟨v2,w2,hr2,k1,_⟩:=Lib.run_append_own_string (P:=Tryz.prog) (w:=w) w.heap.size 38 9 ty 5 i0 Tryz.underlying38 Tryz.underlying9 hi hz0 hz1 hz2 (.slice none 0 0) 0 [] (World.ownsRow_nil _ _ _ _) s (by simpa using h63) (by simpa using hby) (Nat.le_refl _);rw [hr] at hr2;simp only [Result.ok.injEq] at hr2;obtain ⟨rfl,rfl⟩:=hr2;exact fun q hq=>(mm.row_lt k1 q hq).1
 · by_cases hroom:l.length+s.size≤cap
   · left
     have hr2:=Lib.run_append_room_string (P:=Tryz.prog) (w:=w) 38 9 ty 5 i0 Tryz.underlying38 Tryz.underlying9 hi hz1 g l.length cap cur hg s hroom (by rw [hcs];omega);rw [hr] at hr2;simp only [Result.ok.injEq] at hr2;rw [hr2.1];rfl
   · right
     have holds:∀ j u,(l.map vb)[j]?=some u→w.cell? ((⟨g,0,none⟩:Addr).add j)=some u:=World.ownsRow.cells (g:=g) hown rfl;have hr2:=Lib.run_append_grow_string (P:=Tryz.prog) (w:=w) 38 9 ty 5 i0 (.int .u8 0) Tryz.underlying38 Tryz.underlying9 hi hz0 ⟨g,0,none⟩ l.length cap (l.map vb) (by rw [hz1];simp) holds s (by omega) (by omega) (by rw [hz2];exact growslice_fits (by omega) (by omega));rw [hr] at hr2;simp only [Result.ok.injEq] at hr2;rw [hr2.1];intro q hq;simp only [Value.ownBlock,Option.some.injEq] at hq;omega
section
variable {ops:Array Oper}{rest:List Oper}{o:Oper}{a:Act}{Q:Exit→Act→World→Prop}
theorem wpl_apB (ys:List UInt8) (w W:World) (B:Nat) (v:Value) (l:List UInt8) (hgd:o.guard=none) (sl x:Operand) (ho:o.op=.call { callee:=.builtin .append,args:=#[sl,x],argTypes:=#[38,38] })
 (hv:a.eval sl=v) (hx:a.eval x=.slice (some ⟨w.heap.size,0,none⟩) ys.length ys.length) (hW:W=w.alloc (.cells (ys.map vb).toArray 5)) (hown:Hid (OB w B v l)) (hB:Hid (B≤w.heap.size)) (hz:Hid (l.length+ys.length≤140000000000000))
 (h:∀ v' w',Hid (OB w' B v' (l++ys))→Hid (Below B w w')→Hid (Ext w w' v v')→wpList Tryz.prog ops Q rest (a.put o.dst v') w'):wpList Tryz.prog ops Q (o::rest) a W:=by
 subst hW;have hz':=uh hz;have hBB:=uh hB;have hb:Below w.heap.size w (w.alloc (.cells (ys.map vb).toArray 5)):=(Below.refl _ w).alloc (Nat.le_refl _) _;have hown':OB (w.alloc (.cells (ys.map vb).toArray 5)) B v l:=(uh hown).keep hb;have hsv:=mm.sv_cells (heap_alloc_new w (.cells (ys.map vb).toArray 5)) ys.length 1 (by simp) (by unfold maxLen;omega);refine mm.wpList_append_sv2 hgd sl x 38 ho B 5 (.int .u8 0) 1 1 Tryz.underlying38 info5 rfl (by decide) v _ l.length ys.length (l.map vb) (ys.map vb) hv hx hown' hsv ?_ (by unfold maxLen;omega) (by omega) (by rw [World.size_alloc];omega) ?_
 · intro u hu
   obtain ⟨c,_,rfl⟩:=List.mem_map.1 hu;rfl
 · intro v' w' hA
   have hx1:Ext (w.alloc (.cells (ys.map vb).toArray 5)) w' v v':=⟨hA.grow,hA.blk⟩;have hx2:=Ext.of_below hb hx1;refine h v' w' ?_ (hx2.below (uh hown) hBB) hx2;show w'.ownsRow B 5 1 v' (l++ys).length ((l++ys).map vb);rw [List.map_append,List.length_append];exact hA.row
theorem wpl_apS (s:ByteArray) (w:World) (B:Nat) (v:Value) (l:List UInt8) (hgd:o.guard=none) (sl x:Operand) (ho:o.op=.call { callee:=.builtin .append,args:=#[sl,x],argTypes:=#[38,9] })
 (hv:a.eval sl=v) (hx:a.eval x=.string s) (hown:Hid (OB w B v l)) (hB:Hid (B≤w.heap.size)) (hz:Hid (l.length+s.size≤140000000000000))
 (h:∀ v' w',Hid (OB w' B v' (l++s.data.toList))→Hid (Below B w w')→Hid (Ext w w' v v')→wpList Tryz.prog ops Q rest (a.put o.dst v') w'):wpList Tryz.prog ops Q (o::rest) a w:=by
 refine wpList_plain hgd fun K hK=>?_
 obtain ⟨v',w',hr,h1,h2⟩:=run_apS2 (ty:=o.type) (uh hown) s (uh hz) (uh hB);unfold Oper.wp execOp;simp only [ho,resolve,invoke,builtin,Sem.run_bind,Sem.run_pure,Result.andThen_ok,List.map_toArray,List.map_cons,List.map_nil,hv,hx,hr];exact hK _ _ (h v' w' h1 (h2.below (uh hown) (uh hB)) h2)
end
end Go.Proofs.YthnhobplgmojeaaGreatDoor.rd
