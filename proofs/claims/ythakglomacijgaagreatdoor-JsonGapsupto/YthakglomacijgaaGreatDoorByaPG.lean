/- Texts in one: Bya -/
import Derived.Test.YthakglomacijgaaGreatDoorIePG
import Derived.Test.YthakglomacijgaaGreatDoorMrPG
namespace Go.Proofs.YthakglomacijgaaGreatDoor.rd
open Go.RowKit
def OB (w:World) (B:Nat) (v:Value) (l:List UInt8):Prop:=w.ownsRow B 5 1 v l.length (l.map vb)
theorem OB.nil (w:World) (B:Nat):OB w B (.slice none 0 0) []:=World.ownsRow_nil _ _ _ _
theorem OB.str {w:World}{B:Nat}{v:Value}{l:List UInt8} (h:OB w B v l):(convert 51 9 v).run Tryz.prog w=.ok (.string ⟨l.toArray⟩) w:=pt.own_str h
structure Ext (u u':World) (v v':Value):Prop where
 grow:u.grownBy u' v.ownBlock
 blk:v'.ownBlock=v.ownBlock∨∀ q,v'.ownBlock=some q→u.heap.size≤q
theorem Ext.below {u u':World}{v v':Value}{B:Nat}{l:List UInt8} (h:Ext u u' v v') (ho:OB u B v l) (hB:B≤u.heap.size):Below B u u' :=
 (Below.refl B u).grown h.grow hB (pt.own_ge ho)
theorem run_apS2 {w:World}{B:Nat}{v:Value}{l:List UInt8}{ty:TypeId} (hown:OB w B v l) (s:ByteArray) (hz:l.length+s.size≤140000000000000) (hB:B≤w.heap.size) :
 ∃ v' w',(Builtin.append_ #[51,9] ty #[v,.string s]).run Tryz.prog w=.ok v' w'∧OB w' B v' (l++s.data.toList)∧Ext w w' v v':=by
 obtain ⟨i0,hi,hz0,hz1,hz2⟩:=info_parts info5
 have e1:s.data.toList.length=s.size:=Array.length_toList
 have e2:(l++s.data.toList).map vb=l.map vb++Lib.strCells s:=by rw [List.map_append];rfl
 have h63:l.length+s.size≤maxLen:=by unfold maxLen;omega
 have hby:l.length+s.size≤140737488355328:=by omega
 obtain ⟨v',w',hr,h1,h2,_⟩:=Lib.run_append_own_string (P:=Tryz.prog) (w:=w) B 51 9 ty 5 i0 Tryz.underlying51 Tryz.underlying9 hi hz0 hz1 hz2 v l.length (l.map vb) hown s h63 hby hB
 have h1':OB w' B v' (l++s.data.toList):=by
  show w'.ownsRow B 5 1 v' (l++s.data.toList).length ((l++s.data.toList).map vb)
  rw [e2,List.length_append,e1]
  exact h1
 refine ⟨v',w',hr,h1',h2,?_⟩
 rcases hown.2 with ⟨rfl,h0⟩|⟨g,cap,cur,rfl,hbg,hg,hnc,hcm,hcs,htake⟩
 · right
   have hl:l=[]:=List.eq_nil_of_length_eq_zero h0
   subst hl
   obtain ⟨v2,w2,hr2,k1,_⟩:=Lib.run_append_own_string (P:=Tryz.prog) (w:=w) w.heap.size 51 9 ty 5 i0 Tryz.underlying51 Tryz.underlying9 hi hz0 hz1 hz2 (.slice none 0 0) 0 [] (World.ownsRow_nil _ _ _ _) s (by simpa using h63) (by simpa using hby) (Nat.le_refl _)
   rw [hr] at hr2
   simp only [Result.ok.injEq] at hr2
   obtain ⟨rfl,rfl⟩:=hr2
   exact fun q hq=>(mm.row_lt k1 q hq).1
 · by_cases hroom:l.length+s.size≤cap
   · left
     have hr2:=Lib.run_append_room_string (P:=Tryz.prog) (w:=w) 51 9 ty 5 i0 Tryz.underlying51 Tryz.underlying9 hi hz1 g l.length cap cur hg s hroom (by rw [hcs];omega)
     rw [hr] at hr2
     simp only [Result.ok.injEq] at hr2
     rw [hr2.1];rfl
   · right
     have holds:∀ j u,(l.map vb)[j]?=some u→w.cell? ((⟨g,0,none⟩:Addr).add j)=some u:=World.ownsRow.cells (g:=g) hown rfl
     have hr2:=Lib.run_append_grow_string (P:=Tryz.prog) (w:=w) 51 9 ty 5 i0 (.int .u8 0) Tryz.underlying51 Tryz.underlying9 hi hz0 ⟨g,0,none⟩ l.length cap (l.map vb) (by rw [hz1];simp) holds s (by omega) (by omega) (by rw [hz2];exact growslice_fits (by omega) (by omega))
     rw [hr] at hr2
     simp only [Result.ok.injEq] at hr2
     rw [hr2.1]
     intro q hq
     simp only [Value.ownBlock,Option.some.injEq] at hq
     omega
section
variable {ops:Array Oper}{rest:List Oper}{o:Oper}{a:Act}{Q:Exit→Act→World→Prop}
theorem wpl_apS (s:ByteArray) (w:World) (B:Nat) (v:Value) (l:List UInt8) (hgd:o.guard=none) (sl x:Operand) (ho:o.op=.call { callee:=.builtin .append,args:=#[sl,x],argTypes:=#[51,9] })
 (hv:a.eval sl=v) (hx:a.eval x=.string s) (hown:Hid (OB w B v l)) (hB:Hid (B≤w.heap.size)) (hz:Hid (l.length+s.size≤140000000000000))
 (h:∀ v' w',Hid (OB w' B v' (l++s.data.toList))→Hid (Below B w w')→Hid (Ext w w' v v')→wpList Tryz.prog ops Q rest (a.put o.dst v') w'):wpList Tryz.prog ops Q (o::rest) a w:=by
 refine wpList_plain hgd fun K hK=>?_
 obtain ⟨v',w',hr,h1,h2⟩:=run_apS2 (ty:=o.type) (uh hown) s (uh hz) (uh hB)
 unfold Oper.wp execOp
 simp only [ho,resolve,invoke,builtin,Sem.run_bind,Sem.run_pure,Result.andThen_ok,List.map_toArray,List.map_cons,List.map_nil,hv,hx,hr]
 exact hK _ _ (h v' w' h1 (h2.below (uh hown) (uh hB)) h2)
end
end Go.Proofs.YthakglomacijgaaGreatDoor.rd
