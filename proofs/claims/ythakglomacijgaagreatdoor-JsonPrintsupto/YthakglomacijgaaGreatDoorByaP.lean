/- Texts in one: Bya Id Wd -/
import Derived.Test.YthakglomacijgaaGreatDoorUbP
import Derived.Test.YthakglomacijgaaGreatDoorIeP
import Derived.Test.YthakglomacijgaaGreatDoorMrP
import Derived.Test.YthakglomacijgaaGreatDoorNuP
import Derived.Test.YthakglomacijgaaGreatDoorIbP
import Derived.Test.YthakglomacijgaaGreatDoorShelfP
import Derived.Lib.TrimUEq
import Derived.Lib.RuneBytes
namespace Go.Proofs.YthakglomacijgaaGreatDoor.rd
open Go.RowKit
def OB (w:World) (B:Nat) (v:Value) (l:List UInt8):Prop:=w.ownsRow B 5 1 v l.length (l.map vb)
theorem OB.nil (w:World) (B:Nat):OB w B (.slice none 0 0) []:=World.ownsRow_nil _ _ _ _
theorem OB.keep {w w':World}{B:Nat}{v:Value}{l:List UInt8} (h:OB w B v l) (hb:Below w.heap.size w w'):OB w' B v l:=mm.row_below h hb (Nat.le_refl _)
theorem OB.str {w:World}{B:Nat}{v:Value}{l:List UInt8} (h:OB w B v l):(convert 51 9 v).run Tryz.prog w=.ok (.string ⟨l.toArray⟩) w:=pt.own_str h
structure Ext (u u':World) (v v':Value):Prop where
 grow:u.grownBy u' v.ownBlock
 blk:v'.ownBlock=v.ownBlock∨∀ q,v'.ownBlock=some q→u.heap.size≤q
theorem Ext.refl (u:World) (v:Value):Ext u u v v:=⟨World.grownBy.refl _ _,.inl rfl⟩
theorem Ext.trans {u u1 u2:World}{a b c:Value} (h1:Ext u u1 a b) (h2:Ext u1 u2 b c):Ext u u2 a c:=by
 have hb:∀ k,k < u.heap.size→a.ownBlock≠some k→b.ownBlock≠some k:=fun k hk ha q=>by
  rcases h1.blk with e|e
  · exact ha (e.symm.trans q)
  · have:=e k q;omega
 refine ⟨⟨h2.grow.os.trans h1.grow.os,h2.grow.tape.trans h1.grow.tape,h2.grow.output.trans h1.grow.output,Nat.le_trans h1.grow.size h2.grow.size,fun k hk ha=>?_⟩,?_⟩
 · exact (h2.grow.block k (Nat.lt_of_lt_of_le hk h1.grow.size) (fun q=>hb k hk (fun q2=>ha q2.symm) q.symm)).trans (h1.grow.block k hk ha)
 · rcases h2.blk with e|e
   · rw [e];exact h1.blk
   · exact .inr fun q hq=>Nat.le_trans h1.grow.size (e q hq)
theorem Ext.below {u u':World}{v v':Value}{B:Nat}{l:List UInt8} (h:Ext u u' v v') (ho:OB u B v l) (hB:B≤u.heap.size):Below B u u' :=
 (Below.refl B u).grown h.grow hB (pt.own_ge ho)
theorem Ext.box {u u':World}{v v':Value} (h:Ext u u' v v') {m:Nat}{cs:List Value} (hm:v.ownBlock≠some m) (hx:BX u m cs):BX u' m cs:=(h.grow.block m (blk_lt hx) (fun q=>hm q.symm)).trans hx
theorem Ext.new {u u':World}{v v':Value} (h:Ext u u' v v') {m:Nat} (hm:m < u.heap.size) (hv:v.ownBlock≠some m):v'.ownBlock≠some m:=fun q=>by
 rcases h.blk with e|e
 · exact hv (e.symm.trans q)
 · have:=e m q;omega
theorem Ext.of_below {u u1 u':World}{v v':Value} (hb:Below u.heap.size u u1) (h:Ext u1 u' v v'):Ext u u' v v':=by
 refine ⟨⟨h.grow.os.trans hb.os,h.grow.tape.trans hb.tape,h.grow.output.trans hb.output,Nat.le_trans hb.size h.grow.size,fun k hk ha=>(h.grow.block k (Nat.lt_of_lt_of_le hk hb.size) ha).trans (hb.block k hk)⟩,?_⟩
 rcases h.blk with e|e
 · exact .inl e
 · exact .inr fun q hq=>Nat.le_trans hb.size (e q hq)
theorem run_apS2 {w:World}{B:Nat}{v:Value}{l:List UInt8}{ty:TypeId} (hown:OB w B v l) (s:ByteArray) (hz:l.length+s.size≤140000000000000) (hB:B≤w.heap.size) :
 ∃ v' w',(Builtin.append_ #[51,9] ty #[v,.string s]).run Tryz.prog w=.ok v' w'∧OB w' B v' (l++s.data.toList)∧Ext w w' v v':=by
 obtain ⟨i0,hi,hz0,hz1,hz2⟩:=info_parts info5
 have e1:s.data.toList.length=s.size:=Array.length_toList
 have e2:(l++s.data.toList).map vb=l.map vb++Lib.strCells s:=by rw [List.map_append];rfl
 have h63:l.length+s.size≤maxLen:=by unfold maxLen;omega
 have hby:l.length+s.size≤140737488355328:=by omega
 obtain ⟨v',w',hr,h1,h2,_⟩:=Lib.run_append_own_string (P:=Tryz.prog) (w:=w) B 51 9 ty 5 i0 Tryz.underlying51 Tryz.underlying9 hi hz0 hz1 hz2 v l.length (l.map vb) hown s h63 hby hB
 have h1':OB w' B v' (l++s.data.toList):=by
  show w'.ownsRow B 5 1 v' (l++s.data.toList).length ((l++s.data.toList).map vb)
  rw [e2,List.length_append,e1]
  exact h1
 refine ⟨v',w',hr,h1',h2,?_⟩
 rcases hown.2 with ⟨rfl,h0⟩|⟨g,cap,cur,rfl,hbg,hg,hnc,hcm,hcs,htake⟩
 · right
   have hl:l=[]:=List.eq_nil_of_length_eq_zero h0
   subst hl
   obtain ⟨v2,w2,hr2,k1,_⟩:=Lib.run_append_own_string (P:=Tryz.prog) (w:=w) w.heap.size 51 9 ty 5 i0 Tryz.underlying51 Tryz.underlying9 hi hz0 hz1 hz2 (.slice none 0 0) 0 [] (World.ownsRow_nil _ _ _ _) s (by simpa using h63) (by simpa using hby) (Nat.le_refl _)
   rw [hr] at hr2
   simp only [Result.ok.injEq] at hr2
   obtain ⟨rfl,rfl⟩:=hr2
   exact fun q hq=>(mm.row_lt k1 q hq).1
 · by_cases hroom:l.length+s.size≤cap
   · left
     have hr2:=Lib.run_append_room_string (P:=Tryz.prog) (w:=w) 51 9 ty 5 i0 Tryz.underlying51 Tryz.underlying9 hi hz1 g l.length cap cur hg s hroom (by rw [hcs];omega)
     rw [hr] at hr2
     simp only [Result.ok.injEq] at hr2
     rw [hr2.1];rfl
   · right
     have holds:∀ j u,(l.map vb)[j]?=some u→w.cell? ((⟨g,0,none⟩:Addr).add j)=some u:=World.ownsRow.cells (g:=g) hown rfl
     have hr2:=Lib.run_append_grow_string (P:=Tryz.prog) (w:=w) 51 9 ty 5 i0 (.int .u8 0) Tryz.underlying51 Tryz.underlying9 hi hz0 ⟨g,0,none⟩ l.length cap (l.map vb) (by rw [hz1];simp) holds s (by omega) (by omega) (by rw [hz2];exact growslice_fits (by omega) (by omega))
     rw [hr] at hr2
     simp only [Result.ok.injEq] at hr2
     rw [hr2.1]
     intro q hq
     simp only [Value.ownBlock,Option.some.injEq] at hq
     omega
section
variable {ops:Array Oper}{rest:List Oper}{o:Oper}{a:Act}{Q:Exit→Act→World→Prop}
theorem wpl_apB (ys:List UInt8) (w W:World) (B:Nat) (v:Value) (l:List UInt8) (hgd:o.guard=none) (sl x:Operand) (ho:o.op=.call { callee:=.builtin .append,args:=#[sl,x],argTypes:=#[51,51] })
 (hv:a.eval sl=v) (hx:a.eval x=.slice (some ⟨w.heap.size,0,none⟩) ys.length ys.length) (hW:W=w.alloc (.cells (ys.map vb).toArray 5)) (hown:Hid (OB w B v l)) (hB:Hid (B≤w.heap.size)) (hz:Hid (l.length+ys.length≤140000000000000))
 (h:∀ v' w',Hid (OB w' B v' (l++ys))→Hid (Below B w w')→Hid (Ext w w' v v')→wpList Tryz.prog ops Q rest (a.put o.dst v') w'):wpList Tryz.prog ops Q (o::rest) a W:=by
 subst hW
 have hz':=uh hz
 have hBB:=uh hB
 have hb:Below w.heap.size w (w.alloc (.cells (ys.map vb).toArray 5)):=(Below.refl _ w).alloc (Nat.le_refl _) _
 have hown':OB (w.alloc (.cells (ys.map vb).toArray 5)) B v l:=(uh hown).keep hb
 have hsv:=mm.sv_cells (heap_alloc_new w (.cells (ys.map vb).toArray 5)) ys.length 1 (by simp) (by unfold maxLen;omega)
 refine mm.wpList_append_sv2 hgd sl x 51 ho B 5 (.int .u8 0) 1 1 Tryz.underlying51 info5 rfl (by decide) v _ l.length ys.length (l.map vb) (ys.map vb) hv hx hown' hsv ?_ (by unfold maxLen;omega) (by omega) (by rw [World.size_alloc];omega) ?_
 · intro u hu
   obtain ⟨c,_,rfl⟩:=List.mem_map.1 hu
   rfl
 · intro v' w' hA
   have hx1:Ext (w.alloc (.cells (ys.map vb).toArray 5)) w' v v':=⟨hA.grow,hA.blk⟩
   have hx2:=Ext.of_below hb hx1
   refine h v' w' ?_ (hx2.below (uh hown) hBB) hx2
   show w'.ownsRow B 5 1 v' (l++ys).length ((l++ys).map vb)
   rw [List.map_append,List.length_append]
   exact hA.row
theorem step_apB {op:Oper}{K:Act→World→Prop}{E0:Prop} (ys:List UInt8) (w W:World) (B:Nat) (v:Value) (l:List UInt8) (hgd:op.guard=none) (sl x:Operand) (ho:op.op=.call { callee:=.builtin .append,args:=#[sl,x],argTypes:=#[51,51] })
 (hv:a.eval sl=v) (hx:a.eval x=.slice (some ⟨w.heap.size,0,none⟩) ys.length ys.length) (hW:W=w.alloc (.cells (ys.map vb).toArray 5)) (hown:Hid (OB w B v l)) (hB:Hid (B≤w.heap.size)) (hz:Hid (l.length+ys.length≤140000000000000))
 (h:∀ v' w',Hid (OB w' B v' (l++ys))→Hid (Below B w w')→Hid (Ext w w' v v')→K (a.put op.dst v') w'):if Region.wanted op (yielded ops a.tmps)=true then Oper.wp Tryz.prog op a W K Q else E0:=by
 have hw:Region.wanted op (yielded ops a.tmps)=true:=by simp [Region.wanted,hgd]
 rw [if_pos hw]
 subst hW
 have hz':=uh hz
 have hBB:=uh hB
 have hb:Below w.heap.size w (w.alloc (.cells (ys.map vb).toArray 5)):=(Below.refl _ w).alloc (Nat.le_refl _) _
 have hown':OB (w.alloc (.cells (ys.map vb).toArray 5)) B v l:=(uh hown).keep hb
 have hsv:=mm.sv_cells (heap_alloc_new w (.cells (ys.map vb).toArray 5)) ys.length 1 (by simp) (by unfold maxLen;omega)
 obtain ⟨v',w',hr,hA⟩:=mm.run_append_sv2 (P:=Tryz.prog) (w.alloc (.cells (ys.map vb).toArray 5)) B 51 op.type 5 (.int .u8 0) 1 1 Tryz.underlying51 info5 rfl (by decide) v _ l.length ys.length (l.map vb) (ys.map vb) hown' hsv (fun u hu=>by
  obtain ⟨c,_,rfl⟩:=List.mem_map.1 hu
  rfl) (by unfold maxLen;omega) (by omega) (by rw [World.size_alloc];omega)
 have hx1:Ext (w.alloc (.cells (ys.map vb).toArray 5)) w' v v':=⟨hA.grow,hA.blk⟩
 have hx2:=Ext.of_below hb hx1
 unfold Oper.wp execOp
 simp only [ho,resolve,invoke,builtin,Sem.run_bind,Sem.run_pure,Result.andThen_ok,List.map_toArray,List.map_cons,List.map_nil,hv,hx,hr]
 refine h v' w' ?_ (hx2.below (uh hown) hBB) hx2
 show w'.ownsRow B 5 1 v' (l++ys).length ((l++ys).map vb)
 rw [List.map_append,List.length_append]
 exact hA.row
theorem wpl_apS (s:ByteArray) (w:World) (B:Nat) (v:Value) (l:List UInt8) (hgd:o.guard=none) (sl x:Operand) (ho:o.op=.call { callee:=.builtin .append,args:=#[sl,x],argTypes:=#[51,9] })
 (hv:a.eval sl=v) (hx:a.eval x=.string s) (hown:Hid (OB w B v l)) (hB:Hid (B≤w.heap.size)) (hz:Hid (l.length+s.size≤140000000000000))
 (h:∀ v' w',Hid (OB w' B v' (l++s.data.toList))→Hid (Below B w w')→Hid (Ext w w' v v')→wpList Tryz.prog ops Q rest (a.put o.dst v') w'):wpList Tryz.prog ops Q (o::rest) a w:=by
 refine wpList_plain hgd fun K hK=>?_
 obtain ⟨v',w',hr,h1,h2⟩:=run_apS2 (ty:=o.type) (uh hown) s (uh hz) (uh hB)
 unfold Oper.wp execOp
 simp only [ho,resolve,invoke,builtin,Sem.run_bind,Sem.run_pure,Result.andThen_ok,List.map_toArray,List.map_cons,List.map_nil,hv,hx,hr]
 exact hK _ _ (h v' w' h1 (h2.below (uh hown) (uh hB)) h2)
end
end Go.Proofs.YthakglomacijgaaGreatDoor.rd
namespace Go.Proofs.YthakglomacijgaaGreatDoor.rd
open Go
def null:JT:=.mk 0 false zed ⟨#[]⟩ [] []
def nrm:JT→JT
 | .mk k t d x l f =>
   if k=1 then .mk 1 t zed ⟨#[]⟩ [] []
   else if k=2 then .mk 2 false (norm d) ⟨#[]⟩ [] []
   else if k=3 then .mk 3 false zed (pt.clean x) [] []
   else if k=4 then .mk 4 false zed ⟨#[]⟩ (l.attach.map fun v=>nrm v.1) []
   else if k=5 then .mk 5 false zed ⟨#[]⟩ [] (jn.puts (f.attach.map fun p=>(pt.clean p.1.1,nrm p.1.2)))
   else null
 termination_by v=>SizeOf.sizeOf v
 decreasing_by
  · exact sz_l v.2
  · exact sz_f p.2
theorem nrm_mk (k:Int) (t:Bool) (d:Dn) (x:ByteArray) (l:List JT) (f:List (ByteArray × JT)):nrm (.mk k t d x l f) =
 if k=1 then .mk 1 t zed ⟨#[]⟩ [] []
 else if k=2 then .mk 2 false (norm d) ⟨#[]⟩ [] []
 else if k=3 then .mk 3 false zed (pt.clean x) [] []
 else if k=4 then .mk 4 false zed ⟨#[]⟩ (l.map nrm) []
 else if k=5 then .mk 5 false zed ⟨#[]⟩ [] (jn.puts (f.map fun p=>(pt.clean p.1,nrm p.2)))
 else null:=by
 rw [nrm]
 simp only [List.map_attach_eq_pmap,List.pmap_eq_map]
end Go.Proofs.YthakglomacijgaaGreatDoor.rd
namespace Go.Proofs.YthakglomacijgaaGreatDoor.pt
open Go.Lib
theorem cut_cons (s:ByteArray) (k:Nat) (h:k < s.size):s.data.toList.drop k=s[k]::s.data.toList.drop (k+1):=by
 have h2:k < s.data.toList.length:=by rw [Array.length_toList];exact h
 rw [List.drop_eq_getElem_cons h2]
 rfl
theorem cut_take (s:ByteArray) (k n:Nat):s.extract k (k+n)=⟨((s.data.toList.drop k).take n).toArray⟩:=by
 apply ByteArray.ext
 rw [ByteArray.data_extract]
 apply Array.ext'
 rw [Array.toList_extract,List.extract_eq_take_drop]
 rw [show k+n - k=n by omega]
theorem bad_cases (b0:Nat) (p2 p3 p4:Prop) [Decidable p2] [Decidable p3] [Decidable p4] (h:ltrC b0 (decide p2) (decide p3) (decide p4)=0) :
 128≤b0∧((b0 < 194∨244 < b0)∨(194≤b0∧b0 < 224∧¬ p2)∨(224≤b0∧b0 < 240∧¬ (p2∧p3))∨(240≤b0∧b0≤244∧¬ (p2∧p3∧p4))):=by
 unfold ltrC at h
 simp only [decide_eq_true_eq] at h
 by_cases a:b0 < 128
 · rw [if_pos a] at h;cases h
 rw [if_neg a] at h
 refine ⟨by omega,?_⟩
 by_cases b:b0 < 194∨244 < b0
 · exact .inl b
 rw [if_neg b] at h
 right
 by_cases c:b0 < 224
 · rw [if_pos c] at h
   left
   refine ⟨by omega,c,fun z=>?_⟩
   rw [if_pos z] at h;cases h
 rw [if_neg c] at h
 right
 by_cases d:b0 < 240
 · rw [if_pos d] at h
   left
   refine ⟨by omega,d,fun z=>?_⟩
   rw [if_pos z] at h;cases h
 rw [if_neg d] at h
 right
 refine ⟨by omega,by omega,fun z=>?_⟩
 rw [if_pos z] at h;cases h
theorem bad_num (n b0 b1 b2 b3:Nat) (h0:b0 < 256) (hb:128≤b0∧((b0 < 194∨244 < b0)∨(194≤b0∧b0 < 224∧¬ (1 < n∧loC b0≤b1∧b1≤hiC b0))∨(224≤b0∧b0 < 240∧¬ ((1 < n∧loC b0≤b1∧b1≤hiC b0)∧2 < n∧128≤b2∧b2≤191))∨(240≤b0∧b0≤244∧¬ ((1 < n∧loC b0≤b1∧b1≤hiC b0)∧(2 < n∧128≤b2∧b2≤191)∧3 < n∧128≤b3∧b3≤191)))):decodeN n b0 b1 b2 b3=(65533,1):=by
 have l0:(b0=224∧loC b0=160)∨(b0=240∧loC b0=144)∨(b0≠224∧b0≠240∧loC b0=128):=by
  unfold loC
  by_cases x:b0=224
  · left;rw [if_pos x];exact ⟨x,rfl⟩
  · rw [if_neg x]
    by_cases y:b0=240
    · right;left;rw [if_pos y];exact ⟨y,rfl⟩
    · right;right;rw [if_neg y];exact ⟨x,y,rfl⟩
 have u0:(b0=237∧hiC b0=159)∨(b0=244∧hiC b0=143)∨(b0≠237∧b0≠244∧hiC b0=191):=by
  unfold hiC
  by_cases x:b0=237
  · left;rw [if_pos x];exact ⟨x,rfl⟩
  · rw [if_neg x]
    by_cases y:b0=244
    · right;left;rw [if_pos y];exact ⟨y,rfl⟩
    · right;right;rw [if_neg y];exact ⟨x,y,rfl⟩
 generalize loC b0=lo at *
 generalize hiC b0=hi at *
 unfold decodeN
 repeat' split
 all_goals first|rfl|(exfalso;omega)
theorem len_num (b0:Nat) (p2 p3 p4:Prop) [Decidable p2] [Decidable p3] [Decidable p4] (h:¬ ltrC b0 (decide p2) (decide p3) (decide p4)=0) :
 (b0 < 128∧ltrC b0 (decide p2) (decide p3) (decide p4)=1)∨((194≤b0∧b0≤223∧p2)∧ltrC b0 (decide p2) (decide p3) (decide p4)=2)∨((224≤b0∧b0≤239∧p2∧p3)∧ltrC b0 (decide p2) (decide p3) (decide p4)=3)∨((240≤b0∧b0≤244∧p2∧p3∧p4)∧ltrC b0 (decide p2) (decide p3) (decide p4)=4):=by
 unfold ltrC at *
 simp only [decide_eq_true_eq] at *
 split
 · left;exact ⟨by assumption,rfl⟩
 · rename_i a
   rw [if_neg a] at h
   split
   · rename_i b;rw [if_pos b] at h;exact absurd rfl h
   · rename_i b
     rw [if_neg b] at h
     split
     · rename_i c
       rw [if_pos c] at h
       split
       · rename_i d;right;left;exact ⟨⟨by omega,by omega,d⟩,rfl⟩
       · rename_i d;rw [if_neg d] at h;exact absurd rfl h
     · rename_i c
       rw [if_neg c] at h
       split
       · rename_i g
         rw [if_pos g] at h
         split
         · rename_i d;right;right;left;exact ⟨⟨by omega,by omega,d⟩,rfl⟩
         · rename_i d;rw [if_neg d] at h;exact absurd rfl h
       · rename_i g
         rw [if_neg g] at h
         split
         · rename_i d;right;right;right;exact ⟨⟨by omega,by omega,d⟩,rfl⟩
         · rename_i d;rw [if_neg d] at h;exact absurd rfl h
theorem lo_ge (c:Nat):128≤loC c:=by unfold loC;split;omega;split <;> omega
theorem hi_le (c:Nat):hiC c≤191:=by unfold hiC;split;omega;split <;> omega
theorem num2 (n b0 b1 b2 b3:Nat) (h:194≤b0∧b0≤223) (h2:1 < n∧loC b0≤b1∧b1≤hiC b0):∃ r:Nat,decodeN n b0 b1 b2 b3=(r,2)∧encodeRuneZ (r:Int)=[(b0:Int),(b1:Int)]:=by
 have l:=lo_ge b0
 have u:=hi_le b0
 refine ⟨b0 % 32*64+b1 % 64,?_,?_⟩
 · unfold decodeN;rw [if_neg (by omega),if_pos (by omega),if_pos (by omega)]
 · rw [encodeRuneZ_two (by omega) (by omega)]
   have x1:(192:Int)+((b0 % 32*64+b1 % 64:Nat):Int) / 64=(b0:Int):=by omega
   have x2:(128:Int)+((b0 % 32*64+b1 % 64:Nat):Int) % 64=(b1:Int):=by omega
   rw [x1,x2]
theorem num3 (n b0 b1 b2 b3:Nat) (h:224≤b0∧b0≤239) (h2:1 < n∧loC b0≤b1∧b1≤hiC b0) (h3:2 < n∧128≤b2∧b2≤191):∃ r:Nat,decodeN n b0 b1 b2 b3=(r,3)∧encodeRuneZ (r:Int)=[(b0:Int),(b1:Int),(b2:Int)]:=by
 have l:=lo_ge b0
 have u:=hi_le b0
 have l2:b0=224→160≤b1:=fun z=>by subst z;exact h2.2.1
 have u2:b0=237→b1≤159:=fun z=>by subst z;exact h2.2.2
 have hr:2048≤b0 % 16*4096+b1 % 64*64+b2 % 64∧(b0 % 16*4096+b1 % 64*64+b2 % 64 < 55296∨57344≤b0 % 16*4096+b1 % 64*64+b2 % 64)∧b0 % 16*4096+b1 % 64*64+b2 % 64≤65535:=by
  refine ⟨by omega,?_,by omega⟩
  by_cases q:b0≤237
  · left;omega
  · right;omega
 refine ⟨b0 % 16*4096+b1 % 64*64+b2 % 64,?_,?_⟩
 · unfold decodeN;rw [if_neg (by omega),if_neg (by omega),if_pos (by omega),if_pos (by omega)]
 · have e:encodeRuneZ ((b0 % 16*4096+b1 % 64*64+b2 % 64:Nat):Int)=[224+((b0 % 16*4096+b1 % 64*64+b2 % 64:Nat):Int) / 4096,128+((b0 % 16*4096+b1 % 64*64+b2 % 64:Nat):Int) / 64 % 64,128+((b0 % 16*4096+b1 % 64*64+b2 % 64:Nat):Int) % 64]:=by
    unfold encodeRuneZ
    rw [if_neg (by omega),if_neg (by omega),if_pos (by omega)]
   rw [e]
   have x1:(224:Int)+((b0 % 16*4096+b1 % 64*64+b2 % 64:Nat):Int) / 4096=(b0:Int):=by omega
   have x2:(128:Int)+((b0 % 16*4096+b1 % 64*64+b2 % 64:Nat):Int) / 64 % 64=(b1:Int):=by omega
   have x3:(128:Int)+((b0 % 16*4096+b1 % 64*64+b2 % 64:Nat):Int) % 64=(b2:Int):=by omega
   rw [x1,x2,x3]
theorem num4 (n b0 b1 b2 b3:Nat) (h:240≤b0∧b0≤244) (h2:1 < n∧loC b0≤b1∧b1≤hiC b0) (h3:2 < n∧128≤b2∧b2≤191) (h4:3 < n∧128≤b3∧b3≤191):∃ r:Nat,decodeN n b0 b1 b2 b3=(r,4)∧encodeRuneZ (r:Int)=[(b0:Int),(b1:Int),(b2:Int),(b3:Int)]:=by
 have l:=lo_ge b0
 have u:=hi_le b0
 have l2:b0=240→144≤b1:=fun z=>by subst z;exact h2.2.1
 have u2:b0=244→b1≤143:=fun z=>by subst z;exact h2.2.2
 have hr:65536≤b0 % 8*262144+b1 % 64*4096+b2 % 64*64+b3 % 64∧b0 % 8*262144+b1 % 64*4096+b2 % 64*64+b3 % 64≤1114111:=⟨by omega,by omega⟩
 refine ⟨b0 % 8*262144+b1 % 64*4096+b2 % 64*64+b3 % 64,?_,?_⟩
 · unfold decodeN;rw [if_neg (by omega),if_neg (by omega),if_neg (by omega),if_pos (by omega),if_pos (by omega)]
 · have e:encodeRuneZ ((b0 % 8*262144+b1 % 64*4096+b2 % 64*64+b3 % 64:Nat):Int)=[240+((b0 % 8*262144+b1 % 64*4096+b2 % 64*64+b3 % 64:Nat):Int) / 262144,128+((b0 % 8*262144+b1 % 64*4096+b2 % 64*64+b3 % 64:Nat):Int) / 4096 % 64,128+((b0 % 8*262144+b1 % 64*4096+b2 % 64*64+b3 % 64:Nat):Int) / 64 % 64,128+((b0 % 8*262144+b1 % 64*4096+b2 % 64*64+b3 % 64:Nat):Int) % 64]:=by
    unfold encodeRuneZ
    rw [if_neg (by omega),if_neg (by omega),if_neg (by omega),if_pos (by omega)]
   rw [e]
   have x1:(240:Int)+((b0 % 8*262144+b1 % 64*4096+b2 % 64*64+b3 % 64:Nat):Int) / 262144=(b0:Int):=by omega
   have x2:(128:Int)+((b0 % 8*262144+b1 % 64*4096+b2 % 64*64+b3 % 64:Nat):Int) / 4096 % 64=(b1:Int):=by omega
   have x3:(128:Int)+((b0 % 8*262144+b1 % 64*4096+b2 % 64*64+b3 % 64:Nat):Int) / 64 % 64=(b2:Int):=by omega
   have x4:(128:Int)+((b0 % 8*262144+b1 % 64*4096+b2 % 64*64+b3 % 64:Nat):Int) % 64=(b3:Int):=by omega
   rw [x1,x2,x3,x4]
def bt (s:ByteArray) (k:Nat):Nat:=(s.data.toList.getD k 0).toNat
theorem bt_at (s:ByteArray) (k:Nat) (h:k < s.size):bt s k=s[k].toNat:=by
 unfold bt
 have h2:k < s.data.toList.length:=by rw [Array.length_toList];exact h
 rw [List.getD_eq_getElem?_getD,List.getElem?_eq_getElem h2]
 rfl
theorem fol_bt (s:ByteArray) (k j lo hi:Nat) (hk:k < s.size):fol s (k+j) lo hi=decide (j < s.size - k∧lo≤bt s (k+j)∧bt s (k+j)≤hi):=by
 rcases Nat.lt_or_ge (k+j) s.size with h|h
 · rw [fol_at s (k+j) lo hi h,bt_at s (k+j) h]
   apply decide_eq_decide.2
   constructor
   · rintro ⟨a,b⟩;exact ⟨by omega,a,b⟩
   · rintro ⟨_,a,b⟩;exact ⟨a,b⟩
 · rw [fol_end s (k+j) lo hi h]
   symm
   rw [decide_eq_false_iff_not]
   rintro ⟨a,_⟩;omega
theorem ltr_bt (s:ByteArray) (k:Nat) (hk:k < s.size):ltr s k=ltrC (bt s k) (decide (1 < s.size - k∧loC (bt s k)≤bt s (k+1)∧bt s (k+1)≤hiC (bt s k))) (decide (2 < s.size - k∧128≤bt s (k+2)∧bt s (k+2)≤191)) (decide (3 < s.size - k∧128≤bt s (k+3)∧bt s (k+3)≤191)):=by
 rw [← fol_bt s k 1 _ _ hk,← fol_bt s k 2 _ _ hk,← fol_bt s k 3 _ _ hk,bt_at s k hk]
 unfold ltr
 have h2:k < s.data.toList.length:=by rw [Array.length_toList];exact hk
 rw [List.getElem?_eq_getElem h2]
 rfl
theorem dec_bt (s:ByteArray) (k:Nat):Utf8.decode s k=decodeN (s.size - k) (bt s k) (bt s (k+1)) (bt s (k+2)) (bt s (k+3)):=by
 rw [decode_N,Array.length_toList];rfl
theorem bt_byte (s:ByteArray) (k:Nat) (h:k < s.size):((bt s k:Nat):Int).toNat.toUInt8=s[k]:=by
 rw [bt_at s k h,Int.toNat_natCast]
 exact UInt8.ofNat_toNat
theorem place_says (s:ByteArray) (k:Nat) (hk:k < s.size) :
 (ltr s k=0∧Utf8.decode s k=(65533,1))∨(0 < ltr s k∧k+ltr s k≤s.size∧(Utf8.decode s k).2=ltr s k∧encodeRune (Utf8.decode s k).1=(s.extract k (k+ltr s k)).data.toList):=by
 have h0:bt s k < 256:=by rw [bt_at s k hk];exact UInt8.toNat_lt _
 rw [ltr_bt s k hk]
 by_cases hz:ltrC (bt s k) (decide (1 < s.size - k∧loC (bt s k)≤bt s (k+1)∧bt s (k+1)≤hiC (bt s k))) (decide (2 < s.size - k∧128≤bt s (k+2)∧bt s (k+2)≤191)) (decide (3 < s.size - k∧128≤bt s (k+3)∧bt s (k+3)≤191))=0
 · left
   exact ⟨hz,by rw [dec_bt];exact bad_num _ _ _ _ _ h0 (bad_cases _ _ _ _ hz)⟩
 · right
   rw [dec_bt]
   rcases len_num _ _ _ _ hz with ⟨a,e⟩|⟨a,e⟩|⟨a,e⟩|⟨a,e⟩
   · rw [e]
     have d:decodeN (s.size - k) (bt s k) (bt s (k+1)) (bt s (k+2)) (bt s (k+3))=(bt s k,1):=by unfold decodeN;rw [if_pos a]
     rw [d]
     refine ⟨by omega,by omega,rfl,?_⟩
     rw [cut_take,cut_cons s k hk]
     unfold encodeRune
     rw [encodeRuneZ_one (by omega) (by omega)]
     show [((bt s k:Nat):Int).toNat.toUInt8]=_
     rw [bt_byte s k hk]
     rfl
   · rw [e]
     obtain ⟨r,d,er⟩:=num2 (s.size - k) _ _ (bt s (k+2)) (bt s (k+3)) ⟨a.1,a.2.1⟩ a.2.2
     rw [d]
     refine ⟨by omega,by omega,rfl,?_⟩
     rw [cut_take,cut_cons s k hk,cut_cons s (k+1) (by omega)]
     unfold encodeRune
     rw [er]
     show [((bt s k:Nat):Int).toNat.toUInt8,((bt s (k+1):Nat):Int).toNat.toUInt8]=_
     rw [bt_byte s k hk,bt_byte s (k+1) (by omega)]
     rfl
   · rw [e]
     obtain ⟨r,d,er⟩:=num3 (s.size - k) _ _ _ (bt s (k+3)) ⟨a.1,a.2.1⟩ a.2.2.1 a.2.2.2
     rw [d]
     refine ⟨by omega,by omega,rfl,?_⟩
     rw [cut_take,cut_cons s k hk,cut_cons s (k+1) (by omega),cut_cons s (k+1+1) (by omega)]
     unfold encodeRune
     rw [er]
     show [((bt s k:Nat):Int).toNat.toUInt8,((bt s (k+1):Nat):Int).toNat.toUInt8,((bt s (k+2):Nat):Int).toNat.toUInt8]=_
     rw [bt_byte s k hk,bt_byte s (k+1) (by omega),bt_byte s (k+2) (by omega)]
     rfl
   · rw [e]
     obtain ⟨r,d,er⟩:=num4 (s.size - k) _ _ _ _ ⟨a.1,a.2.1⟩ a.2.2.1 a.2.2.2.1 a.2.2.2.2
     rw [d]
     refine ⟨by omega,by omega,rfl,?_⟩
     rw [cut_take,cut_cons s k hk,cut_cons s (k+1) (by omega),cut_cons s (k+1+1) (by omega),cut_cons s (k+1+1+1) (by omega)]
     unfold encodeRune
     rw [er]
     show [((bt s k:Nat):Int).toNat.toUInt8,((bt s (k+1):Nat):Int).toNat.toUInt8,((bt s (k+2):Nat):Int).toNat.toUInt8,((bt s (k+3):Nat):Int).toNat.toUInt8]=_
     rw [bt_byte s k hk,bt_byte s (k+1) (by omega),bt_byte s (k+2) (by omega),bt_byte s (k+3) (by omega)]
     rfl
theorem said_from (s:ByteArray):∀ f k,rd.saidFrom s f k=clF s f k:=by
 intro f
 induction f with
 | zero=>intro k;rfl
 | succ f ih =>
   intro k
   show (if k < s.size then encodeRune (Utf8.decode s k).1++rd.saidFrom s f (k+(Utf8.decode s k).2) else [])=(if k < s.size then (if ltr s k=0 then [239,191,189]++clF s f (k+1) else (s.extract k (k+ltr s k)).data.toList++clF s f (k+ltr s k)) else [])
   by_cases hk:k < s.size
   · rw [if_pos hk,if_pos hk]
     rcases place_says s k hk with ⟨a,d⟩|⟨a,_,d,e⟩
     · rw [if_pos a,d,ih];rfl
     · rw [if_neg (by omega),e,d,ih]
   · rw [if_neg hk,if_neg hk]
theorem said_clean (s:ByteArray):rd.said s=clean s:=by
 unfold rd.said rd.saidL clean
 rw [said_from]
end Go.Proofs.YthakglomacijgaaGreatDoor.pt
