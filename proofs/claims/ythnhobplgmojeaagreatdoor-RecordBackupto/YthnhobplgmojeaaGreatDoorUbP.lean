/- Texts in one: Ub -/
import Derived.Test.YthnhobplgmojeaaGreatDoorIaP
import Derived.Lib.AppendStr
namespace Go.Proofs.YthnhobplgmojeaaGreatDoor.pt
open Go.RowKit
open rd (vb)
theorem fol_lt {s:ByteArray}{k lo hi:Nat} (h:fol s k lo hi=true):k < s.size:=by
 rcases Nat.lt_or_ge k s.size with q|q
 · exact q
 · rw [fol_end s k lo hi q] at h;cases h
theorem ltr_le (s:ByteArray) (k:Nat) (h:k < s.size):k+ltr s k≤s.size:=by
 unfold ltr;have h2:k < s.data.toList.length:=by rw [Array.length_toList];exact h
 rw [List.getElem?_eq_getElem h2];simp only;generalize s.data.toList[k].toNat=c;unfold ltrC
 split
 · omega
 · split
   · omega
   · split
     · split
       · rename_i q
         have:=fol_lt q;omega
       · omega
     · split
       · split
         · rename_i q
           have:=fol_lt q.2;omega
         · omega
       · split
         · rename_i q
           have:=fol_lt q.2.2;omega
         · omega
def clF (s:ByteArray):Nat→Nat→List UInt8
 | 0,_=>[]
 | f+1,k=>if k < s.size then (if ltr s k=0 then [239,191,189]++clF s f (k+1) else (s.extract k (k+ltr s k)).data.toList++clF s f (k+ltr s k)) else []
def clean (s:ByteArray):ByteArray:=⟨(clF s s.size 0).toArray⟩
theorem conv_nil (w:World):(convert 38 9 (.slice none 0 0)).run Tryz.prog w=.ok (.string ⟨([]:List UInt8).toArray⟩) w:=by kernel_rfl
theorem own_str {w:World}{B:Nat}{v:Value}{l:List UInt8} (h:w.ownsRow B 5 1 v l.length (l.map vb)):(convert 38 9 v).run Tryz.prog w=.ok (.string ⟨l.toArray⟩) w:=by
 rcases h.2 with ⟨rfl,h0⟩|⟨g,cap,cur,rfl,hb,hg,_,_,_,ht⟩
 · have:l=[]:=List.eq_nil_of_length_eq_zero h0
   subst this;exact conv_nil w
 · refine run_convert_bytes_back w 38 9 5 ⟨g,0,none⟩ cap l Tryz.underlying38 Tryz.underlying5 Tryz.underlying9 (fun j hj=>?_)
   have:=h.cellAt j (by omega);have e:(⟨g,0,none⟩:Addr).add j=⟨g,j,none⟩:=by unfold Addr.add;split <;> simp_all
   rw [e,this];simp [hj,vb]
theorem own_ge {w:World}{B:Nat}{e:TypeId}{v:Value}{n:Nat}{xs:List Value} (h:w.ownsRow B e 1 v n xs):∀ k,v.ownBlock=some k→B≤k:=fun k hk=>(mm.row_lt h k hk).1
set_option maxRecDepth 100000 in
set_option maxHeartbeats 3200000 in
theorem clean_any (s:ByteArray) (w:World) (hs:s.size≤35184372088832) :
 Calls Tryz.prog 56 #[.string s] w fun e w'=>e=.returned (.string (clean s))∧Below w.heap.size w w':=by
 obtain ⟨i0,hi,hz0,hz1,hz2⟩:=info_parts rd.info5;have hcl:clean s=⟨(clF s s.size 0).toArray⟩:=rfl;rw [hcl];clear hcl;obtain ⟨res,hres⟩:∃ res,clF s s.size 0=res:=⟨_,rfl⟩;have HR:Hid ([]++clF s s.size 0=res):=hres;rw [hres];clear hres
 go_enter Tryz.func56,Tryz.ntmps56
 go_wp2
 go_loopw [3,4] (fun v i wr=>∃ (k f:Nat) (acc:List UInt8),k≤s.size∧s.size≤k+f∧i=.int .i64 (k:Int)∧Hid (wr.ownsRow w.heap.size 5 1 v acc.length (acc.map vb))∧Hid (Below w.heap.size w wr)∧Hid (acc++clF s f k=res)∧acc.length≤3*k) (fun _ i _=>s.size - (intOf i).toNat)
 case atStart=>exact ⟨0,s.size,[],by omega,by omega,rfl,World.ownsRow_nil _ _ _ _,Below.refl _ _,HR,by simp⟩
 case round =>
  clear HR;obtain ⟨k,f,acc,hk,hf,rfl,Hown,Hbel,hR,hacc⟩:=hrel;have hsz:=(uh Hbel).size
  by_cases hlt:k < s.size
  · have hlt':(k:Int) < (s.size:Int):=by omega
    obtain ⟨f,rfl⟩:∃ g,f=g+1:=⟨f - 1,by omega⟩;have LT:=hide (letter_any s k wr hlt (by omega));have hle:=ltr_le s k hlt;have HS:Hid (clF s (f+1) k=if k < s.size then (if ltr s k=0 then [239,191,189]++clF s f (k+1) else (s.extract k (k+ltr s k)).data.toList++clF s f (k+ltr s k)) else []):=rfl;have HS1:=hide ((uh HS).trans (if_pos hlt));clear HS;generalize ltr s k=n at *
    by_cases hn:n=0
    · subst hn
      have HS2:=hide ((uh HS1).trans (if_pos rfl));have HR2:=hide (show (acc++[239,191,189])++clF s f (k+1)=res by rw [← uh hR,uh HS2];simp);clear HS1 HS2 hR
      go_wp2_with fail
      refine (uh LT).mono ?_;rintro e u ⟨rfl,hu⟩;obtain rfl:=hu.symm;clear hu LT;have hO:=hide ((uh Hown).alloc (.cells #[.int .u8 239,.int .u8 191,.int .u8 189] 5))
      go_wp2_with (at_builtin;refine wpList_append_own _ rfl _ _ 38 rfl w.heap.size 5 i0 (.int .u8 0) 1 1 Tryz.underlying38 hi hz0 hz1 hz2 rfl (by decide) _ _ _ rfl (uh hO) ⟨wr.heap.size,0,none⟩ 3 3 [.int .u8 239,.int .u8 191,.int .u8 189] rfl rfl ?c1 ?c2 ?c3 ?c4 ?c5 ?_)
      case c1=>exact World.news_of_block (cs:=#[.int .u8 239,.int .u8 191,.int .u8 189]) (t:=5) (fr:=(0,0)) (heap_alloc_new wr _)
      case c2 =>
       first
       | exact ⟨rfl,rfl,rfl⟩
       | (intro u hu
          simp only [List.mem_cons,List.not_mem_nil,or_false] at hu
          rcases hu with rfl|rfl|rfl <;> rfl)
      case c3=>unfold maxLen;omega
      case c4=>omega
      case c5=>simp;omega
      intro v' w1 hown1 hgrow1 _;have e2:(acc++[239,191,189]).map vb=acc.map vb++[.int .u8 239,.int .u8 191,.int .u8 189]:=by rw [List.map_append];rfl
      have hown2:=hide (show w1.ownsRow w.heap.size 5 1 v' (acc++[239,191,189]).length ((acc++[239,191,189]).map vb) by rw [e2,List.length_append];exact hown1);have hbel2:=hide (((uh Hbel).alloc hsz _).grown hgrow1 (by simp;omega) (own_ge (uh Hown)));clear hown1 hgrow1 e2 hO;go_wp2;exact ⟨⟨k+1,f,acc++[239,191,189],by omega,by omega,rfl,hown2,hbel2,HR2,by simp;omega⟩,by simp [intOf];omega⟩
    · have HS2:=hide ((uh HS1).trans (if_neg hn))
      have hnb:((n:Int) == 0)=false:=by simp;omega
      have hxs:(s.extract k (k+n)).size=n:=by rw [ByteArray.size_extract];omega
      have hsl:∀ u:World,(Instr.slice 9 (.string s) (some (.int .i64 (k:Int))) (some (.int .i64 ((k:Int)+(n:Int)))) none).run Tryz.prog u=.ok (.string (s.extract k (k+n))) u:=fun u=>by
       have:=run_slice_string (P:=Tryz.prog) u 9 s .i64 .i64 (k:Int) ((k:Int)+(n:Int)) Tryz.underlying9 (by omega) (by omega) (by omega);rw [this]
       congr 3
      have HR2:=hide (show (acc++(s.extract k (k+n)).data.toList)++clF s f (k+n)=res by rw [← uh hR,uh HS2];simp);clear HS1 HS2 hR;generalize s.extract k (k+n)=pc at *
      go_wp2_with fail
      refine (uh LT).mono ?_;rintro e u ⟨rfl,hu⟩;obtain rfl:=hu.symm;clear hu LT
      go_wp2_with (at_builtin;refine Lib.wpList_append_own_string _ rfl _ _ 38 9 rfl w.heap.size 5 i0 Tryz.underlying38 Tryz.underlying9 hi hz0 hz1 hz2 _ _ _ rfl (uh Hown) pc rfl ?c3 ?c4 ?c5 ?_)
      case c3=>unfold maxLen;omega
      case c4=>omega
      case c5=>omega
      intro v' w1 hown1 hgrow1 _;have e1:pc.data.toList.length=pc.size:=Array.length_toList;have e2:(acc++pc.data.toList).map vb=acc.map vb++Lib.strCells pc:=by rw [List.map_append];rfl
      have hown2:=hide (show w1.ownsRow w.heap.size 5 1 v' (acc++pc.data.toList).length ((acc++pc.data.toList).map vb) by rw [e2,List.length_append,e1,hxs];exact hown1);have hbel2:=hide ((uh Hbel).grown hgrow1 hsz (own_ge (uh Hown)));have hal:(acc++pc.data.toList).length≤3*(k+n):=by rw [List.length_append,e1];omega
      clear hown1 hgrow1 e2;go_wp2;exact ⟨⟨k+n,f,acc++pc.data.toList,by omega,by omega,by go_num,hown2,hbel2,HR2,hal⟩,by simp [intOf];omega⟩
  · have hlt':¬ (k:Int) < (s.size:Int):=by omega
    have hcv:=own_str (uh Hown)
    have he:clF s f k=[]:=by
     cases f with
     | zero=>rfl
     | succ f=>exact if_neg hlt
    have HR2:=hide (show acc=res by rw [← uh hR,he];simp);clear hR he;go_wp2;go_ret;exact ⟨by rw [uh HR2];rfl,uh Hbel⟩
end Go.Proofs.YthnhobplgmojeaaGreatDoor.pt
