/- Texts in one: My -/
import Derived.Test.YthnhobplgmojeaaGreatDoorMrP
import Derived.Laws.BytesArg
import Derived.Laws.IdiomStrings
import Derived.Lib.ConvBytes
namespace Go.Proofs.YthnhobplgmojeaaGreatDoor.mm
open Go.RowKit
def vb (c:UInt8):Value:=.int .u8 (c.toNat:Int)
def BY (w:World) (v:Value) (l:List UInt8):Prop:=SV w v l.length 1 (l.map vb)
def OY (w:World) (B:Nat) (v:Value) (l:List UInt8):Prop:=w.ownsRow B 5 1 v l.length (l.map vb)
theorem BY.keep {w w':World}{v:Value}{l:List UInt8} (h:BY w v l) (hb:Below w.heap.size w w'):BY w' v l:=SV.keep h hb
theorem BY.form {w:World}{v:Value}{l:List UInt8} (h:BY w v l):∃ oa c,v=.slice oa l.length c∧l.length≤c∧c≤maxLen:=SV.form h
theorem BY.at {w:World}{v:Value}{l:List UInt8} (h:BY w v l) (hl:0 < l.length):∃ a c,v=.slice (some a) l.length c∧l.length≤c∧c≤maxLen∧∀ (j:Nat) (u:UInt8),l[j]?=some u→w.cell? (a.add j)=some (.int .u8 (u.toNat:Int)):=by
 obtain ⟨a,c,e,h1,h2,h3⟩:=SV.some h hl;exact ⟨a,c,e,h1,h2,fun j u hu=>h3 j _ (by rw [List.getElem?_map,hu];rfl)⟩
theorem undU:Tryz.prog.underlying 38=some (.slice 5):=by kernel_rfl
theorem size_u (u:World):(sizeOf (Tryz.prog.elem 38)).run Tryz.prog u=.ok 1 u:=by
 have e:Tryz.prog.elem 38=5:=by kernel_rfl
 rw [e];have h:Tryz.t5.size=1:=by kernel_rfl
 simp [sizeOf,go_sem,h]
def str (l:List UInt8):ByteArray:=⟨l.toArray⟩
theorem str_list (l:List UInt8):(str l).toList=l:=by rw [ByteArray.toList_eq];unfold str;simp
theorem str_size (l:List UInt8):(str l).size=l.length:=by unfold str ByteArray.size;simp
theorem by_str {w:World}{v:Value}{l:List UInt8} (h:BY w v l):(convert 38 9 v).run Tryz.prog w=.ok (.string (str l)) w:=by
 obtain ⟨hl,oa,c,rfl,h1,h2,h3,h4⟩:=h
 cases oa with
 | none =>
   have:l=[]:=List.eq_nil_of_length_eq_zero (h3 rfl).1;subst this;rw [(h3 rfl).2];exact run_convert_bytes_nil w 38 5 Tryz.underlying38 Tryz.underlying5 _ _ 9 Tryz.underlying9
 | some a =>
   exact run_convert_bytes_back w 38 9 5 a c l Tryz.underlying38 Tryz.underlying5 Tryz.underlying9 (fun j hj=>h4 a rfl j _ (by rw [List.getElem?_map,List.getElem?_eq_getElem hj];rfl))
theorem sliced_sv {w:World}{oa:Option Addr}{n c:Nat}{xs:List Value} (h0:xs.length=n) (h1:n≤c) (h2:c≤maxLen) (h3:oa=none→n=0∧c=0) (h4:∀ a,oa=some a→∀ (j:Nat) (u:Value),xs[j]?=some u→w.cell? (a.add j)=some u)
 (lo hi:Nat) (h:lo≤hi) (h':hi≤n):SV w (sliced oa lo hi c 1) (hi - lo) 1 ((xs.take hi).drop lo):=by
 refine ⟨by rw [List.length_drop,List.length_take];omega,if c=lo then oa else oa.map (·.add (lo*1)),c - lo,rfl,by omega,by omega,fun q=>?_,fun a ha j u hu=>?_⟩
 · have:oa=none:=by
    split at q
    · exact q
    · simpa using q
   obtain ⟨z1,z2⟩:=h3 this;omega
 · rw [List.getElem?_drop,List.getElem?_take] at hu
   split at hu
   · rename_i hj
     obtain ⟨hlt,_⟩:=List.getElem?_eq_some_iff.mp hu
     split at ha
     · omega
     · cases oa with
       | none=>simp at ha
       | some b =>
         simp only [Option.map_some,Option.some.injEq,Nat.mul_one] at ha;subst ha;rw [add_add];exact h4 b rfl _ u hu
   · cases hu
set_option maxRecDepth 100000 in
theorem BY.h {w:World}{v:Value}{l:List UInt8} (h:BY w v l) (hi:Nat) (h2:hi≤l.length) (kh:Int) (eh:kh=(hi:Int)) :
 ∃ v',(∀ u:World,(Instr.slice 38 v none (some (.int .i64 kh)) none).run Tryz.prog u=.ok v' u)∧BY w v' (l.take hi):=by
 obtain ⟨_,oa,c,rfl,q1,q2,q3,q4⟩:=h;refine ⟨sliced oa 0 hi c 1,fun u=>?_,?_⟩
 · subst eh
   rw [run_slice_h (P:=Tryz.prog) (ht:=undU) (h0:=by omega) (h2:=by omega),size_u];rfl
 · have:=sliced_sv (by simp) q1 q2 q3 q4 0 hi (by omega) h2
   unfold BY;rw [List.length_take,Nat.min_eq_left h2,List.map_take];simpa using this
section
variable {H:Type}{enc:TypeId × Value→H}{P:Program}{W:World}{fuel:Nat}{cs:List Value}{x:DataW H × List MemPlace}
theorem bytes_of {t e:TypeId} (ht:P.underlying t=some (.slice e)) (he:P.underlying e=some (.int .u8)) (hc:P.cellsOf e=1) (h:DataW.trod enc P W 0 (fun _=>true) true fuel t cs=some x) :
 ∃ (v:Value) (l:List UInt8),cs=[v]∧BY W v l∧l.length≤Rows.uptoBulk x.1:=by
 obtain ⟨v,xs,rfl,h1,h2,h3⟩:=slice1_of ht hc h (fun v=>∃ n:UInt8,v=vb n) (fun n v d pl q1 _=>by
  obtain ⟨s,e1,_,hw⟩:=DataW.trod_int he q1;simp only [List.cons.injEq,and_true] at e1;have hb:=bounds_u8 hw;refine ⟨UInt8.ofNat s.toNat,?_⟩;rw [e1];unfold vb
  congr 1
  rw [UInt8.toNat_ofNat']
  omega)
 obtain ⟨l,hl1⟩:∃ l:List UInt8,xs=l.map vb:=by
  clear h1 h2
  induction xs with
  | nil=>exact ⟨[],rfl⟩
  | cons y r ih =>
    obtain ⟨s,rfl⟩:=h3 y (List.mem_cons_self ..);obtain ⟨l,rfl⟩:=ih (fun z hz=>h3 z (List.mem_cons_of_mem _ hz));exact ⟨s::l,rfl⟩
 subst hl1;rw [List.length_map] at h1 h2;exact ⟨v,l,rfl,h1,h2⟩
end
end Go.Proofs.YthnhobplgmojeaaGreatDoor.mm
