/- Texts in one: Mo -/
import Derived.Test.YtilhjecnkaokeaaGreatDoorMrP
import Derived.Test.YtilhjecnkaokeaaGreatDoorRows
import Derived.Deep.Slices
import Derived.Deep.Strs
import Derived.OpenShut
namespace Go.Proofs.YtilhjecnkaokeaaGreatDoor.mm
open Go.RowKit
theorem bulk_pos {H:Type}:∀ d:DataW H,1≤Rows.uptoBulk d
 | .lit l=>by cases l <;> simp [Rows.uptoBulk]
 | .nil=>by simp [Rows.uptoBulk]
 | .ptr _=>by simp [Rows.uptoBulk]
 | .slice _ _=>by simp [Rows.uptoBulk]
 | .agg _=>by simp [Rows.uptoBulk]
 | .iface _ _=>by simp [Rows.uptoBulk]
 | .map _=>by simp [Rows.uptoBulk]
 | .held _=>by simp [Rows.uptoBulk]
theorem bulk_mem {H:Type}{d:DataW H}:∀ {l:List (DataW H)},d∈l→Rows.uptoBulk d≤Rows.uptoBulkAll l
 | [],h=>by cases h
 | x::r,h=>by
   rw [Rows.uptoBulkAll]
   rcases List.mem_cons.mp h with e|e
   · subst e;omega
   · have:=bulk_mem e;omega
theorem bulk_len {H:Type}:∀ l:List (DataW H),l.length≤Rows.uptoBulkAll l
 | []=>by simp
 | x::r=>by
   rw [Rows.uptoBulkAll,List.length_cons]
   have:=bulk_pos x
   have:=bulk_len r
   omega
theorem bulk_slice {H:Type} (e s:List (DataW H)):e.length≤Rows.uptoBulk (.slice e s)∧∀ d∈e,Rows.uptoBulk d≤Rows.uptoBulk (.slice e s):=by
 rw [Rows.uptoBulk]
 have:=bulk_len e
 exact ⟨by omega,fun d hd=>by have:=bulk_mem hd;omega⟩
theorem bulk_agg {H:Type} (e:List (DataW H)):∀ d∈e,Rows.uptoBulk d≤Rows.uptoBulk (.agg e):=fun d hd=>by
 rw [Rows.uptoBulk]
 have:=bulk_mem hd
 omega
theorem bulk_str {H:Type} (s:ByteArray):s.size≤Rows.uptoBulk (.lit (.string s.data.toList):DataW H):=by
 rw [Rows.uptoBulk]
 have:s.data.toList.length=s.size:=by rw [Array.length_toList];rfl
 omega
section
variable {H:Type}{enc:TypeId × Value→H}{P:Program}{W:World}{fuel:Nat}{cs:List Value}{x:DataW H × List MemPlace}
theorem slice_of {t e:TypeId} (ht:P.underlying t=some (.slice e)) (h:DataW.trod enc P W 0 (fun _=>true) true fuel t cs=some x) :
 ∃ oa len c,cs=[.slice oa len c]∧len≤c∧c≤maxLen∧(oa=none→len=0∧c=0)∧len≤Rows.uptoBulk x.1 ∧
   ∀ a,oa=some a→∀ i,i < len→∃ cs' n d pl,W.cells? 0 (a.add (i*P.cellsOf e)) (P.cellsOf e)=some cs'∧DataW.trod enc P W 0 (fun _=>true) true n e cs'=some (d,pl)∧Rows.uptoBulk d≤Rows.uptoBulk x.1:=by
 rcases Go.Deep.open_slice ht h with ⟨rfl,rfl⟩|⟨a,len,cap,m,n,D,Pl,rfl,_,hl,hm,hmm,rfl,hx⟩
 · exact ⟨none,0,0,rfl,by omega,by unfold maxLen;omega,fun _=>⟨rfl,rfl⟩,Nat.zero_le _,fun a ha=>by cases ha⟩
 · have hb:=bulk_slice ((List.range len).map D) ((List.range (m - len)).map fun j=>D (len+j))
   simp only [if_true] at hmm
   refine ⟨some a,len,cap,rfl,hl,hm,(fun q=>by cases q),?_,fun a' ha i hi=>?_⟩
   · have:=hb.1
     rwa [List.length_map,List.length_range] at this
   · cases ha
     obtain ⟨cs',h1,h2⟩:=hx i (by omega)
     exact ⟨cs',n,D i,Pl i,h1,h2,hb.2 _ (List.mem_map.mpr ⟨i,List.mem_range.mpr hi,rfl⟩)⟩
theorem slice1_of {t e:TypeId} (ht:P.underlying t=some (.slice e)) (hc:P.cellsOf e=1) (h:DataW.trod enc P W 0 (fun _=>true) true fuel t cs=some x) (Q:Value→Prop)
 (hQ:∀ n v d pl,DataW.trod enc P W 0 (fun _=>true) true n e [v]=some (d,pl)→Rows.uptoBulk d≤Rows.uptoBulk x.1→Q v) :
 ∃ v xs,cs=[v]∧SV W v xs.length 1 xs∧xs.length≤Rows.uptoBulk x.1∧∀ y∈xs,Q y:=by
 obtain ⟨oa,len,c,rfl,h1,h2,h3,h4,h5⟩:=slice_of ht h
 cases oa with
 | none =>
   obtain ⟨rfl,rfl⟩:=h3 rfl
   exact ⟨_,[],rfl,⟨rfl,none,0,rfl,by simp,by unfold maxLen;omega,fun _=>⟨rfl,rfl⟩,fun a ha=>by cases ha⟩,Nat.zero_le _,fun y hy=>by cases hy⟩
 | some a =>
   rw [hc] at h5
   have each:∀ i,i < len→∃ v,W.cell? (a.add i)=some v∧Q v:=fun i hi=>by
    obtain ⟨cs',n,d,pl,q1,q2,q3⟩:=h5 a rfl i hi
    rw [Nat.mul_one] at q1
    obtain ⟨_,hlen,_⟩:=World.cells?_some q1
    match cs',hlen with
    | [v],_=>exact ⟨v,by have:=(World.cells?_some q1).2.2 0 (by omega);simpa [Addr.add] using this,hQ n v d pl q2 q3⟩
   obtain ⟨f,hf⟩:=Go.Deep.choose_lt each
   have hl:((List.range len).map f).length=len:=by simp
   refine ⟨_,(List.range len).map f,rfl,⟨by simp,some a,c,by rw [hl],by omega,h2,(fun q=>by cases q),fun a' ha j u hu=>?_⟩,by omega,fun y hy=>?_⟩
   · cases ha
     rw [List.getElem?_map] at hu
     cases hj:(List.range len)[j]? with
     | none=>rw [hj] at hu;cases hu
     | some i =>
       rw [hj] at hu
       obtain ⟨hjl,e⟩:=List.getElem?_eq_some_iff.mp hj
       rw [List.length_range] at hjl
       simp only [List.getElem_range] at e
       subst e
       cases hu
       exact (hf j hjl).1
   · obtain ⟨i,hi,rfl⟩:=List.mem_map.mp hy
     exact (hf i (List.mem_range.mp hi)).2
theorem strs_of {t e:TypeId} (ht:P.underlying t=some (.slice e)) (he:P.underlying e=some .string) (hc:P.cellsOf e=1) (h:DataW.trod enc P W 0 (fun _=>true) true fuel t cs=some x) :
 ∃ (v:Value) (l:List ByteArray),cs=[v]∧SV W v l.length 1 (l.map Value.string)∧l.length≤Rows.uptoBulk x.1∧∀ s∈l,s.size≤Rows.uptoBulk x.1:=by
 obtain ⟨v,xs,rfl,h1,h2,h3⟩:=slice1_of ht hc h (fun v=>∃ s:ByteArray,v=.string s∧s.size≤Rows.uptoBulk x.1) (fun n v d pl q1 q2=>by
  obtain ⟨s,e1,e2,_⟩:=DataW.trod_string he q1
  simp only [List.cons.injEq,and_true] at e1
  simp only [Prod.mk.injEq] at e2
  refine ⟨s,e1,?_⟩
  rw [e2.1] at q2
  have:=bulk_str (H:=H) s
  omega)
 obtain ⟨l,hl1,hl2⟩:∃ l:List ByteArray,xs=l.map Value.string∧∀ s∈l,s.size≤Rows.uptoBulk x.1:=by
  clear h1 h2
  induction xs with
  | nil=>exact ⟨[],rfl,fun s hs=>by cases hs⟩
  | cons y r ih =>
    obtain ⟨s,rfl,hs⟩:=h3 y (List.mem_cons_self ..)
    obtain ⟨l,rfl,hl⟩:=ih (fun z hz=>h3 z (List.mem_cons_of_mem _ hz))
    exact ⟨s::l,rfl,fun z hz=>(List.mem_cons.mp hz).elim (fun e=>e ▸ hs) (hl z)⟩
 subst hl1
 rw [List.length_map] at h1 h2
 exact ⟨v,l,rfl,h1,h2,hl2⟩
theorem ints_of {t e:TypeId} (ht:P.underlying t=some (.slice e)) (he:P.underlying e=some (.int .i64)) (hc:P.cellsOf e=1) (h:DataW.trod enc P W 0 (fun _=>true) true fuel t cs=some x) :
 ∃ (v:Value) (l:List Int),cs=[v]∧SV W v l.length 1 (l.map (Value.int .i64 ·))∧l.length≤Rows.uptoBulk x.1∧∀ n∈l,-9223372036854775808≤n∧n≤9223372036854775807:=by
 obtain ⟨v,xs,rfl,h1,h2,h3⟩:=slice1_of ht hc h (fun v=>∃ n:Int,v=.int .i64 n∧-9223372036854775808≤n∧n≤9223372036854775807) (fun n v d pl q1 _=>by
  obtain ⟨s,e1,_,hw⟩:=DataW.trod_int he q1
  simp only [List.cons.injEq,and_true] at e1
  exact ⟨s,e1,bounds_i64 hw⟩)
 obtain ⟨l,hl1,hl2⟩:∃ l:List Int,xs=l.map (Value.int .i64 ·)∧∀ s∈l,-9223372036854775808≤s∧s≤9223372036854775807:=by
  clear h1 h2
  induction xs with
  | nil=>exact ⟨[],rfl,fun s hs=>by cases hs⟩
  | cons y r ih =>
    obtain ⟨s,rfl,hs⟩:=h3 y (List.mem_cons_self ..)
    obtain ⟨l,rfl,hl⟩:=ih (fun z hz=>h3 z (List.mem_cons_of_mem _ hz))
    exact ⟨s::l,rfl,fun z hz=>(List.mem_cons.mp hz).elim (fun e=>e ▸ hs) (hl z)⟩
 subst hl1
 rw [List.length_map] at h1 h2
 exact ⟨v,l,rfl,h1,h2,hl2⟩
end
end Go.Proofs.YtilhjecnkaokeaaGreatDoor.mm
