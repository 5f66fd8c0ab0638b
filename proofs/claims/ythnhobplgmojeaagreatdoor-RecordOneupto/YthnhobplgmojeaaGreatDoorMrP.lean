/- Texts in one: Mr Mh Mo Isl -/
import Derived.Test.YthnhobplgmojeaaGreatDoorNuP
import Derived.Test.YthnhobplgmojeaaGreatDoorChecked
import Derived.WalkKit
import Derived.Deep.QuietTactic
import Derived.BigQuiet
import Derived.Outline
import Derived.WalkLawsBesides
import Derived.Lib.SmallJoins
import Derived.Deep.Cut
import Derived.Laws.OwnMore
import Derived.Laws.AppendOwnNone
import Derived.Deep.AppendLies
import Derived.ReadAgain
import Derived.ChangeStays
import Derived.ArgAppend
import Derived.OwnWalk
import Derived.Test.YthnhobplgmojeaaGreatDoorRows
import Derived.Deep.Slices
import Derived.Deep.Strs
import Derived.OpenShut
namespace Go.Proofs.YthnhobplgmojeaaGreatDoor.mm
open Go.RowKit
theorem below_drewN (B:Nat) (w:World) (n:Nat):Below B w (w.drewN n):=⟨rfl,rfl,rfl,Nat.le_refl _,fun _ _=>rfl⟩
theorem cell_lt {w:World}{a:Addr}{v:Value} (h:w.cell? a=some v):a.block < w.heap.size:=by
 rcases Nat.lt_or_ge a.block w.heap.size with h'|h'
 · exact h'
 · simp [World.cell?,Array.getElem?_eq_none h'] at h
theorem add0 (g j:Nat):(⟨g,0,none⟩:Addr).add j=⟨g,j,none⟩:=by unfold Addr.add;split <;> simp_all
theorem add_add (a:Addr) (n j:Nat):(a.add n).add j=a.add (n+j):=by
 unfold Addr.add
 by_cases h:n=0
 · subst h;simp
 · by_cases h2:j=0
   · subst h2;simp
   · simp [h,h2,Nat.add_assoc]
theorem row_keep {w w':World}{B e s n:Nat}{v:Value}{xs:List Value} (h:w.ownsRow B e s v n xs) (hk:∀ k,v.ownBlock=some k→w'.heap[k]?=w.heap[k]?):w'.ownsRow B e s v n xs:=by
 obtain ⟨hl,⟨rfl,h0⟩|⟨g,cap,cur,rfl,hb',hg,r⟩⟩:=h
 · exact ⟨hl,Or.inl ⟨rfl,h0⟩⟩
 · exact ⟨hl,Or.inr ⟨g,cap,cur,rfl,hb',(hk g rfl).trans hg,r⟩⟩
theorem row_lt {w:World}{B e s n:Nat}{v:Value}{xs:List Value} (h:w.ownsRow B e s v n xs):∀ k,v.ownBlock=some k→B≤k∧k < w.heap.size:=World.ownsRow.lt h
theorem row_mono {w:World}{B B' e s n:Nat}{v:Value}{xs:List Value} (h:w.ownsRow B e s v n xs) (hB:B'≤B):w.ownsRow B' e s v n xs:=by
 obtain ⟨hl,⟨rfl,h0⟩|⟨g,cap,cur,rfl,hb',r⟩⟩:=h
 · exact ⟨hl,Or.inl ⟨rfl,h0⟩⟩
 · exact ⟨hl,Or.inr ⟨g,cap,cur,rfl,by omega,r⟩⟩
theorem row_below {w w':World}{B C e s n:Nat}{v:Value}{xs:List Value} (h:w.ownsRow B e s v n xs) (hb:Below C w w') (hC:w.heap.size≤C):w'.ownsRow B e s v n xs :=
 row_keep h (fun k hk=>hb.block k (by have:=(row_lt h k hk).2;omega))
theorem row_set {w:World}{B e s n g len c:Nat}{xs:List Value} (h:w.ownsRow B e s (.slice (some ⟨g,0,none⟩) len c) n xs) (j:Nat) (x:Value) :
 (w.setCell ⟨g,j,none⟩ x).ownsRow B e s (.slice (some ⟨g,0,none⟩) len c) n (xs.set j x):=by
 obtain ⟨hl,⟨h0,_⟩|⟨g',cap,cur,hv,hb,hg,hc,hm,hs,ht⟩⟩:=h
 · cases h0
 · cases hv
   refine ⟨by rw [List.length_set];exact hl,Or.inr ⟨g,c,cur.setIfInBounds j x,rfl,hb,blk_set hg j _,hc,hm,by simpa using hs,?_⟩⟩;rw [Array.toList_setIfInBounds,List.take_set,ht]
theorem row_frz {w:World}{B e s n g len c:Nat}{xs:List Value} (h:w.ownsRow B e s (.slice (some ⟨g,0,none⟩) len c) n xs) (j:Nat):w.frozen? ⟨g,j,none⟩=false:=by
 obtain ⟨hl,⟨h0,_⟩|⟨g',cap,cur,hv,hb,hg,r⟩⟩:=h
 · cases h0
 · cases hv;exact blk_free hg j
theorem row_take {w:World}{B e s n g c:Nat}{xs:List Value} (h:w.ownsRow B e s (.slice (some ⟨g,0,none⟩) n c) n xs) (m:Nat) (hm:m≤n) :
 w.ownsRow B e s (.slice (some ⟨g,0,none⟩) m c) m (xs.take (m*s)):=by
 obtain ⟨hl,⟨h0,_⟩|⟨g',cap,cur,hv,hb,hg,hc,hmx,hs,ht⟩⟩:=h
 · cases h0
 · cases hv
   have:=Nat.mul_le_mul_right s hm;refine ⟨by rw [List.length_take,hl];omega,Or.inr ⟨g,c,cur,rfl,hb,hg,by omega,hmx,hs,?_⟩⟩;rw [← ht,List.take_take]
   congr 1
   omega
def SV (w:World) (v:Value) (n s:Nat) (xs:List Value):Prop :=
 xs.length=n*s∧∃ oa c,v=.slice oa n c∧n≤c∧c≤maxLen∧(oa=none→n=0∧c=0)∧∀ a,oa=some a→∀ (j:Nat) (u:Value),xs[j]?=some u→w.cell? (a.add j)=some u
theorem SV.keep {w w':World}{v:Value}{n s:Nat}{xs:List Value} (h:SV w v n s xs) (hb:Below w.heap.size w w'):SV w' v n s xs:=by
 obtain ⟨hl,oa,c,rfl,h1,h2,h3,h4⟩:=h;refine ⟨hl,oa,c,rfl,h1,h2,h3,fun a ha j u hu=>?_⟩;have:=h4 a ha j u hu;rw [hb.cell (cell_lt this)];exact this
theorem SV.form {w:World}{v:Value}{n s:Nat}{xs:List Value} (h:SV w v n s xs):∃ oa c,v=.slice oa n c∧n≤c∧c≤maxLen:=by
 obtain ⟨_,oa,c,rfl,h1,h2,_⟩:=h;exact ⟨oa,c,rfl,h1,h2⟩
theorem SV.some {w:World}{v:Value}{n s:Nat}{xs:List Value} (h:SV w v n s xs) (hn:0 < n) :
 ∃ a c,v=.slice (some a) n c∧n≤c∧c≤maxLen∧∀ (j:Nat) (u:Value),xs[j]?=some u→w.cell? (a.add j)=some u:=by
 obtain ⟨hl,oa,c,rfl,h1,h2,h3,h4⟩:=h
 cases oa with
 | none=>have:=(h3 rfl).1;omega
 | some a=>exact ⟨a,c,rfl,h1,h2,h4 a rfl⟩
theorem own_sv {w:World}{B e s n:Nat}{v:Value}{xs:List Value} (h:w.ownsRow B e s v n xs):SV w v n s xs:=by
 obtain ⟨hl,⟨rfl,h0⟩|⟨g,cap,cur,rfl,hb,hg,hc,hm,hs,ht⟩⟩:=h
 · exact ⟨hl,none,0,by rw [h0],by omega,by unfold maxLen;omega,fun _=>⟨h0,rfl⟩,fun a ha=>by cases ha⟩
 · refine ⟨hl,_,cap,rfl,hc,hm,(fun q=>by cases q),fun a ha j u hu=>?_⟩
   cases ha
   obtain ⟨hj,hju⟩:=List.getElem?_eq_some_iff.mp hu;rw [add0,blk_cell hg];have h1:(cur.toList.take (n*s))[j]?=xs[j]?:=by rw [ht]
   rw [List.getElem?_take,if_pos (by omega),hu] at h1;simpa using h1
theorem sv_cells {w:World}{g:Nat}{cs:Array Value}{t:TypeId}{f:Nat × Nat} (h:w.heap[g]?=some (.cells cs t f)) (n s:Nat) (hc:cs.size=n*s) (hm:n≤maxLen):SV w (.slice (some ⟨g,0,none⟩) n n) n s cs.toList:=by
 refine ⟨by simpa using hc,_,n,rfl,Nat.le_refl _,hm,(fun q=>by cases q),fun a ha j u hu=>?_⟩
 cases ha
 rw [add0,blk_cell h];simpa using hu
section
variable {P:Program}
theorem run_append_sv (w:World) (B t ty e:Nat) (z:Value) (s bytes:Nat) (ht:P.underlying t=some (.slice e)) (hinf:(P.info? e).map (fun i=>(i.zero,i.size,i.bytes))=some (some z,s,bytes)) (hzs:z.cells.size=s) (hsz:0 < s)
 (v vs:Value) (n m:Nat) (xs news:List Value) (ho:w.ownsRow B e s v n xs) (hs:SV w vs m s news) (h1:∀ u∈news,u.oneCell'=true) (h63:n+m≤maxLen) (hby:(n+m)*bytes≤140737488355328) (hB:B≤w.heap.size) :
 ∃ v' w',(Builtin.append_ #[t,t] ty #[v,vs]).run P w=.ok v' w'∧w'.ownsRow B e s v' (n+m) (xs++news)∧w.grownBy w' v.ownBlock∧(v'.ownBlock=v.ownBlock∨v'.ownBlock=some w.heap.size):=by
 obtain ⟨i0,hi,hz0,hz1,hz2⟩:=info_parts hinf;obtain ⟨hl,oa,c,rfl,g1,g2,g3,g4⟩:=hs
 cases oa with
 | none =>
   obtain ⟨rfl,rfl⟩:=g3 rfl;have hn:news=[]:=List.eq_nil_of_length_eq_zero (by omega);subst hn;have:=run_append_owned_none (P:=P) (w:=w) B t ty e i0 s ht hi v n xs ho;exact ⟨v,w,this,by simpa using ho,World.grownBy.refl _ _,Or.inl rfl⟩
 | some ad =>
   obtain ⟨v',w',hr,h5,h6,_,h8⟩:=run_append_own_at (P:=P) w B t ty e i0 z s bytes ht hi hz0 hz1 hz2 hzs hsz v n xs ho ad m c news hl (g4 ad rfl) h1 h63 hby hB;exact ⟨v',w',hr,h5,h6,h8⟩
theorem wpList_append_sv {w:World}{ops:Array Oper}{rest:List Oper}{o:Oper}{a:Act}{Q:Exit→Act→World→Prop} (hgd:o.guard=none) (x y:Operand) (t:TypeId)
 (ho:o.op=.call { callee:=.builtin .append,args:=#[x,y],argTypes:=#[t,t] })
 (B e:Nat) (z:Value) (s bytes:Nat) (ht:P.underlying t=some (.slice e)) (hinf:(P.info? e).map (fun i=>(i.zero,i.size,i.bytes))=some (some z,s,bytes)) (hzs:z.cells.size=s) (hsz:0 < s)
 (v vs:Value) (n m:Nat) (xs news:List Value) (ev:a.eval x=v) (evs:a.eval y=vs) (hv:w.ownsRow B e s v n xs) (hs:SV w vs m s news) (h1:∀ u∈news,u.oneCell'=true) (h63:n+m≤maxLen) (hby:(n+m)*bytes≤140737488355328) (hB:B≤w.heap.size)
 (h:∀ v' w',w'.ownsRow B e s v' (n+m) (xs++news)→w.grownBy w' v.ownBlock→(v'.ownBlock=v.ownBlock∨v'.ownBlock=some w.heap.size)→wpList P ops Q rest (a.put o.dst v') w'):wpList P ops Q (o::rest) a w:=by
 refine wpList_plain hgd fun K hK=>?_
 obtain ⟨v',w',hr,h2,h3,h4⟩:=run_append_sv (P:=P) w B t o.type e z s bytes ht hinf hzs hsz v vs n m xs news hv hs h1 h63 hby hB;unfold Oper.wp execOp;simp only [ho,resolve,invoke,builtin,Sem.run_bind,Sem.run_pure,Result.andThen_ok,List.map_toArray,List.map_cons,List.map_nil,ev,evs,hr];exact hK _ _ (h v' w' h2 h3 h4)
theorem row_bl {w w' wz:World}{B e s n:Nat}{v:Value}{xs:List Value} (h:w.ownsRow B e s v n xs) (hg:w.grownBy w' v.ownBlock) {C:Nat} (hb:Below C wz w) (hC:C≤B) (hs:C≤w.heap.size):Below C wz w' :=
 hb.grown hg hs (fun k hk=>by have:=(row_lt h k hk).1;omega)
end
section
variable {H:Type}{enc:TypeId × Value→H}{P:Program}
theorem good_lt {w:World}{p:MemPlace} (h:Good w p):p.block < w.heap.size:=by
 cases p with
 | cell b off =>
   rcases Nat.lt_or_ge b w.heap.size with h'|h'
   · exact h'
   · simp_all [Good,World.cell?]
 | map b =>
   rcases Nat.lt_or_ge b w.heap.size with h'|h'
   · exact h'
   · simp_all [Good]
theorem all_stays {T:TypeId→Prop} (K:Kids P T) (hz:∀ t e,T t→P.underlying t=some (.slice e)→0 < P.cellsOf e) {W w':World} (hb:Below W.heap.size W w') :
 ∀ {ts:List TypeId}{vs:List Value}{ds:List (DataW H)}{ps:List MemPlace},(∀ t∈ts,T t)→DataW.TrodAll enc P W 0 (fun _=>true) true ts vs ds ps→DataW.TrodAll enc P w' 0 (fun b=>decide (b < W.heap.size)) true ts vs ds ps
 | [],[],[],_,_,h=>h
 | _::_,_::_,_::_,_,hT,⟨p,q,⟨n,h1⟩,h2,e⟩=>by
   have hg:=DataW.trod_good K (fun h=>by cases h) n _ _ _ (hT _ (List.mem_cons.2 (Or.inl rfl))) h1;refine ⟨p,q,⟨n,DataW.trod_stays K (fun {t e}=>hz t e) (fun h=>by cases h) (hT _ (List.mem_cons.2 (Or.inl rfl))) h1 (fun x hx=>hb.same (good_lt (hg x hx))) (fun x hx=>decide_eq_true (good_lt (hg x hx)))⟩,all_stays K hz hb (fun t ht=>hT t (List.mem_cons.2 (Or.inr ht))) h2,e⟩
end
structure Apd (w w':World) (B e s:Nat) (v v':Value) (n m:Nat) (xs news:List Value):Prop where
 row:w'.ownsRow B e s v' (n+m) (xs++news)
 old:w'.ownsRow B e s v n xs
 grow:w.grownBy w' v.ownBlock
 blk:v'.ownBlock=v.ownBlock∨(∀ q,v'.ownBlock=some q→w.heap.size≤q)
theorem grown_any {w w':World} (h:w.grownBy w' none) (r:Option Nat):w.grownBy w' r:=⟨h.os,h.tape,h.output,h.size,fun k hk _=>h.block k hk (by simp)⟩
section
variable {P:Program}
theorem run_append_sv2 (w:World) (B t ty e:Nat) (z:Value) (s bytes:Nat) (ht:P.underlying t=some (.slice e)) (hinf:(P.info? e).map (fun i=>(i.zero,i.size,i.bytes))=some (some z,s,bytes)) (hzs:z.cells.size=s) (hsz:0 < s)
 (v vs:Value) (n m:Nat) (xs news:List Value) (ho:w.ownsRow B e s v n xs) (hs:SV w vs m s news) (h1:∀ u∈news,u.oneCell'=true) (h63:n+m≤maxLen) (hby:(n+m)*bytes≤140737488355328) (hB:B≤w.heap.size) :
 ∃ v' w',(Builtin.append_ #[t,t] ty #[v,vs]).run P w=.ok v' w'∧Apd w w' B e s v v' n m xs news:=by
 obtain ⟨i0,hi,hz0,hz1,hz2⟩:=info_parts hinf;obtain ⟨hl,oa,c,rfl,g1,g2,g3,g4⟩:=hs
 cases oa with
 | none =>
   obtain ⟨rfl,rfl⟩:=g3 rfl;have hn:news=[]:=List.eq_nil_of_length_eq_zero (by omega);subst hn;have:=run_append_owned_none (P:=P) (w:=w) B t ty e i0 s ht hi v n xs ho;exact ⟨v,w,this,by simpa using ho,ho,World.grownBy.refl _ _,Or.inl rfl⟩
 | some ad =>
   have ho0:=ho;obtain ⟨hlx,⟨rfl,h0⟩|⟨g,cap,cur,rfl,hb,hg,hc,hm,hsz',ht'⟩⟩:=ho
   · subst h0
     have hx:xs=[]:=List.eq_nil_of_length_eq_zero (by omega);subst hx;obtain ⟨v',w',hr,r1,r2,_⟩:=run_append_own (P:=P) w w.heap.size t ty e i0 z s bytes ht hi hz0 hz1 hz2 hzs hsz (.slice none 0 0) 0 [] (World.ownsRow_nil w _ _ _) ad m c news hl (g4 ad rfl) h1 h63 hby (Nat.le_refl _);exact ⟨v',w',hr,row_mono r1 hB,World.ownsRow_nil _ _ _ _,r2,Or.inr fun q hq=>(row_lt r1 q hq).1⟩
   · by_cases hroom:n+m≤cap
     · obtain ⟨w',hr,r1,r2⟩:=run_append_fits (P:=P) w B t ty e i0 s ht hi hz1 g n cap xs ho0 ad m c news hl (g4 ad rfl) h1 hroom
       refine ⟨_,w',hr,r1,?_,r2,Or.inl rfl⟩;have:=row_take r1 n (by omega)
       rwa [List.take_append_of_le_length (by omega),List.take_of_length_le (by omega)] at this
     · have hsv:=own_sv ho0
       obtain ⟨_,oa,c',e',_,_,_,q4⟩:=hsv
       cases e'
       obtain ⟨v',w',hr,r1,r2⟩:=run_append_arg_grows (P:=P) w t ty e i0 z s bytes ht hi hz0 hz1 hz2 hzs hsz ⟨g,0,none⟩ n cap xs hlx (q4 _ rfl) ad m c news hl (g4 ad rfl) (by omega) h63 hby;exact ⟨v',w',hr,row_mono r1 hB,row_keep ho0 (fun k hk=>r2.block k (row_lt ho0 k hk).2 (by simp)),grown_any r2 _,Or.inr fun q hq=>(row_lt r1 q hq).1⟩
theorem wpList_append_sv2 {w:World}{ops:Array Oper}{rest:List Oper}{o:Oper}{a:Act}{Q:Exit→Act→World→Prop} (hgd:o.guard=none) (x y:Operand) (t:TypeId)
 (ho:o.op=.call { callee:=.builtin .append,args:=#[x,y],argTypes:=#[t,t] })
 (B e:Nat) (z:Value) (s bytes:Nat) (ht:P.underlying t=some (.slice e)) (hinf:(P.info? e).map (fun i=>(i.zero,i.size,i.bytes))=some (some z,s,bytes)) (hzs:z.cells.size=s) (hsz:0 < s)
 (v vs:Value) (n m:Nat) (xs news:List Value) (ev:a.eval x=v) (evs:a.eval y=vs) (hv:w.ownsRow B e s v n xs) (hs:SV w vs m s news) (h1:∀ u∈news,u.oneCell'=true) (h63:n+m≤maxLen) (hby:(n+m)*bytes≤140737488355328) (hB:B≤w.heap.size)
 (h:∀ v' w',Apd w w' B e s v v' n m xs news→wpList P ops Q rest (a.put o.dst v') w'):wpList P ops Q (o::rest) a w:=by
 refine wpList_plain hgd fun K hK=>?_
 obtain ⟨v',w',hr,h2⟩:=run_append_sv2 (P:=P) w B t o.type e z s bytes ht hinf hzs hsz v vs n m xs news hv hs h1 h63 hby hB;unfold Oper.wp execOp;simp only [ho,resolve,invoke,builtin,Sem.run_bind,Sem.run_pure,Result.andThen_ok,List.map_toArray,List.map_cons,List.map_nil,ev,evs,hr];exact hK _ _ (h v' w' h2)
end
theorem bulk_pos {H:Type}:∀ d:DataW H,1≤Rows.uptoBulk d
 | .lit l=>by cases l <;> simp [Rows.uptoBulk]
 | .nil=>by simp [Rows.uptoBulk]
 | .ptr _=>by simp [Rows.uptoBulk]
 | .slice _ _=>by simp [Rows.uptoBulk]
 | .agg _=>by simp [Rows.uptoBulk]
 | .iface _ _=>by simp [Rows.uptoBulk]
 | .map _=>by simp [Rows.uptoBulk]
 | .held _=>by simp [Rows.uptoBulk]
theorem bulk_mem {H:Type}{d:DataW H}:∀ {l:List (DataW H)},d∈l→Rows.uptoBulk d≤Rows.uptoBulkAll l
 | [],h=>by cases h
 | x::r,h=>by
   rw [Rows.uptoBulkAll]
   rcases List.mem_cons.mp h with e|e
   · subst e;omega
   · have:=bulk_mem e;omega
theorem bulk_len {H:Type}:∀ l:List (DataW H),l.length≤Rows.uptoBulkAll l
 | []=>by simp
 | x::r=>by
   rw [Rows.uptoBulkAll,List.length_cons];have:=bulk_pos x;have:=bulk_len r;omega
theorem bulk_slice {H:Type} (e s:List (DataW H)):e.length≤Rows.uptoBulk (.slice e s)∧∀ d∈e,Rows.uptoBulk d≤Rows.uptoBulk (.slice e s):=by
 rw [Rows.uptoBulk];have:=bulk_len e;exact ⟨by omega,fun d hd=>by have:=bulk_mem hd;omega⟩
theorem bulk_str {H:Type} (s:ByteArray):s.size≤Rows.uptoBulk (.lit (.string s.data.toList):DataW H):=by
 rw [Rows.uptoBulk];have:s.data.toList.length=s.size:=by rw [Array.length_toList];rfl
 omega
section
variable {H:Type}{enc:TypeId × Value→H}{P:Program}{W:World}{fuel:Nat}{cs:List Value}{x:DataW H × List MemPlace}
theorem slice_of {t e:TypeId} (ht:P.underlying t=some (.slice e)) (h:DataW.trod enc P W 0 (fun _=>true) true fuel t cs=some x) :
 ∃ oa len c,cs=[.slice oa len c]∧len≤c∧c≤maxLen∧(oa=none→len=0∧c=0)∧len≤Rows.uptoBulk x.1 ∧
   ∀ a,oa=some a→∀ i,i < len→∃ cs' n d pl,W.cells? 0 (a.add (i*P.cellsOf e)) (P.cellsOf e)=some cs'∧DataW.trod enc P W 0 (fun _=>true) true n e cs'=some (d,pl)∧Rows.uptoBulk d≤Rows.uptoBulk x.1:=by
 rcases Go.Deep.open_slice ht h with ⟨rfl,rfl⟩|⟨a,len,cap,m,n,D,Pl,rfl,_,hl,hm,hmm,rfl,hx⟩
 · exact ⟨none,0,0,rfl,by omega,by unfold maxLen;omega,fun _=>⟨rfl,rfl⟩,Nat.zero_le _,fun a ha=>by cases ha⟩
 · have hb:=bulk_slice ((List.range len).map D) ((List.range (m - len)).map fun j=>D (len+j))
   simp only [if_true] at hmm;refine ⟨some a,len,cap,rfl,hl,hm,(fun q=>by cases q),?_,fun a' ha i hi=>?_⟩
   · have:=hb.1
     rwa [List.length_map,List.length_range] at this
   · cases ha
     obtain ⟨cs',h1,h2⟩:=hx i (by omega);exact ⟨cs',n,D i,Pl i,h1,h2,hb.2 _ (List.mem_map.mpr ⟨i,List.mem_range.mpr hi,rfl⟩)⟩
theorem slice1_of {t e:TypeId} (ht:P.underlying t=some (.slice e)) (hc:P.cellsOf e=1) (h:DataW.trod enc P W 0 (fun _=>true) true fuel t cs=some x) (Q:Value→Prop)
 (hQ:∀ n v d pl,DataW.trod enc P W 0 (fun _=>true) true n e [v]=some (d,pl)→Rows.uptoBulk d≤Rows.uptoBulk x.1→Q v) :
 ∃ v xs,cs=[v]∧SV W v xs.length 1 xs∧xs.length≤Rows.uptoBulk x.1∧∀ y∈xs,Q y:=by
 obtain ⟨oa,len,c,rfl,h1,h2,h3,h4,h5⟩:=slice_of ht h
 cases oa with
 | none =>
   obtain ⟨rfl,rfl⟩:=h3 rfl;exact ⟨_,[],rfl,⟨rfl,none,0,rfl,by simp,by unfold maxLen;omega,fun _=>⟨rfl,rfl⟩,fun a ha=>by cases ha⟩,Nat.zero_le _,fun y hy=>by cases hy⟩
 | some a =>
   rw [hc] at h5
   have each:∀ i,i < len→∃ v,W.cell? (a.add i)=some v∧Q v:=fun i hi=>by
    obtain ⟨cs',n,d,pl,q1,q2,q3⟩:=h5 a rfl i hi;rw [Nat.mul_one] at q1;obtain ⟨_,hlen,_⟩:=World.cells?_some q1
    match cs',hlen with
    | [v],_=>exact ⟨v,by have:=(World.cells?_some q1).2.2 0 (by omega);simpa [Addr.add] using this,hQ n v d pl q2 q3⟩
   obtain ⟨f,hf⟩:=Go.Deep.choose_lt each;have hl:((List.range len).map f).length=len:=by simp
   refine ⟨_,(List.range len).map f,rfl,⟨by simp,some a,c,by rw [hl],by omega,h2,(fun q=>by cases q),fun a' ha j u hu=>?_⟩,by omega,fun y hy=>?_⟩
   · cases ha
     rw [List.getElem?_map] at hu
     cases hj:(List.range len)[j]? with
     | none=>rw [hj] at hu;cases hu
     | some i =>
       rw [hj] at hu;obtain ⟨hjl,e⟩:=List.getElem?_eq_some_iff.mp hj;rw [List.length_range] at hjl;simp only [List.getElem_range] at e;subst e
       cases hu
       exact (hf j hjl).1
   · obtain ⟨i,hi,rfl⟩:=List.mem_map.mp hy
     exact (hf i (List.mem_range.mp hi)).2
theorem ints_of {t e:TypeId} (ht:P.underlying t=some (.slice e)) (he:P.underlying e=some (.int .i64)) (hc:P.cellsOf e=1) (h:DataW.trod enc P W 0 (fun _=>true) true fuel t cs=some x) :
 ∃ (v:Value) (l:List Int),cs=[v]∧SV W v l.length 1 (l.map (Value.int .i64 ·))∧l.length≤Rows.uptoBulk x.1∧∀ n∈l,-9223372036854775808≤n∧n≤9223372036854775807:=by
 obtain ⟨v,xs,rfl,h1,h2,h3⟩:=slice1_of ht hc h (fun v=>∃ n:Int,v=.int .i64 n∧-9223372036854775808≤n∧n≤9223372036854775807) (fun n v d pl q1 _=>by
  obtain ⟨s,e1,_,hw⟩:=DataW.trod_int he q1;simp only [List.cons.injEq,and_true] at e1
  exact ⟨s,e1,bounds_i64 hw⟩)
 obtain ⟨l,hl1,hl2⟩:∃ l:List Int,xs=l.map (Value.int .i64 ·)∧∀ s∈l,-9223372036854775808≤s∧s≤9223372036854775807:=by
  clear h1 h2
  induction xs with
  | nil=>exact ⟨[],rfl,fun s hs=>by cases hs⟩
  | cons y r ih =>
    obtain ⟨s,rfl,hs⟩:=h3 y (List.mem_cons_self ..);obtain ⟨l,rfl,hl⟩:=ih (fun z hz=>h3 z (List.mem_cons_of_mem _ hz));exact ⟨s::l,rfl,fun z hz=>(List.mem_cons.mp hz).elim (fun e=>e ▸ hs) (hl z)⟩
 subst hl1;rw [List.length_map] at h1 h2;exact ⟨v,l,rfl,h1,h2,hl2⟩
end
end Go.Proofs.YthnhobplgmojeaaGreatDoor.mm
namespace Go.Proofs.YthnhobplgmojeaaGreatDoor.rt
open Go.RowKit Go.Joins mm
def IS (w:World) (v:Value) (l:List Int):Prop:=SV w v l.length 1 (l.map (Value.int .i64 ·))
theorem IS.keep {w w':World}{v:Value}{l:List Int} (h:IS w v l) (hb:Below w.heap.size w w'):IS w' v l:=SV.keep h hb
theorem IS.form {w:World}{v:Value}{l:List Int} (h:IS w v l):∃ oa c,v=.slice oa l.length c∧l.length≤c∧c≤maxLen:=SV.form h
theorem IS.at {w:World}{v:Value}{l:List Int} (h:IS w v l) (hl:0 < l.length):∃ a c,v=.slice (some a) l.length c∧l.length≤c∧c≤maxLen∧∀ (j:Nat) (u:Int),l[j]?=some u→w.cell? (a.add j)=some (.int .i64 u):=by
 obtain ⟨a,c,e,h1,h2,h3⟩:=SV.some h hl;exact ⟨a,c,e,h1,h2,fun j u hu=>h3 j _ (by rw [List.getElem?_map,hu];rfl)⟩
def Oki (n:Int):Prop:=-9223372036854775808≤n∧n≤9223372036854775807
end Go.Proofs.YthnhobplgmojeaaGreatDoor.rt
