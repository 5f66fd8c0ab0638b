/- Texts in one: Lr Lt Lu Lv Or Ou Ov Vs Vt Ps Fo3 -/
import Derived.Test.YtencpkjhdgodgaaGreatDoorPgP
import Derived.Test.YtencpkjhdgodgaaGreatDoorScP
import Derived.Test.YtencpkjhdgodgaaGreatDoorLcP
import Derived.Test.YtencpkjhdgodgaaGreatDoorSfP
import Derived.Test.YtencpkjhdgodgaaGreatDoorSqP
namespace Go.Proofs.YtencpkjhdgodgaaGreatDoor.rd
open Go.RowKit
def RVC (rb:Nat) (s:ByteArray) (o:Int) (w:World) (r:(JT × Nat) ⊕ (Nat × Nat)) (cs:List Value) (w':World):Prop :=
 (∃ v k vr a p,r=.inl (v,k)∧k≤s.size∧a≤s.size∧gap s a=gap s k∧RF w' rb s (a:Nat) 0 o∧VRep w' w.heap.size vr cs p∧p.Nodup∧nrm vr=v∧Bd vr) ∨
 (∃ g k o',r=.inr (g,k)∧k≤s.size∧cdE g≠0∧(o - 1≤o'∧o'≤o+1)∧RF w' rb s (k:Nat) (cdE g) o')
def lcs (sv:Value):List Value:=[.int .i64 4,.bool false,.bool false,.string ⟨#[]⟩,.int .i64 0,.string ⟨#[]⟩,sv,.slice none 0 0]
def LRel (rb m:Nat) (s:ByteArray) (o:Int) (vf:Nat→(JT × Nat) ⊕ (Nat × Nat)) (R:(List JT × Nat) ⊕ (Nat × Nat)) (w:World) (b:Bool) (wr:World):Prop :=
 Mv rb w wr∧((b=true∧∃ (ls:List JT) (a f:Nat),a≤s.size∧gap s a=a∧s.size+1≤a+f∧ls.length≤a∧RF wr rb s (a:Nat) 0 o∧NL m (m+1) wr ls∧(∀ v∈ls,Bd v)∧R=rowF (lstep vf) 93 s f (ls.map nrm) a) ∨
 (b=false∧∃ (ls:List JT) (g:Nat),g≤s.size∧gap s g=g∧ls.length≤s.size∧RF wr rb s (g:Nat) 0 o∧NL m (m+1) wr ls∧(∀ v∈ls,Bd v)∧R=if nxt s g=93 then .inl (ls.map nrm,g) else .inr (1,g)) ∨
 (b=false∧∃ (g k:Nat) (o':Int) (q:Option Addr) (n c:Nat),k≤s.size∧cdE g≠0∧(o - 1≤o'∧o'≤o+1)∧RF wr rb s (k:Nat) (cdE g) o'∧BX wr m (lcs (.slice q n c))∧R=.inr (g,k)))
def LW (rb:Nat) (s:ByteArray) (w u:World) (k c o:Int) (cs:List Value):Prop:=RF u rb s k c o∧BX u w.heap.size zcells∧BX u (w.heap.size+1) cs∧Mv rb w u
def rowMr (s:ByteArray) (rb:Nat) (b:Value) (w:World):Nat:=match b with
 | .bool true=>s.size+1 - atOf w rb
 | _=>0
def listE (R:(List JT × Nat) ⊕ (Nat × Nat)):(JT × Nat) ⊕ (Nat × Nat):=match R with
 | .inl (l,k')=>.inl (JT.mk 4 false zed ⟨#[]⟩ l [],k'+1)
 | .inr e=>.inr e
structure GF (u w4:World) (B n:Nat) (fv:Value) (xs cs:List Value) (g cap:Nat):Prop where
 row:w4.ownsRow B 74 9 (.slice (some ⟨g,0,none⟩) (n+1) cap) (n+1) (xs++cs)
 grow:(u.alloc (.cells cs.toArray 74)).grownBy w4 fv.ownBlock
 lies:fv.ownBlock=some g∨u.heap.size≤g
def ocs (fv:Value):List Value:=[.int .i64 5,.bool false,.bool false,.string ⟨#[]⟩,.int .i64 0,.string ⟨#[]⟩,.slice none 0 0,fv]
def nfl (fl:List (ByteArray × JT)):List (ByteArray × JT):=fl.map fun p=>(p.1,nrm p.2)
def ORel (rb m:Nat) (s:ByteArray) (o:Int) (vf:Nat→(JT × Nat) ⊕ (Nat × Nat)) (R:(List (ByteArray × JT) × Nat) ⊕ (Nat × Nat)) (w:World) (b:Bool) (wr:World):Prop :=
 Mv rb w wr∧((b=true∧∃ (fl:List (ByteArray × JT)) (a f:Nat),a≤s.size∧gap s a=a∧s.size+1≤a+f∧fl.length≤a∧RF wr rb s (a:Nat) 0 o∧NF m (m+1) wr fl∧(∀ p∈fl,Bd p.2∧p.1.size≤4194304∧pt.clean p.1=p.1)∧R=rowF (ostep vf s) 125 s f (nfl fl) a) ∨
 (b=false∧∃ (fl:List (ByteArray × JT)) (g:Nat),g≤s.size∧gap s g=g∧fl.length≤s.size∧RF wr rb s (g:Nat) 0 o∧NF m (m+1) wr fl∧(∀ p∈fl,Bd p.2∧p.1.size≤4194304∧pt.clean p.1=p.1)∧R=if nxt s g=125 then .inl (nfl fl,g) else .inr (1,g)) ∨
 (b=false∧∃ (g k:Nat) (o':Int) (q:Option Addr) (n c:Nat),k≤s.size∧cdE g≠0∧(o - 1≤o'∧o'≤o+1)∧RF wr rb s (k:Nat) (cdE g) o'∧BX wr m (ocs (.slice q n c))∧R=.inr (g,k)))
def OW (rb:Nat) (s:ByteArray) (w u:World) (k c o:Int) (fl:List (ByteArray × JT)):Prop:=RF u rb s k c o∧BX u w.heap.size zcells∧NF (w.heap.size+1) (w.heap.size+1+1) u fl∧Mv rb w u
def hasN (ns:List (ByteArray × JT)) (nm:ByteArray):Bool:=ns.any (fun p=>decide (p.1=nm))
def chkK (ns:List (ByteArray × JT)) (nm:ByteArray) (k0 c0 a:Int):Int:=if c0=0∧hasN ns nm=true then a else k0
def chkC (ns:List (ByteArray × JT)) (nm:ByteArray) (c0:Int):Int:=if c0=0∧hasN ns nm=true then 8 else c0
def objE (R:(List (ByteArray × JT) × Nat) ⊕ (Nat × Nat)):(JT × Nat) ⊕ (Nat × Nat):=match R with
 | .inl (f,k')=>.inl (JT.mk 5 false zed ⟨#[]⟩ [] (f.mergeSort leN),k'+1)
 | .inr e=>.inr e
def st8f (w:World) (m:Nat) (a0 a1 a2 a3 a4 a5 a6 a7:Value):World :=
 (((((((w.setCell ⟨m,1,none⟩ a0).setCell ⟨m,2,none⟩ a1).setCell ⟨m,3,none⟩ a2).setCell ⟨m,4,none⟩ a3).setCell ⟨m,5,none⟩ a4).setCell ⟨m,6,none⟩ a5).setCell ⟨m,7,none⟩ a6).setCell ⟨m,8,none⟩ a7
def isW (s:ByteArray) (k:Nat) (wd:ByteArray):Prop:=k+wd.size≤s.size∧s.extract k (k+wd.size)=wd
def wN:ByteArray:=⟨#[110,117,108,108]⟩
def wT:ByteArray:=⟨#[116,114,117,101]⟩
def wF:ByteArray:=⟨#[102,97,108,115,101]⟩
def RPP (w:World) (r:JT ⊕ (Nat × Nat)) (e:Ending) (w':World):Prop :=
 ((∃ v cs p,r=.inl v∧e=.returned (.tuple #[.agg cs.toArray,.int .i64 0,.int .i64 0])∧VRep w' w.heap.size v cs p∧p.Nodup) ∨
  (∃ g k,r=.inr (g,k)∧cdE g≠0∧e=.returned (.tuple #[.agg zcells.toArray,.int .i64 (k:Nat),.int .i64 (cdE g)])))∧Below w.heap.size w w'
theorem fok_ris (f:List (ByteArray × JT)) (hl:f.length≤1000000000) (hn:∀ p∈f,p.1.size≤35184372088832) (hr:jn.Ris (f.map fun p=>(pt.clean p.1,p.2))):FOk f:=by
 intro k t d x l cs w u h hb
 have hc:cnt f=f.map fun p=>(pt.clean p.1,p.2):=jn.puts_ris _ hr
 cases h with
 | @mk k t d x l f lv fv css gss hlv hf h1 h3 hle hfe =>
   have hv8:∀ c∈gss,V8 c:=by
    intro c hcm
    obtain ⟨j,hj⟩:=List.getElem?_of_mem hcm
    obtain ⟨hlt,_⟩:=List.getElem?_eq_some_iff.1 hj
    exact (hfe j f[j].1 f[j].2 c (List.getElem?_eq_getElem (by omega)) hj).v8
   obtain ⟨D,e1,e2,e3,e4⟩:=fd_of f gss h3 hv8
   have hsv:=hf.keep hb
   rw [← e1,← e2] at hsv
   have hp:(D.map ss.sd).Pairwise (fun a b=>cmpF a b < 0):=by
    have h2:(D.map ss.sd).map Fd.nm=f.map fun p=>pt.clean p.1:=by
     have:(D.map ss.sd).map Fd.nm=(D.map Fd.nm).map said:=by simp [ss.sd,Function.comp_def]
     rw [this,e3,List.map_map]
     exact List.map_congr_left fun p _=>pt.said_clean p.1
    have h4:((D.map ss.sd).map Fd.nm).Pairwise (fun a b=>Lib.compareBytes a.data.toList b.data.toList < 0):=by
     rw [h2]
     unfold jn.Ris at hr
     rw [List.pairwise_map] at hr ⊢
     exact hr
    rw [List.pairwise_map] at h4
    exact h4
   have hz:∀ y∈D,y.nm.size≤35184372088832:=by
    intro y hy
    have:y.nm∈f.map Prod.fst:=by rw [← e3];exact List.mem_map.2 ⟨y,hy,rfl⟩
    obtain ⟨p,hp,e⟩:=List.mem_map.1 this
    rw [← e]
    exact hn p hp
   refine (ss.fieldsOf_ris (.int .i64 k) (.bool t) (.bool d.neg) (.string d.dg) (.int .i64 d.ex) (.string x) lv fv u hsv (by omega) hz hp).mono ?_
   rintro e w' ⟨sv,rfl,ho,hbl⟩
   have hcl:(f.map fun p=>(pt.clean p.1,p.2)).length=f.length:=List.length_map _
   have hsc:(f.map fun p=>(said p.1,p.2))=f.map fun p=>(pt.clean p.1,p.2):=List.map_congr_left fun p _=>by rw [pt.said_clean]
   rw [hc]
   refine ⟨sv,gss,rfl,?_,by rw [hcl];exact h3,?_,hbl⟩
   · rw [hcl,← hsc,← e4,← e1]
     exact owns_base ho (Nat.le_succ _)
   · intro j p c hp2 hc2
     rw [List.getElem?_map] at hp2
     cases hq:f[j]? with
     | none=>rw [hq] at hp2;simp at hp2
     | some q =>
       rw [hq] at hp2
       simp only [Option.map_some,Option.some.injEq] at hp2
       subst hp2
       exact hfe j q.1 q.2 c hq hc2
end Go.Proofs.YtencpkjhdgodgaaGreatDoor.rd
