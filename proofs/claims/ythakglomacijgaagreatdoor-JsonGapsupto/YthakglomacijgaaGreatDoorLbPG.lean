/- Texts in one: Lb -/
import Derived.Scope
import Derived.ScopeJumps
import Derived.Below
import Derived.Deep.Draws
namespace Go.Proofs.YthakglomacijgaaGreatDoor
open Go Go.RowKit
def Jumps (J:Nat→Act→World→Prop) (Q:Exit→Act→World→Prop):Exit→Act→World→Prop
 | .goto l,a,w=>J l a w
 | e,a,w=>Q e a w
theorem Jumps.ret (J:Nat→Act→World→Prop) (Q:Exit→Act→World→Prop) (a:Act) (w:World):Jumps J Q .ret a w=Q .ret a w:=rfl
theorem wp_scope_labels {P:Program}{a:Act}{w:World}{Q:Exit→Act→World→Prop}{c:Code} (J:Nat→Nat→Act→World→Prop)
 (first:c.wp P (Jumps (fun l a' w'=>∃ n,J n l a' w') Q) a w)
 (pass:∀ n l a w,J n l a w→∃ rest,findLabel c l=some rest∧rest.wp P (Jumps (fun l' a' w'=>∃ n',n' < n∧J n' l' a' w') Q) a w):(Code.scope c).wp P Q a w:=by
 intro b k cs
 have key:∀ n l a w,J n l a w→∃ rest,findLabel c l=some rest∧∃ e a' w',Q e a' w'∧Arrives P (lone (b.at a (.code rest::.inScope c::k)) cs w) b k cs e a' w':=by
  intro n
  induction n using Nat.strongRecOn with
  | _ n ih =>
    intro l a w hJ
    obtain ⟨rest,hf,hp⟩:=pass n l a w hJ
    refine ⟨rest,hf,?_⟩
    obtain ⟨e,a₁,w₁,hq,harr⟩:=hp b (.inScope c::k) cs
    cases e with
    | normal=>exact ⟨.normal,a₁,w₁,hq,Steps.trans harr (.one step_inScope)⟩
    | exit id=>exact ⟨.exit id,a₁,w₁,hq,fun k' hk=>harr k' (by simp [exitTo,hk])⟩
    | goto l' =>
      obtain ⟨n',hlt,hJ'⟩:=hq
      obtain ⟨rest',hf',e₂,a₂,w₂,hq₂,harr₂⟩:=ih n' hlt l' a₁ w₁ hJ'
      have hg:gotoIn l' (.inScope c::k)=some (.code rest'::.inScope c::k):=by simp [gotoIn,hf']
      exact ⟨e₂,a₂,w₂,hq₂,.of_steps (harr _ hg) harr₂⟩
    | ret=>exact ⟨_,a₁,w₁,hq,harr⟩
    | panic ch=>exact ⟨_,a₁,w₁,hq,harr⟩
    | outgrown=>exact ⟨_,a₁,w₁,hq,harr⟩
 obtain ⟨e,a₁,w₁,hq,harr⟩:=first b (.inScope c::k) cs
 cases e with
 | normal=>exact ⟨.normal,a₁,w₁,hq,.head step_scope (Steps.trans harr (.one step_inScope))⟩
 | exit id=>exact ⟨.exit id,a₁,w₁,hq,fun k' hk=>.head step_scope (harr k' (by simp [exitTo,hk]))⟩
 | goto l' =>
   obtain ⟨n',hJ'⟩:=hq
   obtain ⟨rest',hf',e₂,a₂,w₂,hq₂,harr₂⟩:=key n' l' a₁ w₁ hJ'
   have hg:gotoIn l' (.inScope c::k)=some (.code rest'::.inScope c::k):=by simp [gotoIn,hf']
   exact ⟨e₂,a₂,w₂,hq₂,.of_steps (.head step_scope (harr _ hg)) harr₂⟩
 | ret=>exact ⟨_,a₁,w₁,hq,.of_steps (.one step_scope) harr⟩
 | panic ch=>exact ⟨_,a₁,w₁,hq,.of_steps (.one step_scope) harr⟩
 | outgrown=>exact ⟨_,a₁,w₁,hq,.of_steps (.one step_scope) harr⟩
structure Upd (b:Nat) (w w':World):Prop where
 os:w'.os=w.os
 tape:w'.tape=w.tape
 output:w'.output=w.output
 size:w'.heap.size=w.heap.size
 block:∀ k,k≠b→w'.heap[k]?=w.heap[k]?
theorem Upd.trans {b:Nat}{u v w:World} (h:Upd b u v) (k:Upd b v w):Upd b u w :=
 ⟨k.os.trans h.os,k.tape.trans h.tape,k.output.trans h.output,k.size.trans h.size,fun i hi=>(k.block i hi).trans (h.block i hi)⟩
theorem Upd.drewN (b:Nat) (w:World) (n:Nat):Upd b w (w.drewN n):=⟨rfl,rfl,rfl,rfl,fun _ _=>rfl⟩
theorem Upd.setCell (b o:Nat) (w:World) (v:Value):Upd b w (w.setCell ⟨b,o,none⟩ v) :=
 ⟨rfl,rfl,rfl,by simp [World.setCell],fun k hk=>Below.heap_setCell _ _ _ _ (by simpa using hk)⟩
theorem Upd.below {b:Nat}{w w':World} (h:Upd b w w') {B:Nat} (hB:B≤b):Below B w w' :=
 ⟨h.os,h.tape,h.output,Nat.le_of_eq h.size.symm,fun k hk=>h.block k (by omega)⟩
theorem hide {p:Prop} (h:p):Hid p:=h
theorem uh {p:Prop} (h:Hid p):p:=h
theorem blk_cell {w:World}{b:Nat}{cs:Array Value}{t:TypeId}{f:Nat × Nat} (h:w.heap[b]?=some (.cells cs t f)) (o:Nat):w.cell? ⟨b,o,none⟩=cs[o]?:=by
 simp [World.cell?,h]
theorem blk_free {w:World}{b:Nat}{cs:Array Value}{t:TypeId} (h:w.heap[b]?=some (.cells cs t (0,0))) (o:Nat):w.frozen? ⟨b,o,none⟩=false:=by
 simp [World.frozen?,h]
theorem blk_set {w:World}{b:Nat}{cs:Array Value}{t:TypeId}{f:Nat × Nat} (h:w.heap[b]?=some (.cells cs t f)) (o:Nat) (v:Value) :
 (w.setCell ⟨b,o,none⟩ v).heap[b]?=some (.cells (cs.setIfInBounds o v) t f):=by
 simp only [World.setCell,Array.getElem?_modify,h]
 simp
theorem blk_lt {w:World}{b:Nat}{o:Obj} (h:w.heap[b]?=some o):b < w.heap.size:=by
 rcases Nat.lt_or_ge b w.heap.size with h'|h'
 · exact h'
 · rw [Array.getElem?_eq_none h'] at h;cases h
end Go.Proofs.YthakglomacijgaaGreatDoor
