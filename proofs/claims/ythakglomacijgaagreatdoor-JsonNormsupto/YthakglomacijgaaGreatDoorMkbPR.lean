/- Texts in one: Mkb Mkc0 Mkc -/
import Derived.Test.YthakglomacijgaaGreatDoorSfPR
import Derived.Test.YthakglomacijgaaGreatDoorIePR
namespace Go.Proofs.YthakglomacijgaaGreatDoor.rd
open Go.RowKit
open ss (GF)
structure MQ (T:Nat) (hd:List Value) (w:World) (v:JT) (ls fs:Value) (LS FS:List Value) (u:World) (cs:List Value) (p:List Nat) (ls' fs':Value) (LS' FS':List Value):Prop where
 vr:VRep u w.heap.size v cs p
 nd:p.Nodup
 ln:LN T hd u ls' fs' LS' FS'
 ex:EX (T::(own ls++own fs)) w u
 li:∀ b∈own ls',b∈own ls∨w.heap.size≤b
 fi:∀ b∈own fs',b∈own fs∨w.heap.size≤b
 mi:∀ s∈LS'++FS',s∈LS++FS∨∀ b∈own s,w.heap.size≤b
 ap:∀ b∈p,b ∉ own ls'∧b ∉ own fs'
 cn:LS'.length+FS'.length≤LS.length+FS.length+cntV v
structure LP (T m0:Nat) (hd:List Value) (W:World) (ls0 fs0:Value) (LS0 FS0:List Value) (out:List Value) (wr:World) (L:List JT) (F:List (ByteArray × JT)) (sv fv cur:Value) (c:Nat)
 (css gss:List (List Value)) (ps qs:List (List Nat)) (ls fs:Value) (LS FS:List Value):Prop where
 px:PX (m0+3) wr L F sv fv css gss ps qs
 ln:LN T hd wr ls fs LS FS
 ap:∀ b∈bks sv fv ps qs,b ∉ own ls∧b ∉ own fs
 mq:∀ s∈LS++FS,∀ b∈own s,b ∉ own cur
 bx:BX wr (m0+2) out
 ex:EX ((m0+2)::T::(own ls0++own fs0)) W wr
 li:∀ b∈own ls,b∈own ls0∨m0+3≤b
 fi:∀ b∈own fs,b∈own fs0∨m0+3≤b
 mi:∀ s∈LS++FS,s∈LS0++FS0∨∀ b∈own s,m0+3≤b
 cn:LS.length+FS.length≤c
 hT:T < m0
 hW:W.heap.size=m0+3
 l0:∀ b∈own ls0,T < b∧b < m0
 f0:∀ b∈own fs0,T < b∧b < m0
 s0:∀ s∈LS0++FS0,∀ b∈own s,T < b∧b < m0
section
variable {T m0:Nat}{hd:List Value}{W:World}{ls0 fs0:Value}{LS0 FS0 out:List Value}{wr u w4 w5:World}{L:List JT}{F:List (ByteArray × JT)}{sv fv cur:Value}{c:Nat}{css gss:List (List Value)}{ps qs:List (List Nat)}{ls fs:Value}{LS FS:List Value}
theorem LP.size (h:LP T m0 hd W ls0 fs0 LS0 FS0 out wr L F sv fv cur c css gss ps qs ls fs LS FS):m0+3≤wr.heap.size:=by rw [← h.hW];exact h.ex.size
theorem LP.more (h:LP T m0 hd W ls0 fs0 LS0 FS0 out wr L F sv fv cur c css gss ps qs ls fs LS FS) {c':Nat} (hc:c≤c'):LP T m0 hd W ls0 fs0 LS0 FS0 out wr L F sv fv cur c' css gss ps qs ls fs LS FS :=
 ⟨h.px,h.ln,h.ap,h.mq,h.bx,h.ex,h.li,h.fi,h.mi,Nat.le_trans h.cn hc,h.hT,h.hW,h.l0,h.f0,h.s0⟩
theorem LP.box (h:LP T m0 hd W ls0 fs0 LS0 FS0 out wr L F sv fv cur c css gss ps qs ls fs LS FS) {b:Nat} (h1:m0≤b) (h2:b < m0+3):b≠T∧b ∉ own ls∧b ∉ own fs∧b ∉ bks sv fv ps qs∧∀ s∈LS++FS,b ∉ own s:=by
 have:=h.hT;refine ⟨by omega,fun q=>?_,fun q=>?_,fun q=>?_,fun s hs q=>?_⟩
 · rcases h.li b q with e|e
   · have:=(h.l0 b e).2;omega
   · omega
 · rcases h.fi b q with e|e
   · have:=(h.f0 b e).2;omega
   · omega
 · have:=(h.px.all b q).1;omega
 · rcases h.mi s hs with e|e
   · have:=(h.s0 s e b q).2;omega
   · have:=e b q;omega
theorem LP.boxed (h:LP T m0 hd W ls0 fs0 LS0 FS0 out wr L F sv fv cur c css gss ps qs ls fs LS FS) {b:Nat} (h1:m0≤b) (h2:b < m0+3) (k:EX [b] wr u):PX (m0+3) u L F sv fv css gss ps qs∧LN T hd u ls fs LS FS:=by
 obtain ⟨q1,q2,q3,q4,q5⟩:=h.box h1 h2;have one:∀ x,x≠b→x ∉ [b]:=fun x hx q=>hx (by simpa using q)
 exact ⟨h.px.keep k fun x hx=>one x fun e=>q4 (e ▸ hx),h.ln.keep k (one T fun e=>q1 e.symm) (fun x hx=>one x fun e=>q2 (e ▸ hx)) (fun x hx=>one x fun e=>q3 (e ▸ hx)) (fun s hs x hx=>one x fun e=>q5 s hs (e ▸ hx))⟩
theorem LP.outs (h:LP T m0 hd W ls0 fs0 LS0 FS0 out wr L F sv fv cur c css gss ps qs ls fs LS FS) {out':List Value} (k:EX [m0+2] wr u) (hb:BX u (m0+2) out'):LP T m0 hd W ls0 fs0 LS0 FS0 out' u L F sv fv cur c css gss ps qs ls fs LS FS:=by
 obtain ⟨q1,q2⟩:=h.boxed (by omega) (by omega) k;exact ⟨q1,q2,h.ap,h.mq,hb,h.ex.trans k (fun y hy=>.inl (by simp at hy;simp [hy])),h.li,h.fi,h.mi,h.cn,h.hT,h.hW,h.l0,h.f0,h.s0⟩
theorem LP.may (h:LP T m0 hd W ls0 fs0 LS0 FS0 out wr L F sv fv cur c css gss ps qs ls fs LS FS):∀ y∈T::(own ls++own fs),y∈(m0+2)::T::(own ls0++own fs0)∨W.heap.size≤y:=by
 intro y hy;rw [h.hW];simp only [List.mem_cons,List.mem_append] at hy ⊢
 rcases hy with e|e|e
 · exact .inl (.inr (.inl e))
 · exact (h.li y e).imp (fun q=>.inr (.inr (.inl q))) id
 · exact (h.fi y e).imp (fun q=>.inr (.inr (.inr q))) id
theorem LP.child (h:LP T m0 hd W ls0 fs0 LS0 FS0 out wr L F sv fv cur c css gss ps qs ls fs LS FS) (hc:∀ b∈own cur,b < wr.heap.size) {v:JT}{cs:List Value}{p:List Nat}{ls' fs':Value}{LS' FS':List Value}
 (q:MQ T hd wr v ls fs LS FS u cs p ls' fs' LS' FS'):LP T m0 hd W ls0 fs0 LS0 FS0 out u L F sv fv cur (c+cntV v) css gss ps qs ls' fs' LS' FS'∧(∀ b∈p,b ∉ bks sv fv ps qs)∧VRep u (m0+3) v cs p:=by
 have hz:=h.size;have hall:=h.px.all;have hT:=h.hT
 have hX:∀ b∈bks sv fv ps qs,b ∉ T::(own ls++own fs):=fun b hb q=>by
  have:=(hall b hb).1;simp only [List.mem_cons,List.mem_append] at q
  rcases q with e|e|e
  · omega
  · exact (h.ap b hb).1 e
  · exact (h.ap b hb).2 e
 obtain ⟨b1,b2,b3,_⟩:=h.box (b:=m0+2) (by omega) (by omega);refine ⟨⟨h.px.keep q.ex hX,q.ln,fun b hb=>⟨fun e=>?_,fun e=>?_⟩,fun s hs b hb e=>?_,q.ex.bx (fun e=>?_) h.bx,h.ex.trans q.ex h.may,fun b hb=>?_,fun b hb=>?_,fun s hs=>?_,by have:=q.cn;have:=h.cn;omega,hT,h.hW,h.l0,h.f0,h.s0⟩,fun b hb e=>?_,q.vr.base hz⟩
 · rcases q.li b e with r|r
   · exact (h.ap b hb).1 r
   · have:=(hall b hb).2;omega
 · rcases q.fi b e with r|r
   · exact (h.ap b hb).2 r
   · have:=(hall b hb).2;omega
 · rcases q.mi s hs with r|r
   · exact h.mq s r b hb e
   · have:=r b hb;have:=hc b e;omega
 · simp only [List.mem_cons,List.mem_append] at e
   rcases e with e|e|e
   · exact b1 e
   · exact b2 e
   · exact b3 e
 · rcases q.li b hb with r|r
   · exact h.li b r
   · exact .inr (by omega)
 · rcases q.fi b hb with r|r
   · exact h.fi b r
   · exact .inr (by omega)
 · rcases q.mi s hs with r|r
   · exact h.mi s r
   · exact .inr fun b hb=>by have:=r b hb;omega
 · have:=(q.vr.ge b hb).1
   have:=(hall b e).2;omega
theorem LP.grown (h:LP T m0 hd W ls0 fs0 LS0 FS0 out u L F sv fv cur c css gss ps qs ls fs LS FS) (hcu:∀ b∈own cur,b∈bks sv fv ps qs) (k:EX (own cur) u w4) {g:Nat} (lies:cur.ownBlock=some g∨u.heap.size≤g) :
 LN T hd w4 ls fs LS FS∧(g ∉ own ls∧g ∉ own fs)∧(∀ s∈LS++FS,g ∉ own s)∧BX w4 (m0+2) out∧EX ((m0+2)::T::(own ls0++own fs0)) W w4:=by
 have hz:=h.size;have hT:=h.hT;have hge:∀ b∈own cur,m0+3≤b:=fun b hb=>(h.px.all b (hcu b hb)).1
 refine ⟨h.ln.keep k (fun q=>by have:=hge _ q;omega) (fun b hb q=>(h.ap b (hcu b q)).1 hb) (fun b hb q=>(h.ap b (hcu b q)).2 hb) (fun s hs b hb q=>h.mq s hs b hb q),?_,fun s hs q=>?_,k.bx (fun q=>by have:=hge _ q;omega) h.bx,h.ex.trans k (fun y hy=>.inr (by rw [h.hW];exact hge y hy))⟩
 · rcases lies with e|e
   · exact h.ap g (hcu g (own_mem.2 e))
   · exact ⟨fun q=>by have:=(h.ln.lge g q).2;omega,fun q=>by have:=(h.ln.fge g q).2;omega⟩
 · rcases lies with e|e
   · exact h.mq s hs g q (own_mem.2 e)
   · have:=(h.ln.mb s hs g q).2.1;omega
theorem LP.addl (h:LP T m0 hd W ls0 fs0 LS0 FS0 out u L F sv fv sv c css gss ps qs ls fs LS FS) {v:JT}{cs:List Value}{p:List Nat}{g cap:Nat} (hr:VRep u (m0+3) v cs p) (hp:p.Nodup) (hd':∀ b∈p,b ∉ bks sv fv ps qs) (hap:∀ b∈p,b ∉ own ls∧b ∉ own fs)
 (hg:GR u w4 (m0+3) L.length sv css.flatten cs g cap) :
 LP T m0 hd W ls0 fs0 LS0 FS0 out w4 (L++[v]) F (.slice (some ⟨g,0,none⟩) (L.length+1) cap) fv (.slice (some ⟨g,0,none⟩) (L.length+1) cap) c (css++[cs]) gss (ps++[p]) qs ls fs LS FS:=by
 obtain ⟨k,_⟩:=h.px.growl hg.grow;obtain ⟨a1,a2,a3,a4,a5⟩:=h.grown (fun b hb=>by simp [bks,hb]) k hg.lies;refine ⟨h.px.addl hr hp hd' hg,a1,fun b hb=>?_,fun s hs b hb q=>?_,a4,a5,h.li,h.fi,h.mi,h.cn,h.hT,h.hW,h.l0,h.f0,h.s0⟩
 · simp only [bks,own_sl,List.mem_append,List.mem_singleton,List.flatten_append,List.flatten_cons,List.flatten_nil,List.append_nil] at hb
   rcases hb with ((hb|hb)|hb|hb)|hb
   · subst hb;exact a2
   · exact h.ap b (by simp [bks,hb])
   · exact h.ap b (by simp only [bks,List.mem_append];exact .inl (.inr hb))
   · exact hap b hb
   · exact h.ap b (by simp only [bks,List.mem_append];exact .inr hb)
 · rw [own_sl] at q
   simp at q;subst q;exact a3 s hs hb
theorem LP.addf (h:LP T m0 hd W ls0 fs0 LS0 FS0 out u L F sv fv fv c css gss ps qs ls fs LS FS) {nm:ByteArray}{v:JT}{cs:List Value}{p:List Nat}{g cap:Nat} (hr:VRep u (m0+3) v cs p) (hp:p.Nodup) (hd':∀ b∈p,b ∉ bks sv fv ps qs) (hap:∀ b∈p,b ∉ own ls∧b ∉ own fs)
 (hg:GF u w4 (m0+3) F.length fv (fcs F gss) (.string nm::cs) g cap) :
 LP T m0 hd W ls0 fs0 LS0 FS0 out w4 L (F++[(nm,v)]) sv (.slice (some ⟨g,0,none⟩) (F.length+1) cap) (.slice (some ⟨g,0,none⟩) (F.length+1) cap) c css (gss++[cs]) ps (qs++[p]) ls fs LS FS:=by
 obtain ⟨k,_⟩:=h.px.growf hg.grow;obtain ⟨a1,a2,a3,a4,a5⟩:=h.grown (fun b hb=>by simp [bks,hb]) k hg.lies;refine ⟨h.px.addf hr hp hd' hg,a1,fun b hb=>?_,fun s hs b hb q=>?_,a4,a5,h.li,h.fi,h.mi,h.cn,h.hT,h.hW,h.l0,h.f0,h.s0⟩
 · simp only [bks,own_sl,List.mem_append,List.mem_singleton,List.flatten_append,List.flatten_cons,List.flatten_nil,List.append_nil] at hb
   rcases hb with ((hb|hb)|hb)|hb|hb
   · exact h.ap b (by simp [bks,hb])
   · subst hb;exact a2
   · exact h.ap b (by simp only [bks,List.mem_append];exact .inl (.inr hb))
   · exact h.ap b (by simp only [bks,List.mem_append];exact .inr hb)
   · exact hap b hb
 · rw [own_sl] at q
   simp at q;subst q;exact a3 s hs hb
theorem LP.markl (h:LP T m0 hd W ls0 fs0 LS0 FS0 out u L F sv fv sv c css gss ps qs ls fs LS FS) {g cap:Nat} (row:w4.ownsRow (m0+3) 27 8 (.slice (some ⟨g,0,none⟩) (L.length+2) cap) (L.length+2) (css.flatten++(kv 77++kv 78)))
 (grow:(u.alloc (.cells (kv 77++kv 78).toArray 27)).grownBy w4 sv.ownBlock) (lies:sv.ownBlock=some g∨u.heap.size≤g) :
 LP T m0 hd W ls0 fs0 LS0 FS0 out w4 L F (.slice (some ⟨g,0,none⟩) L.length cap) fv (.slice (some ⟨g,0,none⟩) L.length cap) c css gss ps qs ls fs LS FS∧MkL w4 (.slice (some ⟨g,0,none⟩) (L.length+2) cap):=by
 obtain ⟨k0,k1,k⟩:=h.px.markl row grow lies;obtain ⟨a1,a2,a3,a4,a5⟩:=h.grown (fun b hb=>by simp [bks,hb]) k lies;refine ⟨⟨k0,a1,fun b hb=>?_,fun s hs b hb q=>?_,a4,a5,h.li,h.fi,h.mi,h.cn,h.hT,h.hW,h.l0,h.f0,h.s0⟩,k1⟩
 · simp only [bks,own_sl,List.mem_append,List.mem_singleton] at hb
   rcases hb with ((hb|hb)|hb)|hb
   · subst hb;exact a2
   · exact h.ap b (by simp [bks,hb])
   · exact h.ap b (by simp only [bks,List.mem_append];exact .inl (.inr hb))
   · exact h.ap b (by simp only [bks,List.mem_append];exact .inr hb)
 · rw [own_sl] at q
   simp at q;subst q;exact a3 s hs hb
theorem LP.markf (h:LP T m0 hd W ls0 fs0 LS0 FS0 out u L F sv fv fv c css gss ps qs ls fs LS FS) {g cap:Nat} (row:w4.ownsRow (m0+3) 62 9 (.slice (some ⟨g,0,none⟩) (F.length+2) cap) (F.length+2) (fcs F gss++(kf ⟨#[35]⟩++kf ⟨#[35,35]⟩)))
 (grow:(u.alloc (.cells (kf ⟨#[35]⟩++kf ⟨#[35,35]⟩).toArray 62)).grownBy w4 fv.ownBlock) (lies:fv.ownBlock=some g∨u.heap.size≤g) :
 LP T m0 hd W ls0 fs0 LS0 FS0 out w4 L F sv (.slice (some ⟨g,0,none⟩) F.length cap) (.slice (some ⟨g,0,none⟩) F.length cap) c css gss ps qs ls fs LS FS∧MkF w4 (.slice (some ⟨g,0,none⟩) (F.length+2) cap):=by
 obtain ⟨k0,k1,k⟩:=h.px.markf row grow lies;obtain ⟨a1,a2,a3,a4,a5⟩:=h.grown (fun b hb=>by simp [bks,hb]) k lies;refine ⟨⟨k0,a1,fun b hb=>?_,fun s hs b hb q=>?_,a4,a5,h.li,h.fi,h.mi,h.cn,h.hT,h.hW,h.l0,h.f0,h.s0⟩,k1⟩
 · simp only [bks,own_sl,List.mem_append,List.mem_singleton] at hb
   rcases hb with ((hb|hb)|hb)|hb
   · exact h.ap b (by simp [bks,hb])
   · subst hb;exact a2
   · exact h.ap b (by simp only [bks,List.mem_append];exact .inl (.inr hb))
   · exact h.ap b (by simp only [bks,List.mem_append];exact .inr hb)
 · rw [own_sl] at q
   simp at q;subst q;exact a3 s hs hb
theorem LP.notel (h:LP T m0 hd W ls0 fs0 LS0 FS0 out u L F sv fv cur c css gss ps qs ls fs LS FS) {s:Value}{g cap:Nat} (hm:MkL u s) (hs:∀ b∈own s,b∈bks sv fv ps qs)
 (row:w4.ownsRow (T+1) 24 1 (.slice (some ⟨g,0,none⟩) (LS.length+1) cap) (LS.length+1) (LS++[s])) (grow:(u.alloc (.cells #[s] 24)).grownBy w4 ls.ownBlock) (lies:ls.ownBlock=some g∨u.heap.size≤g) :
 LP T m0 hd W ls0 fs0 LS0 FS0 out (w4.setCell ⟨T,16,none⟩ (.slice (some ⟨g,0,none⟩) (LS.length+1) cap)) L F sv fv (.slice none 0 0) (c+1) css gss ps qs (.slice (some ⟨g,0,none⟩) (LS.length+1) cap) fs (LS++[s]) FS:=by
 have hT:=h.hT;have hz:=h.size;have hall:=h.px.all;obtain ⟨k1,k⟩:=h.ln.addl hm (fun b hb=>⟨by have:=(hall b (hs b hb)).1;omega,(hall b (hs b hb)).2,h.ap b (hs b hb)⟩) row grow lies;obtain ⟨b1,b2,b3,_⟩:=h.box (b:=m0+2) (by omega) (by omega);have hX:∀ b,b≠T→b ∉ own ls→b ∉ T::own ls:=fun b h1 h2 q=>(List.mem_cons.1 q).elim h1 h2
 refine ⟨h.px.keep k fun b hb=>hX b (by have:=(hall b hb).1;omega) (h.ap b hb).1,k1,fun b hb=>⟨fun q=>?_,(h.ap b hb).2⟩,fun s hs b hb q=>by simp [own,Value.ownBlock] at q,k.bx (hX _ b1 b2) h.bx,h.ex.trans k (fun y hy=>h.may y ?_),fun b hb=>?_,h.fi,fun y hy=>?_,?_,hT,h.hW,h.l0,h.f0,h.s0⟩
 · rw [own_sl] at q
   simp at q;subst q
   rcases lies with e|e
   · exact (h.ap _ hb).1 (own_mem.2 e)
   · have:=(hall _ hb).2;omega
 · simp only [List.mem_cons,List.mem_append] at hy ⊢
   rcases hy with e|e
   · exact .inl e
   · exact .inr (.inl e)
 · rw [own_sl] at hb
   simp at hb;subst hb
   rcases lies with e|e
   · exact h.li _ (own_mem.2 e)
   · exact .inr (by omega)
 · simp only [List.mem_append,List.mem_singleton] at hy
   rcases hy with (e|e)|e
   · exact h.mi y (by simp [e])
   · subst e;exact .inr fun b hb=>(hall b (hs b hb)).1
   · exact h.mi y (by simp [e])
 · have:=h.cn
   rw [List.length_append,List.length_singleton];omega
theorem LP.notef (h:LP T m0 hd W ls0 fs0 LS0 FS0 out u L F sv fv cur c css gss ps qs ls fs LS FS) {s:Value}{g cap:Nat} (hm:MkF u s) (hs:∀ b∈own s,b∈bks sv fv ps qs)
 (row:w4.ownsRow (T+1) 25 1 (.slice (some ⟨g,0,none⟩) (FS.length+1) cap) (FS.length+1) (FS++[s])) (grow:(u.alloc (.cells #[s] 25)).grownBy w4 fs.ownBlock) (lies:fs.ownBlock=some g∨u.heap.size≤g) :
 LP T m0 hd W ls0 fs0 LS0 FS0 out (w4.setCell ⟨T,17,none⟩ (.slice (some ⟨g,0,none⟩) (FS.length+1) cap)) L F sv fv (.slice none 0 0) (c+1) css gss ps qs ls (.slice (some ⟨g,0,none⟩) (FS.length+1) cap) LS (FS++[s]):=by
 have hT:=h.hT;have hz:=h.size;have hall:=h.px.all;obtain ⟨k1,k⟩:=h.ln.addf hm (fun b hb=>⟨by have:=(hall b (hs b hb)).1;omega,(hall b (hs b hb)).2,h.ap b (hs b hb)⟩) row grow lies;obtain ⟨b1,b2,b3,_⟩:=h.box (b:=m0+2) (by omega) (by omega);have hX:∀ b,b≠T→b ∉ own fs→b ∉ T::own fs:=fun b h1 h2 q=>(List.mem_cons.1 q).elim h1 h2
 refine ⟨h.px.keep k fun b hb=>hX b (by have:=(hall b hb).1;omega) (h.ap b hb).2,k1,fun b hb=>⟨(h.ap b hb).1,fun q=>?_⟩,fun s hs b hb q=>by simp [own,Value.ownBlock] at q,k.bx (hX _ b1 b3) h.bx,h.ex.trans k (fun y hy=>h.may y ?_),h.li,fun b hb=>?_,fun y hy=>?_,?_,hT,h.hW,h.l0,h.f0,h.s0⟩
 · rw [own_sl] at q
   simp at q;subst q
   rcases lies with e|e
   · exact (h.ap _ hb).2 (own_mem.2 e)
   · have:=(hall _ hb).2;omega
 · simp only [List.mem_cons,List.mem_append] at hy ⊢
   rcases hy with e|e
   · exact .inl e
   · exact .inr (.inr e)
 · rw [own_sl] at hb
   simp at hb;subst hb
   rcases lies with e|e
   · exact h.fi _ (own_mem.2 e)
   · exact .inr (by omega)
 · simp only [List.mem_append,List.mem_singleton] at hy
   rcases hy with e|e|e
   · exact h.mi y (by simp [e])
   · exact h.mi y (by simp [e])
   · subst e;exact .inr fun b hb=>(hall b (hs b hb)).1
 · have:=h.cn
   rw [List.length_append,List.length_singleton];omega
theorem MQ.of_drew {w:World}{v:JT}{cs:List Value}{p:List Nat}{ls' fs':Value}{LS' FS':List Value} (q:MQ T hd w.drew v ls fs LS FS u cs p ls' fs' LS' FS'):MQ T hd w v ls fs LS FS u cs p ls' fs' LS' FS' :=
 ⟨q.vr,q.nd,q.ln,⟨q.ex.os,q.ex.tape,q.ex.output,q.ex.size,q.ex.block⟩,q.li,q.fi,q.mi,q.ap,q.cn⟩
theorem LN.drew {w:World} (h:LN T hd w ls fs LS FS):LN T hd w.drew ls fs LS FS:=h.keep (EX.drew [] w) (by simp) (fun b _=>by simp) (fun b _=>by simp) (fun s _ b _=>by simp)
theorem LP.start {w:World} (hw:w.heap.size=m0) (h:LN T hd w ls fs LS FS) (hb:Below m0 w W) (hz:W.heap.size=m0+3) (hx:BX W (m0+2) out) :
 LP T m0 hd W ls fs LS FS out W [] [] (.slice none 0 0) (.slice none 0 0) (.slice none 0 0) (LS.length+FS.length) [] [] [] [] ls fs LS FS:=by
 have hT:=h.lt;have k:EX [] w W:=EX.of_below (by rw [hw];exact hb);have n0:own (.slice none 0 0)=[]:=rfl;refine ⟨PX.start W _,h.keep k (by simp) (fun b _=>by simp) (fun b _=>by simp) (fun s _ b _=>by simp),fun b hb=>by simp [bks,n0] at hb,fun s _ b _ q=>by simp [n0] at q,hx,EX.refl _ _,fun b hb=>.inl hb,fun b hb=>.inl hb,fun s hs=>.inl hs,Nat.le_refl _,by omega,hz,fun b hb=>?_,fun b hb=>?_,fun s hs b hb=>?_⟩
 · have:=h.lge b hb;omega
 · have:=h.fge b hb;omega
 · have:=h.mb s hs b hb;omega
theorem LP.belowB (h:LP T m0 hd W ls0 fs0 LS0 FS0 out wr L F sv fv cur c css gss ps qs ls fs LS FS) {B:Nat} (hB:B≤T):Below B W wr:=by
 have:=h.hT;refine h.ex.below (by rw [h.hW];omega) fun x hx=>?_
 simp only [List.mem_cons,List.mem_append] at hx
 rcases hx with e|e|e|e
 · omega
 · omega
 · have:=(h.l0 x e).1;omega
 · have:=(h.f0 x e).1;omega
theorem LP.box01 (h:LP T m0 hd W ls0 fs0 LS0 FS0 out wr L F sv fv cur c css gss ps qs ls fs LS FS) {cs:List Value}{m:Nat} (h1:m0≤m) (h2:m < m0+2) (hx:BX W m cs):BX wr m cs:=by
 have:=h.hT;refine h.ex.bx (fun e=>?_) hx;simp only [List.mem_cons,List.mem_append] at e
 rcases e with e|e|e|e
 · omega
 · omega
 · have:=(h.l0 m e).2;omega
 · have:=(h.f0 m e).2;omega
theorem LP.done (h:LP T m0 hd W ls0 fs0 LS0 FS0 out wr L F sv fv cur c css gss ps qs ls fs LS FS) {w:World} (hw:w.heap.size=m0) (hb:Below m0 w W) (k':EX [m0+1] wr u) (kk:Int) (t:Bool) (d:Dn) (x:ByteArray)
 (hc:c≤LS0.length+FS0.length+cntV (JT.mk kk t d x L F)) :
 MQ T hd w (JT.mk kk t d x L F) ls0 fs0 LS0 FS0 u [.int .i64 kk,.bool t,.bool d.neg,.string d.dg,.int .i64 d.ex,.string x,sv,fv] (bks sv fv ps qs) ls fs LS FS:=by
 obtain ⟨q1,q2⟩:=h.boxed (by omega) (by omega) k';obtain ⟨r1,r2⟩:=q1.rep kk t d x;have e0:EX (T::(own ls0++own fs0)) w W:=(EX.of_below (by rw [hw];exact hb)).mono (fun x hx=>by simp at hx);have e2:EX (T::(own ls0++own fs0)) w u:=(e0.trans h.ex (fun y hy=>(List.mem_cons.1 hy).elim (fun e=>.inr (by omega)) .inl)).trans k' (fun y hy=>.inr (by simp at hy;omega));refine ⟨by rw [hw];exact r1.base (by omega),r2,q2,e2,fun b hb=>(h.li b hb).imp id fun e=>by omega,fun b hb=>(h.fi b hb).imp id fun e=>by omega,fun s hs=>(h.mi s hs).imp id fun e b hb=>by have:=e b hb;omega,h.ap,?_⟩;have:=h.cn;omega
theorem EX.upd {b:Nat}{w w':World} (h:Upd b w w'):EX [b] w w':=⟨h.os,h.tape,h.output,Nat.le_of_eq h.size.symm,fun k _ hk=>h.block k (fun e=>hk (by simp [e]))⟩
theorem LP.stl {a0 a1 a2 a3 a4 a5 a6 a7:Value} (h:LP T m0 hd W ls0 fs0 LS0 FS0 [a0,a1,a2,a3,a4,a5,a6,a7] wr L F sv fv cur c css gss ps qs ls fs LS FS) {m2:Nat} (hm:m0+2=m2) (x:Value) :
 LP T m0 hd W ls0 fs0 LS0 FS0 [a0,a1,a2,a3,a4,a5,x,a7] (wr.setCell ⟨m2,6,none⟩ x) L F sv fv cur c css gss ps qs ls fs LS FS:=by
 subst hm;have:=blk_set h.bx 6 x;exact h.outs (EX.set _ _ _ _) (by simpa [BX] using this)
theorem LP.stf {a0 a1 a2 a3 a4 a5 a6 a7:Value} (h:LP T m0 hd W ls0 fs0 LS0 FS0 [a0,a1,a2,a3,a4,a5,a6,a7] wr L F sv fv cur c css gss ps qs ls fs LS FS) {m2:Nat} (hm:m0+2=m2) (x:Value) :
 LP T m0 hd W ls0 fs0 LS0 FS0 [a0,a1,a2,a3,a4,a5,a6,x] (wr.setCell ⟨m2,7,none⟩ x) L F sv fv cur c css gss ps qs ls fs LS FS:=by
 subst hm;have:=blk_set h.bx 7 x;exact h.outs (EX.set _ _ _ _) (by simpa [BX] using this)
end
end Go.Proofs.YthakglomacijgaaGreatDoor.rd
namespace Go.Proofs.YthakglomacijgaaGreatDoor.rd
open Go.RowKit
open ss (GF step_addf)
theorem ret_rmarked {m:Nat}{w:World}{a0 a1 a2 a3 a4 a5 a6 a7:Value} (h:BX w m [a0,a1,a2,a3,a4,a5,a6,a7]) (tmps:Array Value) (h2:tmps[4]?.getD undef=.pointer (some ⟨m,0,none⟩)) :
 (results Tryz.f34 tmps).run Tryz.prog w=.ok (.agg #[a0,a1,a2,a3,a4,a5,a6,a7]) w:=by
 obtain ⟨q0,q1,q2,q3,q4,q5,q6,q7⟩:=BX.cells h;simp [results,Tryz.results34,h2,go_sem,q0,q1,q2,q3,q4,q5,q6,q7]
structure GA (e s:Nat) (u w4:World) (B n m:Nat) (sv:Value) (xs news:List Value) (g cap:Nat):Prop where
 row:w4.ownsRow B e s (.slice (some ⟨g,0,none⟩) (n+m) cap) (n+m) (xs++news)
 grow:(u.alloc (.cells news.toArray e)).grownBy w4 sv.ownBlock
 lies:sv.ownBlock=some g∨u.heap.size≤g
theorem wpl_app {ops:Array Oper}{rest:List Oper}{op:Oper}{a:Act}{Q:Exit→Act→World→Prop} (t e s bytes:Nat) (z:Value) (und:Tryz.prog.underlying t=some (.slice e)) (inf:(Tryz.prog.info? e).map (fun i=>(i.zero,i.size,i.bytes))=some (some z,s,bytes)) (hz:z.cells.size=s) (h0:0 < s)
 (u W:World) (B n m:Nat) (sv:Value) (xs news:List Value) (S X:Operand) (hgd:op.guard=none)
 (ho:op.op=.call { callee:=.builtin .append,args:=#[S,X],argTypes:=#[t,t] }) (hs:a.eval S=sv) (hx:a.eval X=.slice (some ⟨u.heap.size,0,none⟩) m m)
 (hown:Hid (u.ownsRow B e s sv n xs)) (hl:Hid (news.length=m*s)) (h1:Hid (∀ v∈news,v.oneCell'=true)) (hm:0 < m) (hn:Hid ((n+m)*bytes≤140737488355328∧n+m≤1000000000000)) (hB:Hid (B≤u.heap.size)) (hW:W=u.alloc (.cells news.toArray e))
 (h:∀ g cap w4,Hid (GA e s u w4 B n m sv xs news g cap)→wpList Tryz.prog ops Q rest (a.put op.dst (.slice (some ⟨g,0,none⟩) (n+m) cap)) w4):wpList Tryz.prog ops Q (op::rest) a W:=by
 subst hW;obtain ⟨i0,hi,hz0,hz1,hz2⟩:=info_parts inf;obtain ⟨hN,hM⟩:=uh hn;have hb:=uh hB
 refine wpList_append_lies _ hgd _ _ _ ho B e i0 _ s bytes und hi hz0 hz1 hz2 hz h0 sv n xs hs (mm.row_below (uh hown) ((Below.refl _ _).alloc (Nat.le_refl _) _) (Nat.le_refl _))
  ⟨u.heap.size,0,none⟩ m m news hx (uh hl) (fun j v hv=>?_) (uh h1) hm (by unfold maxLen;omega) hN (by rw [World.size_alloc];omega) (u.heap.size+1) (World.size_alloc _ _) ?_
 · rw [mm.add0,blk_cell (heap_alloc_new u _)]
   simpa using hv
 · intro g cap w4 h5 h6 h7 _
   exact h g cap w4 ⟨h5,h6,h7.imp id (fun e=>by omega)⟩
theorem undLv:Tryz.prog.underlying 33=some (.slice 24):=by kernel_rfl
theorem undLf:Tryz.prog.underlying 34=some (.slice 25):=by kernel_rfl
theorem infoLv:(Tryz.prog.info? 24).map (fun i=>(i.zero,i.size,i.bytes))=some (some (.slice none 0 0),1,24):=by kernel_rfl
theorem infoLf:(Tryz.prog.info? 25).map (fun i=>(i.zero,i.size,i.bytes))=some (some (.slice none 0 0),1,24):=by kernel_rfl
theorem infoFz:(Tryz.prog.info? 62).map (fun i=>(i.zero,i.size,i.bytes))=some (some (.agg #[.string ⟨#[]⟩,.int .i64 0,.bool false,.bool false,.string ⟨#[]⟩,.int .i64 0,.string ⟨#[]⟩,.slice none 0 0,.slice none 0 0]),9,128):=by kernel_rfl
theorem undFz:Tryz.prog.underlying 25=some (.slice 62):=by kernel_rfl
theorem undVe:Tryz.prog.underlying 24=some (.slice (Tryz.prog.elem 24)):=by kernel_rfl
theorem undFe:Tryz.prog.underlying 25=some (.slice (Tryz.prog.elem 25)):=by kernel_rfl
theorem sizeVe (u:World):(sizeOf (Tryz.prog.elem 24)).run Tryz.prog u=.ok 8 u:=by
 have e:Tryz.prog.elem 24=27:=by kernel_rfl
 rw [e];have h:Tryz.t27.size=8:=by kernel_rfl
 simp [sizeOf,go_sem,h]
theorem sizeFe (u:World):(sizeOf (Tryz.prog.elem 25)).run Tryz.prog u=.ok 9 u:=by
 have e:Tryz.prog.elem 25=62:=by kernel_rfl
 rw [e];have h:Tryz.t62.size=9:=by kernel_rfl
 simp [sizeOf,go_sem,h]
theorem sliced0 (g n cap s:Nat):sliced (some ⟨g,0,none⟩) 0 n cap s=.slice (some ⟨g,0,none⟩) n cap:=by
 unfold sliced;simp only [Nat.zero_mul,Option.map_some,mm.add0,Nat.sub_zero]
 split <;> rfl
theorem cutV (g n cap:Nat) (h:n+2≤cap) (u:World):(Instr.slice 24 (.slice (some ⟨g,0,none⟩) (n+2) cap) none (some (.int .i64 (n:Int))) none).run Tryz.prog u=.ok (.slice (some ⟨g,0,none⟩) n cap) u:=by
 rw [run_slice_h (P:=Tryz.prog) (ht:=undVe) (h0:=by omega) (h2:=by omega),sizeVe];show Result.ok (sliced (some ⟨g,0,none⟩) 0 (n:Int).toNat cap 8) u=_;rw [sliced0,Int.toNat_natCast]
theorem cutF (g n cap:Nat) (h:n+2≤cap) (u:World):(Instr.slice 25 (.slice (some ⟨g,0,none⟩) (n+2) cap) none (some (.int .i64 (n:Int))) none).run Tryz.prog u=.ok (.slice (some ⟨g,0,none⟩) n cap) u:=by
 rw [run_slice_h (P:=Tryz.prog) (ht:=undFe) (h0:=by omega) (h2:=by omega),sizeFe];show Result.ok (sliced (some ⟨g,0,none⟩) 0 (n:Int).toNat cap 9) u=_;rw [sliced0,Int.toNat_natCast]
theorem sum_snc {α:Type}{l:List α}{i:Nat}{v:α} (g:α→Nat) (h:l[i]?=some v):((l.take (i+1)).map g).sum=((l.take i).map g).sum+g v:=by
 rw [take_succ' h,List.map_append,List.sum_append_nat];simp
theorem sum_tk {α:Type} (l:List α) (g:α→Nat) (i:Nat):((l.take i).map g).sum≤(l.map g).sum:=by
 conv=>rhs;rw [← List.take_append_drop i l]
 rw [List.map_append,List.sum_append_nat];omega
def LPE (T m0:Nat) (hd:List Value) (W:World) (ls0 fs0:Value) (LS0 FS0:List Value) (out:List Value) (wr:World) (L:List JT) (F:List (ByteArray × JT)) (sv fv cur:Value) (c:Nat):Prop :=
 ∃ css gss ps qs ls fs LS FS,LP T m0 hd W ls0 fs0 LS0 FS0 out wr L F sv fv cur c css gss ps qs ls fs LS FS
def MkP (T:Nat) (hd:List Value) (w:World) (v:JT) (ls fs:Value) (LS FS:List Value) (e:Ending) (u:World):Prop :=
 ∃ cs p ls' fs' LS' FS',e=.returned (.agg cs.toArray)∧MQ T hd w v ls fs LS FS u cs p ls' fs' LS' FS'
theorem GA.ex {e s:Nat}{u w4:World}{B n m:Nat}{sv:Value}{xs news:List Value}{g cap:Nat} (h:GA e s u w4 B n m sv xs news g cap):EX (own sv) u w4 :=
 ((EX.alloc u _).mono (fun x hx=>by simp at hx)).trans (EX.grown h.grow) (fun y hy=>.inl hy)
set_option maxRecDepth 100000 in
set_option maxHeartbeats 25600000 in
theorem rmarked_any (wB:World) (T:Nat) (hd:List Value) (hTB:wB.heap.size≤T) (n:Nat):∀ (v:JT) (cs:List Value) (w:World) (ls0 fs0:Value) (LS0 FS0:List Value),SizeOf.sizeOf v < n→Bd v→VR wB v cs→Below wB.heap.size wB w→LN T hd w ls0 fs0 LS0 FS0 →
 LS0.length+FS0.length+cntV v≤100000000000→Calls Tryz.prog 34 #[.pointer (some ⟨T,0,none⟩),.agg cs.toArray] w (MkP T hd w v ls0 fs0 LS0 FS0):=by
 induction n with
 | zero=>intro v cs w ls0 fs0 LS0 FS0 h;omega
 | succ n IH =>
   intro v cs w ls0 fs0 LS0 FS0 hn hbd h hbw hln hcn
   cases v with
   | mk k t d x l f =>
     obtain ⟨oa,ca,ob,cb,rfl⟩:=VR.parts h;obtain ⟨dn,dg,dx⟩:=d
     cases hbd with
     | mk hk h0 h1 h2 h3 h4 hl hnm hf =>
       have I1:=hide (fun v (hv:v∈l) (cs:List Value) (w:World) (ls fs:Value) (LS FS:List Value)=>IH v cs w ls fs LS FS (by have:=sz_l (k:=k) (t:=t) (d:=⟨dn,dg,dx⟩) (x:=x) (f:=f) hv;omega) (hl v hv));have I2:=hide (fun p (hp:p∈f) (cs:List Value) (w:World) (ls fs:Value) (LS FS:List Value)=>IH p.2 cs w ls fs LS FS (by have:=sz_f (k:=k) (t:=t) (d:=⟨dn,dg,dx⟩) (x:=x) (l:=l) hp;omega) (hf p hp));have HV:=hide h;have HBd:Hid (Bd (.mk k t ⟨dn,dg,dx⟩ x l f)):=Bd.mk hk h0 h1 h2 h3 h4 hl hnm hf;have HCN:=hide hcn;have HLC:Hid (cntV (.mk k t ⟨dn,dg,dx⟩ x l f)=1+x.size+dg.size+l.length+f.length+(l.map cntV).sum+(f.map fun p=>p.1.size+cntV p.2).sum):=cntV_mk _ _ _ _ _ _;have HB0:=hide hbw;have HTB:=hide hTB;have HLN:=hide hln;clear h IH hn hl hf hnm h0 h1 h2 hk hcn hbw;have B3:=hide (box_three w [.int .i64 k,.bool t,.bool dn,.string dg,.int .i64 dx,.string x,.slice oa l.length ca,.slice ob f.length cb] [.int .i64 0,.bool false,.bool false,.string ⟨#[]⟩,.int .i64 0,.string ⟨#[]⟩,.slice none 0 0,.slice none 0 0] [.int .i64 k,.bool t,.bool dn,.string dg,.int .i64 dx,.string x,.slice none 0 0,.slice none 0 0])
       go_enter Tryz.func34,Tryz.ntmps34
       go_upto_region 4 with fail;obtain ⟨q0,q1,q2,q3,q4⟩:=uh B3 _ rfl;generalize ((w.alloc (.cells [.int .i64 k,.bool t,.bool dn,.string dg,.int .i64 dx,.string x,.slice oa l.length ca,.slice ob f.length cb].toArray 27)).alloc (.cells [.int .i64 0,.bool false,.bool false,.string ⟨#[]⟩,.int .i64 0,.string ⟨#[]⟩,.slice none 0 0,.slice none 0 0].toArray 27)).alloc (.cells [.int .i64 k,.bool t,.bool dn,.string dg,.int .i64 dx,.string x,.slice none 0 0,.slice none 0 0].toArray 27)=W at *;obtain ⟨m2,hm2⟩:∃ m,w.heap.size+1+1=m:=⟨_,rfl⟩;rw [hm2];have HM:Hid (w.heap.size+2=m2):=hm2;clear hm2;have HX0:=hide q0;have HX1:=hide q1;have HBW:=hide q3;have HZ:=hide q4;have S0:Hid (LPE T w.heap.size hd W ls0 fs0 LS0 FS0 [.int .i64 k,.bool t,.bool dn,.string dg,.int .i64 dx,.string x,.slice none 0 0,.slice none 0 0] W [] [] (.slice none 0 0) (.slice none 0 0) (.slice none 0 0) (LS0.length+FS0.length)):=⟨_,_,_,_,_,_,_,_,LP.start rfl hln q3 q4 q2⟩;have HL3:=hide h3;have HL4:=hide h4;obtain ⟨p0,p1,p2,p3,p4,p5,p6,p7⟩:=q0.cells;clear q0 q1 q2 q3 q4 B3 hln h3 h4
       go_upto_if 16 with fail
       go_cut [6,7] from 10 (fun _ _ wx=>∃ sv,Hid (LPE T w.heap.size hd W ls0 fs0 LS0 FS0 [.int .i64 k,.bool t,.bool dn,.string dg,.int .i64 dx,.string x,sv,.slice none 0 0] wx l [] sv (.slice none 0 0) (.slice none 0 0) (LS0.length+FS0.length+(l.map cntV).sum+l.length)))
       case first =>
        by_cases hl0:0 < l.length
        · have hli:(0:Int) < (l.length:Int):=by omega
          have hlb:decide ((0:Int) < (l.length:Int))=true:=decide_eq_true hli;go_wp2
          go_loopw [6,7] (fun s iv wr=>∃ (i:Nat) (sv:Value),i≤l.length∧sv=s∧iv=.int .i64 (i:Int)∧Hid (LPE T w.heap.size hd W ls0 fs0 LS0 FS0 [.int .i64 k,.bool t,.bool dn,.string dg,.int .i64 dx,.string x,.slice none 0 0,.slice none 0 0] wr (l.take i) [] sv (.slice none 0 0) sv (LS0.length+FS0.length+(((l.take i).map cntV).sum)))) (fun _ iv _=>l.length - (intOf iv).toNat)
          case atStart=>exact ⟨0,_,by omega,rfl,rfl,by simpa using S0⟩
          case round =>
           obtain ⟨i,sv,hi,rfl,rfl,HN⟩:=hrel;obtain ⟨css,gss,ps,qs,ls,fs,LS,FS,Q⟩:=uh HN;have yA:=Q.box01 (Nat.le_refl _) (by omega) (uh HX0);clear p0 p1 p2 p3 p4 p5 p6 p7;obtain ⟨p0,p1,p2,p3,p4,p5,p6,p7⟩:=yA.cells;have hl3:=uh HL3;have hl4:=uh HL4
           by_cases hc:i < l.length
           · obtain ⟨a,v,a0,a1,a2,a3,a4,a5,a6,a7,rfl,hv,vA,hat⟩:=(uh HV).el i hc
             have hbw:Below wB.heap.size wB wr:=(uh HB0).trans (((uh HBW).mono (uh HB0).size).trans (Q.belowB (uh HTB)));have had:(a.add (i*8)).block < wB.heap.size:=mm.cell_lt (cells8 hat).1;obtain ⟨x0,x1,x2,x3,x4,x5,x6,x7⟩:=cells8 (fun j u hu=>kc hbw (hat j u hu));generalize ha:a.add (i*8)=ad at *;have hsum:=sum_snc cntV hv;have htk:=sum_tk l cntV (i+1);have hcn:=uh HCN;have hlc:=uh HLC;have hQc:=Q.cn;have CN:=hide (uh I1 v (List.mem_of_getElem? hv) [a0,a1,a2,a3,a4,a5,a6,a7] wr ls fs LS FS vA hbw Q.ln (by omega));have HQ:=hide Q;have hln:(l.take i).length=i:=by rw [List.length_take];omega
             have hi1:(i:Int) < (l.length:Int):=by omega
             have HVI:=hide hv;have hcur:Hid (∀ b∈own sv,b < wr.heap.size):=fun b hb=>(Q.px.all b (by simp [bks,hb])).2
             have hz:=hide Q.size;have HSUM:=hide hsum;have hTw:wB.heap.size≤T:=uh HTB;clear Q hat yA hv vA hbw hsum htk hcn hlc hQc had
             go_wp2_with (first
              | (go_at_call 34;refine (uh CN).mono ?_;rintro e u2 ⟨cs,p,ls',fs',LS',FS',rfl,q⟩
                 obtain ⟨b0,b1,b2,b3,b4,b5,b6,b7,rfl⟩:=q.vr.eight;have HC:=hide ((uh HQ).child (uh hcur) q);have HQ2:=hide q;have HO2:=hide ((uh HC).1.px.ol);have H18:=hide q.vr.vr.one;have hBu:Hid (w.heap.size+3≤u2.heap.size):=(uh HC).1.size
                 clear q)
              | (at_builtin
                 refine wpl_app 24 27 8 112 _ undV infoVl rfl (by decide) u2 _ (w.heap.size+3) (l.take i).length 1 sv css.flatten [b0,b1,b2,b3,b4,b5,b6,b7] _ _ (by rfl) (by rfl) (by rfl) (by rfl) HO2 (by rfl) H18 (by decide) (by rw [hln];refine hide ⟨?_,?_⟩ <;> omega) hBu (by rfl) ?_
                 intro g cap w4 HG))
             skip;go_wp2;refine ⟨⟨i+1,_,by omega,rfl,by go_num,?_⟩,by simp [intOf];omega⟩;have hg:GR u2 w4 (w.heap.size+3) (l.take i).length sv css.flatten [b0,b1,b2,b3,b4,b5,b6,b7] g cap:=⟨(uh HG).row,(uh HG).grow,(uh HG).lies⟩;have hfin:=(uh HC).1.addl (uh HC).2.2 (uh HQ2).nd (uh HC).2.1 (uh HQ2).ap hg;rw [← take_succ' (uh HVI),hln] at hfin;exact ⟨_,_,_,_,_,_,_,_,hfin.more (by have:=uh HSUM;omega)⟩
           · obtain rfl:i=l.length:=by omega
             have hno:¬ (l.length:Int) < (l.length:Int):=by omega
             rw [List.take_of_length_le (Nat.le_refl _)] at HN Q;have HQ:=hide Q;have HO2:Hid (wr.ownsRow (w.heap.size+3) 27 8 sv l.length css.flatten):=Q.px.ol;have hBu:Hid (w.heap.size+3≤wr.heap.size):=Q.size;have hcn:=uh HCN;have hlc:=uh HLC;have hQc:=Q.cn;have htk:=sum_tk l cntV l.length;have hcc:Hid (LS0.length+FS0.length+(l.map cntV).sum+1≤LS0.length+FS0.length+(l.map cntV).sum+l.length ):=by refine hide ?_;omega
             have hnn:Hid (LS.length+2≤200000000000):=by refine hide ?_;omega
             clear Q hcn hlc hQc htk;go_upto_region 10 with fail
             go_upto_region 11 with (
              at_builtin
              refine wpl_app 24 27 8 112 _ undV infoVl rfl (by decide) wr _ (w.heap.size+3) l.length 2 sv css.flatten (kv 77++kv 78) _ _ (by rfl) (by rfl) (by rfl) (by rfl) HO2 (by rfl) (by intro u hu;simp only [kv,List.mem_append,List.mem_cons,List.not_mem_nil,or_false] at hu;rcases hu with (rfl|rfl|rfl|rfl|rfl|rfl|rfl|rfl)|rfl|rfl|rfl|rfl|rfl|rfl|rfl|rfl <;> rfl) (by decide) (by refine hide ⟨?_,?_⟩ <;> omega) hBu (by rfl) ?_
              intro g cap w4 HG)
             obtain ⟨QQ,hmk⟩:=(uh HQ).markl (uh HG).row (uh HG).grow (uh HG).lies;have HQ4:=hide QQ;have HMK:=hide hmk;have c16:=QQ.ln.c16;have HO3:=hide QQ.ln.rl;have hBT:Hid (T+1≤w4.heap.size):=QQ.ln.lt;have hTn:Hid (T ∉ own ls):=fun q=>by have:=QQ.ln.lge T q;omega
             have hzT:=hide (QQ.ln.z 16);have hTl:Hid (T < w4.heap.size):=QQ.ln.lt;obtain ⟨gb,gn,gc,hge,hgc,_⟩:=hmk.cells
             have hcap:Hid (l.length+2≤cap):=by
              refine hide ?_;simp only [Value.slice.injEq,Option.some.injEq] at hge;omega
             have hnn2:=uh hnn;clear QQ hge hgc hmk
             go_upto_region 12 with (
              at_builtin
              refine wpl_app 33 24 1 24 _ undLv infoLv rfl (by decide) w4 _ (T+1) LS.length 1 ls LS [.slice (some ⟨g,0,none⟩) (l.length+2) cap] _ _ (by rfl) (by rfl) (by rfl) (by rfl) HO3 (by rfl) (by intro u hu;simp only [List.mem_cons,List.not_mem_nil,or_false] at hu;subst hu;rfl) (by decide) (by refine hide ⟨?_,?_⟩ <;> omega) hBT (by rfl) ?_;intro g2 cap2 w5 HG2;have c5:=(uh HG2).ex.cell (a:=⟨T,16,none⟩) (uh hTn) c16
              have z5:=(uh HG2).ex.frozen (a:=⟨T,16,none⟩) (uh hTl) (uh hTn) (uh hzT))
             have Q6:=(uh HQ4).notel (uh HMK) (fun b hb=>by rw [own_sl] at hb;simp at hb;subst hb;simp [bks,own_sl]) (uh HG2).row (uh HG2).grow (uh HG2).lies;generalize w5.setCell ⟨T,16,none⟩ (.slice (some ⟨g2,0,none⟩) (LS.length+1) cap2)=w6 at *;have yC:=Q6.box01 (Nat.le_refl _) (by omega) (uh HX0);have yO:=Q6.bx;rw [show w.heap.size+2=m2 from uh HM] at yO;clear p0 p1 p2 p3 p4 p5 p6 p7;obtain ⟨p0,p1,p2,p3,p4,p5,p6,p7⟩:=yC.cells;obtain ⟨z0,z1,z2,z3,z4,z5',z6,z7⟩:=yO.cells;obtain ⟨f0,f1,f2,f3,f4,f5,f6,f7⟩:=yO.frees;have hcut:=cutV g l.length cap (uh hcap)
             have hq7:Hid (LPE T w.heap.size hd W ls0 fs0 LS0 FS0 [.int .i64 k,.bool t,.bool dn,.string dg,.int .i64 dx,.string x,.slice (some ⟨g,0,none⟩) l.length cap,.slice none 0 0] (w6.setCell ⟨m2,6,none⟩ (.slice (some ⟨g,0,none⟩) l.length cap)) l [] (.slice (some ⟨g,0,none⟩) l.length cap) (.slice none 0 0) (.slice none 0 0) (LS0.length+FS0.length+(l.map cntV).sum+l.length)) :=
              ⟨_,_,_,_,_,_,_,_,(Q6.stl (uh HM) _).more (by have:=uh hcc;omega)⟩
             clear Q6 yC yO;go_wp2;go_meet;exact ⟨_,hq7⟩
        · have hli:¬ (0:Int) < (l.length:Int):=by omega
          have hlb:decide ((0:Int) < (l.length:Int))=false:=decide_eq_false hli;go_wp2;go_meet;have hle:l=[]:=List.eq_nil_of_length_eq_zero (by omega);refine ⟨.slice none 0 0,?_⟩;obtain ⟨css,gss,ps,qs,ls,fs,LS,FS,Q⟩:=uh S0;subst hle;exact ⟨_,_,_,_,_,_,_,_,Q.more (by simp)⟩
       case rest =>
        obtain ⟨sv,HS⟩:=hcut;clear S0 p0 p1 p2 p3 p4 p5 p6 p7;obtain ⟨css,gss,ps,qs,ls,fs,LS,FS,Q⟩:=uh HS;obtain ⟨oa',ca',esv,_,_⟩:=mm.SV.form (mm.own_sv Q.px.ol);subst esv;have S1:Hid (LPE T w.heap.size hd W ls0 fs0 LS0 FS0 [.int .i64 k,.bool t,.bool dn,.string dg,.int .i64 dx,.string x,.slice oa' l.length ca',.slice none 0 0] wc l [] (.slice oa' l.length ca') (.slice none 0 0) (.slice none 0 0) (LS0.length+FS0.length+(l.map cntV).sum+l.length)):=HS;have yA:=Q.box01 (Nat.le_refl _) (by omega) (uh HX0);obtain ⟨p0,p1,p2,p3,p4,p5,p6,p7⟩:=yA.cells;clear yA
        by_cases hf0:0 < f.length
        · have hfi:(0:Int) < (f.length:Int):=by omega
          clear Q HS;go_wp2
          go_loopw [8,9] (fun s iv wr=>∃ (i:Nat) (fv:Value),i≤f.length∧fv=s∧iv=.int .i64 (i:Int)∧Hid (LPE T w.heap.size hd W ls0 fs0 LS0 FS0 [.int .i64 k,.bool t,.bool dn,.string dg,.int .i64 dx,.string x,(.slice oa' l.length ca'),.slice none 0 0] wr l (f.take i) (.slice oa' l.length ca') fv fv (LS0.length+FS0.length+(l.map cntV).sum+l.length+(((f.take i).map (fun p:ByteArray × JT=>p.1.size+cntV p.2)).sum)))) (fun _ iv _=>f.length - (intOf iv).toNat)
          case atStart=>exact ⟨0,_,by omega,rfl,rfl,by simpa using S1⟩
          case round =>
           obtain ⟨i,fv,hi,rfl,rfl,HN⟩:=hrel;obtain ⟨css,gss,ps,qs,ls,fs,LS,FS,Q⟩:=uh HN;have yA:=Q.box01 (Nat.le_refl _) (by omega) (uh HX0);skip;obtain ⟨p0,p1,p2,p3,p4,p5,p6,p7⟩:=yA.cells;have hl3:=uh HL3;have hl4:=uh HL4
           by_cases hc:i < f.length
           · obtain ⟨a,nm,v,a0,a1,a2,a3,a4,a5,a6,a7,rfl,hv,vA,hat⟩:=(uh HV).fl i hc
             have hbw:Below wB.heap.size wB wr:=(uh HB0).trans (((uh HBW).mono (uh HB0).size).trans (Q.belowB (uh HTB)));have had:(a.add (i*9)).block < wB.heap.size:=mm.cell_lt (cells9 hat).1;obtain ⟨x8,x0,x1,x2,x3,x4,x5,x6,x7⟩:=cells9 (fun j u hu=>kc hbw (hat j u hu));generalize ha:a.add (i*9)=ad at *;have hsum:=sum_snc (fun p:ByteArray × JT=>p.1.size+cntV p.2) hv;have htk:=sum_tk f (fun p:ByteArray × JT=>p.1.size+cntV p.2) (i+1);have hcn:=uh HCN;have hlc:=uh HLC;have hQc:=Q.cn;have CN:=hide (uh I2 _ (List.mem_of_getElem? hv) [a0,a1,a2,a3,a4,a5,a6,a7] wr.drew ls fs LS FS vA hbw.drew Q.ln.drew (by try simp only at hsum htk ⊢;omega));have HQ:=hide Q;have hln:(f.take i).length=i:=by rw [List.length_take];omega
             have hi1:(i:Int) < (f.length:Int):=by omega
             have HVI:=hide hv;have hcur:Hid (∀ b∈own fv,b < wr.heap.size):=fun b hb=>(Q.px.all b (by simp [bks,hb])).2
             have hz:=hide Q.size;have HSUM:=hide hsum;have hTw:wB.heap.size≤T:=uh HTB
             have hx8:ad.block ∉ T::(own ls++own fs):=fun q=>by
              simp only [List.mem_cons,List.mem_append] at q
              rcases q with e|e|e
              · omega
              · have:=(Q.ln.lge _ e).1;omega
              · have:=(Q.ln.fge _ e).1;omega
             have hxm:w.heap.size ∉ T::(own ls++own fs):=fun q=>by
              obtain ⟨r1,r2,r3,_⟩:=Q.box (Nat.le_refl _) (by omega);simp only [List.mem_cons,List.mem_append] at q
              rcases q with e|e|e
              · exact r1 e
              · exact r2 e
              · exact r3 e
             have HXM:=hide hxm;have HX8:=hide hx8;clear hx8 hxm;clear Q hat yA hv vA hbw hsum htk hcn hlc hQc had;have x8w:=x8;have p7w:=p7;go_upto_region 18 with fail
             go_region_law (first
              | (go_simp;go_at_call 34;refine (uh CN).mono ?_;rintro e u2 ⟨cs,p,ls',fs',LS',FS',rfl,q0⟩
                 have q:=q0.of_drew;clear q0;obtain ⟨b0,b1,b2,b3,b4,b5,b6,b7,rfl⟩:=q.vr.eight;have HC:=hide ((uh HQ).child (uh hcur) q);have HQ2:=hide q;have HO2:=hide ((uh HC).1.px.of)
                 have H19:Hid (∀ u∈[.string nm,b0,b1,b2,b3,b4,b5,b6,b7],Value.oneCell' u=true):=by
                  intro u hu
                  rcases List.mem_cons.1 hu with rfl|hu
                  · rfl
                  · exact q.vr.vr.one u hu
                 have x8':=q.ex.cell (a:=ad) (uh HX8) x8w;have p7':=q.ex.cell (a:=⟨w.heap.size,7,none⟩) (uh HXM) p7w;have hBu:Hid (w.heap.size+3≤u2.heap.size):=(uh HC).1.size
                 clear q)
              | (refine step_addf u2 _ (w.heap.size+3) (f.take i).length fv (fcs (f.take i) gss) [.string nm,b0,b1,b2,b3,b4,b5,b6,b7] (.tmp 66) (.tmp 82) (by rfl) (by rfl) (by rfl) (by rfl) HO2 rfl H19 (by rw [hln];show i+1≤1000000000000;omega) hBu (by rfl) ?_
                 intro g cap w4 HG))
             all_goals clear x8w p7w
             all_goals go_wp2
             all_goals refine ⟨⟨i+1,_,by omega,rfl,by go_num,?_⟩,by simp [intOf];omega⟩
             all_goals have hfin:=(uh HC).1.addf (uh HC).2.2 (uh HQ2).nd (uh HC).2.1 (uh HQ2).ap (uh HG)
             all_goals rw [← take_succ' (uh HVI),hln] at hfin
             all_goals exact ⟨_,_,_,_,_,_,_,_,hfin.more (by have:=uh HSUM;simp only at this ⊢;omega)⟩
           · obtain rfl:i=f.length:=by omega
             have hno:¬ (f.length:Int) < (f.length:Int):=by omega
             rw [List.take_of_length_le (Nat.le_refl _)] at HN Q;have HQ:=hide Q;have HO2:Hid (wr.ownsRow (w.heap.size+3) 62 9 fv f.length (fcs f gss)):=Q.px.of;have hBu:Hid (w.heap.size+3≤wr.heap.size):=Q.size;have hcn:=uh HCN;have hlc:=uh HLC;have hQc:=Q.cn;have htk:=sum_tk f (fun p:ByteArray × JT=>p.1.size+cntV p.2) f.length;have hcc:Hid (LS0.length+FS0.length+(l.map cntV).sum+l.length+(f.map (fun p:ByteArray × JT=>p.1.size+cntV p.2)).sum+1≤LS0.length+FS0.length+(l.map cntV).sum+l.length+f.length+(f.map (fun p:ByteArray × JT=>p.1.size+cntV p.2)).sum):=by refine hide ?_;omega
             have hnn:Hid (FS.length+2≤200000000000):=by refine hide ?_;omega
             clear Q hcn hlc hQc htk;go_upto_region 19 with fail
             go_upto_region 20 with (
              at_builtin
              refine wpl_app 25 62 9 128 _ undFz infoFz rfl (by decide) wr _ (w.heap.size+3) f.length 2 fv (fcs f gss) (kf ⟨#[35]⟩++kf ⟨#[35,35]⟩) _ _ (by rfl) (by rfl) (by rfl) (by rfl) HO2 (by rfl) (by intro u hu;simp only [kf,List.mem_append,List.mem_cons,List.not_mem_nil,or_false] at hu;rcases hu with (rfl|rfl|rfl|rfl|rfl|rfl|rfl|rfl|rfl)|rfl|rfl|rfl|rfl|rfl|rfl|rfl|rfl|rfl <;> rfl) (by decide) (by refine hide ⟨?_,?_⟩ <;> omega) hBu (by rfl) ?_
              intro g cap w4 HG)
             obtain ⟨QQ,hmk⟩:=(uh HQ).markf (uh HG).row (uh HG).grow (uh HG).lies;have HQ4:=hide QQ;have HMK:=hide hmk;have c16:=QQ.ln.c17;have HO3:=hide QQ.ln.rf;have hBT:Hid (T+1≤w4.heap.size):=QQ.ln.lt;have hTn:Hid (T ∉ own fs):=fun q=>by have:=QQ.ln.fge T q;omega
             have hzT:=hide (QQ.ln.z 17);have hTl:Hid (T < w4.heap.size):=QQ.ln.lt;obtain ⟨gb,gn,gc,hge,hgc,_⟩:=hmk.cells
             have hcap:Hid (f.length+2≤cap):=by
              refine hide ?_;simp only [Value.slice.injEq,Option.some.injEq] at hge;omega
             have hnn2:=uh hnn;clear QQ hge hgc hmk
             go_upto_region 21 with (
              at_builtin
              refine wpl_app 34 25 1 24 _ undLf infoLf rfl (by decide) w4 _ (T+1) FS.length 1 fs FS [.slice (some ⟨g,0,none⟩) (f.length+2) cap] _ _ (by rfl) (by rfl) (by rfl) (by rfl) HO3 (by rfl) (by intro u hu;simp only [List.mem_cons,List.not_mem_nil,or_false] at hu;subst hu;rfl) (by decide) (by refine hide ⟨?_,?_⟩ <;> omega) hBT (by rfl) ?_;intro g2 cap2 w5 HG2;have c5:=(uh HG2).ex.cell (a:=⟨T,17,none⟩) (uh hTn) c16
              have z5:=(uh HG2).ex.frozen (a:=⟨T,17,none⟩) (uh hTl) (uh hTn) (uh hzT))
             have Q6:=(uh HQ4).notef (uh HMK) (fun b hb=>by rw [own_sl] at hb;simp at hb;subst hb;simp [bks,own_sl]) (uh HG2).row (uh HG2).grow (uh HG2).lies;generalize w5.setCell ⟨T,17,none⟩ (.slice (some ⟨g2,0,none⟩) (FS.length+1) cap2)=w6 at *;have yC:=Q6.box01 (Nat.le_refl _) (by omega) (uh HX0);have yO:=Q6.bx;rw [show w.heap.size+2=m2 from uh HM] at yO;clear p0 p1 p2 p3 p4 p5 p6 p7;obtain ⟨p0,p1,p2,p3,p4,p5,p6,p7⟩:=yC.cells;obtain ⟨z0,z1,z2,z3,z4,z5',z6,z7⟩:=yO.cells;obtain ⟨f0,f1,f2,f3,f4,f5,f6,f7⟩:=yO.frees;have hcut:=cutF g f.length cap (uh hcap)
             have hq7:Hid (LPE T w.heap.size hd W ls0 fs0 LS0 FS0 [.int .i64 k,.bool t,.bool dn,.string dg,.int .i64 dx,.string x,(.slice oa' l.length ca'),.slice (some ⟨g,0,none⟩) f.length cap] (w6.setCell ⟨m2,7,none⟩ (.slice (some ⟨g,0,none⟩) f.length cap)) l f (.slice oa' l.length ca') (.slice (some ⟨g,0,none⟩) f.length cap) (.slice none 0 0) (LS0.length+FS0.length+(l.map cntV).sum+l.length+f.length+(f.map (fun p:ByteArray × JT=>p.1.size+cntV p.2)).sum)) :=
              ⟨_,_,_,_,_,_,_,_,(Q6.stf (uh HM) _).more (by have:=uh hcc;omega)⟩
             clear Q6 yC yO;go_upto_region 22 with fail;obtain ⟨css1,gss1,ps1,qs1,ls1,fs1,LS1,FS1,Q1⟩:=uh hq7;generalize w6.setCell ⟨m2,7,none⟩ (.slice (some ⟨g,0,none⟩) f.length cap)=wx at *;clear z0 z1 z2 z3 z4 z5' z6 z7 f0 f1 f2 f3 f4 f5 f6 f7 p0 p1 p2 p3 p4 p5 p6 p7;have n1:=Q1.bx;rw [show w.heap.size+2=m2 from uh HM] at n1;obtain ⟨z0,z1,z2,z3,z4,z5,z6,z7⟩:=n1.cells;have yB:=Q1.box01 (m:=w.heap.size+1) (by omega) (by omega) (uh HX1);obtain ⟨t0,t1,t2,t3,t4,t5,t6,t7⟩:=yB.cells;obtain ⟨f0,f1,f2,f3,f4,f5,f6,f7⟩:=yB.frees;have hX:=hide (st8_bx yB rfl (.int .i64 k) (.bool t) (.bool dn) (.string dg) (.int .i64 dx) (.string x) (.slice oa' l.length ca') (.slice (some ⟨g,0,none⟩) f.length cap));have HMQ:=hide (Q1.done rfl (uh HBW) (EX.upd (st8_upd wx (w.heap.size+1) (.int .i64 k) (.bool t) (.bool dn) (.string dg) (.int .i64 dx) (.string x) (.slice oa' l.length ca') (.slice (some ⟨g,0,none⟩) f.length cap))) k t ⟨dn,dg,dx⟩ x (by have:=uh HLC;omega));clear n1 yB Q1;go_wp2;have hX':=uh hX;have HMQ':=uh HMQ;simp only [st8] at hX' HMQ';have hfin:MkP T hd w (JT.mk k t ⟨dn,dg,dx⟩ x l f) ls0 fs0 LS0 FS0 (.returned (.agg #[.int .i64 k,.bool t,.bool dn,.string dg,.int .i64 dx,.string x,.slice oa' l.length ca',(.slice (some ⟨g,0,none⟩) f.length cap)])) _:=⟨_,_,_,_,_,_,rfl,HMQ'⟩;clear HMQ';exact bodyPost_ret (ret_rmarked hX' _ rfl) rfl hfin
        · have hfi:¬ (0:Int) < (f.length:Int):=by omega
          have hle:f=[]:=List.eq_nil_of_length_eq_zero (by omega)
          have Q1:LP T w.heap.size hd W ls0 fs0 LS0 FS0 [.int .i64 k,.bool t,.bool dn,.string dg,.int .i64 dx,.string x,.slice oa' l.length ca',.slice none 0 0] wc l f (.slice oa' l.length ca') (.slice none 0 0) (.slice none 0 0) (LS0.length+FS0.length+(l.map cntV).sum+l.length) css gss ps qs ls fs LS FS:=by
           rw [hle];exact Q
          clear Q HS hle;go_upto_region 22 with fail;obtain ⟨wx,hwx⟩:∃ wx,wx=wc:=⟨_,rfl⟩;subst hwx;clear p0 p1 p2 p3 p4 p5 p6 p7;have n1:=Q1.bx;rw [show w.heap.size+2=m2 from uh HM] at n1;obtain ⟨z0,z1,z2,z3,z4,z5,z6,z7⟩:=n1.cells;have yB:=Q1.box01 (m:=w.heap.size+1) (by omega) (by omega) (uh HX1);obtain ⟨t0,t1,t2,t3,t4,t5,t6,t7⟩:=yB.cells;obtain ⟨f0,f1,f2,f3,f4,f5,f6,f7⟩:=yB.frees;have hX:=hide (st8_bx yB rfl (.int .i64 k) (.bool t) (.bool dn) (.string dg) (.int .i64 dx) (.string x) (.slice oa' l.length ca') (.slice none 0 0));have HMQ:=hide (Q1.done rfl (uh HBW) (EX.upd (st8_upd wx (w.heap.size+1) (.int .i64 k) (.bool t) (.bool dn) (.string dg) (.int .i64 dx) (.string x) (.slice oa' l.length ca') (.slice none 0 0))) k t ⟨dn,dg,dx⟩ x (by have:=uh HLC;omega));clear n1 yB Q1;go_wp2;have hX':=uh hX;have HMQ':=uh HMQ;simp only [st8] at hX' HMQ';have hfin:MkP T hd w (JT.mk k t ⟨dn,dg,dx⟩ x l f) ls0 fs0 LS0 FS0 (.returned (.agg #[.int .i64 k,.bool t,.bool dn,.string dg,.int .i64 dx,.string x,.slice oa' l.length ca',(.slice none 0 0)])) _:=⟨_,_,_,_,_,_,rfl,HMQ'⟩;clear HMQ';exact bodyPost_ret (ret_rmarked hX' _ rfl) rfl hfin
end Go.Proofs.YthakglomacijgaaGreatDoor.rd
