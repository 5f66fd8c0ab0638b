/- Texts in one: Ih Ii Ij Ik So AvV AvF Sa Sb Sg -/
import Derived.Test.YthakglomacijgaaGreatDoorIdPG
import Derived.Test.YthakglomacijgaaGreatDoorToPG
import Derived.Deep.RegionLaw
import Derived.Deep.AppendLies
import Derived.Deep.DeepCutAuto
import Derived.Deep.RegionHeld3
import Derived.Test.YthakglomacijgaaGreatDoorNuPG
import Derived.Test.YthakglomacijgaaGreatDoorIaPG
import Derived.Test.YthakglomacijgaaGreatDoorShelfPG
import Derived.BigCall
namespace Go.Proofs.YthakglomacijgaaGreatDoor.rd
open Go.RowKit
theorem BX.frees {w:World}{m:Nat}{cs:List Value} (h:BX w m cs):w.frozen? ⟨m,0,none⟩=false∧w.frozen? ⟨m,1,none⟩=false∧w.frozen? ⟨m,2,none⟩=false∧w.frozen? ⟨m,3,none⟩=false ∧
 w.frozen? ⟨m,4,none⟩=false∧w.frozen? ⟨m,5,none⟩=false∧w.frozen? ⟨m,6,none⟩=false∧w.frozen? ⟨m,7,none⟩=false :=
 ⟨blk_free h 0,blk_free h 1,blk_free h 2,blk_free h 3,blk_free h 4,blk_free h 5,blk_free h 6,blk_free h 7⟩
def st8 (w:World) (m:Nat) (a0 a1 a2 a3 a4 a5 a6 a7:Value):World :=
 (((((((w.setCell ⟨m,0,none⟩ a0).setCell ⟨m,1,none⟩ a1).setCell ⟨m,2,none⟩ a2).setCell ⟨m,3,none⟩ a3).setCell ⟨m,4,none⟩ a4).setCell ⟨m,5,none⟩ a5).setCell ⟨m,6,none⟩ a6).setCell ⟨m,7,none⟩ a7
theorem st8_upd (w:World) (m:Nat) (a0 a1 a2 a3 a4 a5 a6 a7:Value):Upd m w (st8 w m a0 a1 a2 a3 a4 a5 a6 a7) :=
 (((((((Upd.setCell m 0 _ _).trans (Upd.setCell m 1 _ _)).trans (Upd.setCell m 2 _ _)).trans (Upd.setCell m 3 _ _)).trans (Upd.setCell m 4 _ _)).trans (Upd.setCell m 5 _ _)).trans (Upd.setCell m 6 _ _)).trans (Upd.setCell m 7 _ _)
theorem st8_bx {w:World}{m:Nat}{cs:List Value} (h:BX w m cs) (hl:cs.length=8) (a0 a1 a2 a3 a4 a5 a6 a7:Value):BX (st8 w m a0 a1 a2 a3 a4 a5 a6 a7) m [a0,a1,a2,a3,a4,a5,a6,a7]:=by
 match cs,hl with
 | [b0,b1,b2,b3,b4,b5,b6,b7],_ =>
   have h8:=blk_set (blk_set (blk_set (blk_set (blk_set (blk_set (blk_set (blk_set h 0 a0) 1 a1) 2 a2) 3 a3) 4 a4) 5 a5) 6 a6) 7 a7
   unfold BX st8
   simpa using h8
theorem vrep_flat (w:World) (B:Nat) (k:Int) (t:Bool) (d:Dn) (x:ByteArray):VRep w B (JT.mk k t d x [] []) [.int .i64 k,.bool t,.bool d.neg,.string d.dg,.int .i64 d.ex,.string x,.slice none 0 0,.slice none 0 0] [] :=
 VRep.mk (css:=[]) (gss:=[]) (ps:=[]) (qs:=[]) (World.ownsRow_nil _ _ _ _) (World.ownsRow_nil _ _ _ _) rfl rfl rfl rfl (fun i v c p h=>by simp at h) (fun i n v c p h=>by simp at h)
def NP (w:World) (v:JT) (e:Ending) (w':World):Prop:=∃ cs' p,e=.returned (.agg cs'.toArray)∧VRep w' w.heap.size v cs' p∧p.Nodup∧Below w.heap.size w w'
def zcells:List Value:=[.int .i64 0,.bool false,.bool false,.string ⟨#[]⟩,.int .i64 0,.string ⟨#[]⟩,.slice none 0 0,.slice none 0 0]
theorem undV:Tryz.prog.underlying 24=some (.slice 27):=by kernel_rfl
theorem infoVl:(Tryz.prog.info? 27).map (fun i=>(i.zero,i.size,i.bytes))=some (some (.agg #[.int .i64 0,.bool false,.bool false,.string ⟨#[]⟩,.int .i64 0,.string ⟨#[]⟩,.slice none 0 0,.slice none 0 0]),8,112):=by kernel_rfl
structure GR (u w4:World) (B n:Nat) (sv:Value) (xs cs:List Value) (g cap:Nat):Prop where
 row:w4.ownsRow B 27 8 (.slice (some ⟨g,0,none⟩) (n+1) cap) (n+1) (xs++cs)
 grow:(u.alloc (.cells cs.toArray 27)).grownBy w4 sv.ownBlock
 lies:sv.ownBlock=some g∨u.heap.size≤g
structure NL (m B:Nat) (wr:World) (ls:List JT):Prop where
 ex:∃ (sv:Value) (css:List (List Value)) (ps:List (List Nat)),BX wr m [.int .i64 4,.bool false,.bool false,.string ⟨#[]⟩,.int .i64 0,.string ⟨#[]⟩,sv,.slice none 0 0] ∧
  wr.ownsRow B 27 8 sv ls.length css.flatten∧css.length=ls.length∧ps.length=ls.length ∧
  (∀ (i:Nat) (v:JT) (c:List Value) (p:List Nat),ls[i]?=some v→css[i]?=some c→ps[i]?=some p→VRep wr B v c p)∧(own sv++ps.flatten).Nodup
theorem own_mem {sv:Value}{b:Nat}:b∈own sv↔sv.ownBlock=some b:=by
 unfold own
 cases sv.ownBlock <;> simp [eq_comm]
abbrev FT:=ByteArray × (JT × (List Value × List Nat))
def tf (q:FT):ByteArray × JT:=(q.1,q.2.1)
def tc (q:FT):ByteArray × List Value:=(q.1,q.2.2.1)
def tp (q:FT):List Nat:=q.2.2.2
theorem ins_map {α β:Type} (g:ByteArray × α→ByteArray × β) (hg:∀ p,(g p).1=p.1) (l:List (ByteArray × α)) (f:ByteArray × α):(jn.ins l f).map g=jn.ins (l.map g) (g f):=by
 induction l with
 | nil=>rfl
 | cons p l ih =>
   rw [List.map_cons,jn.ins,jn.ins,hg,hg]
   split
   · rfl
   · rw [List.map_cons,ih]
theorem any_map {α β:Type} (g:ByteArray × α→ByteArray × β) (hg:∀ p,(g p).1=p.1) (l:List (ByteArray × α)) (n:ByteArray):(l.map g).any (fun p=>decide (p.1=n))=l.any (fun p=>decide (p.1=n)):=by
 induction l with
 | nil=>rfl
 | cons p l ih=>rw [List.map_cons,List.any_cons,List.any_cons,ih,hg]
structure NF (m B:Nat) (wr:World) (fl:List (ByteArray × JT)):Prop where
 ex:∃ (fv:Value) (T:List FT),BX wr m [.int .i64 5,.bool false,.bool false,.string ⟨#[]⟩,.int .i64 0,.string ⟨#[]⟩,.slice none 0 0,fv]∧fl=T.map tf ∧
  wr.ownsRow B 62 9 fv T.length (flat9 (T.map tc))∧(∀ q∈T,VRep wr B q.2.1 q.2.2.1 q.2.2.2)∧(own fv++(T.map tp).flatten).Nodup
def st9 (w:World) (m:Nat) (z a0 a1 a2 a3 a4 a5 a6 a7:Value):World :=
 ((((((((w.setCell ⟨m,0,none⟩ z).setCell ⟨m,1,none⟩ a0).setCell ⟨m,2,none⟩ a1).setCell ⟨m,3,none⟩ a2).setCell ⟨m,4,none⟩ a3).setCell ⟨m,5,none⟩ a4).setCell ⟨m,6,none⟩ a5).setCell ⟨m,7,none⟩ a6).setCell ⟨m,8,none⟩ a7
def BF (w:World) (m:Nat) (cs:List Value):Prop:=w.heap[m]?=some (.cells cs.toArray 62 (0,0))
def z9:List Value:=[.string ⟨#[]⟩,.int .i64 0,.bool false,.bool false,.string ⟨#[]⟩,.int .i64 0,.string ⟨#[]⟩,.slice none 0 0,.slice none 0 0]
theorem BF.cells {w:World}{m:Nat}{z a0 a1 a2 a3 a4 a5 a6 a7:Value} (h:BF w m [z,a0,a1,a2,a3,a4,a5,a6,a7]) :
 w.cell? ⟨m,0,none⟩=some z∧w.cell? ⟨m,1,none⟩=some a0∧w.cell? ⟨m,2,none⟩=some a1∧w.cell? ⟨m,3,none⟩=some a2∧w.cell? ⟨m,4,none⟩=some a3∧w.cell? ⟨m,5,none⟩=some a4∧w.cell? ⟨m,6,none⟩=some a5∧w.cell? ⟨m,7,none⟩=some a6∧w.cell? ⟨m,8,none⟩=some a7 :=
 ⟨blk_cell h 0,blk_cell h 1,blk_cell h 2,blk_cell h 3,blk_cell h 4,blk_cell h 5,blk_cell h 6,blk_cell h 7,blk_cell h 8⟩
def R20 (wr:World) (nm:ByteArray) (v:JT) (b7:Nat) (wx:World):Prop:=∃ b0 b1 b2 b3 b4 b5 b6 b8 p,BF wx b7 [.string nm,b0,b1,b2,b3,b4,b5,b6,b8]∧Below wr.heap.size wr wx∧VRep wx wr.heap.size v [b0,b1,b2,b3,b4,b5,b6,b8] p∧p.Nodup
theorem puts_len (l:List (ByteArray × JT)):(jn.puts l).length≤l.length:=by
 have key:∀ (l acc:List (ByteArray × JT)),(l.foldl jn.putP acc).length≤acc.length+l.length:=by
  intro l
  induction l with
  | nil=>intro acc;simp
  | cons p l ih =>
    intro acc
    rw [List.foldl_cons,List.length_cons]
    refine Nat.le_trans (ih _) ?_
    have:(jn.putP acc p).length≤acc.length+1:=by
     unfold jn.putP
     split
     · omega
     · rw [(jn.ins_perm _ _).length_eq];simp
    omega
 simpa [jn.puts] using key l []
theorem VRep.form {w:World}{B:Nat}{v:JT}{cs:List Value}{p:List Nat} (h:VRep w B v cs p):∃ (kk:Int) (tt ng:Bool) (dg:ByteArray) (ex:Int) (xx:ByteArray) (q1:Option Addr) (n1 m1:Nat) (q2:Option Addr) (n2 m2:Nat),cs=[.int .i64 kk,.bool tt,.bool ng,.string dg,.int .i64 ex,.string xx,.slice q1 n1 m1,.slice q2 n2 m2]:=by
 cases h with
 | mk hl hf _ _ _ _ _ _ =>
   obtain ⟨oa,c,rfl,_⟩:=mm.SV.form (mm.own_sv hl)
   obtain ⟨oa',c',rfl,_⟩:=mm.SV.form (mm.own_sv hf)
   exact ⟨_,_,_,_,_,_,_,_,_,_,_,_,rfl⟩
def FP (w u:World) (g:List (ByteArray × JT)) (e:Ending) (u':World):Prop :=
 ∃ (sv:Value) (css:List (List Value)),e=.returned sv∧u'.ownsRow u.heap.size 62 9 sv g.length (fcs g css)∧css.length=g.length ∧
   (∀ (j:Nat) (p:ByteArray × JT) (c:List Value),g[j]?=some p→css[j]?=some c→VR w p.2 c)∧Below u.heap.size u u'
structure OO (w:World) (B:Nat) (wr:World) (sv:Value) (g:List (ByteArray × JT)) (i:Nat):Prop where
 ex:∃ (css:List (List Value)) (ps:List (List Nat)),wr.ownsRow B 62 9 sv g.length (fcs g css)∧css.length=g.length∧ps.length=i ∧
  (∀ (j:Nat) (p:ByteArray × JT) (c:List Value) (q:List Nat),g[j]?=some p→css[j]?=some c→ps[j]?=some q→VRep wr B (nrm p.2) c q) ∧
  (∀ (j:Nat) (p:ByteArray × JT) (c:List Value),i≤j→g[j]?=some p→css[j]?=some c→VR w p.2 c)∧(own sv++ps.flatten).Nodup
def st8a (w:World) (m o:Nat) (a0 a1 a2 a3 a4 a5 a6 a7:Value):World :=
 (((((((w.setCell ⟨m,o+1,none⟩ a0).setCell ⟨m,o+2,none⟩ a1).setCell ⟨m,o+3,none⟩ a2).setCell ⟨m,o+4,none⟩ a3).setCell ⟨m,o+5,none⟩ a4).setCell ⟨m,o+6,none⟩ a5).setCell ⟨m,o+7,none⟩ a6).setCell ⟨m,o+8,none⟩ a7
theorem st8a_upd (w:World) (m o:Nat) (a0 a1 a2 a3 a4 a5 a6 a7:Value):Upd m w (st8a w m o a0 a1 a2 a3 a4 a5 a6 a7) :=
 (((((((Upd.setCell m _ _ _).trans (Upd.setCell m _ _ _)).trans (Upd.setCell m _ _ _)).trans (Upd.setCell m _ _ _)).trans (Upd.setCell m _ _ _)).trans (Upd.setCell m _ _ _)).trans (Upd.setCell m _ _ _)).trans (Upd.setCell m _ _ _)
theorem set_app {α:Type} (l m:List α) (n k:Nat) (a:α) (h:l.length=k):(l++m).set (k+n) a=l++m.set n a:=by
 rw [List.set_append_right _ _ (by omega),h,Nat.add_sub_cancel_left]
theorem fcs_cons (p:ByteArray × JT) (f:List (ByteArray × JT)) (c:List Value) (css:List (List Value)):fcs (p::f) (c::css)=(Value.string p.1::c)++fcs f css:=by
 simp [fcs]
theorem fcs_set:∀ (g:List (ByteArray × JT)) (css:List (List Value)) (i:Nat) (a0 a1 a2 a3 a4 a5 a6 a7:Value),css.length=g.length→(∀ c∈css,c.length=8)→i < g.length →
 ((((((((fcs g css).set (i*9+1) a0).set (i*9+2) a1).set (i*9+3) a2).set (i*9+4) a3).set (i*9+5) a4).set (i*9+6) a5).set (i*9+7) a6).set (i*9+8) a7=fcs g (css.set i [a0,a1,a2,a3,a4,a5,a6,a7])
 | [],_,_,_,_,_,_,_,_,_,_,_,_,h=>by simp at h
 | _::_,[],_,_,_,_,_,_,_,_,_,h,_,_=>by simp at h
 | p::g,c::css,0,a0,a1,a2,a3,a4,a5,a6,a7,_,h8,_=>by
   have hc:=h8 c (by simp)
   match c,hc with
   | [b0,b1,b2,b3,b4,b5,b6,b7],_ =>
     rw [List.set_cons_zero,fcs_cons,fcs_cons]
     simp
 | p::g,c::css,i+1,a0,a1,a2,a3,a4,a5,a6,a7,h,h8,hi=>by
   have hc:=h8 c (by simp)
   have ih:=fcs_set g css i a0 a1 a2 a3 a4 a5 a6 a7 (by simpa using h) (fun c hc=>h8 c (by simp [hc])) (by simpa using hi)
   have hl:(Value.string p.1::c).length=9:=by simp [hc]
   rw [List.set_cons_succ,fcs_cons,fcs_cons,← ih]
   rw [show (i+1)*9+1=9+(i*9+1) by omega,show (i+1)*9+2=9+(i*9+2) by omega,show (i+1)*9+3=9+(i*9+3) by omega,show (i+1)*9+4=9+(i*9+4) by omega,
    show (i+1)*9+5=9+(i*9+5) by omega,show (i+1)*9+6=9+(i*9+6) by omega,show (i+1)*9+7=9+(i*9+7) by omega,show (i+1)*9+8=9+(i*9+8) by omega]
   rw [set_app _ _ _ _ _ hl,set_app _ _ _ _ _ hl,set_app _ _ _ _ _ hl,set_app _ _ _ _ _ hl,set_app _ _ _ _ _ hl,set_app _ _ _ _ _ hl,set_app _ _ _ _ _ hl,set_app _ _ _ _ _ hl]
theorem fcs_at {g:List (ByteArray × JT)}{css:List (List Value)} (h8:∀ c∈css,c.length=8) {i:Nat}{p:ByteArray × JT}{c:List Value} (hp:g[i]?=some p) (hc:css[i]?=some c) {j:Nat} (hj:j < 9):(fcs g css)[i*9+j]?=(Value.string p.1::c)[j]?:=by
 have h9:∀ c∈List.zipWith (fun (p:ByteArray × JT) c=>Value.string p.1::c) g css,c.length=9:=by
  intro c hc
  obtain ⟨j,hj⟩:=List.getElem?_of_mem hc
  rw [List.getElem?_zipWith] at hj
  cases ha:g[j]? with
  | none=>rw [ha] at hj;simp at hj
  | some q =>
    cases hb:css[j]? with
    | none=>rw [ha,hb] at hj;simp at hj
    | some cc =>
      rw [ha,hb] at hj
      simp only [Option.some.injEq] at hj
      rw [← hj,List.length_cons,h8 cc (List.mem_of_getElem? hb)]
 exact flat_at h9 (zip_at hp hc) hj
theorem oo_len {w:World}{B:Nat}{wr:World}{g:List (ByteArray × JT)}{i:Nat}{css:List (List Value)}{ps:List (List Nat)} (e1:css.length=g.length) (e2:ps.length=i)
 (h1:∀ (j:Nat) (p:ByteArray × JT) (c:List Value) (q:List Nat),g[j]?=some p→css[j]?=some c→ps[j]?=some q→VRep wr B (nrm p.2) c q)
 (h2:∀ (j:Nat) (p:ByteArray × JT) (c:List Value),i≤j→g[j]?=some p→css[j]?=some c→VR w p.2 c):∀ c∈css,c.length=8:=by
 intro c hc
 obtain ⟨j,hj⟩:=List.getElem?_of_mem hc
 obtain ⟨hlt,_⟩:=List.getElem?_eq_some_iff.1 hj
 have hg:g[j]?=some g[j]:=List.getElem?_eq_getElem (by omega)
 by_cases hi:j < i
 · exact (h1 j _ c _ hg hj (List.getElem?_eq_getElem (by omega))).vr.len
 · exact (h2 j _ c (by omega) hg hj).len
theorem oo_step {w:World}{B:Nat}{wr u:World}{g0 n cap:Nat}{g:List (ByteArray × JT)}{i:Nat}{css:List (List Value)}{ps:List (List Nat)} (ho:wr.ownsRow B 62 9 (.slice (some ⟨g0,0,none⟩) n cap) g.length (fcs g css)) (e1:css.length=g.length) (e2:ps.length=i)
 (h1:∀ (j:Nat) (p:ByteArray × JT) (c:List Value) (q:List Nat),g[j]?=some p→css[j]?=some c→ps[j]?=some q→VRep wr B (nrm p.2) c q)
 (h2:∀ (j:Nat) (p:ByteArray × JT) (c:List Value),i≤j→g[j]?=some p→css[j]?=some c→VR w p.2 c) (hn:(own (.slice (some ⟨g0,0,none⟩) n cap)++ps.flatten).Nodup)
 {p:ByteArray × JT} (hp:g[i]?=some p) {a0 a1 a2 a3 a4 a5 a6 a7:Value}{q:List Nat} (hb:Below wr.heap.size wr u) (hr:VRep u wr.heap.size (nrm p.2) [a0,a1,a2,a3,a4,a5,a6,a7] q) (hq:q.Nodup) (hs:B≤wr.heap.size) :
 OO w B (st8a u g0 (i*9) a0 a1 a2 a3 a4 a5 a6 a7) (.slice (some ⟨g0,0,none⟩) n cap) g (i+1):=by
 have hi:i < g.length:=(List.getElem?_eq_some_iff.1 hp).1
 have hg0:=mm.row_lt ho g0 rfl
 have ho2:=mm.row_below ho hb (Nat.le_refl _)
 have hU:=st8a_upd u g0 (i*9) a0 a1 a2 a3 a4 a5 a6 a7
 have hnd:=List.nodup_append.1 hn
 have hold:∀ b∈ps.flatten,B≤b∧b < wr.heap.size:=by
  intro b hbm
  obtain ⟨q,hq,hbq⟩:=List.mem_flatten.1 hbm
  obtain ⟨j,hj⟩:=List.getElem?_of_mem hq
  obtain ⟨hlt,_⟩:=List.getElem?_eq_some_iff.1 hj
  exact (h1 j _ _ q (List.getElem?_eq_getElem (by omega)) (List.getElem?_eq_getElem (by omega)) hj).ge b hbq
 have hnew:∀ b∈q,wr.heap.size≤b∧b < u.heap.size:=hr.ge
 refine ⟨css.set i [a0,a1,a2,a3,a4,a5,a6,a7],ps++[q],?_,by simp [e1],by simp [e2],?_,?_,?_⟩
 · rw [← fcs_set g css i a0 a1 a2 a3 a4 a5 a6 a7 e1 (oo_len e1 e2 h1 h2) hi]
   exact mm.row_set (mm.row_set (mm.row_set (mm.row_set (mm.row_set (mm.row_set (mm.row_set (mm.row_set ho2 _ _) _ _) _ _) _ _) _ _) _ _) _ _) _ _
 · intro j p2 c q2 k1 k2 k3
   by_cases hj:j < i
   · rw [List.getElem?_set_ne (by omega)] at k2
     rw [List.getElem?_append_left (by omega)] at k3
     refine (h1 j p2 c q2 k1 k2 k3).keep fun b hbq=>?_
     have hm:=mem_flat k3 hbq
     rw [hU.block b (fun e=>hnd.2.2 g0 (by simp [own,Value.ownBlock]) b hm e.symm)]
     exact hb.block b (hold b hm).2
   · have hj2:j=i:=by
      obtain ⟨hlt,_⟩:=List.getElem?_eq_some_iff.1 k3
      rw [List.length_append,List.length_singleton] at hlt
      omega
     subst hj2
     obtain rfl:p=p2:=Option.some.inj (hp.symm.trans k1)
     rw [List.getElem?_set_self (by omega)] at k2
     rw [List.getElem?_append_right (by omega),e2,Nat.sub_self] at k3
     simp only [List.getElem?_cons_zero,Option.some.injEq] at k2 k3
     subst k2 k3
     exact (hr.base hs).keep fun b hbq=>hU.block b (fun e=>by have:=(hnew b hbq).1;omega)
 · intro j p2 c hj k1 k2
   rw [List.getElem?_set_ne (by omega)] at k2
   exact h2 j p2 c (by omega) k1 k2
 · rw [List.flatten_append]
   simp only [List.flatten_cons,List.flatten_nil,List.append_nil]
   rw [List.nodup_append]
   refine ⟨hnd.1,List.nodup_append.2 ⟨hnd.2.1,hq,fun a ha b hb' e=>by have:=(hold a ha).2;have:=(hnew b hb').1;omega⟩,?_⟩
   intro a ha b hb' e
   rcases List.mem_append.1 hb' with k|k
   · exact hnd.2.2 a ha b k e
   · simp [own,Value.ownBlock] at ha
     have:=(hnew b k).1
     omega
end Go.Proofs.YthakglomacijgaaGreatDoor.rd
namespace Go.Proofs.YthakglomacijgaaGreatDoor.apv
open Go.RowKit Go.Proofs.YthakglomacijgaaGreatDoor.ap Go.Proofs.YthakglomacijgaaGreatDoor.rd
open Go.Proofs.YthakglomacijgaaGreatDoor.mm (row_keep row_lt)
end Go.Proofs.YthakglomacijgaaGreatDoor.apv
namespace Go.Proofs.YthakglomacijgaaGreatDoor.apf
open Go.RowKit Go.Proofs.YthakglomacijgaaGreatDoor.ap Go.Proofs.YthakglomacijgaaGreatDoor.rd
open Go.Proofs.YthakglomacijgaaGreatDoor.mm (row_keep row_lt)
end Go.Proofs.YthakglomacijgaaGreatDoor.apf
namespace Go.Proofs.YthakglomacijgaaGreatDoor.rd
open Go.RowKit
def hxd (n:Nat):UInt8:=if n < 10 then (48+n).toUInt8 else (87+n).toUInt8
def ltt (r:Nat):List UInt8 :=
 if r=34∨r=92 then 92::Lib.encodeRune r
 else if r=8 then [92,98] else if r=9 then [92,116] else if r=10 then [92,110] else if r=12 then [92,102] else if r=13 then [92,114]
 else if 32≤r then Lib.encodeRune r else [92,117,48,48,hxd (r / 16),hxd (r % 16)]
theorem enc_le (r:Int):(Lib.encodeRune r).length≤4:=by
 have:=(Lib.runeCells_le r).2
 rwa [Lib.runeCells_length] at this
theorem ltt_le (r:Nat):(ltt r).length≤6:=by
 have:=enc_le r
 unfold ltt
 repeat' split
 all_goals simp
 all_goals omega
def PO (B b:Nat) (l:List UInt8) (w:World) (e:Ending) (w':World):Prop:=e=.returned (.tuple #[])∧Bld B b l w'∧Below B w w'∧Lib.OthersKept 5 (some b) w w'
def LC (r:Nat):Prop:=∀ (B b:Nat) (l:List UInt8) (w:World),Bld B b l w→l.length+6≤140737488355328→B≤w.heap.size→Calls Tryz.prog 69 #[.pointer (some ⟨b,0,none⟩),.int .i32 (r:Int)] w (PO B b (l++ltt r) w)
set_option maxHeartbeats 3200000 in
set_option maxRecDepth 1000000 in
theorem letter_plain (r:Nat) (h32:32≤r) (h34:r≠34) (h92:r≠92) (hr:r≤2147483647):LC r:=by
 intro B b l w h hl hB
 have WR:=hide (writeRune_any B b l (r:Int) (by omega) (by omega) w h (by omega) hB)
 have e:ltt r=Lib.encodeRune r:=by
  unfold ltt
  rw [if_neg (by omega),if_neg (by omega),if_neg (by omega),if_neg (by omega),if_neg (by omega),if_neg (by omega),if_pos h32]
 rw [e]
 generalize Lib.encodeRune (r:Int)=x at *
 have e1:((r:Int) == 34)=false:=by simp;omega
 have e2:((r:Int) == 92)=false:=by simp;omega
 have e3:((r:Int) == 8)=false:=by simp;omega
 have e4:((r:Int) == 9)=false:=by simp;omega
 have e5:((r:Int) == 10)=false:=by simp;omega
 have e6:((r:Int) == 12)=false:=by simp;omega
 have e7:((r:Int) == 13)=false:=by simp;omega
 have e8:(32:Int)≤(r:Int):=by omega
 clear e h hr h34 h92
 go_enter Tryz.func69,Tryz.ntmps69
 go_wp2_with (go_at_call 76;refine (uh WR).mono ?_;rintro e u1 ⟨rfl,hb1,hc1,hk1⟩)
 go_end0
 exact ⟨rfl,hb1,hc1,hk1⟩
set_option maxHeartbeats 3200000 in
set_option maxRecDepth 1000000 in
theorem letter_esc (r:Nat) (hr:r=34∨r=92):LC r:=by
 intro B b l w h hl hB
 have WB:=hide (writeByte_any B b l 92 w h (by omega) hB)
 have WR:=hide (fun (u:World) h1 h2=>writeRune_any B b (l++[92]) (r:Int) (by omega) (by omega) u h1 (by simp;omega) h2)
 have e:l++ltt r=l++[92]++Lib.encodeRune r:=by
  unfold ltt
  rw [if_pos hr]
  simp
 rw [e]
 generalize hx:Lib.encodeRune (r:Int)=x at WR ⊢
 clear e h hx
 rcases hr with rfl|rfl
 · go_enter Tryz.func69,Tryz.ntmps69
   go_wp2_with (first
    | (go_at_call 37;refine (uh WB).mono ?_;rintro e u1 ⟨rfl,hb1,hc1,hk1⟩
       have W2:=hide (uh WR u1 hb1 (Nat.le_trans hB hc1.size)))
    | (go_at_call 76;refine (uh W2).mono ?_;rintro e u2 ⟨rfl,hb2,hc2,hk2⟩))
   go_end0
   exact ⟨rfl,hb2,hc1.trans hc2,hk1.trans hk2⟩
 · go_enter Tryz.func69,Tryz.ntmps69
   go_wp2_with (first
    | (go_at_call 37;refine (uh WB).mono ?_;rintro e u1 ⟨rfl,hb1,hc1,hk1⟩
       have W2:=hide (uh WR u1 hb1 (Nat.le_trans hB hc1.size)))
    | (go_at_call 76;refine (uh W2).mono ?_;rintro e u2 ⟨rfl,hb2,hc2,hk2⟩))
   go_end0
   exact ⟨rfl,hb2,hc1.trans hc2,hk1.trans hk2⟩
def ltsF (s:ByteArray):Nat→Nat→List UInt8
 | 0,_=>[]
 | n+1,pos=>if pos < s.size then ltt (Utf8.decode s pos).1++ltsF s n (pos+(Utf8.decode s pos).2) else []
def txtJ (s:ByteArray):List UInt8:=34::(ltsF s s.size 0++[34])
theorem ltsF_end (s:ByteArray) (fuel pos:Nat) (h:¬ pos < s.size):ltsF s fuel pos=[]:=by
 cases fuel with
 | zero=>rfl
 | succ f=>simp [ltsF,h]
theorem kept_iterAt {b:Nat}{a w:World} (h:Lib.OthersKept 5 (some b) a w) {k:Nat} (hk:a.heap.size≤k) (s:ByteArray) (pos:Nat):Lib.OthersKept 5 (some b) a (w.iterAt k s pos):=by
 intro i o hi hb ho
 rw [Lib.iterAt_other w k i s pos (by have:=(Array.getElem?_eq_some_iff.1 hi).1;omega)]
 exact h i o hi hb ho
set_option maxHeartbeats 4000000 in
set_option maxRecDepth 1000000 in
theorem writeText_any (B b:Nat) (l:List UInt8) (s:ByteArray) (w:World) (h:Bld B b l w) (hl:l.length+6*s.size+10≤140737488355328) (hB:B≤w.heap.size) (hbs:b < w.heap.size) (hL:∀ pos,pos < s.size→LC (Utf8.decode s pos).1) :
 Calls Tryz.prog 36 #[.pointer (some ⟨b,0,none⟩),.string s] w (PO B b (l++txtJ s) w):=by
 have WB:=hide (writeByte_any B b l 34 w h (by omega) hB)
 have HL:=hide hL
 clear h hL
 go_enter Tryz.func36,Tryz.ntmps36
 go_wp2_with (go_at_call 37;refine (uh WB).mono ?_;rintro e u1 ⟨rfl,hb1,hc1,hk1⟩)
 clear WB
 have hsz1:=hc1.size
 go_loopw [] (fun wr=>∃ (pos fuel:Nat) (acc:List UInt8),Bld B b (l++[34]++acc) wr∧wr.heap[u1.heap.size]?=some (.stringIter s pos)∧Below B w wr∧Lib.OthersKept 5 (some b) w wr∧acc++ltsF s fuel pos=ltsF s s.size 0∧s.size≤pos+fuel∧acc.length+6*fuel≤6*s.size) (fun wr=>s.size - wr.iterPos u1.heap.size)
 case atStart =>
  refine ⟨0,s.size,[],?_,?_,hc1.alloc (by omega) _,hk1.alloc _,rfl,by omega,by simp⟩
  · rw [List.append_nil]
    exact Lib.IsBuilderF.alloc hb1 _
  · have:=World.iter_heap u1 s 0
    simpa using this
 case round =>
  obtain ⟨pos,fuel,acc,hI,hit,hbw,hkw,hacc,hfu,hal⟩:=hrel
  have hsz:u1.heap.size < wr.heap.size:=(Array.getElem?_eq_some_iff.1 hit).1
  clear hb1 hk1 hc1
  by_cases hp:pos < s.size
  · have hnx:∀ ty,(Instr.next (.pointer (some ⟨u1.heap.size,0,none⟩)) true ty).run Tryz.prog wr=_:=fun ty=>Lib.run_next_any_at wr u1.heap.size s pos ty hit hp
    have hwd:=width_pos s pos hp
    have hd1:=decode_le s pos
    have hI2:=Lib.IsBuilderF.iterAt hI hit (pos+(Utf8.decode s pos).2)
    have hit2:=Lib.iterAt_heap wr u1.heap.size s pos (pos+(Utf8.decode s pos).2) hit
    have hbw2:=Lib.below_iterAt hbw (k:=u1.heap.size) (by omega) s (pos+(Utf8.decode s pos).2)
    have hkw2:=kept_iterAt hkw (k:=u1.heap.size) (by omega) s (pos+(Utf8.decode s pos).2)
    have hsz2:B≤(wr.iterAt u1.heap.size s (pos+(Utf8.decode s pos).2)).heap.size:=by rw [Lib.iterAt_size];omega
    have hlen:(l++[34]++acc).length+6≤140737488355328:=by simp;omega
    have CL:=hide (uh HL pos hp B b _ _ hI2 hlen hsz2)
    obtain ⟨f,rfl⟩:∃ f,fuel=f+1:=⟨fuel - 1,by omega⟩
    go_wp2_with (go_at_call 69;refine (uh CL).mono ?_)
    rintro e W1 ⟨rfl,h1,b1,k1⟩
    go_wp2
    go_roundw
    case rel =>
     have hl6:=ltt_le (Utf8.decode s pos).1
     refine ⟨pos+(Utf8.decode s pos).2,f,acc++ltt (Utf8.decode s pos).1,by rw [← List.append_assoc];exact h1,k1.iter hit2 (by omega),hbw2.trans b1,hkw2.trans k1,?_,by omega,by simp;omega⟩
     rw [← hacc];simp [ltsF,hp]
    case measure =>
     simp only [World.iterPos,k1.iter hit2 (by omega),hit]
     omega
  · have hnx:∀ ty,(Instr.next (.pointer (some ⟨u1.heap.size,0,none⟩)) true ty).run Tryz.prog wr=_:=fun ty=>Lib.run_next_end_at wr u1.heap.size s pos ty hit hp
    have WB:=hide (writeByte_any B b (l++[34]++acc) 34 wr hI (by simp;omega) (by omega))
    go_wp2_with (go_at_call 37;refine (uh WB).mono ?_)
    rintro e W1 ⟨rfl,h1,b1,k1⟩
    go_wp2
    go_end0
    rw [ltsF_end s fuel pos hp,List.append_nil] at hacc
    subst hacc
    refine ⟨rfl,?_,hbw.trans b1,hkw.trans k1⟩
    have e:l++txtJ s=l++[34]++ltsF s s.size 0++[34]:=by simp [txtJ]
    rw [e]
    exact h1
def trueB:List UInt8:=[116,114,117,101]
def falseB:List UInt8:=[102,97,108,115,101]
set_option maxHeartbeats 1600000 in
theorem truthWord_any (t:Bool) (w:World):Calls Tryz.prog 40 #[.bool t] w fun e w'=>e=.returned (.string (if t then ⟨#[116,114,117,101]⟩ else ⟨#[102,97,108,115,101]⟩))∧w'=w:=by
 cases t
 · go_enter Tryz.func40,Tryz.ntmps40
   go_wp2
   go_ret
   exact ⟨rfl,rfl⟩
 · go_enter Tryz.func40,Tryz.ntmps40
   go_wp2
   go_ret
   exact ⟨rfl,rfl⟩
def comma:List (List UInt8)→List UInt8
 | []=>[]
 | x::xs=>x++(xs.map fun y=>44::y).flatten
theorem comma_snoc (l:List (List UInt8)) (x:List UInt8) (h:l≠[]):comma (l++[x])=comma l++44::x:=by
 cases l with
 | nil=>exact absurd rfl h
 | cons y ys=>simp [comma]
theorem VRep.kept {w w':World}{B b:Nat}{v:JT}{cs:List Value}{p:List Nat} (h:VRep w B v cs p) (hk:Lib.OthersKept 5 (some b) w w') (hb:b ∉ p):VRep w' B v cs p:=by
 induction h with
 | mk hl hf h1 h2 h3 h4 hle hfe ih1 ih2 =>
   have row:∀ {e:TypeId}{s n:Nat}{v:Value}{xs:List Value},w.ownsRow B e s v n xs→e≠5→b ∉ own v→w'.ownsRow B e s v n xs:=by
    intro e s n v xs h he hb
    obtain ⟨hl,⟨rfl,h0⟩|⟨g,cap,cur,rfl,hb',hg,r⟩⟩:=h
    · exact ⟨hl,Or.inl ⟨rfl,h0⟩⟩
    · refine ⟨hl,Or.inr ⟨g,cap,cur,rfl,hb',hk g _ hg (fun q=>hb ?_) (fun c fz q=>he ?_),r⟩⟩
      · simp only [Option.some.injEq] at q
        simp [own,Value.ownBlock,q]
      · simp only [Obj.cells.injEq] at q
        exact q.2.1
   simp only [List.mem_append,not_or] at hb
   refine .mk (row hl (by decide) hb.1.1.1) (row hf (by decide) hb.1.1.2) h1 h2 h3 h4 ?_ ?_
   · intro i v c p e1 e2 e3
     exact ih1 i v c p e1 e2 e3 fun q=>hb.1.2 (mem_flat e3 q)
   · intro i n v c p e1 e2 e3
     exact ih2 i n v c p e1 e2 e3 fun q=>hb.2 (mem_flat e3 q)
theorem cell_kept {w w':World}{b:Nat} (hk:Lib.OthersKept 5 (some b) w w') {g:Nat}{cs:Array Value}{t:TypeId}{f:Nat × Nat} (h:w.heap[g]?=some (.cells cs t f)) (ht:t≠5) (hb:g≠b):w'.heap[g]?=some (.cells cs t f) :=
 hk g _ h (fun q=>hb (by simpa using q)) (fun c fz q=>ht (by simp only [Obj.cells.injEq] at q;exact q.2.1))
set_option maxHeartbeats 12800000 in
set_option maxRecDepth 1000000 in
theorem letter_spec (r:Nat) (x:UInt8) (h:(r=8∧x=98)∨(r=9∧x=116)∨(r=10∧x=110)∨(r=12∧x=102)∨(r=13∧x=114)):LC r:=by
 intro B b l w h0 hl hB
 rcases h with ⟨rfl,rfl⟩|⟨rfl,rfl⟩|⟨rfl,rfl⟩|⟨rfl,rfl⟩|⟨rfl,rfl⟩
 all_goals
  first
  | have WS:=hide (writeString_any B b l ⟨#[92,98]⟩ w h0 (by show _+2≤_;omega) hB);rw [show ltt 8=[92,98] by decide]
  | have WS:=hide (writeString_any B b l ⟨#[92,116]⟩ w h0 (by show _+2≤_;omega) hB);rw [show ltt 9=[92,116] by decide]
  | have WS:=hide (writeString_any B b l ⟨#[92,110]⟩ w h0 (by show _+2≤_;omega) hB);rw [show ltt 10=[92,110] by decide]
  | have WS:=hide (writeString_any B b l ⟨#[92,102]⟩ w h0 (by show _+2≤_;omega) hB);rw [show ltt 12=[92,102] by decide]
  | have WS:=hide (writeString_any B b l ⟨#[92,114]⟩ w h0 (by show _+2≤_;omega) hB);rw [show ltt 13=[92,114] by decide]
  clear h0
  go_enter Tryz.func69,Tryz.ntmps69
  go_wp2_with (go_at_call 39;refine (uh WS).mono ?_;rintro e u1 ⟨rfl,hb1,hc1,hk1⟩)
  go_end0
  exact ⟨rfl,hb1,hc1,hk1⟩
set_option maxHeartbeats 12800000 in
set_option maxRecDepth 1000000 in
theorem letter_low (r:Nat) (x y:UInt8) (h:r < 32) (hn:r≠8∧r≠9∧r≠10∧r≠12∧r≠13) (hx:hxd (r / 16)=x) (hy:hxd (r % 16)=y):LC r:=by
 intro B b l w h0 hl hB
 have WS:=hide (writeString_any B b l ⟨#[92,117,48,48]⟩ w h0 (by show _+4≤_;omega) hB)
 have W1:=hide (fun (u:World) h1 h2=>writeByte_any B b (l++[92,117,48,48]) x u h1 (by rw [List.length_append];show _+4+1≤_;omega) h2)
 have W2:=hide (fun (u:World) h1 h2=>writeByte_any B b (l++[92,117,48,48]++[x]) y u h1 (by rw [List.length_append,List.length_append];show _+4+1+1≤_;omega) h2)
 have e:l++ltt r=l++[92,117,48,48]++[x]++[y]:=by
  unfold ltt
  rw [if_neg (by omega),if_neg (by omega),if_neg (by omega),if_neg (by omega),if_neg (by omega),if_neg (by omega),if_neg (by omega),hx,hy]
  simp
 rw [e]
 have hr:r=0∨r=1∨r=2∨r=3∨r=4∨r=5∨r=6∨r=7∨r=11∨r=14∨r=15∨r=16∨r=17∨r=18∨r=19∨r=20∨r=21∨r=22∨r=23∨r=24∨r=25∨r=26∨r=27∨r=28∨r=29∨r=30∨r=31:=by omega
 clear h0 e h hn
 rcases hr with rfl|rfl|rfl|rfl|rfl|rfl|rfl|rfl|rfl|rfl|rfl|rfl|rfl|rfl|rfl|rfl|rfl|rfl|rfl|rfl|rfl|rfl|rfl|rfl|rfl|rfl|rfl
 all_goals
  subst hx hy
  go_enter Tryz.func69,Tryz.ntmps69
  go_wp2_with (go_at_call 39;refine (uh WS).mono ?_;rintro e u1 ⟨rfl,hb1,hc1,hk1⟩
               have W1':=hide (uh W1 u1 hb1 (Nat.le_trans hB hc1.size))
               clear WS W1)
  refine (uh W1').mono ?_
  rintro e u2 ⟨rfl,hb2,hc2,hk2⟩
  have W2':=hide (uh W2 u2 hb2 (Nat.le_trans hB (hc1.trans hc2).size))
  clear W1' W2
  go_wp2_with fail
  refine (uh W2').mono ?_
  rintro e u3 ⟨rfl,hb3,hc3,hk3⟩
  go_wp2
  go_end0
  exact ⟨rfl,hb3,(hc1.trans hc2).trans hc3,(hk1.trans hk2).trans hk3⟩
theorem letter_any (r:Nat) (hr:r≤2147483647):LC r:=by
 by_cases h:32≤r
 · by_cases h2:r=34∨r=92
   · exact letter_esc r h2
   · exact letter_plain r h (by omega) (by omega) hr
 · by_cases h2:r≠8∧r≠9∧r≠10∧r≠12∧r≠13
   · exact letter_low r _ _ (by omega) h2 rfl rfl
   · have h3:r=8∨r=9∨r=10∨r=12∨r=13:=by omega
     rcases h3 with rfl|rfl|rfl|rfl|rfl
     · exact letter_spec 8 98 (by simp)
     · exact letter_spec 9 116 (by simp)
     · exact letter_spec 10 110 (by simp)
     · exact letter_spec 12 102 (by simp)
     · exact letter_spec 13 114 (by simp)
end Go.Proofs.YthakglomacijgaaGreatDoor.rd
