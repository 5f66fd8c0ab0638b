/- Texts in one: Ie Cde Nd Cnv -/
import Derived.Test.YthnhobplgmojeaaGreatDoorIaP
import Derived.Deep.RegionHeld3
import Derived.Deep.Cut
namespace Go.Proofs.YthnhobplgmojeaaGreatDoor.rd
open Go.RowKit
theorem vr_len {w:World}{l:List JT}{css:List (List Value)} (h1:css.length=l.length) (h:∀ (i:Nat) (v:JT) (c:List Value),l[i]?=some v→css[i]?=some c→VR w v c):∀ c∈css,c.length=8:=by
 intro c hc;obtain ⟨i,hi⟩:=List.getElem?_of_mem hc;obtain ⟨hlt,_⟩:=List.getElem?_eq_some_iff.1 hi;exact (h i _ c (List.getElem?_eq_getElem (by omega)) hi).len
theorem sz_l {k:Int}{t:Bool}{d:Dn}{x:ByteArray}{l:List JT}{f:List (ByteArray × JT)}{v:JT} (h:v∈l):SizeOf.sizeOf v < SizeOf.sizeOf (JT.mk k t d x l f):=by
 have:=List.sizeOf_lt_of_mem h;simp only [JT.mk.sizeOf_spec];omega
theorem sz_f {k:Int}{t:Bool}{d:Dn}{x:ByteArray}{l:List JT}{f:List (ByteArray × JT)}{p:ByteArray × JT} (h:p∈f):SizeOf.sizeOf p.2 < SizeOf.sizeOf (JT.mk k t d x l f):=by
 have:=List.sizeOf_lt_of_mem h;obtain ⟨a,b⟩:=p;simp only [JT.mk.sizeOf_spec,Prod.mk.sizeOf_spec] at *;omega
theorem cells9 {w:World}{ad:Addr}{z a0 a1 a2 a3 a4 a5 a6 a7:Value} (h:∀ (j:Nat) (u:Value),[z,a0,a1,a2,a3,a4,a5,a6,a7][j]?=some u→w.cell? (ad.add j)=some u) :
 w.cell? ad=some z∧w.cell? ⟨ad.block,ad.off+1,none⟩=some a0∧w.cell? ⟨ad.block,ad.off+2,none⟩=some a1∧w.cell? ⟨ad.block,ad.off+3,none⟩=some a2∧w.cell? ⟨ad.block,ad.off+4,none⟩=some a3∧w.cell? ⟨ad.block,ad.off+5,none⟩=some a4∧w.cell? ⟨ad.block,ad.off+6,none⟩=some a5∧w.cell? ⟨ad.block,ad.off+7,none⟩=some a6∧w.cell? ⟨ad.block,ad.off+8,none⟩=some a7 :=
 ⟨h 0 z rfl,h 1 a0 rfl,h 2 a1 rfl,h 3 a2 rfl,h 4 a3 rfl,h 5 a4 rfl,h 6 a5 rfl,h 7 a6 rfl,h 8 a7 rfl⟩
theorem kc {w w':World} (hb:Below w.heap.size w w') {p:Addr}{v:Value} (h:w.cell? p=some v):w'.cell? p=some v:=by
 rw [hb.cell (mm.cell_lt h)];exact h
theorem ba_inj {a b:ByteArray} (h:a.toList=b.toList):a=b:=by
 rw [ByteArray.toList_eq,ByteArray.toList_eq] at h;obtain ⟨a⟩:=a;obtain ⟨b⟩:=b;exact congrArg ByteArray.mk (Array.toList_inj.1 h)
theorem VR.el {w:World}{k:Int}{t:Bool}{d:Dn}{x:ByteArray}{l:List JT}{f:List (ByteArray × JT)}{z0 z1 z2 z3 z4 z5 z7:Value}{oa:Option Addr}{n c:Nat} (h:VR w (JT.mk k t d x l f) [z0,z1,z2,z3,z4,z5,.slice oa n c,z7]) (i:Nat) (hi:i < l.length) :
 ∃ a v a0 a1 a2 a3 a4 a5 a6 a7,oa=some a∧l[i]?=some v∧VR w v [a0,a1,a2,a3,a4,a5,a6,a7]∧∀ (j:Nat) (u:Value),[a0,a1,a2,a3,a4,a5,a6,a7][j]?=some u→w.cell? ((a.add (i*8)).add j)=some u:=by
 generalize hv:JT.mk k t d x l f=v0 at h;generalize hc:[z0,z1,z2,z3,z4,z5,.slice oa n c,z7]=cs at h
 cases h with
 | @mk k1 t1 d1 x1 l1 f1 lv fv css gss hl hf h1 h3 hle hfe =>
   simp only [JT.mk.injEq] at hv;obtain ⟨rfl,rfl,rfl,rfl,rfl,rfl⟩:=hv;simp only [List.cons.injEq] at hc;obtain ⟨_,_,_,_,_,_,rfl,_⟩:=hc;obtain ⟨a,c',e,_,_,hcell⟩:=mm.SV.some hl (by omega);simp only [Value.slice.injEq] at e;obtain ⟨rfl,_,_⟩:=e;have hcv:css[i]?=some css[i]:=List.getElem?_eq_getElem (by omega);have hvv:l[i]?=some l[i]:=List.getElem?_eq_getElem hi;have hr:=hle i _ _ hvv hcv;have hat:=sv_at (vr_len h1 hle) hcell hcv;obtain ⟨a0,a1,a2,a3,a4,a5,a6,a7,e8⟩:=hr.eight;rw [e8] at hr hat;exact ⟨a,_,a0,a1,a2,a3,a4,a5,a6,a7,rfl,hvv,hr,hat⟩
theorem zip_at {f:List (ByteArray × JT)}{gss:List (List Value)}{i:Nat}{p:ByteArray × JT}{c:List Value} (hp:f[i]?=some p) (hc:gss[i]?=some c):(List.zipWith (fun p c=>Value.string p.1::c) f gss)[i]?=some (.string p.1::c):=by
 rw [List.getElem?_zipWith,hp,hc]
theorem VR.fl {w:World}{k:Int}{t:Bool}{d:Dn}{x:ByteArray}{l:List JT}{f:List (ByteArray × JT)}{z0 z1 z2 z3 z4 z5 z6:Value}{oa:Option Addr}{n c:Nat} (h:VR w (JT.mk k t d x l f) [z0,z1,z2,z3,z4,z5,z6,.slice oa n c]) (i:Nat) (hi:i < f.length) :
 ∃ a nm v a0 a1 a2 a3 a4 a5 a6 a7,oa=some a∧f[i]?=some (nm,v)∧VR w v [a0,a1,a2,a3,a4,a5,a6,a7]∧∀ (j:Nat) (u:Value),[.string nm,a0,a1,a2,a3,a4,a5,a6,a7][j]?=some u→w.cell? ((a.add (i*9)).add j)=some u:=by
 generalize hv:JT.mk k t d x l f=v0 at h;generalize hc:[z0,z1,z2,z3,z4,z5,z6,.slice oa n c]=cs at h
 cases h with
 | @mk k1 t1 d1 x1 l1 f1 lv fv css gss hl hf h1 h3 hle hfe =>
   simp only [JT.mk.injEq] at hv;obtain ⟨rfl,rfl,rfl,rfl,rfl,rfl⟩:=hv;simp only [List.cons.injEq] at hc;obtain ⟨_,_,_,_,_,_,_,rfl,_⟩:=hc;obtain ⟨a,c',e,_,_,hcell⟩:=mm.SV.some hf (by omega);simp only [Value.slice.injEq] at e;obtain ⟨rfl,_,_⟩:=e;have hcv:gss[i]?=some gss[i]:=List.getElem?_eq_getElem (by omega);obtain ⟨p,hpp⟩:∃ p,f[i]?=some p:=⟨_,List.getElem?_eq_getElem hi⟩;obtain ⟨nm,v⟩:=p;have hr:=hfe i nm v _ hpp hcv
   have h9:∀ c∈List.zipWith (fun (p:ByteArray × JT) c=>Value.string p.1::c) f gss,c.length=9:=by
    intro c hc;obtain ⟨j,hj⟩:=List.getElem?_of_mem hc;rw [List.getElem?_zipWith] at hj
    cases ha:f[j]? with
    | none=>rw [ha] at hj;simp at hj
    | some q =>
      cases hb:gss[j]? with
      | none=>rw [ha,hb] at hj;simp at hj
      | some cc =>
        rw [ha,hb] at hj;simp only [Option.some.injEq] at hj;rw [← hj,List.length_cons,(hfe j q.1 q.2 cc ha hb).len]
   have hat:=sv_at h9 hcell (zip_at hpp hcv);obtain ⟨a0,a1,a2,a3,a4,a5,a6,a7,e8⟩:=hr.eight;rw [e8] at hr hat;exact ⟨a,nm,v,a0,a1,a2,a3,a4,a5,a6,a7,rfl,hpp,hr,hat⟩
def BX (w:World) (m:Nat) (cs:List Value):Prop:=w.heap[m]?=some (.cells cs.toArray 28 (0,0))
theorem BX.cells {w:World}{m:Nat}{a0 a1 a2 a3 a4 a5 a6 a7:Value} (h:BX w m [a0,a1,a2,a3,a4,a5,a6,a7]) :
 w.cell? ⟨m,0,none⟩=some a0∧w.cell? ⟨m,1,none⟩=some a1∧w.cell? ⟨m,2,none⟩=some a2∧w.cell? ⟨m,3,none⟩=some a3∧w.cell? ⟨m,4,none⟩=some a4∧w.cell? ⟨m,5,none⟩=some a5∧w.cell? ⟨m,6,none⟩=some a6∧w.cell? ⟨m,7,none⟩=some a7 :=
 ⟨blk_cell h 0,blk_cell h 1,blk_cell h 2,blk_cell h 3,blk_cell h 4,blk_cell h 5,blk_cell h 6,blk_cell h 7⟩
theorem BX.keep {w w':World}{m B:Nat}{cs:List Value} (h:BX w m cs) (hb:Below B w w') (hB:m < B):BX w' m cs:=(hb.block m hB).trans h
theorem box_two (w:World) (ca cb:List Value):BX ((w.alloc (.cells ca.toArray 28)).alloc (.cells cb.toArray 28)) w.heap.size ca∧BX ((w.alloc (.cells ca.toArray 28)).alloc (.cells cb.toArray 28)) (w.heap.size+1) cb ∧
 Below w.heap.size w ((w.alloc (.cells ca.toArray 28)).alloc (.cells cb.toArray 28)):=by
 refine ⟨?_,?_,((Below.refl w.heap.size w).alloc (Nat.le_refl _) _).alloc (by simp) _⟩
 · unfold BX
   rw [Below.heap_alloc _ _ _ (by simp)];exact heap_alloc_new w _
 · have:=heap_alloc_new (w.alloc (.cells ca.toArray 28)) (.cells cb.toArray 28)
   rwa [World.size_alloc] at this
def cdE (g:Nat):Int:=if g=4 then 2 else if g=7 then 3 else if g=12 then 4 else if g=8 then 5 else if g=5 then 6 else if g=9 then 7 else if g=10 then 8 else -1
theorem boxE (u:World) (cs:List Value) (B:Nat) (w:World) (hb:Below B w u) (hB:B≤u.heap.size):∀ W,W=u.alloc (.cells cs.toArray 28)→BX W u.heap.size cs∧Below u.heap.size u W∧Below B w W∧u.heap.size < W.heap.size:=by
 rintro W rfl;have h:=(Below.refl _ u).alloc (Nat.le_refl _) (.cells cs.toArray 28);exact ⟨heap_alloc_new u _,h,hb.trans (h.mono hB),by rw [World.size_alloc];omega⟩
def nds:JT→Nat
 | .mk _ _ _ _ l f=>1+(l.attach.map fun v=>nds v.1).sum+(f.attach.map fun p=>nds p.1.2).sum
 termination_by v=>SizeOf.sizeOf v
 decreasing_by
  · exact sz_l v.2
  · exact sz_f p.2
def cntV:JT→Nat
 | .mk _ _ d x l f=>1+x.size+d.dg.size+l.length+f.length+(l.attach.map fun v=>cntV v.1).sum+(f.attach.map fun p=>p.1.1.size+cntV p.1.2).sum
 termination_by v=>SizeOf.sizeOf v
 decreasing_by
  · exact sz_l v.2
  · exact sz_f p.2
theorem cntV_mk (k:Int) (t:Bool) (d:Dn) (x:ByteArray) (l:List JT) (f:List (ByteArray × JT)):cntV (.mk k t d x l f) =
 1+x.size+d.dg.size+l.length+f.length+(l.map cntV).sum+(f.map fun p=>p.1.size+cntV p.2).sum:=by
 rw [cntV];simp only [List.map_attach_eq_pmap,List.pmap_eq_map]
theorem VR.parts {w:World}{k:Int}{t:Bool}{d:Dn}{x:ByteArray}{l:List JT}{f:List (ByteArray × JT)}{cs:List Value} (h:VR w (JT.mk k t d x l f) cs):∃ oa ca ob cb,cs=[.int .i64 k,.bool t,.bool d.neg,.string d.dg,.int .i64 d.ex,.string x,.slice oa l.length ca,.slice ob f.length cb]:=by
 cases h with
 | @mk k t d x l f lv fv css gss hl hf h1 h3 hle hfe =>
   obtain ⟨oa,c,rfl,_⟩:=mm.SV.form hl;obtain ⟨ob,c',rfl,_⟩:=mm.SV.form hf;exact ⟨oa,c,ob,c',rfl⟩
end Go.Proofs.YthnhobplgmojeaaGreatDoor.rd
