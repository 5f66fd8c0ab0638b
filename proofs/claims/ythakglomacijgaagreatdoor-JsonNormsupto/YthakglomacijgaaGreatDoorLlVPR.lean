/- Texts in one: LlV LlF Aq Cpy -/
import Derived.Test.YthakglomacijgaaGreatDoorIiPR
import Derived.Test.YthakglomacijgaaGreatDoorIePR
import Derived.Test.YthakglomacijgaaGreatDoorSePR
import Derived.Test.YthakglomacijgaaGreatDoorSfPR
namespace Go.Proofs.YthakglomacijgaaGreatDoor.apv
open Go.RowKit Go.Proofs.YthakglomacijgaaGreatDoor.ap Go.Proofs.YthakglomacijgaaGreatDoor.rd
open Go.Proofs.YthakglomacijgaaGreatDoor.mm (row_keep row_lt)
structure LR (u:World) (B:Nat) (L:List Value) (bl:List Nat):Prop where
 row:∀ x∈L,∃ l,OB u B x l∧l.length≤1000000000
 sub:(L.flatMap own).Sublist bl
theorem LR.add {u:World}{B:Nat}{L M:List Value}{bl bm:List Nat} (h:LR u B L bl) (k:LR u B M bm):LR u B (L++M) (bl++bm) :=
 ⟨fun x hx=>(List.mem_append.1 hx).elim (h.row x) (k.row x),by rw [List.flatMap_append];exact h.sub.append k.sub⟩
theorem LR.back {u w:World}{B:Nat}{L:List Value}{bl:List Nat} (h:LR w B L bl) (hk:∀ b∈bl,u.heap[b]?=w.heap[b]?):LR u B L bl:=by
 refine ⟨fun x hx=>?_,h.sub⟩;obtain ⟨l,hl,hn⟩:=h.row x hx;refine ⟨l,hl.kp (fun k hkx=>hk k (h.sub.subset (List.mem_flatMap.2 ⟨x,hx,?_⟩))),hn⟩;simp [own,hkx]
theorem LR.one {u:World}{B:Nat}{L:List Value}{bl:List Nat} (h:LR u B L bl):∀ x∈L,x.oneCell'=true:=by
 intro x hx;obtain ⟨l,hl,_⟩:=h.row x hx;obtain ⟨oa,c,rfl⟩:=hl.form;rfl
def LQ (u:World) (B:Nat) (v:JT) (p:List Nat) (e:Ending) (u':World):Prop :=
 ∃ (oa:Option Addr) (c:Nat) (L:List Value),e=.returned (.slice oa L.length c)∧L.length=nds v∧u'.ownsRow u.heap.size 24 1 (.slice oa L.length c) L.length L∧LR u B L p∧Below u.heap.size u u'
set_option maxRecDepth 100000 in
set_option maxHeartbeats 6400000 in
theorem lists_step (k:Int) (t:Bool) (dn:Bool) (dg:ByteArray) (dx:Int) (x:ByteArray) (l:List JT) (f:List (ByteArray × JT)) (oa ob:Option Addr) (c c':Nat) (css gss:List (List Value)) (ps qs:List (List Nat)) (B:Nat) (u:World)
 (hl:u.ownsRow B 27 8 (.slice oa l.length c) l.length css.flatten) (hf:u.ownsRow B 62 9 (.slice ob f.length c') f.length (fcs f gss)) (h1:css.length=l.length) (h2:ps.length=l.length) (h3:gss.length=f.length) (h4:qs.length=f.length)
 (hle:∀ (i:Nat) (v:JT) (c:List Value) (p:List Nat),l[i]?=some v→css[i]?=some c→ps[i]?=some p→VRep u B v c p)
 (hfe:∀ (i:Nat) (n:ByteArray) (v:JT) (c:List Value) (p:List Nat),f[i]?=some (n,v)→gss[i]?=some c→qs[i]?=some p→VRep u B v c p)
 (hnd:(l.map nds).sum+(f.map fun p=>nds p.2).sum≤1000000000) (hln:l.length≤1000000000) (hfn:f.length≤1000000000)
 (IH1:∀ v∈l,∀ (cs:List Value) (p:List Nat) (u:World),VRep u B v cs p→Calls Tryz.prog 55 #[.agg cs.toArray] u (LQ u B v p))
 (IH2:∀ q∈f,∀ (cs:List Value) (p:List Nat) (u:World),VRep u B q.2 cs p→Calls Tryz.prog 55 #[.agg cs.toArray] u (LQ u B q.2 p)) :
 Calls Tryz.prog 55 #[.agg #[.int .i64 k,.bool t,.bool dn,.string dg,.int .i64 dx,.string x,.slice oa l.length c,.slice ob f.length c']] u fun e u'=>∃ (oo:Option Addr) (cc:Nat) (L:List Value),e=.returned (.slice oo L.length cc)∧L.length=1+(l.map nds).sum+(f.map fun p=>nds p.2).sum∧u'.ownsRow u.heap.size 24 1 (.slice oo L.length cc) L.length L∧LR u B L (own (.slice oa l.length c)++ps.flatten++qs.flatten)∧Below u.heap.size u u':=by
 have H8:Hid (∀ c∈css,c.length=8):=fun cc hc=>by
  obtain ⟨j,hj⟩:=List.getElem?_of_mem hc;obtain ⟨hlt,_⟩:=List.getElem?_eq_some_iff.1 hj;exact (hle j _ cc _ (List.getElem?_eq_getElem (by omega)) hj (List.getElem?_eq_getElem (by omega))).vr.len
 have H9:Hid (∀ c∈gss,c.length=8):=fun cc hc=>by
  obtain ⟨j,hj⟩:=List.getElem?_of_mem hc;obtain ⟨hlt,_⟩:=List.getElem?_eq_some_iff.1 hj;exact (hfe j f[j].1 f[j].2 cc _ (List.getElem?_eq_getElem (by omega)) hj (List.getElem?_eq_getElem (by omega))).vr.len
 have HL:=hide hl;have HF:=hide hf;have HE:=hide hle;have HG:=hide hfe;have I1:=hide IH1;have I2:=hide IH2;have B1:=hide (ss.one_box u [.int .i64 k,.bool t,.bool dn,.string dg,.int .i64 dx,.string x,.slice oa l.length c,.slice ob f.length c']);clear hl hf hle hfe IH1 IH2
 go_enter Tryz.func55,Tryz.ntmps55
 go_upto_region 1 with fail;obtain ⟨q0,q1,q2⟩:=uh B1 _ rfl;generalize u.alloc (.cells [.int .i64 k,.bool t,.bool dn,.string dg,.int .i64 dx,.string x,.slice oa l.length c,.slice ob f.length c'].toArray 27)=W at *;obtain ⟨y0,y1,y2,y3,y4,y5,y6,y7⟩:=q0.cells;have HX:=hide q0;have HBW:=hide q1;have HZ:=hide q2;have R0:Hid ((W.alloc (.cells #[.slice oa l.length c] 24)).ownsRow (u.heap.size+1) 24 1 (.slice (some ⟨W.heap.size,0,none⟩) 1 1) 1 [.slice oa l.length c]):=mm.own_new W (u.heap.size+1) 24 1 1 #[.slice oa l.length c] (by omega) rfl (by unfold maxLen;omega)
 have L0:Hid (LR u B [.slice oa l.length c] (own (.slice oa l.length c))):=⟨fun y hy=>by
  simp only [List.mem_cons,List.not_mem_nil,or_false] at hy;subst hy
  exact ⟨css,⟨by rw [h1];exact uh HL,uh H8⟩,by rw [h1];omega⟩,by simp⟩
 have BW0:Hid (Below (u.heap.size+1) W (W.alloc (.cells #[.slice oa l.length c] 24))):=(Below.refl _ W).alloc (by omega) _;clear q0 q1 q2 B1;go_upto_region 2 with fail;generalize W.alloc (.cells #[.slice oa l.length c] 24)=W1 at *;clear y0 y1 y2 y3 y4 y5 y6 y7;go_wp2
 go_loopw [3,4] (fun sv iv wr=>∃ (i:Nat) (L:List Value),i≤l.length∧iv=.int .i64 (i:Int)∧Hid (wr.ownsRow (u.heap.size+1) 24 1 sv L.length L)∧Hid (L.length=1+((l.take i).map nds).sum)∧Hid (LR u B L (own (.slice oa l.length c)++(ps.take i).flatten))∧Hid (Below (u.heap.size+1) W wr)) (fun _ iv _=>l.length - (intOf iv).toNat)
 case atStart=>exact ⟨0,[.slice oa l.length c],by omega,rfl,R0,by simp [Hid],by simpa using L0,BW0⟩
 case round =>
  obtain ⟨i,L,hi,rfl,HO,HLL,HR,HB⟩:=hrel;have hb:=uh HB;have hz:=uh HZ;have hbu:Below u.heap.size u wr:=(uh HBW).trans (hb.mono (by omega));have hzr:u.heap.size+1≤wr.heap.size:=by have:=hb.size;omega
  obtain ⟨y0,y1,y2,y3,y4,y5,y6,y7⟩:=((uh HX).keep hb (by omega)).cells;clear R0 L0 BW0
  by_cases hc:i < l.length
  · obtain ⟨v,hv⟩:∃ v,l[i]?=some v:=⟨_,List.getElem?_eq_getElem hc⟩
    obtain ⟨cc,hcc⟩:∃ c,css[i]?=some c:=⟨_,List.getElem?_eq_getElem (by omega)⟩;obtain ⟨pp,hpp⟩:∃ c,ps[i]?=some c:=⟨_,List.getElem?_eq_getElem (by omega)⟩;have vA:=uh HE i v cc pp hv hcc hpp;obtain ⟨kk,tt,ng,dg2,ex2,xx,c1,m1,k1,c2,m2,k2,rfl⟩:=vA.form;obtain ⟨a,c'',e,_,_,hat0⟩:=(mm.own_sv (mm.row_below (uh HL) hbu (Nat.le_refl _))).some (by omega);simp only [Value.slice.injEq] at e;obtain ⟨rfl,_,rfl⟩:=e;obtain ⟨x0,x1,x2,x3,x4,x5,x6,x7⟩:=cells8 (sv_at (uh H8) hat0 hcc);generalize ha:a.add (i*8)=ad at *;have hi1:(i:Int) < (l.length:Int):=by omega
    have hi0:(0:Int)≤(i:Int):=by omega
    have CI:=hide (uh I1 v (List.mem_of_getElem? hv) _ pp wr (vA.keep fun b hb'=>hbu.block b (vA.ge b hb').2));have hsum:((l.take (i+1)).map nds).sum=((l.take i).map nds).sum+nds v:=by rw [take_succ' hv,List.map_append,List.sum_append_nat];simp
    have hle2:((l.take (i+1)).map nds).sum≤(l.map nds).sum:=by
     have:=sum_take_le (l.map nds) (i+1)
     rwa [← List.map_take] at this
    have HSUM:=hide hsum;have HLE2:=hide hle2;have HPG:=hide (fun b (hb':b∈pp)=>hbu.block b (vA.ge b hb').2);have HTK:Hid (ps.take (i+1)=ps.take i++[pp]):=take_succ' hpp;clear hat0 hcc hpp vA hv hsum hle2 hz hb hbu
    go_wp2_with (first
     | (go_at_call 55;refine (uh CI).mono ?_;rintro e u2 ⟨oo,c2',M,rfl,hM,rM,lM,bM⟩
        have HM:=hide hM;have hbd:Hid (L.length+M.length≤2000000000):=by refine hide ?_;have:=uh HLL;have:=uh HSUM;have:=uh HLE2;omega
        clear hM;have O1:=hide (mm.row_below (uh HO) bM (Nat.le_refl _));have SM:=hide (mm.own_sv rM);have LM:=hide (lM.back (u:=u) (fun b hb'=>(uh HPG b hb').symm));have M1:=hide lM.one;have BM:=hide bM;have hsz:Hid (u.heap.size+1≤u2.heap.size):=Nat.le_trans hzr bM.size
        clear rM lM bM)
     | (at_builtin;refine mm.wpList_append_sv (P:=Tryz.prog) rfl _ _ 33 rfl (u.heap.size+1) 24 _ 1 24 undW infoW rfl (by decide) _ _ L.length M.length L M rfl rfl (uh O1) (uh SM) (uh M1) (by have:=uh hbd;unfold maxLen;omega) (by have:=uh hbd;omega) (uh hsz) ?_
        intro v' w4 hr hg _))
    have hbe:Below (u.heap.size+1) wr w4:=mm.row_bl (uh O1) hg ((uh BM).mono hzr) (Nat.le_refl _) (uh hsz);refine ⟨⟨i+1,L++M,by omega,by go_num,by rw [List.length_append];exact hr,?_,?_,(uh HB).trans hbe⟩,by simp [intOf];omega⟩
    · refine hide ?_
      rw [List.length_append,uh HSUM,uh HM,uh HLL];omega
    · refine hide ?_
      rw [uh HTK,List.flatten_append,← List.append_assoc];simpa using (uh HR).add (uh LM)
  · obtain rfl:i=l.length:=by omega
    have hno:¬ (l.length:Int) < (l.length:Int):=by omega
    rw [List.take_of_length_le (Nat.le_refl _)] at HLL;rw [List.take_of_length_le (by omega)] at HR;clear hb hbu hz hzr;go_wp2
    go_loopw [3,5] (fun sv iv wr=>∃ (i:Nat) (L:List Value),i≤f.length∧iv=.int .i64 (i:Int)∧Hid (wr.ownsRow (u.heap.size+1) 24 1 sv L.length L)∧Hid (L.length=1+(l.map nds).sum+((f.take i).map fun p=>nds p.2).sum)∧Hid (LR u B L (own (.slice oa l.length c)++ps.flatten++(qs.take i).flatten))∧Hid (Below (u.heap.size+1) W wr)) (fun _ iv _=>f.length - (intOf iv).toNat)
    case atStart=>exact ⟨0,L,by omega,rfl,HO,by simpa [Hid] using HLL,by simpa using HR,HB⟩
    case round =>
     clear HO HLL HR HB y0 y1 y2 y3 y4 y5 y6 y7;obtain ⟨i,L,hi,rfl,HO,HLL,HR,HB⟩:=hrel;have hb:=uh HB;have hbu:Below u.heap.size u wr:=(uh HBW).trans (hb.mono (by omega));have hzr:u.heap.size+1≤wr.heap.size:=by have:=hb.size;have:=uh HZ;omega
     obtain ⟨y0,y1,y2,y3,y4,y5,y6,y7⟩:=((uh HX).keep hb (by omega)).cells
     by_cases hc:i < f.length
     · obtain ⟨v,hv⟩:∃ v,f[i]?=some v:=⟨_,List.getElem?_eq_getElem hc⟩
       obtain ⟨cc,hcc⟩:∃ c,gss[i]?=some c:=⟨_,List.getElem?_eq_getElem (by omega)⟩;obtain ⟨pp,hpp⟩:∃ c,qs[i]?=some c:=⟨_,List.getElem?_eq_getElem (by omega)⟩;have vA:=uh HG i v.1 v.2 cc pp hv hcc hpp;obtain ⟨kk,tt,ng,dg2,ex2,xx,c1,m1,k1,c2,m2,k2,rfl⟩:=vA.form;obtain ⟨a,c'',e,_,_,hat0⟩:=(mm.own_sv (mm.row_below (uh HF) hbu (Nat.le_refl _))).some (by omega);simp only [Value.slice.injEq] at e;obtain ⟨rfl,_,rfl⟩:=e
       have hat:∀ (j:Nat) (u:Value),[.string v.1,.int .i64 kk,.bool tt,.bool ng,.string dg2,.int .i64 ex2,.string xx,.slice c1 m1 k1,.slice c2 m2 k2][j]?=some u→wr.cell? ((a.add (i*9)).add j)=some u:=by
        intro j u hu;have hj:j < 9:=(List.getElem?_eq_some_iff.1 hu).1;rw [mm.add_add];exact hat0 _ u (by rw [fcs_at (uh H9) hv hcc hj];exact hu)
       obtain ⟨xn,x0,x1,x2,x3,x4,x5,x6,x7⟩:=cells9 hat;generalize ha:a.add (i*9)=ad at *;have hi1:(i:Int) < (f.length:Int):=by omega
       have hi0:(0:Int)≤(i:Int):=by omega
       have CI:=hide (uh I2 v (List.mem_of_getElem? hv) _ pp wr (vA.keep fun b hb'=>hbu.block b (vA.ge b hb').2));have hsum:((f.take (i+1)).map fun p=>nds p.2).sum=((f.take i).map fun p=>nds p.2).sum+nds v.2:=by rw [take_succ' hv,List.map_append,List.sum_append_nat];simp
       have hle2:((f.take (i+1)).map fun p=>nds p.2).sum≤(f.map fun p=>nds p.2).sum:=by
        have:=sum_take_le (f.map fun p=>nds p.2) (i+1)
        rwa [← List.map_take] at this
       have HSUM:=hide hsum;have HLE2:=hide hle2;have HPG:=hide (fun b (hb':b∈pp)=>hbu.block b (vA.ge b hb').2);have HTK:Hid (qs.take (i+1)=qs.take i++[pp]):=take_succ' hpp;clear hat hat0 hcc hpp vA hv hsum hle2 hb hbu
       go_wp2_with (first
        | (go_at_call 55;refine (uh CI).mono ?_;rintro e u2 ⟨oo,c2',M,rfl,hM,rM,lM,bM⟩
           have HM:=hide hM;have hbd:Hid (L.length+M.length≤2000000000):=by refine hide ?_;have:=uh HLL;have:=uh HSUM;have:=uh HLE2;omega
           clear hM;have O1:=hide (mm.row_below (uh HO) bM (Nat.le_refl _));have SM:=hide (mm.own_sv rM);have LM:=hide (lM.back (u:=u) (fun b hb'=>(uh HPG b hb').symm));have M1:=hide lM.one;have BM:=hide bM;have hsz:Hid (u.heap.size+1≤u2.heap.size):=Nat.le_trans hzr bM.size
           clear rM lM bM)
        | (at_builtin;refine mm.wpList_append_sv (P:=Tryz.prog) rfl _ _ 33 rfl (u.heap.size+1) 24 _ 1 24 undW infoW rfl (by decide) _ _ L.length M.length L M rfl rfl (uh O1) (uh SM) (uh M1) (by have:=uh hbd;unfold maxLen;omega) (by have:=uh hbd;omega) (uh hsz) ?_
           intro v' w4 hr hg _))
       have hbe:Below (u.heap.size+1) wr w4:=mm.row_bl (uh O1) hg ((uh BM).mono hzr) (Nat.le_refl _) (uh hsz);refine ⟨⟨i+1,L++M,by omega,by go_num,by rw [List.length_append];exact hr,?_,?_,(uh HB).trans hbe⟩,by simp [intOf];omega⟩
       · refine hide ?_
         rw [List.length_append,uh HSUM,uh HM,uh HLL];omega
       · refine hide ?_
         rw [uh HTK,List.flatten_append,← List.append_assoc];simpa using (uh HR).add (uh LM)
     · obtain rfl:i=f.length:=by omega
       have hno2:¬ (f.length:Int) < (f.length:Int):=by omega
       rw [List.take_of_length_le (Nat.le_refl _)] at HLL;rw [List.take_of_length_le (by omega)] at HR;obtain ⟨oo,co,eo,_⟩:=mm.SV.form (mm.own_sv (uh HO));subst eo;clear hb;go_wp2;go_ret;exact ⟨oo,co,L,rfl,uh HLL,owns_base (uh HO) (Nat.le_succ _),by first|exact uh HR|(rw [← List.append_assoc];exact uh HR),hbu⟩
theorem lists_any (n:Nat):∀ (v:JT) (cs:List Value) (p:List Nat) (B:Nat) (u:World),SizeOf.sizeOf v < n→nds v≤1000000000→VRep u B v cs p→Calls Tryz.prog 55 #[.agg cs.toArray] u (LQ u B v p):=by
 induction n with
 | zero=>intro v cs p B u h;omega
 | succ n IH =>
   intro v cs p B u hn hnd h
   cases h with
   | @mk k t d x l f lv fv css gss ps qs hl hf h1 h2 h3 h4 hle hfe =>
     obtain ⟨oa,c,rfl,_⟩:=mm.SV.form (mm.own_sv hl);obtain ⟨ob,c',rfl,_⟩:=mm.SV.form (mm.own_sv hf);have hnd':=hnd;rw [nds_mk] at hnd;have hll:l.length≤(l.map nds).sum:=len_sum l nds nds_pos;have hfl:f.length≤(f.map fun p=>nds p.2).sum:=len_sum f (fun p=>nds p.2) (fun p=>nds_pos p.2)
     refine (lists_step k t d.neg d.dg d.ex x l f oa ob c c' css gss ps qs B u hl hf h1 h2 h3 h4 hle hfe (by omega) (by omega) (by omega)
      (fun v hv cs p u hr=>IH v cs p B u (by have:=sz_l (k:=k) (t:=t) (d:=d) (x:=x) (f:=f) hv;omega) (by have:=mem_sum nds hv;omega) hr)
      (fun q hq cs p u hr=>IH q.2 cs p B u (by have:=sz_f (k:=k) (t:=t) (d:=d) (x:=x) (l:=l) hq;omega) (by have:=mem_sum (fun p:ByteArray × JT=>nds p.2) hq;omega) hr)).mono ?_
     rintro e u' ⟨oo,cc,L,rfl,hL,hr,hlr,hb⟩;refine ⟨oo,cc,L,rfl,by rw [nds_mk];exact hL,hr,⟨hlr.row,hlr.sub.trans ?_⟩,hb⟩;simp only [List.append_assoc];exact (List.Sublist.refl (own (.slice oa l.length c))).append (List.sublist_append_right _ _)
end Go.Proofs.YthakglomacijgaaGreatDoor.apv
namespace Go.Proofs.YthakglomacijgaaGreatDoor.apf
open Go.RowKit Go.Proofs.YthakglomacijgaaGreatDoor.ap Go.Proofs.YthakglomacijgaaGreatDoor.rd
open Go.Proofs.YthakglomacijgaaGreatDoor.mm (row_keep row_lt)
structure LR (u:World) (B:Nat) (L:List Value) (bl:List Nat):Prop where
 row:∀ x∈L,∃ l,OB u B x l∧l.length≤1000000000
 sub:(L.flatMap own).Sublist bl
theorem LR.add {u:World}{B:Nat}{L M:List Value}{bl bm:List Nat} (h:LR u B L bl) (k:LR u B M bm):LR u B (L++M) (bl++bm) :=
 ⟨fun x hx=>(List.mem_append.1 hx).elim (h.row x) (k.row x),by rw [List.flatMap_append];exact h.sub.append k.sub⟩
theorem LR.back {u w:World}{B:Nat}{L:List Value}{bl:List Nat} (h:LR w B L bl) (hk:∀ b∈bl,u.heap[b]?=w.heap[b]?):LR u B L bl:=by
 refine ⟨fun x hx=>?_,h.sub⟩;obtain ⟨l,hl,hn⟩:=h.row x hx;refine ⟨l,hl.kp (fun k hkx=>hk k (h.sub.subset (List.mem_flatMap.2 ⟨x,hx,?_⟩))),hn⟩;simp [own,hkx]
theorem LR.one {u:World}{B:Nat}{L:List Value}{bl:List Nat} (h:LR u B L bl):∀ x∈L,x.oneCell'=true:=by
 intro x hx;obtain ⟨l,hl,_⟩:=h.row x hx;obtain ⟨oa,c,rfl⟩:=hl.form;rfl
def LQ (u:World) (B:Nat) (v:JT) (p:List Nat) (e:Ending) (u':World):Prop :=
 ∃ (oa:Option Addr) (c:Nat) (L:List Value),e=.returned (.slice oa L.length c)∧L.length=nds v∧u'.ownsRow u.heap.size 25 1 (.slice oa L.length c) L.length L∧LR u B L p∧Below u.heap.size u u'
set_option maxRecDepth 100000 in
set_option maxHeartbeats 6400000 in
theorem lists_step (k:Int) (t:Bool) (dn:Bool) (dg:ByteArray) (dx:Int) (x:ByteArray) (l:List JT) (f:List (ByteArray × JT)) (oa ob:Option Addr) (c c':Nat) (css gss:List (List Value)) (ps qs:List (List Nat)) (B:Nat) (u:World)
 (hl:u.ownsRow B 27 8 (.slice oa l.length c) l.length css.flatten) (hf:u.ownsRow B 62 9 (.slice ob f.length c') f.length (fcs f gss)) (h1:css.length=l.length) (h2:ps.length=l.length) (h3:gss.length=f.length) (h4:qs.length=f.length)
 (hle:∀ (i:Nat) (v:JT) (c:List Value) (p:List Nat),l[i]?=some v→css[i]?=some c→ps[i]?=some p→VRep u B v c p)
 (hfe:∀ (i:Nat) (n:ByteArray) (v:JT) (c:List Value) (p:List Nat),f[i]?=some (n,v)→gss[i]?=some c→qs[i]?=some p→VRep u B v c p)
 (hnd:(l.map nds).sum+(f.map fun p=>nds p.2).sum≤1000000000) (hln:l.length≤1000000000) (hfn:f.length≤1000000000)
 (IH1:∀ v∈l,∀ (cs:List Value) (p:List Nat) (u:World),VRep u B v cs p→Calls Tryz.prog 56 #[.agg cs.toArray] u (LQ u B v p))
 (IH2:∀ q∈f,∀ (cs:List Value) (p:List Nat) (u:World),VRep u B q.2 cs p→Calls Tryz.prog 56 #[.agg cs.toArray] u (LQ u B q.2 p)) :
 Calls Tryz.prog 56 #[.agg #[.int .i64 k,.bool t,.bool dn,.string dg,.int .i64 dx,.string x,.slice oa l.length c,.slice ob f.length c']] u fun e u'=>∃ (oo:Option Addr) (cc:Nat) (L:List Value),e=.returned (.slice oo L.length cc)∧L.length=1+(l.map nds).sum+(f.map fun p=>nds p.2).sum∧u'.ownsRow u.heap.size 25 1 (.slice oo L.length cc) L.length L∧LR u B L (own (.slice ob f.length c')++ps.flatten++qs.flatten)∧Below u.heap.size u u':=by
 have H8:Hid (∀ c∈css,c.length=8):=fun cc hc=>by
  obtain ⟨j,hj⟩:=List.getElem?_of_mem hc;obtain ⟨hlt,_⟩:=List.getElem?_eq_some_iff.1 hj;exact (hle j _ cc _ (List.getElem?_eq_getElem (by omega)) hj (List.getElem?_eq_getElem (by omega))).vr.len
 have H9:Hid (∀ c∈gss,c.length=8):=fun cc hc=>by
  obtain ⟨j,hj⟩:=List.getElem?_of_mem hc;obtain ⟨hlt,_⟩:=List.getElem?_eq_some_iff.1 hj;exact (hfe j f[j].1 f[j].2 cc _ (List.getElem?_eq_getElem (by omega)) hj (List.getElem?_eq_getElem (by omega))).vr.len
 have HL:=hide hl;have HF:=hide hf;have HE:=hide hle;have HG:=hide hfe;have I1:=hide IH1;have I2:=hide IH2;have B1:=hide (ss.one_box u [.int .i64 k,.bool t,.bool dn,.string dg,.int .i64 dx,.string x,.slice oa l.length c,.slice ob f.length c']);clear hl hf hle hfe IH1 IH2
 go_enter Tryz.func56,Tryz.ntmps56
 go_upto_region 1 with fail;obtain ⟨q0,q1,q2⟩:=uh B1 _ rfl;generalize u.alloc (.cells [.int .i64 k,.bool t,.bool dn,.string dg,.int .i64 dx,.string x,.slice oa l.length c,.slice ob f.length c'].toArray 27)=W at *;obtain ⟨y0,y1,y2,y3,y4,y5,y6,y7⟩:=q0.cells;have HX:=hide q0;have HBW:=hide q1;have HZ:=hide q2;have R0:Hid ((W.alloc (.cells #[.slice ob f.length c'] 25)).ownsRow (u.heap.size+1) 25 1 (.slice (some ⟨W.heap.size,0,none⟩) 1 1) 1 [.slice ob f.length c']):=mm.own_new W (u.heap.size+1) 25 1 1 #[.slice ob f.length c'] (by omega) rfl (by unfold maxLen;omega);have zlen:(List.zipWith (fun (p:ByteArray × JT) c=>Value.string p.1::c) f gss).length=f.length:=by rw [List.length_zipWith,h3];omega
 have zsz:∀ c∈List.zipWith (fun (p:ByteArray × JT) c=>Value.string p.1::c) f gss,c.length=9:=by
  intro c hc;obtain ⟨j,hj⟩:=List.getElem?_of_mem hc;rw [List.getElem?_zipWith] at hj
  cases ha:f[j]? with
  | none=>rw [ha] at hj;simp at hj
  | some q =>
    cases hb:gss[j]? with
    | none=>rw [ha,hb] at hj;simp at hj
    | some cc =>
      rw [ha,hb] at hj;simp only [Option.some.injEq] at hj;rw [← hj,List.length_cons,uh H9 cc (List.mem_of_getElem? hb)]
 have L0:Hid (LR u B [.slice ob f.length c'] (own (.slice ob f.length c'))):=⟨fun y hy=>by
  simp only [List.mem_cons,List.not_mem_nil,or_false] at hy;subst hy
  exact ⟨(List.zipWith (fun (p:ByteArray × JT) c=>Value.string p.1::c) f gss),⟨by rw [zlen];exact uh HF,zsz⟩,by rw [zlen];omega⟩,by simp⟩
 have BW0:Hid (Below (u.heap.size+1) W (W.alloc (.cells #[.slice ob f.length c'] 25))):=(Below.refl _ W).alloc (by omega) _;clear zlen zsz;clear q0 q1 q2 B1;go_upto_region 2 with fail;generalize W.alloc (.cells #[.slice ob f.length c'] 25)=W1 at *;clear y0 y1 y2 y3 y4 y5 y6 y7;go_wp2
 go_loopw [3,4] (fun sv iv wr=>∃ (i:Nat) (L:List Value),i≤l.length∧iv=.int .i64 (i:Int)∧Hid (wr.ownsRow (u.heap.size+1) 25 1 sv L.length L)∧Hid (L.length=1+((l.take i).map nds).sum)∧Hid (LR u B L (own (.slice ob f.length c')++(ps.take i).flatten))∧Hid (Below (u.heap.size+1) W wr)) (fun _ iv _=>l.length - (intOf iv).toNat)
 case atStart=>exact ⟨0,[.slice ob f.length c'],by omega,rfl,R0,by simp [Hid],by simpa using L0,BW0⟩
 case round =>
  obtain ⟨i,L,hi,rfl,HO,HLL,HR,HB⟩:=hrel;have hb:=uh HB;have hz:=uh HZ;have hbu:Below u.heap.size u wr:=(uh HBW).trans (hb.mono (by omega));have hzr:u.heap.size+1≤wr.heap.size:=by have:=hb.size;omega
  obtain ⟨y0,y1,y2,y3,y4,y5,y6,y7⟩:=((uh HX).keep hb (by omega)).cells;clear R0 L0 BW0
  by_cases hc:i < l.length
  · obtain ⟨v,hv⟩:∃ v,l[i]?=some v:=⟨_,List.getElem?_eq_getElem hc⟩
    obtain ⟨cc,hcc⟩:∃ c,css[i]?=some c:=⟨_,List.getElem?_eq_getElem (by omega)⟩;obtain ⟨pp,hpp⟩:∃ c,ps[i]?=some c:=⟨_,List.getElem?_eq_getElem (by omega)⟩;have vA:=uh HE i v cc pp hv hcc hpp;obtain ⟨kk,tt,ng,dg2,ex2,xx,c1,m1,k1,c2,m2,k2,rfl⟩:=vA.form;obtain ⟨a,c'',e,_,_,hat0⟩:=(mm.own_sv (mm.row_below (uh HL) hbu (Nat.le_refl _))).some (by omega);simp only [Value.slice.injEq] at e;obtain ⟨rfl,_,rfl⟩:=e;obtain ⟨x0,x1,x2,x3,x4,x5,x6,x7⟩:=cells8 (sv_at (uh H8) hat0 hcc);generalize ha:a.add (i*8)=ad at *;have hi1:(i:Int) < (l.length:Int):=by omega
    have hi0:(0:Int)≤(i:Int):=by omega
    have CI:=hide (uh I1 v (List.mem_of_getElem? hv) _ pp wr (vA.keep fun b hb'=>hbu.block b (vA.ge b hb').2));have hsum:((l.take (i+1)).map nds).sum=((l.take i).map nds).sum+nds v:=by rw [take_succ' hv,List.map_append,List.sum_append_nat];simp
    have hle2:((l.take (i+1)).map nds).sum≤(l.map nds).sum:=by
     have:=sum_take_le (l.map nds) (i+1)
     rwa [← List.map_take] at this
    have HSUM:=hide hsum;have HLE2:=hide hle2;have HPG:=hide (fun b (hb':b∈pp)=>hbu.block b (vA.ge b hb').2);have HTK:Hid (ps.take (i+1)=ps.take i++[pp]):=take_succ' hpp;clear hat0 hcc hpp vA hv hsum hle2 hz hb hbu
    go_wp2_with (first
     | (go_at_call 56;refine (uh CI).mono ?_;rintro e u2 ⟨oo,c2',M,rfl,hM,rM,lM,bM⟩
        have HM:=hide hM;have hbd:Hid (L.length+M.length≤2000000000):=by refine hide ?_;have:=uh HLL;have:=uh HSUM;have:=uh HLE2;omega
        clear hM;have O1:=hide (mm.row_below (uh HO) bM (Nat.le_refl _));have SM:=hide (mm.own_sv rM);have LM:=hide (lM.back (u:=u) (fun b hb'=>(uh HPG b hb').symm));have M1:=hide lM.one;have BM:=hide bM;have hsz:Hid (u.heap.size+1≤u2.heap.size):=Nat.le_trans hzr bM.size
        clear rM lM bM)
     | (at_builtin;refine mm.wpList_append_sv (P:=Tryz.prog) rfl _ _ 34 rfl (u.heap.size+1) 25 _ 1 24 undW infoW rfl (by decide) _ _ L.length M.length L M rfl rfl (uh O1) (uh SM) (uh M1) (by have:=uh hbd;unfold maxLen;omega) (by have:=uh hbd;omega) (uh hsz) ?_
        intro v' w4 hr hg _))
    have hbe:Below (u.heap.size+1) wr w4:=mm.row_bl (uh O1) hg ((uh BM).mono hzr) (Nat.le_refl _) (uh hsz);refine ⟨⟨i+1,L++M,by omega,by go_num,by rw [List.length_append];exact hr,?_,?_,(uh HB).trans hbe⟩,by simp [intOf];omega⟩
    · refine hide ?_
      rw [List.length_append,uh HSUM,uh HM,uh HLL];omega
    · refine hide ?_
      rw [uh HTK,List.flatten_append,← List.append_assoc];simpa using (uh HR).add (uh LM)
  · obtain rfl:i=l.length:=by omega
    have hno:¬ (l.length:Int) < (l.length:Int):=by omega
    rw [List.take_of_length_le (Nat.le_refl _)] at HLL;rw [List.take_of_length_le (by omega)] at HR;clear hb hbu hz hzr;go_wp2
    go_loopw [3,5] (fun sv iv wr=>∃ (i:Nat) (L:List Value),i≤f.length∧iv=.int .i64 (i:Int)∧Hid (wr.ownsRow (u.heap.size+1) 25 1 sv L.length L)∧Hid (L.length=1+(l.map nds).sum+((f.take i).map fun p=>nds p.2).sum)∧Hid (LR u B L (own (.slice ob f.length c')++ps.flatten++(qs.take i).flatten))∧Hid (Below (u.heap.size+1) W wr)) (fun _ iv _=>f.length - (intOf iv).toNat)
    case atStart=>exact ⟨0,L,by omega,rfl,HO,by simpa [Hid] using HLL,by simpa using HR,HB⟩
    case round =>
     clear HO HLL HR HB y0 y1 y2 y3 y4 y5 y6 y7;obtain ⟨i,L,hi,rfl,HO,HLL,HR,HB⟩:=hrel;have hb:=uh HB;have hbu:Below u.heap.size u wr:=(uh HBW).trans (hb.mono (by omega));have hzr:u.heap.size+1≤wr.heap.size:=by have:=hb.size;have:=uh HZ;omega
     obtain ⟨y0,y1,y2,y3,y4,y5,y6,y7⟩:=((uh HX).keep hb (by omega)).cells
     by_cases hc:i < f.length
     · obtain ⟨v,hv⟩:∃ v,f[i]?=some v:=⟨_,List.getElem?_eq_getElem hc⟩
       obtain ⟨cc,hcc⟩:∃ c,gss[i]?=some c:=⟨_,List.getElem?_eq_getElem (by omega)⟩;obtain ⟨pp,hpp⟩:∃ c,qs[i]?=some c:=⟨_,List.getElem?_eq_getElem (by omega)⟩;have vA:=uh HG i v.1 v.2 cc pp hv hcc hpp;obtain ⟨kk,tt,ng,dg2,ex2,xx,c1,m1,k1,c2,m2,k2,rfl⟩:=vA.form;obtain ⟨a,c'',e,_,_,hat0⟩:=(mm.own_sv (mm.row_below (uh HF) hbu (Nat.le_refl _))).some (by omega);simp only [Value.slice.injEq] at e;obtain ⟨rfl,_,rfl⟩:=e
       have hat:∀ (j:Nat) (u:Value),[.string v.1,.int .i64 kk,.bool tt,.bool ng,.string dg2,.int .i64 ex2,.string xx,.slice c1 m1 k1,.slice c2 m2 k2][j]?=some u→wr.cell? ((a.add (i*9)).add j)=some u:=by
        intro j u hu;have hj:j < 9:=(List.getElem?_eq_some_iff.1 hu).1;rw [mm.add_add];exact hat0 _ u (by rw [fcs_at (uh H9) hv hcc hj];exact hu)
       obtain ⟨xn,x0,x1,x2,x3,x4,x5,x6,x7⟩:=cells9 hat;generalize ha:a.add (i*9)=ad at *;have hi1:(i:Int) < (f.length:Int):=by omega
       have hi0:(0:Int)≤(i:Int):=by omega
       have CI:=hide (uh I2 v (List.mem_of_getElem? hv) _ pp wr (vA.keep fun b hb'=>hbu.block b (vA.ge b hb').2));have hsum:((f.take (i+1)).map fun p=>nds p.2).sum=((f.take i).map fun p=>nds p.2).sum+nds v.2:=by rw [take_succ' hv,List.map_append,List.sum_append_nat];simp
       have hle2:((f.take (i+1)).map fun p=>nds p.2).sum≤(f.map fun p=>nds p.2).sum:=by
        have:=sum_take_le (f.map fun p=>nds p.2) (i+1)
        rwa [← List.map_take] at this
       have HSUM:=hide hsum;have HLE2:=hide hle2;have HPG:=hide (fun b (hb':b∈pp)=>hbu.block b (vA.ge b hb').2);have HTK:Hid (qs.take (i+1)=qs.take i++[pp]):=take_succ' hpp;clear hat hat0 hcc hpp vA hv hsum hle2 hb hbu
       go_wp2_with (first
        | (go_at_call 56;refine (uh CI).mono ?_;rintro e u2 ⟨oo,c2',M,rfl,hM,rM,lM,bM⟩
           have HM:=hide hM;have hbd:Hid (L.length+M.length≤2000000000):=by refine hide ?_;have:=uh HLL;have:=uh HSUM;have:=uh HLE2;omega
           clear hM;have O1:=hide (mm.row_below (uh HO) bM (Nat.le_refl _));have SM:=hide (mm.own_sv rM);have LM:=hide (lM.back (u:=u) (fun b hb'=>(uh HPG b hb').symm));have M1:=hide lM.one;have BM:=hide bM;have hsz:Hid (u.heap.size+1≤u2.heap.size):=Nat.le_trans hzr bM.size
           clear rM lM bM)
        | (at_builtin;refine mm.wpList_append_sv (P:=Tryz.prog) rfl _ _ 34 rfl (u.heap.size+1) 25 _ 1 24 undW infoW rfl (by decide) _ _ L.length M.length L M rfl rfl (uh O1) (uh SM) (uh M1) (by have:=uh hbd;unfold maxLen;omega) (by have:=uh hbd;omega) (uh hsz) ?_
           intro v' w4 hr hg _))
       have hbe:Below (u.heap.size+1) wr w4:=mm.row_bl (uh O1) hg ((uh BM).mono hzr) (Nat.le_refl _) (uh hsz);refine ⟨⟨i+1,L++M,by omega,by go_num,by rw [List.length_append];exact hr,?_,?_,(uh HB).trans hbe⟩,by simp [intOf];omega⟩
       · refine hide ?_
         rw [List.length_append,uh HSUM,uh HM,uh HLL];omega
       · refine hide ?_
         rw [uh HTK,List.flatten_append,← List.append_assoc];simpa using (uh HR).add (uh LM)
     · obtain rfl:i=f.length:=by omega
       have hno2:¬ (f.length:Int) < (f.length:Int):=by omega
       rw [List.take_of_length_le (Nat.le_refl _)] at HLL;rw [List.take_of_length_le (by omega)] at HR;obtain ⟨oo,co,eo,_⟩:=mm.SV.form (mm.own_sv (uh HO));subst eo;clear hb;go_wp2;go_ret;exact ⟨oo,co,L,rfl,uh HLL,owns_base (uh HO) (Nat.le_succ _),by first|exact uh HR|(rw [← List.append_assoc];exact uh HR),hbu⟩
theorem lists_any (n:Nat):∀ (v:JT) (cs:List Value) (p:List Nat) (B:Nat) (u:World),SizeOf.sizeOf v < n→nds v≤1000000000→VRep u B v cs p→Calls Tryz.prog 56 #[.agg cs.toArray] u (LQ u B v p):=by
 induction n with
 | zero=>intro v cs p B u h;omega
 | succ n IH =>
   intro v cs p B u hn hnd h
   cases h with
   | @mk k t d x l f lv fv css gss ps qs hl hf h1 h2 h3 h4 hle hfe =>
     obtain ⟨oa,c,rfl,_⟩:=mm.SV.form (mm.own_sv hl);obtain ⟨ob,c',rfl,_⟩:=mm.SV.form (mm.own_sv hf);have hnd':=hnd;rw [nds_mk] at hnd;have hll:l.length≤(l.map nds).sum:=len_sum l nds nds_pos;have hfl:f.length≤(f.map fun p=>nds p.2).sum:=len_sum f (fun p=>nds p.2) (fun p=>nds_pos p.2)
     refine (lists_step k t d.neg d.dg d.ex x l f oa ob c c' css gss ps qs B u hl hf h1 h2 h3 h4 hle hfe (by omega) (by omega) (by omega)
      (fun v hv cs p u hr=>IH v cs p B u (by have:=sz_l (k:=k) (t:=t) (d:=d) (x:=x) (f:=f) hv;omega) (by have:=mem_sum nds hv;omega) hr)
      (fun q hq cs p u hr=>IH q.2 cs p B u (by have:=sz_f (k:=k) (t:=t) (d:=d) (x:=x) (l:=l) hq;omega) (by have:=mem_sum (fun p:ByteArray × JT=>nds p.2) hq;omega) hr)).mono ?_
     rintro e u' ⟨oo,cc,L,rfl,hL,hr,hlr,hb⟩;refine ⟨oo,cc,L,rfl,by rw [nds_mk];exact hL,hr,⟨hlr.row,hlr.sub.trans ?_⟩,hb⟩;simp only [List.append_assoc];exact (List.sublist_append_right _ _)
end Go.Proofs.YthakglomacijgaaGreatDoor.apf
namespace Go.Proofs.YthakglomacijgaaGreatDoor.rd
open Go.RowKit Go.Proofs.YthakglomacijgaaGreatDoor.ap
open Go.Proofs.YthakglomacijgaaGreatDoor.mm (row_keep row_lt)
theorem kinds {w:World}{B B' e e' s s' n m:Nat}{v v':Value}{xs ys:List Value} (h:w.ownsRow B e s v n xs) (h':w.ownsRow B' e' s' v' m ys) (he:e≠e'):∀ k,v.ownBlock=some k→v'.ownBlock≠some k:=by
 intro k hk hk';obtain ⟨_,⟨rfl,_⟩|⟨g1,cap1,cur1,rfl,_,hg1,_⟩⟩:=h
 · cases hk
 · obtain ⟨_,⟨rfl,_⟩|⟨g2,cap2,cur2,rfl,_,hg2,_⟩⟩:=h'
   · cases hk'
   · cases hk
     cases hk'
     rw [hg1] at hg2;simp only [Option.some.injEq,Obj.cells.injEq] at hg2;exact he hg2.2.1
theorem ds_of {L:List Value} (h:(L.flatMap own).Nodup) (i j:Nat) (x y:Value) (k:Nat) (hij:i≠j) (hx:L[i]?=some x) (hy:L[j]?=some y) (hk:x.ownBlock=some k):y.ownBlock≠some k:=by
 have key:∀ (L:List Value),(L.flatMap own).Nodup→∀ (i j:Nat),i < j→∀ x y k,L[i]?=some x→L[j]?=some y→x.ownBlock=some k→y.ownBlock≠some k:=by
  intro L
  induction L with
  | nil=>intro _ i j _ x y k hx;simp at hx
  | cons a L ih =>
    intro h i j hij x y k hx hy hk hk';rw [List.flatMap_cons,List.nodup_append] at h
    cases j with
    | zero=>omega
    | succ j =>
      rw [List.getElem?_cons_succ] at hy
      cases i with
      | zero =>
        simp only [List.getElem?_cons_zero,Option.some.injEq] at hx;subst hx;exact h.2.2 k (by simp [own,hk]) k (List.mem_flatMap.2 ⟨y,List.mem_of_getElem? hy,by simp [own,hk']⟩) rfl
      | succ i =>
        rw [List.getElem?_cons_succ] at hx;exact ih h.2.1 i j (by omega) x y k hx hy hk hk'
 intro hk'
 rcases Nat.lt_or_gt_of_ne hij with q|q
 · exact key L h i j q x y k hx hy hk hk'
 · exact key L h j i q y x k hy hx hk' hk
set_option maxRecDepth 100000 in
set_option maxHeartbeats 6400000 in
theorem rapart_any (vs:List JT) (css:List (List Value)) (ps:List (List Nat)) (oa:Option Addr) (c B:Nat) (u:World) (hsv:mm.SV u (.slice oa vs.length c) vs.length 8 css.flatten) (h1:css.length=vs.length) (h2:ps.length=vs.length)
 (hV:∀ (i:Nat) (v:JT) (x:List Value) (p:List Nat),vs[i]?=some v→css[i]?=some x→ps[i]?=some p→VRep u B v x p) (hnd:ps.flatten.Nodup) (hB:B≤u.heap.size) (hs:(vs.map nds).sum≤1000000000) :
 Calls Tryz.prog 25 #[.slice oa vs.length c] u fun e u'=>e=.returned (.bool true)∧Below B u u':=by
 have H8:Hid (∀ c∈css,c.length=8):=fun cc hc=>by
  obtain ⟨j,hj⟩:=List.getElem?_of_mem hc;obtain ⟨hlt,_⟩:=List.getElem?_eq_some_iff.1 hj;exact (hV j _ cc _ (List.getElem?_eq_getElem (by omega)) hj (List.getElem?_eq_getElem (by omega))).vr.len
 have hvl:vs.length≤1000000000:=Nat.le_trans (len_sum vs nds nds_pos) hs;have HS:=hide hsv;have HV:=hide hV;have HN:=hide hnd;clear hsv hV hnd
 go_enter Tryz.func25,Tryz.ntmps25
 go_wp2
 go_loopw [3,4,5] (fun s3 s4 iv wr=>∃ (i:Nat) (L M:List Value),i≤vs.length∧iv=.int .i64 (i:Int)∧Hid (wr.ownsRow u.heap.size 24 1 s3 L.length L)∧Hid (wr.ownsRow u.heap.size 25 1 s4 M.length M)∧Hid (L.length=((vs.take i).map nds).sum∧M.length=((vs.take i).map nds).sum)∧Hid (apv.LR u B L (ps.take i).flatten)∧Hid (apf.LR u B M (ps.take i).flatten)∧Hid (Below u.heap.size u wr)) (fun _ _ iv _=>vs.length - (intOf iv).toNat)
 case atStart=>exact ⟨0,[],[],by omega,rfl,World.ownsRow_nil _ _ _ _,World.ownsRow_nil _ _ _ _,by simp [Hid],⟨by simp,by simp⟩,⟨by simp,by simp⟩,Below.refl _ _⟩
 case round =>
  obtain ⟨i,L,M,hi,rfl,HL,HM,HLn,HRL,HRM,HB⟩:=hrel;have hbu:=uh HB
  by_cases hc:i < vs.length
  · obtain ⟨v,hv⟩:∃ v,vs[i]?=some v:=⟨_,List.getElem?_eq_getElem hc⟩
    obtain ⟨cc,hcc⟩:∃ c,css[i]?=some c:=⟨_,List.getElem?_eq_getElem (by omega)⟩;obtain ⟨pp,hpp⟩:∃ c,ps[i]?=some c:=⟨_,List.getElem?_eq_getElem (by omega)⟩;have vA:=uh HV i v cc pp hv hcc hpp;obtain ⟨kk,tt,ng,dg2,ex2,xx,c1,m1,k1,c2,m2,k2,rfl⟩:=vA.form;obtain ⟨a,c'',e,_,_,hat0⟩:=(uh HS).some (by omega);simp only [Value.slice.injEq] at e;obtain ⟨rfl,_,rfl⟩:=e;have HAT:=hide (sv_at (uh H8) hat0 hcc);obtain ⟨x0,x1,x2,x3,x4,x5,x6,x7⟩:=cells8 (fun j y hy=>kc hbu (uh HAT j y hy));generalize ha:a.add (i*8)=ad at *;have hi1:(i:Int) < (vs.length:Int):=by omega
    have hi0:(0:Int)≤(i:Int):=by omega
    have hsum:((vs.take (i+1)).map nds).sum=((vs.take i).map nds).sum+nds v:=by rw [take_succ' hv,List.map_append,List.sum_append_nat];simp
    have hle2:((vs.take (i+1)).map nds).sum≤(vs.map nds).sum:=by
     have:=sum_take_le (vs.map nds) (i+1)
     rwa [← List.map_take] at this
    have hnv:nds v≤1000000000:=by omega
    have CV:=hide (fun (w:World) (hw:Below u.heap.size u w)=>apv.lists_any _ v _ pp B w (Nat.lt_succ_self _) hnv (vA.keep fun b hb'=>hw.block b (vA.ge b hb').2));have CF:=hide (fun (w:World) (hw:Below u.heap.size u w)=>apf.lists_any _ v _ pp B w (Nat.lt_succ_self _) hnv (vA.keep fun b hb'=>hw.block b (vA.ge b hb').2));have HPG:=hide (fun (w:World) (hw:Below u.heap.size u w) b (hb':b∈pp)=>(hw.block b (vA.ge b hb').2).symm);have HTK:Hid (ps.take (i+1)=ps.take i++[pp]):=take_succ' hpp;have HSUM:=hide hsum;have HLE2:=hide hle2;have CV0:=hide (uh CV wr hbu);clear hat0 hcc hpp vA hv hsum hle2 hbu
    go_wp2_with (first
     | (go_at_call 55;refine (uh CV0).mono ?_;rintro e u2 ⟨oo,c2',L2,rfl,hM2,rM,lM,bM⟩
        have HM2:=hide hM2;have hbd:Hid (L.length+L2.length≤2000000000):=by refine hide ?_;have:=(uh HLn).1;have:=uh HSUM;have:=uh HLE2;omega
        clear hM2;have O1:=hide (mm.row_below (uh HL) bM (Nat.le_refl _));have SM:=hide (mm.own_sv rM);have LM:=hide (lM.back (u:=u) (uh HPG wr (uh HB)));have M1:=hide lM.one;have BM:=hide bM;have hsz:Hid (u.heap.size≤u2.heap.size):=Nat.le_trans (uh HB).size bM.size;have O2:=hide (mm.row_below (uh HM) bM (Nat.le_refl _))
        clear rM lM bM)
     | (at_builtin;refine mm.wpList_append_sv (P:=Tryz.prog) rfl _ _ 33 rfl u.heap.size 24 _ 1 24 apv.undW apv.infoW rfl (by decide) _ _ L.length L2.length L L2 rfl rfl (uh O1) (uh SM) (uh M1) (by have:=uh hbd;unfold maxLen;omega) (by have:=uh hbd;omega) (uh hsz) ?_
        intro v' w4 hr hg _;have hb4:Below u.heap.size u w4:=(uh HB).trans (mm.row_bl (uh O1) hg ((uh BM).mono (uh HB).size) (Nat.le_refl _) (uh hsz));have O3:=hide (mm.row_far (uh O2) hg (fun k hk q=>kinds (uh O1) (uh O2) (by decide) k q hk));have HR4:=hide hr;have HB4:=hide hb4;have CF0:=hide (uh CF w4 hb4);obtain ⟨x0,x1,x2,x3,x4,x5,x6,x7⟩:=cells8 (fun j y hy=>kc hb4 (uh HAT j y hy))
        clear hr hg hb4)
     | (go_at_call 56;refine (uh CF0).mono ?_;rintro e u5 ⟨oo5,c5,M2,rfl,hN2,rN,lN,bN⟩
        have HN2:=hide hN2;have hbd5:Hid (M.length+M2.length≤2000000000):=by refine hide ?_;have:=(uh HLn).2;have:=uh HSUM;have:=uh HLE2;omega
        clear hN2;have O5:=hide (mm.row_below (uh O3) bN (Nat.le_refl _));have SN:=hide (mm.own_sv rN);have LN:=hide (lN.back (u:=u) (uh HPG w4 (uh HB4)));have N1:=hide lN.one;have BN:=hide bN;have hsz5:Hid (u.heap.size≤u5.heap.size):=Nat.le_trans (uh HB4).size bN.size;have O6:=hide (mm.row_below (uh HR4) bN (Nat.le_refl _))
        clear rN lN bN)
     | (at_builtin;refine mm.wpList_append_sv (P:=Tryz.prog) rfl _ _ 34 rfl u.heap.size 25 _ 1 24 apf.undW apf.infoW rfl (by decide) _ _ M.length M2.length M M2 rfl rfl (uh O5) (uh SN) (uh N1) (by have:=uh hbd5;unfold maxLen;omega) (by have:=uh hbd5;omega) (uh hsz5) ?_
        intro v6 w6 hr6 hg6 _))
    have hb6:Below u.heap.size u w6:=(uh HB4).trans (mm.row_bl (uh O5) hg6 ((uh BN).mono (uh HB4).size) (Nat.le_refl _) (uh hsz5));have O7:=mm.row_far (uh O6) hg6 (fun k hk q=>kinds (uh O6) (uh O5) (by decide) k hk q);refine ⟨⟨i+1,L++L2,M++M2,by omega,by go_num,by rw [List.length_append];exact O7,by rw [List.length_append];exact hr6,?_,?_,?_,hb6⟩,by simp [intOf];omega⟩
    · refine hide ?_
      rw [List.length_append,List.length_append,uh HSUM,uh HM2,uh HN2,(uh HLn).1,(uh HLn).2];exact ⟨rfl,rfl⟩
    · refine hide ?_
      rw [uh HTK,List.flatten_append];simpa using (uh HRL).add (uh LM)
    · refine hide ?_
      rw [uh HTK,List.flatten_append];simpa using (uh HRM).add (uh LN)
  · obtain rfl:i=vs.length:=by omega
    have hno:¬ (vs.length:Int) < (vs.length:Int):=by omega
    rw [List.take_of_length_le (Nat.le_refl _)] at HLn;rw [List.take_of_length_le (by omega)] at HRL HRM;obtain ⟨o3,c3,e3,_⟩:=mm.SV.form (mm.own_sv (uh HL));obtain ⟨o4,c4,e4,_⟩:=mm.SV.form (mm.own_sv (uh HM));subst e3 e4
    obtain ⟨ls,hls1,hls2⟩:∃ ls:List (List (List Value)),ls.length=L.length∧∀ (j:Nat) (x:Value) (l:List (List Value)),L[j]?=some x→ls[j]?=some l→apv.OB u B x l∧l.length≤1000000000:=by
     have aux:∀ L:List Value,(∀ x∈L,∃ l,apv.OB u B x l∧l.length≤1000000000)→∃ ls:List (List (List Value)),ls.length=L.length∧∀ (j:Nat) (x:Value) (l:List (List Value)),L[j]?=some x→ls[j]?=some l→apv.OB u B x l∧l.length≤1000000000:=by
      intro L
      induction L with
      | nil=>intro _;exact ⟨[],rfl,fun j x l h=>by simp at h⟩
      | cons a L ih =>
        intro h;obtain ⟨l,hl⟩:=h a (by simp);obtain ⟨ls,e,h2⟩:=ih (fun x hx=>h x (by simp [hx]));refine ⟨l::ls,by simp [e],fun j x l' h3 h4=>?_⟩
        cases j with
        | zero=>simp only [List.getElem?_cons_zero,Option.some.injEq] at h3 h4;subst h3 h4;exact hl
        | succ j=>exact h2 j x l' (by simpa using h3) (by simpa using h4)
     exact aux L (uh HRL).row
    obtain ⟨fs,hfs1,hfs2⟩:∃ ls:List (List (List Value)),ls.length=M.length∧∀ (j:Nat) (x:Value) (l:List (List Value)),M[j]?=some x→ls[j]?=some l→apf.OB u B x l∧l.length≤1000000000:=by
     have aux:∀ L:List Value,(∀ x∈L,∃ l,apf.OB u B x l∧l.length≤1000000000)→∃ ls:List (List (List Value)),ls.length=L.length∧∀ (j:Nat) (x:Value) (l:List (List Value)),L[j]?=some x→ls[j]?=some l→apf.OB u B x l∧l.length≤1000000000:=by
      intro L
      induction L with
      | nil=>intro _;exact ⟨[],rfl,fun j x l h=>by simp at h⟩
      | cons a L ih =>
        intro h;obtain ⟨l,hl⟩:=h a (by simp);obtain ⟨ls,e,h2⟩:=ih (fun x hx=>h x (by simp [hx]));refine ⟨l::ls,by simp [e],fun j x l' h3 h4=>?_⟩
        cases j with
        | zero=>simp only [List.getElem?_cons_zero,Option.some.injEq] at h3 h4;subst h3 h4;exact hl
        | succ j=>exact h2 j x l' (by simpa using h3) (by simpa using h4)
     exact aux M (uh HRM).row
    have hLl:L.length≤1000000000:=by have:=(uh HLn).1;omega
    have hMl:M.length≤1000000000:=by have:=(uh HLn).2;omega
    have getL:∀ (j:Nat) (x:Value),L[j]?=some x→∃ l,ls[j]?=some l:=fun j x hx=>⟨_,List.getElem?_eq_getElem (by have:=(List.getElem?_eq_some_iff.1 hx).1;omega)⟩
    have getM:∀ (j:Nat) (x:Value),M[j]?=some x→∃ l,fs[j]?=some l:=fun j x hx=>⟨_,List.getElem?_eq_getElem (by have:=(List.getElem?_eq_some_iff.1 hx).1;omega)⟩
    have ltL:∀ (j:Nat) (x:Value) (k:Nat),L[j]?=some x→x.ownBlock=some k→k < u.heap.size:=fun j x k hx hk=>by
     obtain ⟨l,hl⟩:=getL j x hx;exact (hls2 j x l hx hl).1.lt k hk
    have ltM:∀ (j:Nat) (x:Value) (k:Nat),M[j]?=some x→x.ownBlock=some k→k < u.heap.size:=fun j x k hx hk=>by
     obtain ⟨l,hl⟩:=getM j x hx;exact (hfs2 j x l hx hl).1.lt k hk
    have oL:∀ a,o3=some a→u.heap.size≤a.block:=fun a ha=>by
     rcases (uh HL).2 with ⟨e,_⟩|⟨g,cap,cur,e,hb,_⟩
     · simp only [Value.slice.injEq] at e;rw [e.1] at ha;cases ha
     · simp only [Value.slice.injEq] at e;rw [e.1] at ha;cases ha;exact hb
    have oM:∀ a,o4=some a→u.heap.size≤a.block:=fun a ha=>by
     rcases (uh HM).2 with ⟨e,_⟩|⟨g,cap,cur,e,hb,_⟩
     · simp only [Value.slice.injEq] at e;rw [e.1] at ha;cases ha
     · simp only [Value.slice.injEq] at e;rw [e.1] at ha;cases ha;exact hb
    have C1:=apv.apart_any ls L o3 c3 B wr hls1.symm (fun q=>by
     have h0:L.length=0:=by
      obtain ⟨_,oa,c,e,_,_,h3,_⟩:=mm.own_sv (uh HL);simp only [Value.slice.injEq] at e;exact (h3 (by rw [← e.1];exact q)).1
     exact List.eq_nil_of_length_eq_zero (by omega))
     (fun j x l hx hl=>(hls2 j x l hx hl).1.kp (fun k hk=>hbu.block k (ltL j x k hx hk)))
     (fun i j x y k hij hx hy hk=>ds_of ((uh HRL).sub.nodup (uh HN)) i j x y k hij hx hy hk)
     (fun a ha j y hy=>by
      obtain ⟨_,oa,c,e,_,_,_,h4⟩:=mm.own_sv (uh HL);simp only [Value.slice.injEq] at e
      exact h4 a (by rw [← e.1];exact ha) j y hy)
     (fun a ha j x k hx hk=>by have:=oL a ha;have:=ltL j x k hx hk;omega)
     (Nat.le_trans hB hbu.size) (by omega) (fun l hl=>by
      obtain ⟨j,hj⟩:=List.getElem?_of_mem hl;have hlt:=(List.getElem?_eq_some_iff.1 hj).1
      exact (hls2 j _ l (List.getElem?_eq_getElem (by omega)) hj).2)
    rw [hls1] at C1;have CC1:=hide C1
    have CC2:=hide (fun (w6:World) (hO:apv.Oth wr w6 L) (hb6:Below B wr w6)=>apf.apart_any fs M o4 c4 B w6 hfs1.symm (fun q=>by
     have h0:M.length=0:=by
      obtain ⟨_,oa,c,e,_,_,h3,_⟩:=mm.own_sv (uh HM);simp only [Value.slice.injEq] at e;exact (h3 (by rw [← e.1];exact q)).1
     exact List.eq_nil_of_length_eq_zero (by omega))
     (fun j x l hx hl=>(hfs2 j x l hx hl).1.kp (fun k hk=>by
      rw [hO k (Nat.lt_of_lt_of_le (ltM j x k hx hk) hbu.size) (fun j2 x2 hx2 q=>by
       obtain ⟨l2,hl2⟩:=getL j2 x2 hx2
       exact kinds (hls2 j2 x2 l2 hx2 hl2).1.1 (hfs2 j x l hx hl).1.1 (by decide) k q hk)]
      exact hbu.block k (ltM j x k hx hk)))
     (fun i j x y k hij hx hy hk=>ds_of ((uh HRM).sub.nodup (uh HN)) i j x y k hij hx hy hk)
     (fun a ha j y hy=>by
      have hrow:w6.ownsRow u.heap.size 25 1 (.slice o4 M.length c4) M.length M:=row_keep (uh HM) (fun k hk=>hO k (row_lt (uh HM) k hk).2 (fun j2 x2 hx2 q=>by have:=ltL j2 x2 k hx2 q;have:=(row_lt (uh HM) k hk).1;omega));obtain ⟨_,oa,c,e,_,_,_,h4⟩:=mm.own_sv hrow;simp only [Value.slice.injEq] at e
      exact h4 a (by rw [← e.1];exact ha) j y hy)
     (fun a ha j x k hx hk=>by have:=oM a ha;have:=ltM j x k hx hk;omega)
     (Nat.le_trans hB (Nat.le_trans hbu.size hb6.size)) (by omega) (fun l hl=>by
      obtain ⟨j,hj⟩:=List.getElem?_of_mem hl;have hlt:=(List.getElem?_eq_some_iff.1 hj).1
      exact (hfs2 j _ l (List.getElem?_eq_getElem (by omega)) hj).2))
    rw [hfs1] at CC2;clear C1 hls1 hls2 hfs1 hfs2 getL getM ltL ltM oL oM hLl hMl hbu
    go_wp2_with (first
     | (go_at_call 57;refine (uh CC1).mono ?_;rintro e w6 ⟨rfl,hb6,ho6⟩
        have C2:=hide (uh CC2 w6 ho6 hb6))
     | (go_at_call 58;refine (uh C2).mono ?_;rintro e w7 ⟨rfl,hb7,_⟩))
    go_ret;exact ⟨rfl,((uh HB).mono hB).trans (hb6.trans hb7)⟩
end Go.Proofs.YthakglomacijgaaGreatDoor.rd
namespace Go.Proofs.YthakglomacijgaaGreatDoor.rd
open Go.RowKit
open ss (GF step_addf)
theorem ret_rcopied {m:Nat}{w:World}{a0 a1 a2 a3 a4 a5 a6 a7:Value} (h:BX w m [a0,a1,a2,a3,a4,a5,a6,a7]) (tmps:Array Value) (h2:tmps[2]?.getD undef=.pointer (some ⟨m,0,none⟩)) :
 (results Tryz.f33 tmps).run Tryz.prog w=.ok (.agg #[a0,a1,a2,a3,a4,a5,a6,a7]) w:=by
 obtain ⟨q0,q1,q2,q3,q4,q5,q6,q7⟩:=BX.cells h;simp [results,Tryz.results33,h2,go_sem,q0,q1,q2,q3,q4,q5,q6,q7]
theorem CPx.rep {m B:Nat}{hd:List Value}{wr:World}{L:List JT}{F:List (ByteArray × JT)}{sv fv:Value}{css gss:List (List Value)}{ps qs:List (List Nat)} (h:CPx m B hd wr L F sv fv css gss ps qs) (k:Int) (t:Bool) (d:Dn) (x:ByteArray) :
 VRep wr B (JT.mk k t d x L F) [.int .i64 k,.bool t,.bool d.neg,.string d.dg,.int .i64 d.ex,.string x,sv,fv] (own sv++own fv++ps.flatten++qs.flatten):=VRep.mk h.ol h.of h.l1 h.l2 h.l3 h.l4 h.vl h.vf
set_option maxRecDepth 100000 in
set_option maxHeartbeats 25600000 in
theorem rcopied_any (n:Nat):∀ (v:JT) (cs:List Value) (w:World),SizeOf.sizeOf v < n→Bd v→VR w v cs→Calls Tryz.prog 33 #[.agg cs.toArray] w (NP w v):=by
 induction n with
 | zero=>intro v cs w h;omega
 | succ n IH =>
   intro v cs w hn hbd h
   cases v with
   | mk k t d x l f =>
     obtain ⟨oa,ca,ob,cb,rfl⟩:=VR.parts h;obtain ⟨dn,dg,dx⟩:=d
     cases hbd with
     | mk hk h0 h1 h2 h3 h4 hl hnm hf =>
       have I1:=hide (fun v (hv:v∈l) (cs:List Value) (w:World)=>IH v cs w (by have:=sz_l (k:=k) (t:=t) (d:=⟨dn,dg,dx⟩) (x:=x) (f:=f) hv;omega) (hl v hv));have I2:=hide (fun p (hp:p∈f) (cs:List Value) (w:World)=>IH p.2 cs w (by have:=sz_f (k:=k) (t:=t) (d:=⟨dn,dg,dx⟩) (x:=x) (l:=l) hp;omega) (hf p hp));have HV:=hide h;have HL3:=hide h3;have HL4:=hide h4;clear h IH hn hl hf hnm h0 h1 h2 hk h3 h4;have B3:=hide (box_three w [.int .i64 k,.bool t,.bool dn,.string dg,.int .i64 dx,.string x,.slice oa l.length ca,.slice ob f.length cb] [.int .i64 0,.bool false,.bool false,.string ⟨#[]⟩,.int .i64 0,.string ⟨#[]⟩,.slice none 0 0,.slice none 0 0] [.int .i64 k,.bool t,.bool dn,.string dg,.int .i64 dx,.string x,.slice none 0 0,.slice none 0 0])
       go_enter Tryz.func33,Tryz.ntmps33
       go_wp2;obtain ⟨q0,q1,q2,q3,q4⟩:=uh B3 _ rfl;generalize ((w.alloc (.cells [.int .i64 k,.bool t,.bool dn,.string dg,.int .i64 dx,.string x,.slice oa l.length ca,.slice ob f.length cb].toArray 27)).alloc (.cells [.int .i64 0,.bool false,.bool false,.string ⟨#[]⟩,.int .i64 0,.string ⟨#[]⟩,.slice none 0 0,.slice none 0 0].toArray 27)).alloc (.cells [.int .i64 k,.bool t,.bool dn,.string dg,.int .i64 dx,.string x,.slice none 0 0,.slice none 0 0].toArray 27)=W at *;obtain ⟨m2,hm2⟩:∃ m,w.heap.size+1+1=m:=⟨_,rfl⟩;rw [hm2];rw [show w.heap.size+2=m2 from hm2] at q2;have HM:=hide hm2;have HX0:=hide q0;have HX1:=hide q1;have HBW:=hide q3;have HZ:=hide q4;have hl3:=uh HL3;have hl4:=uh HL4;have CP0:Hid (CP m2 (w.heap.size+3) [.int .i64 k,.bool t,.bool dn,.string dg,.int .i64 dx,.string x] W [] []):=CP.start q2;clear q0 q1 q2 q3 q4 hm2 B3
       go_loopw [4] (fun iv wr=>∃ i:Nat,i≤l.length∧iv=.int .i64 (i:Int)∧Hid (CP m2 (w.heap.size+3) [.int .i64 k,.bool t,.bool dn,.string dg,.int .i64 dx,.string x] wr (l.take i) [])∧Hid (Below m2 W wr)) (fun iv _=>l.length - (intOf iv).toNat)
       case atStart=>exact ⟨0,by omega,rfl,CP0,Below.refl _ _⟩
       case round =>
        clear CP0;obtain ⟨i,hi,rfl,HN,HB⟩:=hrel;have hm:w.heap.size+2=m2:=uh HM;have hb:=uh HB;have yA:=(uh HX0).keep hb (by omega);obtain ⟨p0,p1,p2,p3,p4,p5,p6,p7⟩:=yA.cells;have HL:=hide ((uh HBW).trans (hb.mono (by omega)));have hz:w.heap.size+3≤wr.heap.size:=by rw [← uh HZ];exact hb.size
        by_cases hc:i < l.length
        · obtain ⟨sv,fv,css,gss,ps,qs,C⟩:=uh HN
          have n1:BX wr m2 [.int .i64 k,.bool t,.bool dn,.string dg,.int .i64 dx,.string x,sv,fv]:=C.box;obtain ⟨z0,z1,z2,z3,z4,z5,z6,z7⟩:=n1.cells;obtain ⟨f0,f1,f2,f3,f4,f5,f6,f7⟩:=n1.frees;obtain ⟨a,v,a0,a1,a2,a3,a4,a5,a6,a7,rfl,hv,vA,hat⟩:=(uh HV).el i hc;have had:(a.add (i*8)).block < w.heap.size:=mm.cell_lt (cells8 hat).1;obtain ⟨x0,x1,x2,x3,x4,x5,x6,x7⟩:=cells8 (fun j u hu=>kc (uh HL) (hat j u hu));generalize ha:a.add (i*8)=ad at *;have CN:=hide (uh I1 v (List.mem_of_getElem? hv) [a0,a1,a2,a3,a4,a5,a6,a7] wr.drew (vA.keep (uh HL)).drew);have HC:=hide C;have HO:=hide C.ol;have hln:(l.take i).length=i:=by rw [List.length_take];omega
          rw [hln] at HO;have hi1:(i:Int) < (l.length:Int):=by omega
          have HVI:=hide hv;clear n1 C hat p0 p1 p2 p3 p4 p5 p7 z0 z1 z2 z3 z4 z5 z7 f0 f1 f2 f3 f4 f5 f7 yA hv vA hb;have hadm:ad.block < m2:=by omega
          have hw2:w.heap.size < m2:=by omega
          have hn2:m2≠w.heap.size:=by omega
          have hnad:m2≠ad.block:=by omega
          have hsv:sv.ownBlock≠some m2:=fun e=>by have:=(mm.row_lt (uh HO) m2 e).1;omega
          have hmw:m2 < wr.heap.size:=by omega
          go_upto_region 7 with fail
          go_region_law (first
           | (go_simp;go_at_call 33;refine (uh CN).mono ?_;rintro e u2 ⟨cs,pp,rfl,hr,hpn,hbl2⟩
              obtain ⟨b0,b1,b2,b3,b4,b5,b6,b7,rfl⟩:=hr.eight;have hb3:Below wr.heap.size wr u2:=⟨hbl2.os,hbl2.tape,hbl2.output,hbl2.size,hbl2.block⟩;have z6':=kc hb3 z6;have hmu:m2 < u2.heap.size:=Nat.lt_of_lt_of_le hmw hb3.size;have f6':u2.frozen? ⟨m2,6,none⟩=false:=by rw [World.frozen?_of_block (w:=wr) (w':=u2) (a:=⟨m2,6,none⟩) (hb3.block m2 hmw)];exact f6
              have HO2:=hide (mm.row_below (uh HO) hb3 (Nat.le_refl _));have HR2:=hide hr;have H18:=hide hr.vr.one
              have hBu:Hid (w.heap.size+3≤u2.heap.size):=Nat.le_trans hz hb3.size)
           | (refine step_addv u2 _ (w.heap.size+3) i sv css.flatten [b0,b1,b2,b3,b4,b5,b6,b7] (.tmp 17) (.tmp 24) (by rfl) (by rfl) (by rfl) (by rfl) HO2 rfl H18 (by show i+1≤1000000000000;omega) hBu (by rfl) ?_
              intro g cap w4 HG;have z6'':=(uh HG).cell hsv z6';have f6'':=(uh HG).frozen hmu hsv f6'
              have hb4:Below m2 wr w4:=(uh HG).below (uh HO2) (hb3.mono (Nat.le_of_lt hmw)) (by omega) (Nat.le_of_lt hmu)))
          all_goals clear x0 x1 x2 x3 x4 x5 x6 x7 p6 z6 z6' f6 f6'
          all_goals go_wp2
          all_goals refine ⟨⟨i+1,by omega,by go_num,?_,(uh HB).trans (hb4.trans ((Upd.setCell m2 6 w4 _).below (Nat.le_refl _)))⟩,by simp [intOf];omega⟩
          all_goals have hfin:=(uh HC).addl rfl (by omega) hz hb3 hr hpn (by rw [hln];exact uh HG)
          all_goals rw [hln] at hfin
          all_goals rw [take_succ' (uh HVI)]
          all_goals exact ⟨_,_,_,_,_,_,hfin⟩
        · obtain rfl:i=l.length:=by omega
          have hno:¬ (l.length:Int) < (l.length:Int):=by omega
          rw [List.take_of_length_le (Nat.le_refl _)] at HN;have CP1:Hid (CP m2 (w.heap.size+3) [.int .i64 k,.bool t,.bool dn,.string dg,.int .i64 dx,.string x] wr l (f.take 0)):=by simpa using HN
          have HB1:=HB;clear HN HB hb yA HL;go_upto_region 9 with fail;clear p0 p1 p2 p3 p4 p5 p6 p7;go_wp2
          rename_i wr1 _ _
          go_loopw [5] (fun iv wr=>∃ i:Nat,i≤f.length∧iv=.int .i64 (i:Int)∧Hid (CP m2 (w.heap.size+3) [.int .i64 k,.bool t,.bool dn,.string dg,.int .i64 dx,.string x] wr l (f.take i))∧Hid (Below m2 W wr)) (fun iv _=>f.length - (intOf iv).toNat)
          case atStart=>exact ⟨0,by omega,rfl,CP1,HB1⟩
          case round =>
           clear CP1 HB1 hz;obtain ⟨i,hi,rfl,HN,HB⟩:=hrel;have hm:w.heap.size+2=m2:=uh HM;have hb:=uh HB;have yA:=(uh HX0).keep hb (by omega);obtain ⟨p0,p1,p2,p3,p4,p5,p6,p7⟩:=yA.cells;have HL:=hide ((uh HBW).trans (hb.mono (by omega)));have hz:w.heap.size+3≤wr.heap.size:=by rw [← uh HZ];exact hb.size
           by_cases hc:i < f.length
           · obtain ⟨sv,fv,css,gss,ps,qs,C⟩:=uh HN
             have n1:BX wr m2 [.int .i64 k,.bool t,.bool dn,.string dg,.int .i64 dx,.string x,sv,fv]:=C.box;obtain ⟨z0,z1,z2,z3,z4,z5,z6,z7⟩:=n1.cells;obtain ⟨f0,f1,f2,f3,f4,f5,f6,f7⟩:=n1.frees;obtain ⟨a,nm,v,a0,a1,a2,a3,a4,a5,a6,a7,rfl,hv,vA,hat⟩:=(uh HV).fl i hc;have had:(a.add (i*9)).block < w.heap.size:=mm.cell_lt (cells9 hat).1;obtain ⟨x8,x0,x1,x2,x3,x4,x5,x6,x7⟩:=cells9 (fun j u hu=>kc (uh HL) (hat j u hu));generalize ha:a.add (i*9)=ad at *;have CN:=hide (uh I2 _ (List.mem_of_getElem? hv) [a0,a1,a2,a3,a4,a5,a6,a7] wr.drew (vA.keep (uh HL)).drew);have HC:=hide C;have HO:=hide C.of;have hln:(f.take i).length=i:=by rw [List.length_take];omega
             rw [hln] at HO;have hi1:(i:Int) < (f.length:Int):=by omega
             have HVI:=hide hv;clear n1 C hat p0 p1 p2 p3 p4 p5 p6 z0 z1 z2 z3 z4 z5 z6 f0 f1 f2 f3 f4 f5 f6 yA hv vA hb;have hadm:ad.block < m2:=by omega
             have hw2:w.heap.size < m2:=by omega
             have hn2:m2≠w.heap.size:=by omega
             have hnad:m2≠ad.block:=by omega
             have hsv:fv.ownBlock≠some m2:=fun e=>by have:=(mm.row_lt (uh HO) m2 e).1;omega
             have hmw:m2 < wr.heap.size:=by omega
             go_upto_region 11 with fail
             go_region_law (first
              | (go_simp;go_at_call 33;refine (uh CN).mono ?_;rintro e u2 ⟨cs,pp,rfl,hr,hpn,hbl2⟩
                 obtain ⟨b0,b1,b2,b3,b4,b5,b6,b7,rfl⟩:=hr.eight;have hb3:Below wr.heap.size wr u2:=⟨hbl2.os,hbl2.tape,hbl2.output,hbl2.size,hbl2.block⟩;have z7':=kc hb3 z7;have hmu:m2 < u2.heap.size:=Nat.lt_of_lt_of_le hmw hb3.size;have f7':u2.frozen? ⟨m2,7,none⟩=false:=by rw [World.frozen?_of_block (w:=wr) (w':=u2) (a:=⟨m2,7,none⟩) (hb3.block m2 hmw)];exact f7
                 have HO2:=hide (mm.row_below (uh HO) hb3 (Nat.le_refl _));have HR2:=hide hr;have H18:=hide hr.vr.one
                 have H19:Hid (∀ u∈[.string nm,b0,b1,b2,b3,b4,b5,b6,b7],Value.oneCell' u=true):=by
                  intro u hu
                  rcases List.mem_cons.1 hu with rfl|hu
                  · rfl
                  · exact uh H18 u hu
                 have x8':=kc hb3 x8;have p7':=kc hb3 p7
                 have hBu:Hid (w.heap.size+3≤u2.heap.size):=Nat.le_trans hz hb3.size)
              | (refine step_addf u2 _ (w.heap.size+3) i fv (fcs (f.take i) gss) [.string nm,b0,b1,b2,b3,b4,b5,b6,b7] (.tmp 35) (.tmp 50) (by rfl) (by rfl) (by rfl) (by rfl) HO2 rfl H19 (by show i+1≤1000000000000;omega) hBu (by rfl) ?_
                 intro g cap w4 HG;have z7'':w4.cell? ⟨m2,7,none⟩=some fv:=by rw [World.cell?_of_block (w:=u2) (w':=w4) (a:=⟨m2,7,none⟩) (gf_far (uh HG) (mm.cell_lt z7') hsv)];exact z7'
                 have f7'':w4.frozen? ⟨m2,7,none⟩=false:=by rw [World.frozen?_of_block (w:=u2) (w':=w4) (a:=⟨m2,7,none⟩) (gf_far (uh HG) hmu hsv)];exact f7'
                 have hb4:Below m2 wr w4:=(uh HG).below (uh HO2) (hb3.mono (Nat.le_of_lt hmw)) (by omega) (Nat.le_of_lt hmu)))
             all_goals clear x8 x0 x1 x2 x3 x4 x5 x6 x7 p7 z7 z7' f7 f7' x8' p7'
             all_goals go_wp2
             all_goals refine ⟨⟨i+1,by omega,by go_num,?_,(uh HB).trans (hb4.trans ((Upd.setCell m2 7 w4 _).below (Nat.le_refl _)))⟩,by simp [intOf];omega⟩
             all_goals have hfin:=(uh HC).addf rfl (by omega) hz hb3 hr hpn (by rw [hln];exact uh HG)
             all_goals rw [hln] at hfin
             all_goals rw [take_succ' (uh HVI)]
             all_goals exact ⟨_,_,_,_,_,_,hfin⟩
           · obtain rfl:i=f.length:=by omega
             have hno:¬ (f.length:Int) < (f.length:Int):=by omega
             rw [List.take_of_length_le (Nat.le_refl _)] at HN;obtain ⟨sv,fv,css,gss,ps,qs,C⟩:=uh HN;have n1:BX wr m2 [.int .i64 k,.bool t,.bool dn,.string dg,.int .i64 dx,.string x,sv,fv]:=C.box;obtain ⟨qa,qc,esv,_,_⟩:=mm.SV.form (mm.own_sv C.ol);subst esv;obtain ⟨qb,qd,efv,_,_⟩:=mm.SV.form (mm.own_sv C.of);subst efv;obtain ⟨z0,z1,z2,z3,z4,z5,z6,z7⟩:=n1.cells;have yB:=(uh HX1).keep hb (by omega);obtain ⟨t0,t1,t2,t3,t4,t5,t6,t7⟩:=yB.cells;obtain ⟨f0,f1,f2,f3,f4,f5,f6,f7⟩:=yB.frees;have hX:=hide (st8_bx yB rfl (.int .i64 k) (.bool t) (.bool dn) (.string dg) (.int .i64 dx) (.string x) (.slice qa l.length qc) (.slice qb f.length qd));have hU:=hide (st8_upd wr (w.heap.size+1) (.int .i64 k) (.bool t) (.bool dn) (.string dg) (.int .i64 dx) (.string x) (.slice qa l.length qc) (.slice qb f.length qd))
             have HR:Hid (VRep wr w.heap.size (JT.mk k t ⟨dn,dg,dx⟩ x l f) [.int .i64 k,.bool t,.bool dn,.string dg,.int .i64 dx,.string x,.slice qa l.length qc,.slice qb f.length qd] (own (.slice qa l.length qc)++own (.slice qb f.length qd)++ps.flatten++qs.flatten)) :=
              (C.rep k t ⟨dn,dg,dx⟩ x).base (by omega)
             have HN6:=hide C.nd
             have hge:Hid (∀ b∈(own (.slice qa l.length qc)++own (.slice qb f.length qd)++ps.flatten++qs.flatten),b≠w.heap.size+1):=fun b hbm=>by
              have:=(C.all b hbm).1;omega
             clear n1 C p0 p1 p2 p3 p4 p5 p6 yA yB hb;go_wp2;have hX':=uh hX;have hU':=uh hU;have hR':VRep (st8 wr (w.heap.size+1) (.int .i64 k) (.bool t) (.bool dn) (.string dg) (.int .i64 dx) (.string x) (.slice qa l.length qc) (.slice qb f.length qd)) w.heap.size (JT.mk k t ⟨dn,dg,dx⟩ x l f) _ _:=(uh HR).keep fun b hbm=>hU'.block b (uh hge b hbm)
             have hL':=(uh HL).trans (hU'.below (Nat.le_succ _));have hN6:=uh HN6;simp only [st8] at hX' hR' hL';have hfin:NP w (JT.mk k t ⟨dn,dg,dx⟩ x l f) (.returned (.agg #[.int .i64 k,.bool t,.bool dn,.string dg,.int .i64 dx,.string x,.slice qa l.length qc,.slice qb f.length qd])) _:=⟨_,_,rfl,hR',hN6,hL'⟩;clear hR' hN6 hL';exact bodyPost_ret (ret_rcopied hX' _ rfl) rfl hfin
end Go.Proofs.YthakglomacijgaaGreatDoor.rd
