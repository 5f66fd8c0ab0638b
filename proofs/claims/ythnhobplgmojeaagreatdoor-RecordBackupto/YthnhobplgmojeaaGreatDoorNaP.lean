/- Texts in one: Na Nm Oi Oj Ok Ol Vl -/
import Derived.Test.YthnhobplgmojeaaGreatDoorVrP
import Derived.Maps.OwnSet
import Derived.Deep.RegionLaw
namespace Go.Proofs.YthnhobplgmojeaaGreatDoor.rd
open Go.RowKit
open Go.Maps (Keyed string_keyed)
open Go.WideMaps (keyOf_string_mk)
theorem mlaw:Keyed Tryz.prog 9:=string_keyed Tryz.underlying9
theorem mzero (w:World):(zeroValue 3).run Tryz.prog w=.ok (.int .i64 0) w:=by kernel_rfl
def NMap (w:World) (mb:Nat) (ns:List (List UInt8)):Prop :=
 ∃ D:DataW Unit,w.ownsMap Tryz.prog 9 (plainElem Tryz.prog 3) mb ns.length D∧∀ x:List UInt8,Maps.has D (.string x)=true↔x∈ns
theorem NMap.keep {w w':World}{mb:Nat}{ns:List (List UInt8)} (h:NMap w mb ns) (hb:w'.heap[mb]?=w.heap[mb]?):NMap w' mb ns:=by
 obtain ⟨D,⟨es,clock,h1,h2⟩,hh⟩:=h;exact ⟨D,⟨es,clock,hb.trans h1,h2⟩,hh⟩
theorem NMap.lt {w:World}{mb:Nat}{ns:List (List UInt8)} (h:NMap w mb ns):mb < w.heap.size:=by
 obtain ⟨D,h,_⟩:=h;exact h.lt
theorem NMap.mv {rb:Nat}{w w':World}{mb:Nat}{ns:List (List UInt8)} (h:NMap w mb ns) (hm:Mv rb w w') (hn:mb≠rb):NMap w' mb ns:=h.keep (hm.block mb h.lt hn)
theorem nmap_made (w:World):NMap (w.alloc (.map #[] 0)) w.heap.size []:=⟨_,World.ownsMap_made w _ _ _,fun x=>by simp [Maps.has]⟩
theorem NMap.look {w:World}{mb:Nat}{ns:List (List UInt8)} (h:NMap w mb ns) (x:List UInt8) (hx:x.length≤maxLen):∃ c:Int,(Instr.lookup 201 (.map (some mb)) (.string ⟨x.toArray⟩) true).run Tryz.prog w=.ok (.tuple #[.int .i64 c,.bool (decide (x∈ns))]) w:=by
 obtain ⟨D,ho,hh⟩:=h;obtain ⟨v,ps,hrun,hv⟩:=ho.look_ok mlaw Tryz.underlying201 (mzero w) (plainElem_int Tryz.underlying3 (by decide)) (keyOf_string_mk Tryz.underlying9 (s:=⟨x.toArray⟩) hx);obtain ⟨c,rfl,_⟩:=plainElem_int_inv Tryz.underlying3 hv;refine ⟨c,?_⟩;rw [hrun]
 have:Maps.has D (.string x)=decide (x∈ns):=by
  by_cases q:x∈ns
  · rw [(hh x).2 q];simp [q]
  · simp only [q,decide_false]
    exact Bool.eq_false_iff.2 fun e=>q ((hh x).1 e)
 rw [← this]
theorem NMap.put {w:World}{mb:Nat}{ns:List (List UInt8)} (h:NMap w mb ns) (x:List UInt8) (hx:x.length≤maxLen) (c:Int) (hc0:0≤c) (hc1:c≤1048577) (hn:ns.length < maxLen) :
 ∃ w',(Instr.mapUpdate 201 (.map (some mb)) (.string ⟨x.toArray⟩) (.int .i64 c)).run Tryz.prog w=.ok () w'∧NMap w' mb (ns++[x])∧w.grownBy w' (some mb):=by
 obtain ⟨D,ho,hh⟩:=h;have hwf:(Lit.int .i64 c).wf=true:=WalkArith.wf_i64 (by omega);obtain ⟨w',hrun,ho',hg⟩:=ho.update mlaw Tryz.underlying201 hn (keyOf_string_mk Tryz.underlying9 (s:=⟨x.toArray⟩) hx) (plainElem_int Tryz.underlying3 hwf);refine ⟨w',hrun,⟨_,by rw [List.length_append];exact ho',fun y=>?_⟩,hg⟩
 by_cases e:y=x
 · subst e
   have:=Maps.has_put_same ho.isMap (k:=Lit.string y) trivial (DataW.lit (Lit.int .i64 c));simp only [List.mem_append,List.mem_singleton,or_true,iff_true];exact this
 · have hne:Lit.string y≠Lit.string x:=fun q=>e (Lit.string.inj q)
   rw [Maps.has_put_other hne,hh y];simp [e]
theorem enc_le4 (z:Int):(Lib.encodeRune z).length≤4:=by
 unfold Lib.encodeRune Lib.encodeRuneZ;rw [List.length_map]
 split
 · simp
 · split
   · simp
   · split
     · simp
     · split <;> simp
theorem lettF_len (s:ByteArray):∀ (f k:Nat) (acc l:List UInt8) (j:Nat),lettF s f k acc=.inl (l,j)→l.length≤acc.length+4*f
 | 0,k,acc,l,j,h=>by simp [lettF] at h
 | f+1,k,acc,l,j,h=>by
   unfold lettF at h
   split at h
   · cases h
     omega
   · split at h
     · cases h
     · have h1:=lettF_len s f _ _ l j h
       have h2:=enc_le4 (letAt (s.extract k s.size)).1;rw [List.length_append] at h1;omega
theorem letts_len (s:ByteArray) (k:Nat) (l:List UInt8) (j:Nat) (h:letts s k=.inl (l,j)):l.length≤4*(s.size+1):=by
 have:=lettF_len s _ _ _ _ _ h;simp at this;omega
def nmR (s:ByteArray) (ns:List (List UInt8)) (k:Nat):(List UInt8 × Nat) ⊕ (Nat × Nat) :=
 if nxt s (gap s k)=34 then match letts s (gap s k) with
  | .inr j=>.inr (8,j)
  | .inl (l,j)=>if l∈ns then .inr (10,gap s k) else .inl (l,j)
 else .inr (5,gap s k)
end Go.Proofs.YthnhobplgmojeaaGreatDoor.rd
namespace Go.Proofs.YthnhobplgmojeaaGreatDoor.rd
open Go.RowKit
theorem fault_said {rb:Nat}{s:ByteArray}{a o:Int}{ev:Value}{w u:World} (hu:u=w.alloc (.cells #[.int .i64 a,.string ⟨#[]⟩,.iface 264 ev] 180)) (h:RL w rb s a o) :
 Below w.heap.size w u∧FL u w.heap.size a 264 ev∧RL u rb s a o:=by
 have hb:Below w.heap.size w u:=by rw [hu];exact (Below.refl _ _).alloc (Nat.le_refl _) _
 refine ⟨hb,?_,h.below hb (blk_lt h)⟩;rw [hu];show (Array.push _ _)[_]?=_;rw [Array.getElem?_push_size]
set_option maxRecDepth 100000 in
set_option maxHeartbeats 3200000 in
theorem name_any (E:Nat→Value) (rb:Nat) (s:ByteArray) (o:Int) (hs:s.size≤1048576) (hr:17≤rb) (mb:Nat) (ns:List (List UInt8)) (w:World) (k:Nat) (h:RL w rb s k o) (hk:k≤s.size) (hE:Env E w) (hm:NMap w mb ns) (hmb:mb≠rb) :
 Calls Tryz.prog 163 #[.pointer (some ⟨rb,0,none⟩),.map (some mb)] w fun e w' =>
  ((∃ l j,nmR s ns k=.inl (l,j)∧j≤s.size∧l.length≤4*(s.size+1)∧e=.returned (.tuple #[.string ⟨l.toArray⟩,.nilIface])∧RL w' rb s j o) ∨
   (∃ g j fb,nmR s ns k=.inr (g,j)∧j≤s.size∧e=.returned (.tuple #[.string ⟨#[]⟩,.iface 178 (.pointer (some ⟨fb,0,none⟩))])∧w.heap.size≤fb∧FL w' fb j 264 (E g)∧∃ k' o',RL w' rb s k' o'))∧Mv rb w w':=by
 have HR:Hid (nmR s ns k=if nxt s (gap s k)=34 then match letts s (gap s k) with
  | .inr j=>.inr (8,j)
  | .inl (l,j)=>if l∈ns then .inr (10,gap s k) else .inl (l,j)
  else .inr (5,gap s k)):=rfl
 have SK:=hide (skip_any gapB rb s k o w h hk (by omega));have NX:=hide (fun (k:Nat) (w:World) h1 h2 h3=>next_any rb s k o w h1 h2 E h3);have FA:=hide (fun (k:Nat) (g:Nat) (w:World) h1=>fault_any rb s k o 264 (E g) w h1);have LT:=hide (fun (k:Nat) (w:World) h1 h2 h3=>letters_any rb s k o w h1 h2 (by omega) E h3 hr);have HEn:=hide hE;have HNM:=hide hm;have LL:=hide (letts_len s);have NS:=hide (nxt_34 s);obtain ⟨gl1,gl2⟩:=skipTo_le gapB.data.toList s k hk;have hgp:∀ k,skipTo gapB.data.toList s k=gap s k:=fun _=>rfl
 rw [hgp] at gl1 gl2;generalize nmR s ns k=res at HR ⊢;clear hE h hm
 go_enter Tryz.func163,Tryz.ntmps163
 go_wp2_with fail
 refine (uh SK).mono ?_;rintro e u1 ⟨rfl,hR1,hM1⟩;rw [hgp] at hR1;generalize gap s k=k1 at *;have HR1:=hide hR1;have HM1:=hide hM1;clear hR1 hM1 SK hgp
 go_wp2_with fail
 refine (uh NX k1 _ (uh HR1) gl2 ((uh HEn).mv (uh HM1) hr)).mono ?_;rintro e u2 ⟨rfl,hb2⟩;have HR2:=hide ((uh HR1).below hb2 (blk_lt (uh HR1)));have HM2:=hide ((uh HM1).trans (Mv.of hb2));clear hb2 HR1 HM1 NX;have hNS:=hide (uh NS k1 gl2);obtain ⟨n0,n1⟩:=nxt_bd s k1;generalize nxt s k1=nx at *;have hEn2:=hide ((uh HEn).mv (uh HM2) hr);have hw2:w.heap.size≤u2.heap.size:=(uh HM2).size;obtain ⟨c0,c1,c2⟩:=(uh HR2).cells
 by_cases q34:nx=34
 · subst q34
   have hk1:k1 < s.size:=uh hNS rfl
   have HR0:Hid (res=match letts s k1 with
    | .inr j=>.inr (8,j)
    | .inl (l,j)=>if l∈ns then .inr (10,k1) else .inl (l,j)):=(uh HR).trans (if_pos rfl)
   have LLk:=hide (uh LL k1);have LTk:=hide (uh LT k1 u2 (uh HR2) hk1 (uh hEn2));clear HR hNS NS LL LT;generalize letts s k1=lr at *
   go_wp2_with fail
   refine (uh LTk).mono ?_;rintro e u3 ⟨hh,hM3⟩;have HM3:=hide ((uh HM2).trans hM3);have HNM3:=hide ((uh HNM).mv (uh HM3) hmb);have hEn3:=hide ((uh HEn).mv (uh HM3) hr);have hw3:u2.heap.size≤u3.heap.size:=hM3.size;clear hM3 LTk HNM c0 c1 c2
   rcases hh with ⟨l,j,rfl,hj,rfl,hR3⟩|⟨j,fb,rfl,hj,rfl,hR3,hfb,hfl⟩
   · have hll:l.length≤4*(s.size+1):=uh LLk l j rfl
     obtain ⟨c,hlook⟩:=(uh HNM3).look l (by unfold maxLen;omega);obtain ⟨c0,c1,c2⟩:=hR3.cells;obtain ⟨f1,f2⟩:=hR3.frees;have HR3:=hide hR3;have HR4:Hid (res=if l∈ns then .inr (10,k1) else .inl (l,j)):=uh HR0;have HLL:=hide hll;clear hR3 HR0 LLk HNM3 hll
     by_cases q:l∈ns
     · have HR5:Hid (res=.inr (10,k1)):=(uh HR4).trans (if_pos q)
       rw [show decide (l∈ns)=true by simp [q]] at hlook;have hRa:=hide ((uh HR3).to (k1:Int));have hMa:=hide (show Mv rb u3 (u3.setCell ⟨rb,1,none⟩ (.int .i64 (k1:Int))) from Mv.set _ 1 _);have hT:=(uh hEn3).err 10 (by simp);have hng:10≠rb:=by omega
       clear HR4 q
       go_wp2_with fail
       refine (uh FA k1 10 _ (uh hRa)).mono ?_;rintro e u4 ⟨rfl,hu⟩;obtain ⟨hb4,hf4,hr4⟩:=fault_said hu (uh hRa);have hs4:(u3.setCell ⟨rb,1,none⟩ (.int .i64 (k1:Int))).heap.size=u3.heap.size:=by simp
       rw [hs4] at hf4;have HM4:=hide (((uh HM3).trans (uh hMa)).trans (Mv.of hb4));have HF4:=hide hf4;have HR6:=hide hr4;clear hu hb4 hf4 hr4;go_wp2
       go_ret2
       exact ⟨.inr ⟨_,k1,_,uh HR5,gl2,rfl,by omega,uh HF4,_,_,uh HR6⟩,uh HM4⟩
     · have HR5:Hid (res=.inl (l,j)):=(uh HR4).trans (if_neg q)
       rw [show decide (l∈ns)=false by simp [q]] at hlook;clear HR4 q;go_wp2
       go_ret2
       exact ⟨.inl ⟨l,j,uh HR5,hj,uh HLL,rfl,uh HR3⟩,uh HM3⟩
   · have HR3:=hide hR3
     have HFL:=hide hfl;have HR4:Hid (res=.inr (8,j)):=uh HR0;clear hR3 hfl HR0 LLk HNM3;go_wp2
     go_ret2
     exact ⟨.inr ⟨_,j,fb,uh HR4,hj,rfl,by omega,uh HFL,_,_,uh HR3⟩,uh HM3⟩
 · have HR0:Hid (res=.inr (5,k1)):=(uh HR).trans (if_neg q34)
   have q34':(nx == 34)=false:=by simpa using q34
   have hT:=(uh hEn2).err 5 (by simp);clear HR hNS q34 NS LL LT HNM
   go_wp2_with fail
   refine (uh FA k1 5 _ (uh HR2)).mono ?_;rintro e u3 ⟨rfl,hu⟩;obtain ⟨hb4,hf4,hr4⟩:=fault_said hu (uh HR2);have HM4:=hide ((uh HM2).trans (Mv.of hb4));have HF4:=hide hf4;have HR6:=hide hr4;clear hu hb4 hf4 hr4;go_wp2
   go_ret2
   exact ⟨.inr ⟨_,k1,_,uh HR0,gl2,rfl,by omega,uh HF4,_,_,uh HR6⟩,uh HM4⟩
def putAt9 (w:World) (g o:Nat) (a0 a1 a2 a3 a4 a5 a6 a7 a8:Value):World :=
 ((((((((w.setCell ⟨g,o,none⟩ a0).setCell ⟨g,o+1,none⟩ a1).setCell ⟨g,o+2,none⟩ a2).setCell ⟨g,o+3,none⟩ a3).setCell ⟨g,o+4,none⟩ a4).setCell ⟨g,o+5,none⟩ a5).setCell ⟨g,o+6,none⟩ a6).setCell ⟨g,o+7,none⟩ a7).setCell ⟨g,o+8,none⟩ a8
theorem putAt9_upd (w:World) (g o:Nat) (a0 a1 a2 a3 a4 a5 a6 a7 a8:Value):Mv g w (putAt9 w g o a0 a1 a2 a3 a4 a5 a6 a7 a8) :=
 ((((((((Mv.set _ _ _).trans (Mv.set _ _ _)).trans (Mv.set _ _ _)).trans (Mv.set _ _ _)).trans (Mv.set _ _ _)).trans (Mv.set _ _ _)).trans (Mv.set _ _ _)).trans (Mv.set _ _ _)).trans (Mv.set _ _ _)
theorem putAt9_owns {w:World}{B:Nat}{e:TypeId}{g n m cap:Nat}{xs:List Value}{z0 z1 z2 z3 z4 z5 z6 z7 z8:Value} (h:w.ownsRow B e 9 (.slice (some ⟨g,0,none⟩) m cap) m (xs++[z0,z1,z2,z3,z4,z5,z6,z7,z8])) (hx:xs.length=n) (a0 a1 a2 a3 a4 a5 a6 a7 a8:Value) :
 (putAt9 w g n a0 a1 a2 a3 a4 a5 a6 a7 a8).ownsRow B e 9 (.slice (some ⟨g,0,none⟩) m cap) m (xs++[a0,a1,a2,a3,a4,a5,a6,a7,a8]):=by
 have h0:=(h.stored (n+0) a0).1;have h1:=(h0.stored (n+1) a1).1;have h2:=(h1.stored (n+2) a2).1;have h3:=(h2.stored (n+3) a3).1;have h4:=(h3.stored (n+4) a4).1;have h5:=(h4.stored (n+5) a5).1;have h6:=(h5.stored (n+6) a6).1;have h7:=(h6.stored (n+7) a7).1;have h8:=(h7.stored (n+8) a8).1;rw [set_at hx,set_at hx,set_at hx,set_at hx,set_at hx,set_at hx,set_at hx,set_at hx,set_at hx] at h8;exact h8
structure AddedF (u wf:World) (lb B:Nat) (sv:Value) (n g cap:Nat) (row:List Value):Prop where
 os:wf.os=u.os
 tape:wf.tape=u.tape
 output:wf.output=u.output
 size:u.heap.size≤wf.heap.size
 block:∀ b,b < u.heap.size→b≠lb→b ∉ own sv→wf.heap[b]?=u.heap[b]?
 list:wf.heap[lb]?=some (.cells #[.slice (some ⟨g,0,none⟩) (n+1) cap] 26 (0,0))
 owns:wf.ownsRow B 70 9 (.slice (some ⟨g,0,none⟩) (n+1) cap) (n+1) row
 lies:g∈own sv∨u.heap.size≤g
theorem addedF_core {u U w1 wf:World}{lb B:Nat}{sv:Value}{n g cap:Nat}{row:List Value}{o:Obj} (hb:Below u.heap.size u U) (hg:(U.alloc o).grownBy w1 sv.ownBlock)
 (hat:sv.ownBlock=some g∨U.heap.size≤g) (hos:wf.os=w1.os) (htape:wf.tape=w1.tape) (hout:wf.output=w1.output) (hsz:w1.heap.size≤wf.heap.size) (hbl:∀ b,b < w1.heap.size→b≠lb→b≠g→wf.heap[b]?=w1.heap[b]?)
 (hlist:wf.heap[lb]?=some (.cells #[.slice (some ⟨g,0,none⟩) (n+1) cap] 26 (0,0))) (hown:wf.ownsRow B 70 9 (.slice (some ⟨g,0,none⟩) (n+1) cap) (n+1) row):AddedF u wf lb B sv n g cap row:=by
 have hs1:=hg.size;have hs2:=hb.size;have hal:(U.alloc o).heap.size=U.heap.size+1:=Array.size_push _;refine ⟨?_,?_,?_,by omega,?_,hlist,hown,?_⟩
 · rw [hos,hg.os];exact hb.os
 · rw [htape,hg.tape];exact hb.tape
 · rw [hout,hg.output];exact hb.output
 · intro b hbu hbl' hbo
   have hne:b≠g:=by
    rcases hat with h|h
    · intro e
      apply hbo;rw [e];simp [own,h]
    · omega
   rw [hbl b (by omega) hbl' hne,hg.block b (by omega) (fun e=>hbo (by simp [own,← e]))];exact (Below.heap_alloc U o b (by omega)).trans (hb.block b hbu)
 · rcases hat with h|h
   · exact .inl (by simp [own,h])
   · exact .inr (by omega)
def ostep (vf:Nat→(JT × Nat) ⊕ (Nat × Nat)) (s:ByteArray) (f:List (ByteArray × JT)) (k:Nat):(List (ByteArray × JT) × Nat) ⊕ (Nat × Nat):=match nmR s (f.map fun p=>p.1.data.toList) k with
 | .inr e=>.inr e
 | .inl (n,k1)=>match fvR vf s k1 with
   | .inr e=>.inr e
   | .inl (v,k2)=>.inl (f++[(⟨n.toArray⟩,v)],k2)
def OSt (rb rp pb mb lb B:Nat) (f:List (ByteArray × JT)) (w:World):Prop :=
 w.heap[rp]?=some (.cells #[.pointer (some ⟨rb,0,none⟩)] 177 (0,0))∧w.heap[pb]?=some (.cells #[.map (some mb)] 201 (0,0))∧NMap w mb (f.map fun p=>p.1.data.toList) ∧
 ∃ (sv:Value) (gss:List (List Value)) (qs:List (List Nat)),w.heap[lb]?=some (.cells #[sv] 26 (0,0))∧w.ownsRow B 70 9 sv f.length (fcs f gss)∧gss.length=f.length∧qs.length=f.length ∧
   (∀ (i:Nat) (n:ByteArray) (v:JT) (c:List Value) (p:List Nat),f[i]?=some (n,v)→gss[i]?=some c→qs[i]?=some p→VRep w B v c p)∧(own sv++qs.flatten).Nodup
theorem OSt.mv {rb rp pb mb lb B:Nat}{f:List (ByteArray × JT)}{w w':World} (h:OSt rb rp pb mb lb B f w) (hm:Mv rb w w') (h1:rb < rp) (h2:rb < pb) (h3:rb < mb) (h4:rb < lb) (h5:rb < B):OSt rb rp pb mb lb B f w':=by
 obtain ⟨hp,hpb,hmb,sv,css,ps,hl,ho,e1,e2,hv,hn⟩:=h;refine ⟨hm.obj (by omega) hp,hm.obj (by omega) hpb,hmb.mv hm (by omega),sv,css,ps,hm.obj (by omega) hl,owns_keep ho fun b hb=>?_,e1,e2,fun i n v c p a1 a2 a3=>?_,hn⟩
 · have:=owns_ge ho b hb
   exact hm.block b this.2 (by omega)
 · have hr:=hv i n v c p a1 a2 a3
   refine hr.keep fun b hb=>?_
   have:=hr.ge b hb;exact hm.block b this.2 (by omega)
theorem fcs_snoc {f:List (ByteArray × JT)}{gss:List (List Value)} (h:gss.length=f.length) (n:ByteArray) (v:JT) (c:List Value):fcs (f++[(n,v)]) (gss++[c])=fcs f gss++(.string n::c):=by
 unfold fcs;rw [List.zipWith_append h.symm];simp
theorem OSt.add {rb rp pb mb lb B:Nat}{f:List (ByteArray × JT)}{u wf:World}{sv:Value}{gss:List (List Value)}{qs:List (List Nat)}{g cap B':Nat}{n:ByteArray}{v:JT}{c:List Value}{p:List Nat}
 (hp:u.heap[rp]?=some (.cells #[.pointer (some ⟨rb,0,none⟩)] 177 (0,0))) (hpb:u.heap[pb]?=some (.cells #[.map (some mb)] 201 (0,0))) (hmb:NMap u mb ((f++[(n,v)]).map fun p=>p.1.data.toList))
 (h1:rp < B∧rp≠lb) (h2:pb < B∧pb≠lb) (h3:mb < B∧mb≠lb) (h4:lb < B) (ho:u.ownsRow B 70 9 sv f.length (fcs f gss)) (e1:gss.length=f.length) (e2:qs.length=f.length)
 (hv:∀ (i:Nat) (n:ByteArray) (v:JT) (c:List Value) (p:List Nat),f[i]?=some (n,v)→gss[i]?=some c→qs[i]?=some p→VRep u B v c p) (hn:(own sv++qs.flatten).Nodup)
 (hB:B≤B') (hlow:∀ b∈own sv++qs.flatten,b < B') (hnew:VRep u B' v c p) (hpn:p.Nodup) (hA:AddedF u wf lb B sv f.length g cap (fcs f gss++(.string n::c))):OSt rb rp pb mb lb B (f++[(n,v)]) wf:=by
 have hsv:=owns_ge ho;have hpg:=hnew.ge;have hsub:∀ b,b∈own sv→b < B':=fun b hb=>hlow b (by simp [hb])
 have hg:g ∉ qs.flatten∧g ∉ p:=by
  rcases hA.lies with h|h
  · refine ⟨fun q=>?_,fun q=>?_⟩
    · exact (List.nodup_append.1 hn).2.2 g h g q rfl
    · have:=hsub g h;have:=(hpg g q).1;omega
  · refine ⟨fun q=>?_,fun q=>?_⟩
    · obtain ⟨p',hp',hq⟩:=List.mem_flatten.1 q
      obtain ⟨i,hi⟩:=List.getElem?_of_mem hp';have hil:=get_lt hi;have hfi:i < f.length:=by omega
      have:=((hv i f[i].1 f[i].2 _ p' (List.getElem?_eq_getElem hfi) (List.getElem?_eq_getElem (by omega)) hi).ge g hq).2;omega
    · have:=(hpg g q).2;omega
 have hkeep:∀ b,b < u.heap.size→B≤b→b ∉ own sv→wf.heap[b]?=u.heap[b]?:=fun b h1 h2 h3=>hA.block b h1 (by omega) h3
 have hlowk:∀ b,b < u.heap.size→b < B∧b≠lb→wf.heap[b]?=u.heap[b]?:=fun b h1 h2=>hA.block b h1 h2.2 (fun q=>by have:=(hsv b q).1;omega)
 refine ⟨(hlowk rp (blk_lt hp) h1).trans hp,(hlowk pb (blk_lt hpb) h2).trans hpb,hmb.keep (hlowk mb hmb.lt h3),.slice (some ⟨g,0,none⟩) (f.length+1) cap,gss++[c],qs++[p],hA.list,?_,by simp [e1],by simp [e2],?_,?_⟩
 · rw [fcs_snoc e1,List.length_append]
   exact hA.owns
 · intro i n' v' c' p' a1 a2 a3
   rcases get_snoc a1 with b1|⟨b1,b0⟩
   · have hi:=get_lt b1
     have b2:gss[i]?=some c':=by rwa [List.getElem?_append_left (by omega)] at a2
     have b3:qs[i]?=some p':=by rwa [List.getElem?_append_left (by omega)] at a3
     have hr:=hv i n' v' c' p' b1 b2 b3;refine hr.keep fun b hb=>?_
     have hbg:=hr.ge b hb;exact hkeep b hbg.2 hbg.1 fun q=>(List.nodup_append.1 hn).2.2 b q b (mem_flat b3 hb) rfl
   · have b2:c'=c:=by
      rcases get_snoc a2 with q|⟨_,q⟩
      · have:=get_lt q;omega
      · exact q
     have b3:p'=p:=by
      rcases get_snoc a3 with q|⟨_,q⟩
      · have:=get_lt q;omega
      · exact q
     have b4:v'=v:=(Prod.mk.inj b0).2;subst b2 b3 b4;refine (hnew.base hB).keep fun b hb=>?_
     have hbg:=hpg b hb;exact hkeep b hbg.2 (by omega) fun q=>by have:=hsub b q;omega
 · have hnp:=(List.nodup_append.1 hn).2.1
   have hog:own (.slice (some ⟨g,0,none⟩) (f.length+1) cap)=[g]:=by simp [own,Value.ownBlock]
   rw [hog,List.flatten_append];simp only [List.flatten_cons,List.flatten_nil,List.append_nil,List.singleton_append];refine List.nodup_cons.2 ⟨by simp only [List.mem_append];exact fun q=>q.elim hg.1 hg.2,?_⟩;refine List.nodup_append.2 ⟨hnp,hpn,fun a ha b hb e=>?_⟩;have:=hlow a (by simp [ha]);have:=(hpg b hb).1;omega
theorem grown_mv {w w':World}{b:Nat} (h:w.grownBy w' (some b)):Mv b w w':=⟨h.os,h.tape,h.output,h.size,fun k hk hn=>h.block k hk (fun e=>hn (Option.some.inj e))⟩
theorem obj1_fin {E:Nat→Value}{rb W:Nat}{s:ByteArray}{o:Int}{vf:Nat→(JT × Nat) ⊕ (Nat × Nat)}{w u1 u2 u3:World}{f:List (ByteArray × JT)}{k k1:Nat}{n:List UInt8}{sv:Value}{gss:List (List Value)}{qs:List (List Nat)}{e:Ending}
 (h1:rb < W)
 (hp:w.heap[W]?=some (.cells #[.pointer (some ⟨rb,0,none⟩)] 177 (0,0))) (hpb:w.heap[W+4]?=some (.cells #[.map (some (W+3))] 201 (0,0)))
 (ho:w.ownsRow (W+5) 70 9 sv f.length (fcs f gss)) (e1:gss.length=f.length) (e2:qs.length=f.length)
 (hv:∀ (i:Nat) (n:ByteArray) (v:JT) (c:List Value) (p:List Nat),f[i]?=some (n,v)→gss[i]?=some c→qs[i]?=some p→VRep w (W+5) v c p) (hn:(own sv++qs.flatten).Nodup)
 (hM01:Mv rb w u1) (hM12:Mv (W+3) u1 u2) (hnm:NMap u2 (W+3) ((f.map fun p=>p.1.data.toList)++[n])) (hnr:nmR s (f.map fun p=>p.1.data.toList) k=.inl (n,k1))
 (h:ValPost E rb s o u2 (fvR vf s k1) e u3) :
 ∃ a t ng dg ex x q1 n1 m1 q2 n2 m2 ev,e=.returned (.tuple #[.agg (c8 a t ng dg ex x q1 n1 m1 q2 n2 m2),ev]) ∧
   ∀ wf g cap,AddedF u3 wf (W+2) (W+5) sv f.length g cap (fcs f gss++(.string ⟨n.toArray⟩::(c8 a t ng dg ex x q1 n1 m1 q2 n2 m2).toList))→ItemPost (OSt rb W (W+4) (W+3) (W+2) (W+5)) E rb s o (W+2) w (ostep vf s f k) (.returned ev) wf:=by
 obtain ⟨h,hM23⟩:=h;have hlw:=blk_lt hpb;have hsv:=owns_ge ho;have s1:=hM01.size;have s2:=hM12.size;have s3:=hM23.size
 have hstep:∀ r,fvR vf s k1=r→ostep vf s f k=match r with
  | .inr e=>.inr e
  | .inl (v,k2)=>.inl (f++[(⟨n.toArray⟩,v)],k2):=fun r hr=>by
  simp only [ostep,hnr,hr]
  all_goals rcases r with ⟨_,_⟩|_ <;> rfl
 have hblk:∀ b,b < w.heap.size→b≠rb→b≠W+3→u3.heap[b]?=w.heap[b]?:=fun b hb hn1 hn2=>((hM23.block b (by omega) hn1).trans (hM12.block b (by omega) hn2)).trans (hM01.block b hb hn1)
 have hMB:∀ (wf:World) (g cap:Nat) (row:List Value),AddedF u3 wf (W+2) (W+5) sv f.length g cap row→MvB rb (W+2) w wf:=fun wf g cap row hA =>
  ⟨((hA.os.trans hM23.os).trans hM12.os).trans hM01.os,((hA.tape.trans hM23.tape).trans hM12.tape).trans hM01.tape,((hA.output.trans hM23.output).trans hM12.output).trans hM01.output,by have:=hA.size;omega,fun b hb hne =>
    (hA.block b (by omega) (by omega) (fun q=>by have:=(hsv b q).1;omega)).trans (hblk b (by omega) hne (by omega))⟩
 have hrl:∀ (wf:World) (g cap:Nat) (row:List Value) (a b:Int),AddedF u3 wf (W+2) (W+5) sv f.length g cap row→RL u3 rb s a b→RL wf rb s a b:=fun wf g cap row a b hA hR =>
  (hA.block rb (blk_lt hR) (by omega) (fun q=>by have:=(hsv rb q).1;omega)).trans hR
 rcases h with ⟨v,k',cs,p,hr,hk',rfl,hR,hV,hpn⟩|⟨g,k',fb,hr,hk',rfl,hfb,hfl,kx,ox,hRx⟩
 · obtain ⟨a,t,ng,dg,ex,x,q1,n1,m1,q2,n2,m2,hc⟩:=hV.shape
   refine ⟨a,t,ng,dg,ex,x,q1,n1,m1,q2,n2,m2,.nilIface,by rw [hc],fun wf g cap hA=>⟨.inl ⟨f++[(⟨n.toArray⟩,v)],k',hstep _ hr,hk',rfl,hrl _ _ _ _ _ _ hA hR,?_⟩,hMB _ _ _ _ hA⟩⟩;have hcs:(c8 a t ng dg ex x q1 n1 m1 q2 n2 m2).toList=cs:=by rw [← hc]
   rw [hcs] at hA
   have hvg:∀ (i:Nat) (n:ByteArray) (v:JT) (c:List Value) (p:List Nat),f[i]?=some (n,v)→gss[i]?=some c→qs[i]?=some p→VRep u3 (W+5) v c p:=fun i n v c p a1 a2 a3=>by
    have hr:=hv i n v c p a1 a2 a3;exact hr.keep fun b hb=>hblk b (hr.ge b hb).2 (by have:=(hr.ge b hb).1;omega) (by have:=(hr.ge b hb).1;omega)
   have hou:u3.ownsRow (W+5) 70 9 sv f.length (fcs f gss):=owns_keep ho fun b hb=>hblk b (hsv b hb).2 (by have:=(hsv b hb).1;omega) (by have:=(hsv b hb).1;omega)
   refine OSt.add (B':=u2.heap.size) ((hblk W (blk_lt hp) (by omega) (by omega)).trans hp) ((hblk (W+4) (blk_lt hpb) (by omega) (by omega)).trans hpb) ?_ ⟨by omega,by omega⟩ ⟨by omega,by omega⟩ ⟨by omega,by omega⟩ (by omega) hou e1 e2 hvg hn (by omega) ?_ hV hpn hA
   · rw [List.map_append]
     exact hnm.keep (hM23.block _ hnm.lt (by omega))
   · intro b hb
     rcases List.mem_append.1 hb with hb|hb
     · have:=(hsv b hb).2;omega
     · obtain ⟨p',hp',hq⟩:=List.mem_flatten.1 hb
       obtain ⟨i,hi⟩:=List.getElem?_of_mem hp';have hil:=get_lt hi;have hfi:i < f.length:=by omega
       have:=((hv i f[i].1 f[i].2 _ p' (List.getElem?_eq_getElem hfi) (List.getElem?_eq_getElem (by omega)) hi).ge b hq).2;omega
 · refine ⟨0,false,false,⟨#[]⟩,0,⟨#[]⟩,none,0,0,none,0,0,_,rfl,fun wf g' cap hA=>⟨.inr ⟨g,k',fb,hstep _ hr,hk',rfl,by omega,?_,kx,ox,hrl _ _ _ _ _ _ hA hRx⟩,hMB _ _ _ _ hA⟩⟩
   exact (hA.block fb (blk_lt hfl) (by omega) (fun q=>by have:=(hsv fb q).2;omega)).trans hfl
def fNull:Array Value:=#[.string ⟨#[]⟩,.int .i64 0,.bool false,.bool false,.string ⟨#[]⟩,.int .i64 0,.string ⟨#[]⟩,.slice none 0 0,.slice none 0 0]
theorem infoF:(Tryz.prog.info? 70).map (fun i=>(i.zero,i.size,i.bytes))=some (some (.agg fNull),9,128):=by kernel_rfl
theorem row_at9 {w1:World}{B:Nat}{e:TypeId}{g n cap:Nat}{xs zs:List Value} (h:w1.ownsRow B e 9 (.slice (some ⟨g,0,none⟩) (n+1) cap) (n+1) (xs++zs)) (hx:xs.length=n*9) (j:Nat) (hj:j < 9):w1.cell? ⟨g,n*9+j,none⟩=zs[j]?:=by
 rw [h.cellAt (n*9+j) (by omega),List.getElem?_append_right (by omega)]
 congr 1
 omega
structure GrewF (wc w1:World) (B n:Nat) (sv:Value) (xs:List Value) (g cap:Nat):Prop where
 grown:(wc.drew.alloc (.cells fNull 70)).grownBy w1 sv.ownBlock
 owns:w1.ownsRow B 70 9 (.slice (some ⟨g,0,none⟩) (n+1) cap) (n+1) (xs++fNull.toList)
 lies:sv.ownBlock=some g∨wc.heap.size≤g
theorem step_addF {ops:Array Oper}{op:Oper}{a:Act}{K:Act→World→Prop}{Q:Exit→Act→World→Prop}{E0:Prop} (wc:World) (B n:Nat) (sv:Value) (xs:List Value) (hgd:op.guard=none)
 (ho:op.op=.call { callee:=.builtin .append,args:=#[.tmp 25,.tmp 30],argTypes:=#[26,26] }) (hs:a.eval (.tmp 25)=sv) (hx:a.eval (.tmp 30)=.slice (some ⟨wc.heap.size,0,none⟩) 1 1)
 (hown:Hid (wc.ownsRow B 70 9 sv n xs)) (hn:n+1≤1048577) (hlb:B≤wc.heap.size)
 (h:∀ g cap w1,Hid (GrewF wc w1 B n sv xs g cap)→K (a.put op.dst (.slice (some ⟨g,0,none⟩) (n+1) cap)) w1) :
 if Region.wanted op (yielded ops a.tmps)=true then Oper.wp Tryz.prog op a (wc.drew.alloc (.cells #[.string ⟨#[]⟩,.int .i64 0,.bool false,.bool false,.string ⟨#[]⟩,.int .i64 0,.string ⟨#[]⟩,.slice none 0 0,.slice none 0 0] 70)) K Q else E0:=by
 obtain ⟨i0,hi,hz0,hz1,hz2⟩:=info_parts infoF
 refine step_append_lies _ hgd _ _ _ ho B 70 i0 (.agg fNull) 9 128 Tryz.underlying26 hi hz0 hz1 hz2 rfl (by omega) sv n xs hs (((uh hown).alloc _).drew)
  ⟨wc.heap.size,0,none⟩ 1 1 fNull.toList hx rfl (World.news_of_block (cs:=fNull) (t:=70) (fr:=(0,0)) (heap_alloc_new wc _)) ?_ (by omega) (by unfold maxLen;omega) (by omega) ?_ (wc.heap.size+1) (Array.size_push _) ?_
 · intro u hu
   simp only [fNull,List.mem_cons,List.not_mem_nil,or_false] at hu
   rcases hu with rfl|rfl|rfl|rfl|rfl|rfl|rfl|rfl|rfl <;> rfl
 · show B≤(Array.push _ _).size
   rw [Array.size_push];exact Nat.le_succ_of_le hlb
 · intro g cap w1 hown1 hgrow hat hlt
   exact h g cap w1 ⟨hgrow,hown1,hat.imp id (fun e=>by omega)⟩
theorem GrewF.ne {wc w1:World}{B n:Nat}{sv:Value}{xs:List Value}{g cap b:Nat} (h:GrewF wc w1 B n sv xs g cap) (hb:b < wc.heap.size) (hn:b ∉ own sv):g≠b:=by
 rcases h.lies with e|e
 · intro q
   exact hn (by rw [← q];simp [own,e])
 · omega
theorem GrewF.keep {wc w1:World}{B n:Nat}{sv:Value}{xs:List Value}{g cap b j:Nat}{x:Value} (h:GrewF wc w1 B n sv xs g cap) (hb:b < wc.heap.size) (hn:b ∉ own sv) (hc:wc.cell? ⟨b,j,none⟩=some x):w1.cell? ⟨b,j,none⟩=some x:=far h.grown hb hn hc
theorem GrewF.keepF {wc w1:World}{B n:Nat}{sv:Value}{xs:List Value}{g cap b j:Nat} (h:GrewF wc w1 B n sv xs g cap) (hb:b < wc.heap.size) (hn:b ∉ own sv) (hc:wc.frozen? ⟨b,j,none⟩=false):w1.frozen? ⟨b,j,none⟩=false:=farF h.grown hb hn hc
theorem GrewF.cells {wc w1:World}{B n:Nat}{sv:Value}{xs:List Value}{g cap:Nat} (h:GrewF wc w1 B n sv xs g cap) (hx:xs.length=n*9) :
 w1.cell? ⟨g,n*9,none⟩=some (.string ⟨#[]⟩)∧w1.cell? ⟨g,n*9+1,none⟩=some (.int .i64 0)∧w1.cell? ⟨g,n*9+2,none⟩=some (.bool false)∧w1.cell? ⟨g,n*9+3,none⟩=some (.bool false)∧w1.cell? ⟨g,n*9+4,none⟩=some (.string ⟨#[]⟩)∧w1.cell? ⟨g,n*9+5,none⟩=some (.int .i64 0)∧w1.cell? ⟨g,n*9+6,none⟩=some (.string ⟨#[]⟩)∧w1.cell? ⟨g,n*9+7,none⟩=some (.slice none 0 0)∧w1.cell? ⟨g,n*9+8,none⟩=some (.slice none 0 0) :=
 ⟨row_at9 h.owns hx 0 (by omega),row_at9 h.owns hx 1 (by omega),row_at9 h.owns hx 2 (by omega),row_at9 h.owns hx 3 (by omega),row_at9 h.owns hx 4 (by omega),row_at9 h.owns hx 5 (by omega),row_at9 h.owns hx 6 (by omega),row_at9 h.owns hx 7 (by omega),row_at9 h.owns hx 8 (by omega)⟩
theorem GrewF.frees {wc w1:World}{B n:Nat}{sv:Value}{xs:List Value}{g cap:Nat} (h:GrewF wc w1 B n sv xs g cap) :
 w1.frozen? ⟨g,n*9,none⟩=false∧w1.frozen? ⟨g,n*9+1,none⟩=false∧w1.frozen? ⟨g,n*9+2,none⟩=false∧w1.frozen? ⟨g,n*9+3,none⟩=false∧w1.frozen? ⟨g,n*9+4,none⟩=false∧w1.frozen? ⟨g,n*9+5,none⟩=false∧w1.frozen? ⟨g,n*9+6,none⟩=false∧w1.frozen? ⟨g,n*9+7,none⟩=false∧w1.frozen? ⟨g,n*9+8,none⟩=false :=
 ⟨h.owns.frozenAt _,h.owns.frozenAt _,h.owns.frozenAt _,h.owns.frozenAt _,h.owns.frozenAt _,h.owns.frozenAt _,h.owns.frozenAt _,h.owns.frozenAt _,h.owns.frozenAt _⟩
theorem GrewF.added {u wc w1:World}{lb B n:Nat}{sv:Value}{xs:List Value}{g cap:Nat} (h:GrewF wc w1 B n sv xs g cap) (hx:xs.length=n*9) (hb:Below u.heap.size u wc) (hl:wc.heap[lb]?=some (.cells #[sv] 26 (0,0))) (hls:lb ∉ own sv) (a0 a1 a2 a3 a4 a5 a6 a7 a8:Value) :
 AddedF u ((putAt9 w1 g (n*9) a0 a1 a2 a3 a4 a5 a6 a7 a8).setCell ⟨lb,0,none⟩ (.slice (some ⟨g,0,none⟩) (n+1) cap)) lb B sv n g cap (xs++[a0,a1,a2,a3,a4,a5,a6,a7,a8]):=by
 have hgl:=h.ne (blk_lt hl) hls;have hU:=putAt9_upd w1 g (n*9) a0 a1 a2 a3 a4 a5 a6 a7 a8;have hs:(wc.drew.alloc (.cells fNull 70)).heap.size=wc.heap.size+1:=Array.size_push _
 have hl1:w1.heap[lb]?=some (.cells #[sv] 26 (0,0)):=by
  have hlt:=blk_lt hl;rw [h.grown.block lb (by omega) (fun e=>hls (by simp [own,← e]))];exact (Below.heap_alloc wc.drew _ lb hlt).trans hl
 have hS:=Mv.set (rb:=lb) (putAt9 w1 g (n*9) a0 a1 a2 a3 a4 a5 a6 a7 a8) 0 (.slice (some ⟨g,0,none⟩) (n+1) cap);refine addedF_core (U:=wc.drew) (w1:=w1) hb.drew h.grown h.lies (hS.os.trans hU.os) (hS.tape.trans hU.tape) (hS.output.trans hU.output) (Nat.le_trans hU.size hS.size) ?_ ?_ ?_
 · intro b hb1 hb2 hb3
   exact (hS.block b (by have:=hU.size;omega) hb2).trans (hU.block b hb1 hb3)
 · exact blk_set (hU.obj (Ne.symm hgl) hl1) 0 _
 · have ho:=putAt9_owns h.owns hx a0 a1 a2 a3 a4 a5 a6 a7 a8
   refine owns_keep ho fun b hb'=>?_
   have hbg:b=g:=by simpa [own,Value.ownBlock] using hb'
   exact hS.block b (owns_ge ho b hb').2 (by omega)
theorem GrewF.added' {u wc w1:World}{lb B n:Nat}{sv:Value}{xs:List Value}{g cap:Nat} (h:GrewF wc w1 B n sv xs g cap) (hx:xs.length=n*9) (hb:Below u.heap.size u wc) (hl:wc.heap[lb]?=some (.cells #[sv] 26 (0,0))) (hls:lb ∉ own sv) (a0 a1 a2 a3 a4 a5 a6 a7 a8:Value) :
 AddedF u (putAt9 (w1.setCell ⟨lb,0,none⟩ (.slice (some ⟨g,0,none⟩) (n+1) cap)) g (n*9) a0 a1 a2 a3 a4 a5 a6 a7 a8) lb B sv n g cap (xs++[a0,a1,a2,a3,a4,a5,a6,a7,a8]):=by
 have hgl:=h.ne (blk_lt hl) hls;have hS:=Mv.set (rb:=lb) w1 0 (.slice (some ⟨g,0,none⟩) (n+1) cap);have hU:=putAt9_upd (w1.setCell ⟨lb,0,none⟩ (.slice (some ⟨g,0,none⟩) (n+1) cap)) g (n*9) a0 a1 a2 a3 a4 a5 a6 a7 a8;have hs:(wc.drew.alloc (.cells fNull 70)).heap.size=wc.heap.size+1:=Array.size_push _
 have hl1:w1.heap[lb]?=some (.cells #[sv] 26 (0,0)):=by
  have hlt:=blk_lt hl;rw [h.grown.block lb (by omega) (fun e=>hls (by simp [own,← e]))];exact (Below.heap_alloc wc.drew _ lb hlt).trans hl
 refine addedF_core (U:=wc.drew) (w1:=w1) hb.drew h.grown h.lies (hU.os.trans hS.os) (hU.tape.trans hS.tape) (hU.output.trans hS.output) (Nat.le_trans hS.size hU.size) ?_ ?_ ?_
 · intro b hb1 hb2 hb3
   exact (hU.block b (by have:=hS.size;omega) hb3).trans (hS.block b hb1 hb2)
 · exact hU.obj (Ne.symm hgl) (blk_set hl1 0 _)
 · refine putAt9_owns (owns_keep h.owns fun b hb'=>?_) hx a0 a1 a2 a3 a4 a5 a6 a7 a8
   have hbg:b=g:=by simpa [own,Value.ownBlock] using hb'
   exact hS.block b (owns_ge h.owns b hb').2 (by omega)
set_option maxRecDepth 100000 in
set_option maxHeartbeats 6400000 in
theorem object1_any (E:Nat→Value) (rb W:Nat) (s:ByteArray) (o:Int) (vf:Nat→(JT × Nat) ⊕ (Nat × Nat)) (hs:s.size≤1048576) (hr:17≤rb) (h1:rb < W)
 (VC:∀ (w:World) (k:Nat),RL w rb s k o→Env E w→k≤s.size→Calls Tryz.prog 118 #[.pointer (some ⟨rb,0,none⟩)] w (ValPost E rb s o w (vf k)))
 (w:World) (f:List (ByteArray × JT)) (k:Nat) (h:RL w rb s k o) (hS:OSt rb W (W+4) (W+3) (W+2) (W+5) f w) (hE:Env E w) (hk:k≤s.size) (hBd:f.length≤k) :
 Calls Tryz.prog 162 #[.pointer (some ⟨W,0,none⟩),.pointer (some ⟨W+4,0,none⟩),.pointer (some ⟨W+2,0,none⟩)] w (ItemPost (OSt rb W (W+4) (W+3) (W+2) (W+5)) E rb s o (W+2) w (ostep vf s f k)):=by
 obtain ⟨hp,hpb,hnm,sv,gss,qs,hl,ho,e1,e2,hv,hn⟩:=hS;obtain ⟨q,cap0,hsvq,_⟩:=owns_slice ho;have cp:w.cell? ⟨W,0,none⟩=some (.pointer (some ⟨rb,0,none⟩)):=blk_cell hp 0;have cm:w.cell? ⟨W+4,0,none⟩=some (.map (some (W+3))):=blk_cell hpb 0;have FN:=hide (fun (u1 u2 u3:World) (n:List UInt8) (k1:Nat) (e:Ending) hM01 hM12 hnm' hnr (hh:ValPost E rb s o u2 (fvR vf s k1) e u3)=>obj1_fin (u1:=u1) (k:=k) (n:=n) h1 hp hpb ho e1 e2 hv hn hM01 hM12 hnm' hnr hh);have HNA:=hide (name_any E rb s o hs hr (W+3) (f.map fun p=>p.1.data.toList) w k h hk hE hnm (by omega));have HFV:=hide (fun (w:World) (k:Nat) h1 h2 h3=>fieldValue_any E rb s o vf hs hr VC w k h1 h2 h3);have HSE:Hid (∀ e,nmR s (f.map fun p=>p.1.data.toList) k=.inr e→ostep vf s f k=.inr e):=fun e he=>by simp only [ostep,he]
 have HO:=hide ho;have HL:=hide hl;have HP:=hide hp;have HPB:=hide hpb;have HNM:=hide hnm;have HEn:=hide hE;have hlw:=blk_lt hpb;have hsvg:=owns_ge ho;have hlen:(fcs f gss).length=f.length*9:=ho.1;have hnl:(f.map fun p=>p.1.data.toList).length=f.length:=List.length_map _;have hnn:f.length+1≤1048577:=by omega
 clear hv hn ho hl hp hpb hnm e1 e2 VC h hE hBd;generalize (f.map fun p=>p.1.data.toList)=ns at *;generalize hN:f.length=n at *;generalize fcs f gss=xs at *;generalize ostep vf s f k=res at *
 go_enter Tryz.func162,Tryz.ntmps162
 go_wp2_with fail
 refine (uh HNA).mono ?_;rintro e u1 ⟨hh,hM1⟩;have HM1:=hide hM1;clear hM1 HNA cp cm
 rcases hh with ⟨nm,k1,hnr,hk1,hnl1,rfl,hR1⟩|⟨g,k1,fb,hnr,hk1,rfl,hfb,hfl,kx,ox,hRx⟩
 · have HNR:=hide hnr
   have HR1:=hide hR1;have hNM1:=hide ((uh HNM).mv (uh HM1) (by omega));obtain ⟨u2,hput,hNM2,hg2⟩:=(uh hNM1).put nm (by unfold maxLen;omega) (n:Int) (by omega) (by omega) (by unfold maxLen;omega);have hM12:=hide (grown_mv hg2);have HNM2:=hide hNM2;have hP1:=(uh HM1).obj (by omega) (uh HP);have hPB1:=(uh HM1).obj (by omega) (uh HPB);have hL1:=(uh HM1).obj (by omega) (uh HL);have cm1:u1.cell? ⟨W+4,0,none⟩=some (.map (some (W+3))):=blk_cell hPB1 0;have cl1:u1.cell? ⟨W+2,0,none⟩=some sv:=blk_cell hL1 0;have cp2:u2.cell? ⟨W,0,none⟩=some (.pointer (some ⟨rb,0,none⟩)):=blk_cell ((uh hM12).obj (by omega) hP1) 0;have HFV2:=hide (uh HFV u2 k1 ((uh hM12).obj (by omega) (uh HR1)) hk1 (((uh HEn).mv (uh HM1) hr).mv (uh hM12) (by omega)));have HL2:=hide ((uh hM12).obj (by omega) hL1);have HO2:=hide (owns_mv (owns_mv (uh HO) (uh HM1) (by omega)) (uh hM12) (by omega));have hs1:=(uh HM1).size;have hs2:=(uh hM12).size;have FN2:=hide (fun (u3:World) (e:Ending) hh=>uh FN u1 u2 u3 nm k1 e (uh HM1) (uh hM12) (uh HNM2) (uh HNR) hh);clear hnr hR1 hg2 hNM2 hP1 hPB1 hL1 HFV FN HSE HNM hNM1 HO HL HNM2 HEn;subst hsvq;go_upto_region 5 with fail
   go_cut [5,6] from 7 (fun s5 s6 wx=>∃ (u3:World) (a:Int) (t ng:Bool) (dg:ByteArray) (ex:Int) (x:ByteArray) (q1:Option Addr) (n1 m1:Nat) (q2:Option Addr) (n2 m2:Nat) (ev:Value),s6=.pointer (some ⟨u3.heap.size,0,none⟩)∧s5=ev∧Hid (VL wx u3.heap.size (c8 a t ng dg ex x q1 n1 m1 q2 n2 m2))∧Hid (Below u3.heap.size u3 wx)∧Hid (Mv rb u2 u3) ∧
    Hid (∀ wf g cap,AddedF u3 wf (W+2) (W+5) (.slice q n cap0) n g cap (xs++(.string ⟨nm.toArray⟩::(c8 a t ng dg ex x q1 n1 m1 q2 n2 m2).toList))→ItemPost (OSt rb W (W+4) (W+3) (W+2) (W+5)) E rb s o (W+2) w res (.returned ev) wf))
   case first =>
    go_wp2_with fail
    refine (uh HFV2).mono ?_;rintro e u3 hP;have hMv:=hide hP.2;obtain ⟨a,t,ng,dg,ex,x,q1,n1,m1,q2,n2,m2,ev,rfl,hF⟩:=uh FN2 u3 e hP;have HF:=hide hF;clear hF hP FN2 HFV2;simp only [c8];go_wp2;go_meet;exact ⟨u3,a,t,ng,dg,ex,x,q1,n1,m1,q2,n2,m2,ev,rfl,rfl,vl_new u3 _,(Below.refl _ _).alloc (Nat.le_refl _) _,hMv,HF⟩
   case rest =>
    clear FN2 HFV2 hput cm1 cl1 cp2;obtain ⟨u3,a,t,ng,dg,ex,x,q1,n1,m1,q2,n2,m2,ev,rfl,hev,hVL,hb,hM,HF⟩:=hcut;have hc:=(show VL wc u3.heap.size (vc a t ⟨ng,dg,ex⟩ x (.slice q1 n1 m1) (.slice q2 n2 m2)) from uh hVL);obtain ⟨q0',q1',q2',q3',q4',q5',q6',q7'⟩:=hc.cells;simp only at q0' q1' q2' q3' q4' q5' q6' q7';have hmw:u3.heap.size < wc.heap.size:=blk_lt hc;have hwu:=(uh hM).size;have hlu:=(uh hM).obj (b:=W+2) (by omega) (uh HL2);have hlc:=((uh hb).block (W+2) (by omega)).trans hlu;have hlb0:wc.cell? ⟨W+2,0,none⟩=some (.slice q n cap0):=blk_cell hlc 0;have hlf:wc.frozen? ⟨W+2,0,none⟩=false:=blk_free hlc 0;have hou:=owns_mv (uh HO2) (uh hM) (by omega);have hoc:wc.ownsRow (W+5) 70 9 (.slice q n cap0) n xs:=owns_keep hou fun b hq=>(uh hb).block b (by have:=(hsvg b hq).2;omega)
    have HOC:=hide hoc;have hlm:W+2≠u3.heap.size:=by omega
    have hml:u3.heap.size≠W+2:=by omega
    have hms:u3.heap.size ∉ own (.slice q n cap0):=fun q=>by have:=(hsvg _ q).2;omega
    have hls:W+2 ∉ own (.slice q n cap0):=fun q=>by have:=(hsvg _ q).1;omega
    have hlbc:W+2 < wc.heap.size:=by omega
    have hB5:W+5≤wc.heap.size:=by omega
    have hwm:wc.heap.size≠u3.heap.size:=by omega
    have hwl:wc.heap.size≠W+2:=by omega
    have b1:(0:Int)≤(n:Int):=by omega
    have b2:(n:Int) < ((n+1:Nat):Int):=by omega
    have b3:(n:Int) < (n:Int)+1:=by omega
    have HF0:∀ wf g cap,AddedF u3 wf (W+2) (W+5) (.slice q n cap0) n g cap (xs++(.string ⟨nm.toArray⟩::(c8 a t ng dg ex x q1 n1 m1 q2 n2 m2).toList))→∀ ev',ev'=ev→ItemPost (OSt rb W (W+4) (W+3) (W+2) (W+5)) E rb s o (W+2) w res (.returned ev') wf:=fun wf g cap hA ev' he=>by rw [he];exact uh HF wf g cap hA
    have fa:=fun (w1:World) (g cap:Nat) (hG:Hid (GrewF wc w1 (W+5) n (.slice q n cap0) xs g cap))=>HF0 _ g cap ((uh hG).added hlen (uh hb) hlc hls (.string ⟨nm.toArray⟩) (.int .i64 a) (.bool t) (.bool ng) (.string dg) (.int .i64 ex) (.string x) (.slice q1 n1 m1) (.slice q2 n2 m2))
    have fb:=fun (w1:World) (g cap:Nat) (hG:Hid (GrewF wc w1 (W+5) n (.slice q n cap0) xs g cap))=>HF0 _ g cap ((uh hG).added' hlen (uh hb) hlc hls (.string ⟨nm.toArray⟩) (.int .i64 a) (.bool t) (.bool ng) (.string dg) (.int .i64 ex) (.string x) (.slice q1 n1 m1) (.slice q2 n2 m2))
    simp only [putAt9] at fa fb;have FA:=hide fa;have FB:=hide fb;clear fa fb HF0 HF;subst hev;generalize hlbW:W+2=lb at *;generalize hm:u3.heap.size=m at *;clear hc hlu hlc hou hoc HO2 HL2 hsvg HP HPB HNR HR1 HM1 hM12 hlbW;go_wp2
    go_region_law ((refine step_addF wc (W+5) n (.slice q n cap0) xs (by rfl) (by rfl) (by rfl) (by rfl) HOC hnn hB5 ?_
                    intro g cap w1 HG;have hgm:=(uh HG).ne hmw hms;have hgl:=(uh HG).ne hlbc hls;have hmg:m≠g:=fun e=>hgm e.symm
                    have hlg:lb≠g:=fun e=>hgl e.symm
                    obtain ⟨z0,z1,z2,z3,z4,z5,z6,z7,z8⟩:=(uh HG).cells hlen;obtain ⟨y0,y1,y2,y3,y4,y5,y6,y7,y8⟩:=(uh HG).frees;have x0:=(uh HG).keep hmw hms q0';have x1:=(uh HG).keep hmw hms q1';have x2:=(uh HG).keep hmw hms q2';have x3:=(uh HG).keep hmw hms q3';have x4:=(uh HG).keep hmw hms q4';have x5:=(uh HG).keep hmw hms q5';have x6:=(uh HG).keep hmw hms q6';have x7:=(uh HG).keep hmw hms q7';have v0:=(uh HG).keep hlbc hls hlb0
                    have v1:=(uh HG).keepF hlbc hls hlf))
    all_goals go_wp2
    all_goals go_ret
    all_goals first
     | (with_reducible refine uh FA w1 g cap HG _ ?_);rfl
     | (with_reducible refine uh FB w1 g cap HG _ ?_);rfl
 · have HR1:=hide hRx
   have HFL:=hide hfl;have HRe:=hide (uh HSE _ hnr);clear hRx hfl HSE FN HFV;go_wp2;go_ret;exact ⟨.inr ⟨g,k1,fb,uh HRe,hk1,rfl,by omega,uh HFL,kx,ox,uh HR1⟩,(uh HM1).toB (by omega)⟩
def leaf (k:Int) (t:Bool) (d:Dn) (x:ByteArray):JT:=JT.mk k t d x [] []
theorem leaf_rep (w:World) (B:Nat) (k:Int) (t:Bool) (d:Dn) (x:ByteArray):VRep w B (leaf k t d x) (vc k t d x nilS nilS).toList []:=by
 have h:=VRep.mk (w:=w) (B:=B) (k:=k) (t:=t) (d:=d) (x:=x) (l:=[]) (f:=[]) (lv:=nilS) (fv:=nilS) (css:=[]) (gss:=[]) (ps:=[]) (qs:=[]) (World.ownsRow_nil _ _ _ _) (World.ownsRow_nil _ _ _ _) rfl rfl rfl rfl (fun i v c p h=>by simp at h) (fun i n v c p h=>by simp at h);have e:own nilS++own nilS++([]:List (List Nat)).flatten++([]:List (List Nat)).flatten=[]:=by simp [own,nilS,Value.ownBlock]
 rw [e] at h;exact h
def wordR (wd:ByteArray) (kd:Int) (tr:Bool) (s:ByteArray) (k:Nat):(JT × Nat) ⊕ (Nat × Nat) :=
 if Lib.hasPrefix (s.extract k s.size).data.toList wd.data.toList=true then .inl (leaf kd tr zed ⟨#[]⟩,k+wd.size) else .inr (5,k)
def numJ (s:ByteArray) (k:Nat):(JT × Nat) ⊕ (Nat × Nat) :=
 if (numR s k).2=0 then .inl (leaf 2 false (numR s k).1 ⟨#[]⟩,numTo s k) else .inr (if (numR s k).2=3 then 7 else 12,k)
def textR (s:ByteArray) (k:Nat):(JT × Nat) ⊕ (Nat × Nat):=match letts s k with
 | .inl (l,j)=>.inl (leaf 3 false zed ⟨l.toArray⟩,j)
 | .inr j=>.inr (8,j)
theorem prefix_le (l p:List UInt8) (h:Lib.hasPrefix l p=true):p.length≤l.length:=by
 unfold Lib.hasPrefix at h;simpa using (List.isPrefixOf_iff_prefix.1 h).length_le
theorem word_val (wd:ByteArray) (kd:Int) (tr:Bool) (rb:Nat) (s:ByteArray) (k:Nat) (o:Int) (w:World) (h:RL w rb s k o) (hk:k≤s.size) (hs:s.size≤1048576) (hwd:wd.size≤100) (E:Nat→Value) (hE:Env E w) (hr:17≤rb) :
 Calls Tryz.prog 140 #[.pointer (some ⟨rb,0,none⟩),.string wd,.agg (vc kd tr zed ⟨#[]⟩ nilS nilS)] w (ValPost E rb s o w (wordR wd kd tr s k)):=by
 refine (word_any wd kd tr rb s k o w h hk (by omega) hwd E hE hr).mono ?_;rintro e w' ⟨hh,hM⟩;refine ⟨?_,hM⟩
 rcases hh with ⟨hp,rfl,hR⟩|⟨hp,fb,rfl,hR,hfb,hfl⟩
 · have hl:=prefix_le _ _ hp
   have hle:k+wd.size≤s.size:=by
    have h1:wd.data.toList.length=wd.size:=Array.length_toList
    have h2:(s.extract k s.size).data.toList.length=s.size - k:=by
     have h3:(s.extract k s.size).size=s.size - k:=by simp
     exact Array.length_toList.trans h3
    omega
   exact .inl ⟨_,_,_,[],if_pos hp,hle,rfl,hR,leaf_rep _ _ _ _ _ _,List.nodup_nil⟩
 · exact .inr ⟨_,_,fb,if_neg (by rw [hp];simp),hk,rfl,hfb,hfl,_,_,hR⟩
theorem number_val (rb:Nat) (s:ByteArray) (k:Nat) (o:Int) (w:World) (h:RL w rb s k o) (hk:k≤s.size) (hs:s.size≤1048576) (E:Nat→Value) (hE:Env E w) (hr:17≤rb) :
 Calls Tryz.prog 141 #[.pointer (some ⟨rb,0,none⟩)] w (ValPost E rb s o w (numJ s k)):=by
 refine (jnumber_any rb s k o w h hk hs E hE hr).mono ?_;rintro e w' ⟨hh,hM⟩;refine ⟨?_,hM⟩
 rcases hh with ⟨hp,rfl,hR⟩|⟨hp,fb,rfl,hR,hfb,hfl⟩
 · exact .inl ⟨_,_,_,[],if_pos hp,(skipTo_le numBytes.data.toList s k hk).2,rfl,hR,leaf_rep _ _ _ _ _ _,List.nodup_nil⟩
 · exact .inr ⟨_,_,fb,if_neg hp,hk,rfl,hfb,hfl,_,_,hR⟩
theorem text_val (rb:Nat) (s:ByteArray) (k:Nat) (o:Int) (w:World) (h:RL w rb s k o) (hk:k < s.size) (hs:s.size≤1048576) (E:Nat→Value) (hE:Env E w) (hr:17≤rb) :
 Calls Tryz.prog 142 #[.pointer (some ⟨rb,0,none⟩)] w (ValPost E rb s o w (textR s k)):=by
 refine (jtext_any rb s k o w h hk hs E hE hr).mono ?_;rintro e w' ⟨hh,hM⟩;refine ⟨?_,hM⟩
 rcases hh with ⟨l,j,hp,hj,rfl,hR⟩|⟨j,fb,hp,hj,rfl,hR,hfb,hfl⟩
 · exact .inl ⟨leaf 3 false zed ⟨l.toArray⟩,j,_,[],by simp only [textR,hp],hj,rfl,hR,leaf_rep _ _ _ _ _ _,List.nodup_nil⟩
 · exact .inr ⟨_,j,fb,by simp only [textR,hp],hj,rfl,hfb,hfl,_,_,hR⟩
end Go.Proofs.YthnhobplgmojeaaGreatDoor.rd
