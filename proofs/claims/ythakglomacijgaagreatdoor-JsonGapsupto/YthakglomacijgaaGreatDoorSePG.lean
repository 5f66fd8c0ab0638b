/- Texts in one: Se -/
import Derived.Test.YthakglomacijgaaGreatDoorIhPG
import Derived.Conc.MuLone
namespace Go.Proofs.YthakglomacijgaaGreatDoor.rd
open Go.RowKit
theorem comma_len:∀ (ps:List (List UInt8)) (qs:List Nat),ps.length=qs.length→(∀ (j:Nat) (x:List UInt8) (q:Nat),ps[j]?=some x→qs[j]?=some q→x.length≤q)→(comma ps).length≤qs.sum+qs.length:=by
 have aux:∀ (ps:List (List UInt8)) (qs:List Nat),ps.length=qs.length→(∀ (j:Nat) (x:List UInt8) (q:Nat),ps[j]?=some x→qs[j]?=some q→x.length≤q)→((ps.map fun y=>44::y).flatten).length≤qs.sum+qs.length:=by
  intro ps
  induction ps with
  | nil=>intro qs _ _;simp
  | cons x ps ih =>
    intro qs hl h
    match qs,hl with
    | q::qs,hl =>
      have h0:=h 0 x q rfl rfl
      have h1:=ih qs (by simpa using hl) (fun j y r e1 e2=>h (j+1) y r (by simpa using e1) (by simpa using e2))
      simp only [List.map_cons,List.flatten_cons,List.length_append,List.length_cons,List.sum_cons]
      omega
 intro ps qs hl h
 match ps,qs,hl with
 | [],[],_=>simp [comma]
 | x::ps,q::qs,hl =>
   have h0:=h 0 x q rfl rfl
   have h1:=aux ps qs (by simpa using hl) (fun j y r e1 e2=>h (j+1) y r (by simpa using e1) (by simpa using e2))
   simp only [comma,List.length_append,List.length_cons,List.sum_cons]
   omega
theorem sum_take_le (qs:List Nat) (i:Nat):(qs.take i).sum≤qs.sum:=by
 have h:=List.sum_append_nat (l₁:=qs.take i) (l₂:=qs.drop i)
 rw [List.take_append_drop] at h
 omega
theorem sum_take_at {qs:List Nat}{i q:Nat} (h:qs[i]?=some q):(qs.take i).sum+q≤qs.sum:=by
 have h1:=sum_take_le qs (i+1)
 rw [take_succ' h,List.sum_append_nat] at h1
 simpa using h1
theorem enter_tell (args:Array Value) (w:World):(callFunc 38 args).run Tryz.prog w=.ok (.enter 38 args) w :=
 MuLone.run_callFunc_enter Tryz.func38 (by kernel_rfl) (c:=Tryz.f38.body.get (by kernel_rfl)) (by kernel_rfl) args w
theorem enter_tellF (args:Array Value) (w:World):(callFunc 35 args).run Tryz.prog w=.ok (.enter 35 args) w :=
 MuLone.run_callFunc_enter Tryz.func35 (by kernel_rfl) (c:=Tryz.f35.body.get (by kernel_rfl)) (by kernel_rfl) args w
theorem row_kept {w w':World}{b B e s n:Nat}{v:Value}{xs:List Value} (h:w.ownsRow B e s v n xs) (hk:Lib.OthersKept 5 (some b) w w') (he:e≠5) (hb:v.ownBlock≠some b):w'.ownsRow B e s v n xs:=by
 obtain ⟨hl,⟨rfl,h0⟩|⟨g,cap,cur,rfl,hb',hg,r⟩⟩:=h
 · exact ⟨hl,Or.inl ⟨rfl,h0⟩⟩
 · exact ⟨hl,Or.inr ⟨g,cap,cur,rfl,hb',cell_kept hk hg he (fun q=>hb (by rw [q];rfl)),r⟩⟩
def V8 (c:List Value):Prop:=∃ (kk:Int) (tt ng:Bool) (dg:ByteArray) (ex:Int) (xx:ByteArray) (q1:Option Addr) (n1 m1:Nat) (q2:Option Addr) (n2 m2:Nat),c=[.int .i64 kk,.bool tt,.bool ng,.string dg,.int .i64 ex,.string xx,.slice q1 n1 m1,.slice q2 n2 m2]
def V9 (c:List Value):Prop:=∃ (nm:ByteArray) (kk:Int) (tt ng:Bool) (dg:ByteArray) (ex:Int) (xx:ByteArray) (q1:Option Addr) (n1 m1:Nat) (q2:Option Addr) (n2 m2:Nat),c=[.string nm,.int .i64 kk,.bool tt,.bool ng,.string dg,.int .i64 ex,.string xx,.slice q1 n1 m1,.slice q2 n2 m2]
set_option maxHeartbeats 4000000 in
set_option maxRecDepth 1000000 in
theorem writeRowV (B b nb fb:Nat) (l:List UInt8) (c1 c2:UInt8) (css:List (List Value)) (ps:List (List UInt8)) (qs:List Nat) (oa:Option Addr) (c Bz:Nat) (w:World) (h:Bld B b l w) (hB:B≤w.heap.size) (hbs:b < w.heap.size)
 (hl1:ps.length=css.length) (hl2:qs.length=css.length) (hn:css.length≤1000000000000) (hrow:w.ownsRow Bz 27 8 (.slice oa css.length c) css.length css.flatten) (hne:(Value.slice oa css.length c).ownBlock≠some b) (hv:∀ cc∈css,V8 cc)
 (IC:∀ (j:Nat) (cs:List Value) (x:List UInt8) (q:Nat),css[j]?=some cs→ps[j]?=some x→qs[j]?=some q→∀ (l:List UInt8) (u:World),Bld B b l u→l.length+q≤140737488355328→B≤u.heap.size→b < u.heap.size→Below B w u→Lib.OthersKept 5 (some b) w u→Calls Tryz.prog 38 #[.agg cs.toArray,.pointer (some ⟨b,0,none⟩),.pointer (some ⟨nb,0,none⟩),.pointer (some ⟨fb,0,none⟩)] u (PO B b (l++x) u))
 (hq:∀ (j:Nat) (x:List UInt8) (q:Nat),ps[j]?=some x→qs[j]?=some q→x.length≤q) (hN:l.length+qs.sum+css.length+10≤140737488355328) :
 Calls Tryz.prog 42 #[.pointer (some ⟨b,0,none⟩),.int .u8 c1.toNat,.slice oa css.length c,.func (.func 38) #[] #[.pointer (some ⟨b,0,none⟩),.pointer (some ⟨nb,0,none⟩),.pointer (some ⟨fb,0,none⟩)],.int .u8 c2.toNat] w (PO B b (l++c1::(comma ps++[c2])) w):=by
 have WB0:=hide (writeByte_any B b l c1 w h (by omega) hB)
 have WB:=hide (fun (l:List UInt8) (c:UInt8) (u:World) h1 h2 h3=>writeByte_any B b l c u h1 h2 h3)
 have HI:=hide IC
 have HR:=hide hrow
 have HNE:=hide hne
 have HV:=hide hv
 have HQ:=hide hq
 have eg:=enter_tell
 clear h IC hrow hne hv hq
 go_enter Tryz.func42,Tryz.ntmps42
 go_wp2_with (go_at_call 37;refine (uh WB0).mono ?_;rintro e u1 ⟨rfl,hb1,hc1,hk1⟩)
 clear WB0
 go_loopw [17] (fun iv wr=>∃ i:Nat,i≤css.length∧iv=.int .i64 (i:Int)∧Hid (Bld B b (l++[c1]++comma (ps.take i)) wr)∧Hid (Below B w wr)∧Hid (Lib.OthersKept 5 (some b) w wr)) (fun iv _=>css.length - (intOf iv).toNat)
 case atStart=>exact ⟨0,by omega,rfl,by refine hide ?_;simpa [comma] using hb1,hc1,hk1⟩
 case round =>
  obtain ⟨i,hi,rfl,hI,hbw,hkw⟩:=hrel
  clear hb1 hc1 hk1
  have hsz:B≤wr.heap.size:=Nat.le_trans hB (uh hbw).size
  have hbz:b < wr.heap.size:=Nat.lt_of_lt_of_le hbs (uh hbw).size
  have hcl:(comma (ps.take i)).length≤(qs.take i).sum+i:=by
   have:=comma_len (ps.take i) (qs.take i) (by rw [List.length_take,List.length_take];omega) (fun j x q e1 e2=>by
    rw [List.getElem?_take] at e1 e2
    split at e1
    · rename_i hj
      rw [if_pos hj] at e2
      exact uh HQ j x q e1 e2
    · cases e1)
   rw [List.length_take] at this
   omega
  have hst:=sum_take_le qs i
  by_cases hlt:i < css.length
  · obtain ⟨cs,hcs⟩:∃ x,css[i]?=some x:=⟨_,List.getElem?_eq_getElem hlt⟩
    obtain ⟨x,hx⟩:∃ x,ps[i]?=some x:=⟨_,List.getElem?_eq_getElem (by omega)⟩
    obtain ⟨q,hqi⟩:∃ x,qs[i]?=some x:=⟨_,List.getElem?_eq_getElem (by omega)⟩
    have hsq:=sum_take_at hqi
    obtain ⟨kk,tt,ng,dg2,ex2,xx,k1,n1,m1,k2,n2,m2,rfl⟩:=uh HV cs (List.mem_of_getElem? hcs)
    obtain ⟨a,c',e,_,_,hat0⟩:=(mm.own_sv (row_kept (uh HR) (uh hkw) (by decide) (uh HNE))).some (by omega)
    simp only [Value.slice.injEq] at e
    obtain ⟨rfl,_,rfl⟩:=e
    have h8:∀ c∈css,c.length=8:=fun c hc=>by
     obtain ⟨_,_,_,_,_,_,_,_,_,_,_,_,rfl⟩:=uh HV c hc
     rfl
    have hat:=sv_at h8 hat0 hcs
    obtain ⟨x0,x1,x2,x3,x4,x5,x6,x7⟩:=cells8 hat
    generalize ha:a.add (i*8)=ad at *
    have CI:=hide (fun l u h1 h2 h3 h4 h5 h6=>uh HI i _ x q hcs hx hqi l u h1 h2 h3 h4 h5 h6)
    have hi1:(i:Int) < (css.length:Int):=by omega
    have hi0:(0:Int)≤(i:Int):=by omega
    have HX:=hide hx
    have IA:=hide (Lib.IsBuilderF.alloc (uh hI) (.cells #[.int .i64 kk,.bool tt,.bool ng,.string dg2,.int .i64 ex2,.string xx,.slice k1 n1 m1,.slice k2 n2 m2] 27))
    have BA:=hide ((uh hbw).alloc hsz (.cells #[.int .i64 kk,.bool tt,.bool ng,.string dg2,.int .i64 ex2,.string xx,.slice k1 n1 m1,.slice k2 n2 m2] 27))
    have KA:=hide ((uh hkw).alloc (.cells #[.int .i64 kk,.bool tt,.bool ng,.string dg2,.int .i64 ex2,.string xx,.slice k1 n1 m1,.slice k2 n2 m2] 27))
    have hsA:Hid (B≤(wr.alloc (.cells #[.int .i64 kk,.bool tt,.bool ng,.string dg2,.int .i64 ex2,.string xx,.slice k1 n1 m1,.slice k2 n2 m2] 27)).heap.size∧b < (wr.alloc (.cells #[.int .i64 kk,.bool tt,.bool ng,.string dg2,.int .i64 ex2,.string xx,.slice k1 n1 m1,.slice k2 n2 m2] 27)).heap.size):=by
     show _∧_
     rw [World.size_alloc]
     omega
    have hbx:(wr.alloc (.cells #[.int .i64 kk,.bool tt,.bool ng,.string dg2,.int .i64 ex2,.string xx,.slice k1 n1 m1,.slice k2 n2 m2] 27)).heap[wr.heap.size]?=some (.cells #[.int .i64 kk,.bool tt,.bool ng,.string dg2,.int .i64 ex2,.string xx,.slice k1 n1 m1,.slice k2 n2 m2] 27 (0,0)):=heap_alloc_new wr _
    have hwb:wr.heap.size≠b:=by omega
    clear hat0 hat hcs hx hqi h8
    by_cases h0:i=0
    · have e0:comma (ps.take i)=[]:=by rw [h0];rfl
      have e1:Hid (comma (ps.take (i+1))=x):=by
       show _=_
       rw [take_succ' (uh HX),h0]
       simp [comma]
      rw [e0,List.append_nil] at IA
      have hig:¬ (0:Int) < (i:Int):=by omega
      have H0:=hide h0
      clear e0 h0
      go_upto_region 6 with fail
      generalize wr.alloc (.cells #[.int .i64 kk,.bool tt,.bool ng,.string dg2,.int .i64 ex2,.string xx,.slice k1 n1 m1,.slice k2 n2 m2] 27)=wa at *
      obtain ⟨g0,g1,g2,g3,g4,g5,g6,g7⟩:=BX.cells hbx
      have CJ:=hide (uh CI (l++[c1]) wa (uh IA) (by rw [List.length_append];show _+1+_≤_;omega) (uh hsA).1 (uh hsA).2 (uh BA) (uh KA))
      go_wp2_with (go_at_call 38;refine (uh CJ).mono ?_;rintro e u3 ⟨rfl,hb3,hc3,hk3⟩)
      exact ⟨⟨i+1,by omega,by go_num,by rw [uh e1];exact hb3,(uh BA).trans hc3,(uh KA).trans hk3⟩,by simp [intOf];omega⟩
    · have e1:comma (ps.take (i+1))=comma (ps.take i)++44::x:=by
       rw [take_succ' (uh HX),comma_snoc _ _ (fun q=>by have:=congrArg List.length q;rw [List.length_take,List.length_nil] at this;omega)]
      have hig:(0:Int) < (i:Int):=by omega
      go_upto_region 5 with fail
      generalize wr.alloc (.cells #[.int .i64 kk,.bool tt,.bool ng,.string dg2,.int .i64 ex2,.string xx,.slice k1 n1 m1,.slice k2 n2 m2] 27)=wa at *
      have WC:=hide (uh WB _ 44 wa (uh IA) (by simp only [List.length_append,List.length_singleton];omega) (uh hsA).1)
      go_wp2_with (first
       | (go_at_call 37;refine (uh WC).mono ?_;rintro e u2 ⟨rfl,hb2,hc2,hk2⟩
          have hbx2:=cell_kept hk2 hbx (by decide) hwb
          obtain ⟨g0,g1,g2,g3,g4,g5,g6,g7⟩:=BX.cells hbx2
          have CJ:=hide (uh CI _ u2 hb2 (by simp only [List.length_append,List.length_singleton];omega) (Nat.le_trans (uh hsA).1 hc2.size) (Nat.lt_of_lt_of_le (uh hsA).2 hc2.size) ((uh BA).trans hc2) ((uh KA).trans hk2)))
       | (go_at_call 38;refine (uh CJ).mono ?_;rintro e u3 ⟨rfl,hb3,hc3,hk3⟩))
      refine ⟨⟨i+1,by omega,by go_num,?_,((uh BA).trans hc2).trans hc3,((uh KA).trans hk2).trans hk3⟩,by simp [intOf];omega⟩
      rw [e1]
      have:l++[c1]++(comma (ps.take i)++44::x)=l++[c1]++comma (ps.take i)++[44]++x:=by simp
      rw [this]
      exact hb3
  · obtain rfl:i=css.length:=by omega
    have hno:¬ (css.length:Int) < (css.length:Int):=by omega
    rw [List.take_of_length_le (by omega)] at hI hcl
    have WC:=hide (uh WB _ c2 wr (uh hI) (by simp only [List.length_append,List.length_singleton];omega) hsz)
    go_wp2_with (go_at_call 37;refine (uh WC).mono ?_;rintro e u2 ⟨rfl,hb2,hc2,hk2⟩)
    go_end0
    refine ⟨rfl,?_,(uh hbw).trans hc2,(uh hkw).trans hk2⟩
    have:l++c1::(comma ps++[c2])=l++[c1]++comma ps++[c2]:=by simp
    rw [this]
    exact hb2
set_option maxHeartbeats 4000000 in
set_option maxRecDepth 1000000 in
theorem writeRowF (B b nb:Nat) (l:List UInt8) (c1 c2:UInt8) (css:List (List Value)) (ps:List (List UInt8)) (qs:List Nat) (oa:Option Addr) (c Bz:Nat) (w:World) (h:Bld B b l w) (hB:B≤w.heap.size) (hbs:b < w.heap.size)
 (hl1:ps.length=css.length) (hl2:qs.length=css.length) (hn:css.length≤1000000000000) (hrow:w.ownsRow Bz 62 9 (.slice oa css.length c) css.length css.flatten) (hne:(Value.slice oa css.length c).ownBlock≠some b) (hv:∀ cc∈css,V9 cc)
 (IC:∀ (j:Nat) (cs:List Value) (x:List UInt8) (q:Nat),css[j]?=some cs→ps[j]?=some x→qs[j]?=some q→∀ (l:List UInt8) (u:World),Bld B b l u→l.length+q≤140737488355328→B≤u.heap.size→b < u.heap.size→Below B w u→Lib.OthersKept 5 (some b) w u→Calls Tryz.prog 35 #[.agg cs.toArray,.pointer (some ⟨b,0,none⟩),.pointer (some ⟨nb,0,none⟩)] u (PO B b (l++x) u))
 (hq:∀ (j:Nat) (x:List UInt8) (q:Nat),ps[j]?=some x→qs[j]?=some q→x.length≤q) (hN:l.length+qs.sum+css.length+10≤140737488355328) :
 Calls Tryz.prog 43 #[.pointer (some ⟨b,0,none⟩),.int .u8 c1.toNat,.slice oa css.length c,.func (.func 35) #[] #[.pointer (some ⟨b,0,none⟩),.pointer (some ⟨nb,0,none⟩)],.int .u8 c2.toNat] w (PO B b (l++c1::(comma ps++[c2])) w):=by
 have WB0:=hide (writeByte_any B b l c1 w h (by omega) hB)
 have WB:=hide (fun (l:List UInt8) (c:UInt8) (u:World) h1 h2 h3=>writeByte_any B b l c u h1 h2 h3)
 have HI:=hide IC
 have HR:=hide hrow
 have HNE:=hide hne
 have HV:=hide hv
 have HQ:=hide hq
 have eg:=enter_tellF
 clear h IC hrow hne hv hq
 go_enter Tryz.func43,Tryz.ntmps43
 go_wp2_with (go_at_call 37;refine (uh WB0).mono ?_;rintro e u1 ⟨rfl,hb1,hc1,hk1⟩)
 clear WB0
 go_loopw [17] (fun iv wr=>∃ i:Nat,i≤css.length∧iv=.int .i64 (i:Int)∧Hid (Bld B b (l++[c1]++comma (ps.take i)) wr)∧Hid (Below B w wr)∧Hid (Lib.OthersKept 5 (some b) w wr)) (fun iv _=>css.length - (intOf iv).toNat)
 case atStart=>exact ⟨0,by omega,rfl,by refine hide ?_;simpa [comma] using hb1,hc1,hk1⟩
 case round =>
  obtain ⟨i,hi,rfl,hI,hbw,hkw⟩:=hrel
  clear hb1 hc1 hk1
  have hsz:B≤wr.heap.size:=Nat.le_trans hB (uh hbw).size
  have hbz:b < wr.heap.size:=Nat.lt_of_lt_of_le hbs (uh hbw).size
  have hcl:(comma (ps.take i)).length≤(qs.take i).sum+i:=by
   have:=comma_len (ps.take i) (qs.take i) (by rw [List.length_take,List.length_take];omega) (fun j x q e1 e2=>by
    rw [List.getElem?_take] at e1 e2
    split at e1
    · rename_i hj
      rw [if_pos hj] at e2
      exact uh HQ j x q e1 e2
    · cases e1)
   rw [List.length_take] at this
   omega
  have hst:=sum_take_le qs i
  by_cases hlt:i < css.length
  · obtain ⟨cs,hcs⟩:∃ x,css[i]?=some x:=⟨_,List.getElem?_eq_getElem hlt⟩
    obtain ⟨x,hx⟩:∃ x,ps[i]?=some x:=⟨_,List.getElem?_eq_getElem (by omega)⟩
    obtain ⟨q,hqi⟩:∃ x,qs[i]?=some x:=⟨_,List.getElem?_eq_getElem (by omega)⟩
    have hsq:=sum_take_at hqi
    obtain ⟨nm,kk,tt,ng,dg2,ex2,xx,k1,n1,m1,k2,n2,m2,rfl⟩:=uh HV cs (List.mem_of_getElem? hcs)
    obtain ⟨a,c',e,_,_,hat0⟩:=(mm.own_sv (row_kept (uh HR) (uh hkw) (by decide) (uh HNE))).some (by omega)
    simp only [Value.slice.injEq] at e
    obtain ⟨rfl,_,rfl⟩:=e
    have h9:∀ c∈css,c.length=9:=fun c hc=>by
     obtain ⟨_,_,_,_,_,_,_,_,_,_,_,_,_,rfl⟩:=uh HV c hc
     rfl
    have hat:=sv_at h9 hat0 hcs
    obtain ⟨xn,x0,x1,x2,x3,x4,x5,x6,x7⟩:=cells9 hat
    generalize ha:a.add (i*9)=ad at *
    have CI:=hide (fun l u h1 h2 h3 h4 h5 h6=>uh HI i _ x q hcs hx hqi l u h1 h2 h3 h4 h5 h6)
    have hi1:(i:Int) < (css.length:Int):=by omega
    have hi0:(0:Int)≤(i:Int):=by omega
    have HX:=hide hx
    have IA:=hide (Lib.IsBuilderF.alloc (uh hI) (.cells #[.string nm,.int .i64 kk,.bool tt,.bool ng,.string dg2,.int .i64 ex2,.string xx,.slice k1 n1 m1,.slice k2 n2 m2] 62))
    have BA:=hide ((uh hbw).alloc hsz (.cells #[.string nm,.int .i64 kk,.bool tt,.bool ng,.string dg2,.int .i64 ex2,.string xx,.slice k1 n1 m1,.slice k2 n2 m2] 62))
    have KA:=hide ((uh hkw).alloc (.cells #[.string nm,.int .i64 kk,.bool tt,.bool ng,.string dg2,.int .i64 ex2,.string xx,.slice k1 n1 m1,.slice k2 n2 m2] 62))
    have hsA:Hid (B≤(wr.alloc (.cells #[.string nm,.int .i64 kk,.bool tt,.bool ng,.string dg2,.int .i64 ex2,.string xx,.slice k1 n1 m1,.slice k2 n2 m2] 62)).heap.size∧b < (wr.alloc (.cells #[.string nm,.int .i64 kk,.bool tt,.bool ng,.string dg2,.int .i64 ex2,.string xx,.slice k1 n1 m1,.slice k2 n2 m2] 62)).heap.size):=by
     show _∧_
     rw [World.size_alloc]
     omega
    have hbx:(wr.alloc (.cells #[.string nm,.int .i64 kk,.bool tt,.bool ng,.string dg2,.int .i64 ex2,.string xx,.slice k1 n1 m1,.slice k2 n2 m2] 62)).heap[wr.heap.size]?=some (.cells #[.string nm,.int .i64 kk,.bool tt,.bool ng,.string dg2,.int .i64 ex2,.string xx,.slice k1 n1 m1,.slice k2 n2 m2] 62 (0,0)):=heap_alloc_new wr _
    have hwb:wr.heap.size≠b:=by omega
    clear hat0 hat hcs hx hqi h9
    by_cases h0:i=0
    · have e0:comma (ps.take i)=[]:=by rw [h0];rfl
      have e1:Hid (comma (ps.take (i+1))=x):=by
       show _=_
       rw [take_succ' (uh HX),h0]
       simp [comma]
      rw [e0,List.append_nil] at IA
      have hig:¬ (0:Int) < (i:Int):=by omega
      have H0:=hide h0
      clear e0 h0
      go_upto_region 6 with fail
      generalize wr.alloc (.cells #[.string nm,.int .i64 kk,.bool tt,.bool ng,.string dg2,.int .i64 ex2,.string xx,.slice k1 n1 m1,.slice k2 n2 m2] 62)=wa at *
      obtain ⟨gn,g0,g1,g2,g3,g4,g5,g6,g7⟩:=BF.cells hbx
      have CJ:=hide (uh CI (l++[c1]) wa (uh IA) (by rw [List.length_append];show _+1+_≤_;omega) (uh hsA).1 (uh hsA).2 (uh BA) (uh KA))
      go_wp2_with (go_at_call 35;refine (uh CJ).mono ?_;rintro e u3 ⟨rfl,hb3,hc3,hk3⟩)
      exact ⟨⟨i+1,by omega,by go_num,by rw [uh e1];exact hb3,(uh BA).trans hc3,(uh KA).trans hk3⟩,by simp [intOf];omega⟩
    · have e1:comma (ps.take (i+1))=comma (ps.take i)++44::x:=by
       rw [take_succ' (uh HX),comma_snoc _ _ (fun q=>by have:=congrArg List.length q;rw [List.length_take,List.length_nil] at this;omega)]
      have hig:(0:Int) < (i:Int):=by omega
      go_upto_region 5 with fail
      generalize wr.alloc (.cells #[.string nm,.int .i64 kk,.bool tt,.bool ng,.string dg2,.int .i64 ex2,.string xx,.slice k1 n1 m1,.slice k2 n2 m2] 62)=wa at *
      have WC:=hide (uh WB _ 44 wa (uh IA) (by simp only [List.length_append,List.length_singleton];omega) (uh hsA).1)
      go_wp2_with (first
       | (go_at_call 37;refine (uh WC).mono ?_;rintro e u2 ⟨rfl,hb2,hc2,hk2⟩
          have hbx2:=cell_kept hk2 hbx (by decide) hwb
          obtain ⟨gn,g0,g1,g2,g3,g4,g5,g6,g7⟩:=BF.cells hbx2
          have CJ:=hide (uh CI _ u2 hb2 (by simp only [List.length_append,List.length_singleton];omega) (Nat.le_trans (uh hsA).1 hc2.size) (Nat.lt_of_lt_of_le (uh hsA).2 hc2.size) ((uh BA).trans hc2) ((uh KA).trans hk2)))
       | (go_at_call 35;refine (uh CJ).mono ?_;rintro e u3 ⟨rfl,hb3,hc3,hk3⟩))
      refine ⟨⟨i+1,by omega,by go_num,?_,((uh BA).trans hc2).trans hc3,((uh KA).trans hk2).trans hk3⟩,by simp [intOf];omega⟩
      rw [e1]
      have:l++[c1]++(comma (ps.take i)++44::x)=l++[c1]++comma (ps.take i)++[44]++x:=by simp
      rw [this]
      exact hb3
  · obtain rfl:i=css.length:=by omega
    have hno:¬ (css.length:Int) < (css.length:Int):=by omega
    rw [List.take_of_length_le (by omega)] at hI hcl
    have WC:=hide (uh WB _ c2 wr (uh hI) (by simp only [List.length_append,List.length_singleton];omega) hsz)
    go_wp2_with (go_at_call 37;refine (uh WC).mono ?_;rintro e u2 ⟨rfl,hb2,hc2,hk2⟩)
    go_end0
    refine ⟨rfl,?_,(uh hbw).trans hc2,(uh hkw).trans hk2⟩
    have:l++c1::(comma ps++[c2])=l++[c1]++comma ps++[c2]:=by simp
    rw [this]
    exact hb2
end Go.Proofs.YthakglomacijgaaGreatDoor.rd
