/- Texts in one: Bn Ob Oc2 Rb Oz Ow Up Ox -/
import Derived.Test.YthnhobplgmojeaaGreatDoorVmP
import Derived.Sort.Grow
namespace Go.Proofs.YthnhobplgmojeaaGreatDoor.rd
open Go.RowKit Go.Shelf Go.Lib Go.Sort
structure Fd where
 nm:ByteArray
 (k:Int) (t ng:Bool) (dg:ByteArray) (ex:Int) (x:ByteArray) (q1:Option Addr) (n1 m1:Nat) (q2:Option Addr) (n2 m2:Nat)
def encF (f:Fd):List Value:=.string f.nm::(c8 f.k f.t f.ng f.dg f.ex f.x f.q1 f.n1 f.m1 f.q2 f.n2 f.m2).toList
theorem encF_len (f:Fd):(encF f).length=9:=rfl
theorem encF_one (f:Fd):∀ v∈encF f,v.oneCell'=true:=by
 intro v hv;simp only [encF,c8,List.mem_cons,List.not_mem_nil,or_false] at hv
 rcases hv with rfl|rfl|rfl|rfl|rfl|rfl|rfl|rfl|rfl <;> rfl
def cmpF (a b:Fd):Int:=compareBytes a.nm.data.toList b.nm.data.toList
set_option maxHeartbeats 1600000 in
theorem byName_any (a b:Fd) (W:World):Calls Tryz.prog 136 #[.agg (encF a).toArray,.agg (encF b).toArray] W fun e w'=>e=.returned (.int .i64 (cmpF a b))∧∃ q os',w'=grow (W.drewN q) os':=by
 have hcon:=hide (fun W'=>Tryz.strings_Compare a.nm b.nm W');unfold cmpF;generalize compareBytes a.nm.data.toList b.nm.data.toList=r at hcon ⊢;obtain ⟨an,ak,at',ang,adg,aex,ax,aq1,an1,am1,aq2,an2,am2⟩:=a;obtain ⟨bn,bk,bt,bng,bdg,bex,bx,bq1,bn1,bm1,bq2,bn2,bm2⟩:=b;simp only [encF,c8] at hcon ⊢
 go_enter Tryz.func136,Tryz.ntmps136
 go_wp2_with (go_at_call 152;refine (uh hcon _).mono ?_;rintro e w' ⟨rfl,rfl⟩)
 go_ret;exact ⟨rfl,0,_,by rw [alloc_eq_grow,alloc_eq_grow,grow_grow];rfl⟩
end Go.Proofs.YthnhobplgmojeaaGreatDoor.rd
namespace Go.Proofs.YthnhobplgmojeaaGreatDoor.rd
open Go.RowKit
structure Zr where
 nm:ByteArray
 v:JT
 c:List Value
 p:List Nat
 d:Fd
theorem perm_of_map {α β:Type}{f:α→β}{l1 l2:List β} (h:l1.Perm l2):∀ T:List α,T.map f=l1→∃ T':List α,T'.Perm T∧T'.map f=l2:=by
 induction h with
 | nil=>exact fun T hT=>⟨T,.refl _,hT⟩
 | cons x _ ih =>
   intro T hT
   cases T with
   | nil=>simp at hT
   | cons t T =>
     simp only [List.map_cons,List.cons.injEq] at hT;obtain ⟨T',h1,h2⟩:=ih T hT.2;exact ⟨t::T',h1.cons t,by simp [h2,hT.1]⟩
 | swap x y l =>
   intro T hT
   match T,hT with
   | a::b::T,hT =>
     simp only [List.map_cons,List.cons.injEq] at hT;exact ⟨b::a::T,.swap a b T,by simp [hT.1,hT.2.1,hT.2.2]⟩
 | trans _ _ ih1 ih2 =>
   intro T hT;obtain ⟨T1,h1,e1⟩:=ih1 T hT;obtain ⟨T2,h2,e2⟩:=ih2 T1 e1;exact ⟨T2,h2.trans h1,e2⟩
theorem shape_fd {w:World}{B:Nat}{v:JT}{c:List Value}{p:List Nat} (h:VRep w B v c p) (n:ByteArray):∃ d:Fd,encF d=.string n::c∧d.nm=n:=by
 obtain ⟨a,t,ng,dg,ex,x,q1,n1,m1,q2,n2,m2,hc⟩:=h.shape;refine ⟨⟨n,a,t,ng,dg,ex,x,q1,n1,m1,q2,n2,m2⟩,?_,rfl⟩;show Value.string n::(c8 a t ng dg ex x q1 n1 m1 q2 n2 m2).toList=_;rw [← hc]
theorem zip_up {w:World}{B:Nat}:∀ (f:List (ByteArray × JT)) (gss:List (List Value)) (qs:List (List Nat)),gss.length=f.length→qs.length=f.length →
 (∀ (i:Nat) (n:ByteArray) (v:JT) (c:List Value) (p:List Nat),f[i]?=some (n,v)→gss[i]?=some c→qs[i]?=some p→VRep w B v c p) →
 ∃ Z:List Zr,f=Z.map (fun z=>(z.nm,z.v))∧gss=Z.map (·.c)∧qs=Z.map (·.p)∧∀ z∈Z,VRep w B z.v z.c z.p∧encF z.d=.string z.nm::z.c∧z.d.nm=z.nm
 | [],[],[],_,_,_=>⟨[],rfl,rfl,rfl,fun _ h=>by simp at h⟩
 | (n,v)::f,c::gss,p::qs,h1,h2,hv=>by
   obtain ⟨Z,e1,e2,e3,hZ⟩:=zip_up f gss qs (by simpa using h1) (by simpa using h2) fun i n v c p a1 a2 a3=>hv (i+1) n v c p (by simpa using a1) (by simpa using a2) (by simpa using a3)
   have h0:=hv 0 n v c p rfl rfl rfl;obtain ⟨d,hd1,hd2⟩:=shape_fd h0 n;refine ⟨⟨n,v,c,p,d⟩::Z,by simp [e1],by simp [e2],by simp [e3],fun z hz=>?_⟩
   rcases List.mem_cons.1 hz with rfl|hz
   · exact ⟨h0,hd1,hd2⟩
   · exact hZ z hz
theorem fcs_of (Z:List Zr) (h:∀ z∈Z,encF z.d=.string z.nm::z.c):fcs (Z.map (fun z=>(z.nm,z.v))) (Z.map (·.c))=(Z.map (·.d)).flatMap encF:=by
 induction Z with
 | nil=>rfl
 | cons z Z ih =>
   have h1:=ih fun z hz=>h z (by simp [hz])
   have h2:=h z (by simp);unfold fcs at h1 ⊢;simp only [List.map_cons,List.zipWith_cons_cons,List.flatten_cons,List.flatMap_cons,h1,h2]
def byNameV:Value:=.func (.func 136) #[] #[]
def SortC:Prop:=∀ (w:World) (B g cap:Nat) (D:List Fd),0 < D.length→D.length≤1048577→w.ownsRow B 70 9 (.slice (some ⟨g,0,none⟩) D.length cap) D.length (D.flatMap encF) →
 Calls Tryz.prog 165 #[.slice (some ⟨g,0,none⟩) D.length cap,byNameV] w fun e w'=>e=.returned (.tuple #[]) ∧
  ∃ D':List Fd,D'.Perm D∧D'.Pairwise (fun a b=>cmpF a b≤0)∧w'.ownsRow B 70 9 (.slice (some ⟨g,0,none⟩) D.length cap) D.length (D'.flatMap encF)∧Mv g w w'
def SortC0:Prop:=∀ (p:Option Addr) (cap:Nat) (w:World),Calls Tryz.prog 165 #[.slice p 0 cap,byNameV] w fun e w'=>e=.returned (.tuple #[])∧w'=w
set_option maxRecDepth 100000 in
theorem sort_fields (SC:SortC) (SC0:SortC0) {w:World}{B:Nat}{sv:Value}{f:List (ByteArray × JT)}{gss:List (List Value)}{qs:List (List Nat)} (ho:w.ownsRow B 70 9 sv f.length (fcs f gss)) (e1:gss.length=f.length) (e2:qs.length=f.length)
 (hv:∀ (i:Nat) (n:ByteArray) (v:JT) (c:List Value) (p:List Nat),f[i]?=some (n,v)→gss[i]?=some c→qs[i]?=some p→VRep w B v c p) (hn:(own sv++qs.flatten).Nodup) (hl:f.length≤1048577) :
 Calls Tryz.prog 165 #[sv,byNameV] w fun e w'=>e=.returned (.tuple #[]) ∧
  ∃ (f':List (ByteArray × JT)) (gss':List (List Value)) (qs':List (List Nat)),f'.Perm f∧f'.Pairwise (fun a b=>Lib.compareBytes a.1.data.toList b.1.data.toList≤0)∧w'.ownsRow B 70 9 sv f'.length (fcs f' gss')∧gss'.length=f'.length∧qs'.length=f'.length ∧
    (∀ (i:Nat) (n:ByteArray) (v:JT) (c:List Value) (p:List Nat),f'[i]?=some (n,v)→gss'[i]?=some c→qs'[i]?=some p→VRep w' B v c p)∧(own sv++qs'.flatten).Nodup ∧
    w'.os=w.os∧w'.tape=w.tape∧w'.output=w.output∧w.heap.size≤w'.heap.size∧∀ b,b < w.heap.size→b ∉ own sv→w'.heap[b]?=w.heap[b]?:=by
 rcases ho.2 with ⟨rfl,h0⟩|⟨g,cap,cur,rfl,_⟩
 · refine (SC0 none 0 w).mono ?_
   rintro e w' ⟨rfl,rfl⟩;have hf:f=[]:=List.eq_nil_of_length_eq_zero h0;exact ⟨rfl,f,gss,qs,.refl _,by rw [hf];exact .nil,ho,e1,e2,hv,hn,rfl,rfl,rfl,Nat.le_refl _,fun _ _ _=>rfl⟩
 · obtain ⟨Z,rfl,rfl,rfl,hZ⟩:=zip_up f gss qs e1 e2 hv
   by_cases hz:Z=[]
   · subst hz
     refine (SC0 (some ⟨g,0,none⟩) cap w).mono ?_;rintro e w' ⟨rfl,rfl⟩;exact ⟨rfl,[],[],[],.refl _,.nil,ho,rfl,rfl,fun i n v c p h=>by simp at h,hn,rfl,rfl,rfl,Nat.le_refl _,fun _ _ _=>rfl⟩
   · have hlen:(Z.map (fun z=>(z.nm,z.v))).length=(Z.map (·.d)).length:=by simp
     have hpos:0 < (Z.map (·.d)).length:=by
      rw [List.length_map];exact List.length_pos_iff.2 hz
     have ho2:w.ownsRow B 70 9 (.slice (some ⟨g,0,none⟩) (Z.map (·.d)).length cap) (Z.map (·.d)).length ((Z.map (·.d)).flatMap encF):=by
      rw [← fcs_of Z fun z h=>(hZ z h).2.1,← hlen];exact ho
     clear ho;have hl2:(Z.map (·.d)).length≤1048577:=Nat.le_trans (Nat.le_of_eq hlen.symm) hl;rw [hlen];generalize hDe:Z.map (·.d)=D at hl2 hpos ho2 ⊢;have SD:=SC w B g cap D hpos hl2 ho2;refine SD.mono ?_;rintro e w' ⟨rfl,D',hp,hs,ho',hM⟩;obtain ⟨Z',hpz,hD'⟩:=perm_of_map hp.symm Z hDe;have hZ':∀ z∈Z',VRep w B z.v z.c z.p∧encF z.d=.string z.nm::z.c∧z.d.nm=z.nm:=fun z h=>hZ z (hpz.mem_iff.1 h)
     have hgn:∀ z∈Z',g ∉ z.p:=fun z h q=>by
      have hmem:g∈(Z.map (·.p)).flatten:=List.mem_flatten.2 ⟨z.p,List.mem_map.2 ⟨z,hpz.mem_iff.1 h,rfl⟩,q⟩;exact (List.nodup_append.1 hn).2.2 g (by simp [own,Value.ownBlock]) g hmem rfl
     refine ⟨rfl,Z'.map (fun z=>(z.nm,z.v)),Z'.map (·.c),Z'.map (·.p),hpz.map _,?_,?_,by simp,by simp,?_,?_,hM.os,hM.tape,hM.output,hM.size,fun b hb hno=>hM.block b hb (fun e=>hno (by simp [own,Value.ownBlock,e]))⟩
     · rw [← hD'] at hs
       rw [List.pairwise_map] at hs ⊢;refine hs.imp_of_mem fun {a b} ha hb h=>?_
       have h1:=(hZ' a ha).2.2;have h2:=(hZ' b hb).2.2;unfold cmpF at h;rw [h1,h2] at h;exact h
     · rw [fcs_of Z' fun z h=>(hZ' z h).2.1,hD']
       have hl':(Z'.map (fun z=>(z.nm,z.v))).length=D.length:=by rw [← hDe];simp [hpz.length_eq]
       rw [hl'];exact ho'
     · intro i n v c p a1 a2 a3
       simp only [List.getElem?_map,Option.map_eq_some_iff] at a1 a2 a3;obtain ⟨z,hz1,hz2⟩:=a1;obtain ⟨z2,hz3,rfl⟩:=a2;obtain ⟨z3,hz4,rfl⟩:=a3;rw [hz1] at hz3 hz4
       cases hz3
       cases hz4
       cases hz2
       have hm:=List.mem_of_getElem? hz1;refine (hZ' z hm).1.keep fun b hb=>hM.block b ((hZ' z hm).1.ge b hb).2 fun e=>hgn z hm (e ▸ hb)
     · refine ((List.Perm.append_left _ ?_).nodup_iff).2 hn
       exact (hpz.map _).flatten
theorem rowF_bd {σ:Type} (step:σ→Nat→(σ × Nat) ⊕ (Nat × Nat)) (endc:Int) (s:ByteArray) (Bd:σ→Nat→Prop) (hb0:∀ st k k',Bd st k→k≤k'→Bd st k') (hb1:∀ st k st' k',Bd st k→k≤s.size→step st k=.inl (st',k')→Bd st' k'∧k < k'∧k'≤s.size) :
 ∀ (f:Nat) (st:σ) (k:Nat) (st':σ) (k':Nat),Bd st k→k≤s.size→rowF step endc s f st k=.inl (st',k')→Bd st' k'∧k < k'∧k'≤s.size
 | 0,st,k,st',k',_,_,h=>by simp [rowF] at h
 | f+1,st,k,st',k',hB,hk,h=>by
   unfold rowF at h
   split at h
   · cases h
   · rename_i st1 k1 hst
     obtain ⟨h1,h2,h3⟩:=hb1 st k st1 k1 hB hk hst;obtain ⟨g1,g2⟩:=skipTo_le gapB.data.toList s k1 h3;have g1':k1≤gap s k1:=g1;have g2':gap s k1≤s.size:=g2
     split at h
     · rename_i h44
       have hlt:=nxt_some s (gap s k1) g2' (by omega);have:=rowF_bd step endc s Bd hb0 hb1 f st1 (gap s k1+1) st' k' (hb0 _ _ _ h1 (by omega)) (by omega) h;exact ⟨this.1,by omega,this.2.2⟩
     · split at h
       · cases h
         exact ⟨hb0 _ _ _ h1 g1',by omega,g2'⟩
       · cases h
theorem sorted_eq {α:Type}{r:α→α→Prop}:∀ (l1 l2:List α),l1.Perm l2→l1.Pairwise r→l2.Pairwise r→(∀ a∈l1,∀ b∈l1,r a b→r b a→a=b)→l1=l2
 | [],l2,hp,_,_,_=>by rw [List.Perm.nil_eq hp]
 | a::l1,[],hp,_,_,_=>by simp at hp
 | a::l1,b::l2,hp,h1,h2,ha=>by
   have hab:a=b:=by
    by_cases e:a=b
    · exact e
    · have ma:a∈l2:=by
       have:=hp.mem_iff.1 (List.mem_cons_self (a:=a) (l:=l1))
       rcases List.mem_cons.1 this with q|q
       · exact absurd q e
       · exact q
      have mb:b∈l1:=by
       have:=hp.mem_iff.2 (List.mem_cons_self (a:=b) (l:=l2))
       rcases List.mem_cons.1 this with q|q
       · exact absurd q.symm e
       · exact q
      exact ha a (by simp) b (by simp [mb]) ((List.pairwise_cons.1 h1).1 b mb) ((List.pairwise_cons.1 h2).1 a ma)
   subst hab;rw [sorted_eq l1 l2 (List.Perm.cons_inv hp) (List.pairwise_cons.1 h1).2 (List.pairwise_cons.1 h2).2 fun x hx y hy=>ha x (by simp [hx]) y (by simp [hy])]
theorem ret_object {m:Nat} (w:World) (k:Int) (t:Bool) (d:Dn) (x:ByteArray) (lv fv ev:Value) (h:VL w m (vc k t d x lv fv)) (tmps:Array Value) (h2:tmps[2]?.getD undef=.pointer (some ⟨m,0,none⟩)) (h3:tmps[3]?.getD undef=ev) :
 (results Tryz.f144 tmps).run Tryz.prog w=.ok (.tuple #[.agg (vc k t d x lv fv),ev]) w:=by
 obtain ⟨q0,q1,q2,q3,q4,q5,q6,q7⟩:=VL.cells h;simp [results,Tryz.results144,h2,h3,go_sem,q0,q1,q2,q3,q4,q5,q6,q7,vc]
theorem enter_object1 (args:Array Value) (w:World):(callFunc 162 args).run Tryz.prog w=.ok (.enter 162 args) w :=
 MuLone.run_callFunc_enter Tryz.func162 (by kernel_rfl) (c:=Tryz.f162.body.get (by kernel_rfl)) (by kernel_rfl) args w
def objW (w:World) (rb:Nat):World:=((((w.alloc (.cells #[.pointer (some ⟨rb,0,none⟩)] 177)).alloc (.cells vNull 28)).alloc (.cells #[.slice none 0 0] 26)).alloc (.map #[] 0)).alloc (.cells #[.map (some (w.heap.size+3))] 201)
theorem heap_at (w:World) (rb i:Nat) (o:Obj) (h:[.cells #[.pointer (some ⟨rb,0,none⟩)] 177 (0,0),.cells vNull 28 (0,0),.cells #[.slice none 0 0] 26 (0,0),.map #[] 0,.cells #[.map (some (w.heap.size+3))] 201 (0,0)][i]?=some o):(objW w rb).heap[w.heap.size+i]?=some o:=by
 show (((((w.heap.push _).push _).push _).push _).push _)[w.heap.size+i]?=_;rw [Array.getElem?_push,Array.getElem?_push,Array.getElem?_push,Array.getElem?_push,Array.getElem?_push];simp only [Array.size_push]
 match i,h with
 | 0,h=>cases h;repeat' split
        all_goals first|rfl|omega
 | 1,h=>cases h;repeat' split
        all_goals first|rfl|omega
 | 2,h=>cases h;repeat' split
        all_goals first|rfl|omega
 | 3,h=>cases h;repeat' split
        all_goals first|rfl|omega
 | 4,h=>cases h;repeat' split
        all_goals first|rfl|omega
theorem objW_below (w:World) (rb:Nat):Below w.heap.size w (objW w rb):=by
 refine ((((((Below.refl _ _).alloc (Nat.le_refl _) _).alloc ?_ _).alloc ?_ _).alloc ?_ _).alloc ?_ _) <;> (simp <;> omega)
theorem objW_size (w:World) (rb:Nat):(objW w rb).heap.size=w.heap.size+5:=by
 show (((((w.heap.push _).push _).push _).push _).push _).size=_;simp
theorem ost_new (w:World) (rb:Nat):OSt rb w.heap.size (w.heap.size+4) (w.heap.size+3) (w.heap.size+2) (w.heap.size+5) [] (objW w rb):=by
 refine ⟨heap_at w rb 0 _ rfl,heap_at w rb 4 _ rfl,?_,.slice none 0 0,[],[],heap_at w rb 2 _ rfl,World.ownsRow_nil _ _ _ _,rfl,rfl,fun i n v c p h=>by simp at h,by simp [own,Value.ownBlock]⟩;have h3:=heap_at w rb 3 _ rfl;obtain ⟨D,⟨es,clock,h1,h2⟩,hh⟩:=nmap_made (((w.alloc (.cells #[.pointer (some ⟨rb,0,none⟩)] 177)).alloc (.cells vNull 28)).alloc (.cells #[.slice none 0 0] 26));have h4:=heap_alloc_new (((w.alloc (.cells #[.pointer (some ⟨rb,0,none⟩)] 177)).alloc (.cells vNull 28)).alloc (.cells #[.slice none 0 0] 26)) (.map #[] 0);exact ⟨D,⟨es,clock,h3.trans (h4.symm.trans h1),h2⟩,hh⟩
theorem obj_val {W m:Nat}{f:List (ByteArray × JT)}{w wf:World}{B:Nat}{sv:Value}{gss:List (List Value)}{qs:List (List Nat)} (ho:w.ownsRow (W+5) 70 9 sv f.length (fcs f gss)) (e1:gss.length=f.length) (e2:qs.length=f.length)
 (hv:∀ (i:Nat) (n:ByteArray) (v:JT) (c:List Value) (p:List Nat),f[i]?=some (n,v)→gss[i]?=some c→qs[i]?=some p→VRep w (W+5) v c p) (hB:B≤W) (hm:m < W+5) (hk:Mv m w wf):VRep wf B (JT.mk 5 false zed ⟨#[]⟩ [] f) (vc 5 false zed ⟨#[]⟩ nilS sv).toList (own sv++qs.flatten):=by
 have hb:∀ b,W+5≤b∧b < w.heap.size→wf.heap[b]?=w.heap[b]?:=fun b h=>hk.block b h.2 (by omega)
 have:=VRep.mk (w:=wf) (B:=B) (k:=5) (t:=false) (d:=zed) (x:=⟨#[]⟩) (l:=[]) (f:=f) (lv:=nilS) (fv:=sv) (css:=[]) (gss:=gss) (ps:=[]) (qs:=qs)
  (World.ownsRow_nil _ _ _ _) (owns_base (owns_keep ho fun b h=>hb b (owns_ge ho b h)) (by omega)) rfl rfl e1 e2 (fun i v c p h=>by simp at h)
  (fun i n v c p a1 a2 a3=>((hv i n v c p a1 a2 a3).keep fun b h=>hb b ((hv i n v c p a1 a2 a3).ge b h)).base (by omega))
 have e:own nilS++own sv++([]:List (List Nat)).flatten++qs.flatten=own sv++qs.flatten:=by simp [own,nilS,Value.ownBlock]
 rw [e] at this;exact this
theorem gap_ge (s:ByteArray) (k:Nat):k≤gap s k:=Nat.le_add_right _ _
theorem gap_le (s:ByteArray) (k:Nat) (h:k≤s.size):gap s k≤s.size:=(skipTo_le gapB.data.toList s k h).2
theorem lettF_up (s:ByteArray):∀ (f k:Nat) (acc l:List UInt8) (j:Nat),lettF s f k acc=.inl (l,j)→k < j
 | 0,k,acc,l,j,h=>by simp [lettF] at h
 | f+1,k,acc,l,j,h=>by
   unfold lettF at h
   split at h
   · cases h;omega
   · split at h
     · cases h
     · have:=lettF_up s f _ _ l j h
       omega
theorem lettF_le (s:ByteArray):∀ (f k:Nat) (acc l:List UInt8) (j:Nat),k≤s.size→lettF s f k acc=.inl (l,j)→j≤s.size
 | 0,k,acc,l,j,_,h=>by simp [lettF] at h
 | f+1,k,acc,l,j,hk,h=>by
   unfold lettF at h
   split at h
   · rename_i q
     cases h
     have:=nxt_34 s k hk q;omega
   · split at h
     · cases h
     · refine lettF_le s f _ _ l j ?_ h
       have h1:=letAt_bd (s.extract k s.size);have h3:(s.extract k s.size).size=s.size - k:=by simp
       omega
theorem letts_up {s:ByteArray}{k:Nat}{l:List UInt8}{j:Nat} (h:letts s k=.inl (l,j)):k < j:=by
 have:=lettF_up s _ _ _ _ _ h;omega
theorem letts_le {s:ByteArray}{k:Nat}{l:List UInt8}{j:Nat} (hk:k < s.size) (h:letts s k=.inl (l,j)):j≤s.size:=lettF_le s _ _ _ _ _ (by omega) h
def Ups (s:ByteArray) (vf:Nat→(JT × Nat) ⊕ (Nat × Nat)):Prop:=(∀ k v k',vf k=.inl (v,k')→k < k')∧∀ k v k',k≤s.size→vf k=.inl (v,k')→k'≤s.size
theorem wordR_up {wd:ByteArray}{kd:Int}{tr:Bool}{s:ByteArray}{k:Nat}{v:JT}{k':Nat} (hw:0 < wd.size) (h:wordR wd kd tr s k=.inl (v,k')):k < k'∧(k≤s.size→k'≤s.size):=by
 unfold wordR at h
 split at h
 · rename_i hp
   cases h
   refine ⟨by omega,fun hk=>?_⟩;have hl:=prefix_le _ _ hp;have h1:wd.data.toList.length=wd.size:=Array.length_toList
   have h2:(s.extract k s.size).data.toList.length=s.size - k:=by
    have h3:(s.extract k s.size).size=s.size - k:=by simp
    exact Array.length_toList.trans h3
   omega
 · cases h
theorem rparse_nil:(rparse ⟨#[]⟩).2≠0:=by decide
theorem numJ_up {s:ByteArray}{k:Nat}{v:JT}{k':Nat} (h:numJ s k=.inl (v,k')):k < k'∧(k≤s.size→k'≤s.size):=by
 unfold numJ at h
 split at h
 · rename_i hp
   cases h
   refine ⟨?_,fun hk=>(skipTo_le numBytes.data.toList s k hk).2⟩
   by_cases e:numTo s k=k
   · exfalso
     unfold numR at hp;rw [e] at hp
     have:s.extract k k=⟨#[]⟩:=by
      apply ByteArray.ext;simp [ByteArray.extract,ByteArray.copySlice];omega
     rw [this] at hp;exact rparse_nil hp
   · have:k≤numTo s k:=Nat.le_add_right _ _
     omega
 · cases h
theorem textR_up {s:ByteArray}{k:Nat}{v:JT}{k':Nat} (h:textR s k=.inl (v,k')):k < k'∧(k < s.size→k'≤s.size):=by
 unfold textR at h
 split at h
 · rename_i l j hl
   cases h
   exact ⟨letts_up hl,fun hk=>letts_le hk hl⟩
 · cases h
theorem rowF_up {σ:Type}{step:σ→Nat→(σ × Nat) ⊕ (Nat × Nat)}{endc:Int}{s:ByteArray} (hs:∀ st k st' k',step st k=.inl (st',k')→k < k'):∀ (f:Nat) (st:σ) (k:Nat) (st':σ) (k':Nat),rowF step endc s f st k=.inl (st',k')→k < k'
 | 0,st,k,st',k',h=>by simp [rowF] at h
 | f+1,st,k,st',k',h=>by
   unfold rowF at h
   split at h
   · cases h
   · rename_i st1 k1 hst
     have h1:=hs _ _ _ _ hst;have h2:=gap_ge s k1
     split at h
     · have:=rowF_up hs f _ _ _ _ h
       omega
     · split at h
       · cases h;omega
       · cases h
theorem rowF_lt {σ:Type}{step:σ→Nat→(σ × Nat) ⊕ (Nat × Nat)}{endc:Int}{s:ByteArray} (he:0≤endc) (hs:∀ st k st' k',k≤s.size→step st k=.inl (st',k')→k'≤s.size):∀ (f:Nat) (st:σ) (k:Nat) (st':σ) (k':Nat),k≤s.size→rowF step endc s f st k=.inl (st',k')→k' < s.size
 | 0,st,k,st',k',_,h=>by simp [rowF] at h
 | f+1,st,k,st',k',hk,h=>by
   unfold rowF at h
   split at h
   · cases h
   · rename_i st1 k1 hst
     have h1:=hs _ _ _ _ hk hst;have h2:=gap_le s k1 h1
     split at h
     · rename_i h44
       have h3:=nxt_some s (gap s k1) h2 (by omega);exact rowF_lt he hs f _ _ _ _ (by omega) h
     · split at h
       · rename_i hc
         have h3:=nxt_some s (gap s k1) h2 (by omega)
         cases h
         exact h3
       · cases h
theorem rowR_up {σ:Type}{step:σ→Nat→(σ × Nat) ⊕ (Nat × Nat)}{endc:Int}{s:ByteArray}{o:Int}{st:σ}{k:Nat}{st':σ}{k':Nat} (hs:∀ st k st' k',step st k=.inl (st',k')→k < k') (h:rowR step endc s o st k=.inl (st',k')):k < k':=by
 have hg:=gap_ge s (k+1);unfold rowR at h
 split at h
 · cases h
 · split at h
   · cases h;omega
   · unfold rowE at h
     split at h
     · cases h
     · rename_i st1 k1 hr
       cases h
       have:=rowF_up hs _ _ _ _ _ hr;omega
theorem rowR_le {σ:Type}{step:σ→Nat→(σ × Nat) ⊕ (Nat × Nat)}{endc:Int}{s:ByteArray}{o:Int}{st:σ}{k:Nat}{st':σ}{k':Nat} (he:0≤endc) (hs:∀ st k st' k',k≤s.size→step st k=.inl (st',k')→k'≤s.size) (hk:k < s.size) (h:rowR step endc s o st k=.inl (st',k')):k'≤s.size:=by
 have hg:=gap_le s (k+1) (by omega);unfold rowR at h
 split at h
 · cases h
 · split at h
   · rename_i hc
     have:=nxt_some s _ hg (by omega)
     cases h;omega
   · unfold rowE at h
     split at h
     · cases h
     · rename_i st1 k1 hr
       cases h
       have:=rowF_lt he hs _ _ _ _ _ hg hr;omega
theorem lstep_le {vf:Nat→(JT × Nat) ⊕ (Nat × Nat)}{s:ByteArray} (hup:Ups s vf) (l:List JT) (k:Nat) (l':List JT) (k':Nat) (hk:k≤s.size) (h:lstep vf l k=.inl (l',k')):k'≤s.size:=by
 unfold lstep at h
 split at h
 · rename_i v k1 hv
   cases h
   exact hup.2 _ _ _ hk hv
 · cases h
theorem listR_up {vf:Nat→(JT × Nat) ⊕ (Nat × Nat)}{s:ByteArray}{o:Int}{k:Nat}{v:JT}{k':Nat} (hup:Ups s vf) (h:listR vf s o k=.inl (v,k')):k < k'∧(k < s.size→k'≤s.size):=by
 unfold listR at h
 split at h
 · rename_i l k1 hr
   cases h
   exact ⟨rowR_up (fun l k l' k' q=>(lstep_up hup.1 q).1) hr,fun hk=>rowR_le (by omega) (lstep_le hup) hk hr⟩
 · cases h
theorem nmR_up {s:ByteArray}{ns:List (List UInt8)}{k:Nat}{n:List UInt8}{j:Nat} (h:nmR s ns k=.inl (n,j)):k < j∧(k≤s.size→j≤s.size)∧n ∉ ns:=by
 have hg:=gap_ge s k;unfold nmR at h
 split at h
 · rename_i q34
   split at h
   · cases h
   · rename_i l j1 hl
     split at h
     · cases h
     · rename_i hn
       cases h
       have h1:=letts_up hl;exact ⟨by omega,fun hk=>letts_le (nxt_34 s _ (gap_le s k hk) q34) hl,hn⟩
 · cases h
theorem fvR_up {vf:Nat→(JT × Nat) ⊕ (Nat × Nat)}{s:ByteArray}{k:Nat}{v:JT}{k':Nat} (hup:Ups s vf) (h:fvR vf s k=.inl (v,k')):k < k'∧(k≤s.size→k'≤s.size):=by
 have hg:=gap_ge s k;unfold fvR at h
 split at h
 · rename_i q
   have h1:=hup.1 _ _ _ h;refine ⟨by omega,fun hk=>hup.2 _ _ _ ?_ h⟩;have:=nxt_some s _ (gap_le s k hk) (by omega);omega
 · cases h
def nms (f:List (ByteArray × JT)):List (List UInt8):=f.map fun p=>p.1.data.toList
theorem ostep_up {vf:Nat→(JT × Nat) ⊕ (Nat × Nat)}{s:ByteArray}{f:List (ByteArray × JT)}{k:Nat}{f':List (ByteArray × JT)}{k':Nat} (hup:Ups s vf) (h:ostep vf s f k=.inl (f',k')) :
 k < k'∧f'.length=f.length+1∧(k≤s.size→k'≤s.size)∧((nms f).Nodup→(nms f').Nodup):=by
 unfold ostep at h
 split at h
 · cases h
 · rename_i n k1 hn
   split at h
   · cases h
   · rename_i v k2 hv
     cases h
     obtain ⟨a1,a2,a3⟩:=nmR_up hn;obtain ⟨b1,b2⟩:=fvR_up hup hv;refine ⟨by omega,by simp,fun hk=>b2 (a2 hk),fun hd=>?_⟩;unfold nms at hd ⊢;rw [List.map_append,List.nodup_append];refine ⟨hd,by simp,fun a ha b hb e=>?_⟩;simp only [List.map_cons,List.map_nil,List.mem_singleton] at hb;rw [e,hb] at ha;exact a3 (by simpa using ha)
set_option maxRecDepth 100000 in
set_option maxHeartbeats 3200000 in
theorem object_any (SC:SortC) (SC0:SortC0) (E:Nat→Value) (rb:Nat) (s:ByteArray) (o:Int) (vf:Nat→(JT × Nat) ⊕ (Nat × Nat)) (hs:s.size≤1048576) (hr:17≤rb) (ho0:0≤o) (ho:o≤64)
 (VC:o≠64→∀ (w:World) (k:Nat),RL w rb s k (o+1)→Env E w→k≤s.size→Calls Tryz.prog 118 #[.pointer (some ⟨rb,0,none⟩)] w (ValPost E rb s (o+1) w (vf k)))
 (hup:∀ f k f' k',ostep vf s f k=.inl (f',k')→k < k'∧f'.length=f.length+1)
 (w:World) (k:Nat) (h:RL w rb s k o) (hk:k < s.size) (hE:Env E w) (hfl:∀ f k',rowR (ostep vf s) 125 s o [] k=.inl (f,k')→f.length≤1048577) :
 Calls Tryz.prog 144 #[.pointer (some ⟨rb,0,none⟩)] w fun e w'=>∃ r,(match rowR (ostep vf s) 125 s o [] k with
  | .inl (f,k')=>∃ f':List (ByteArray × JT),f'.Perm f∧f'.Pairwise (fun a b=>Lib.compareBytes a.1.data.toList b.1.data.toList≤0)∧r=.inl (JT.mk 5 false zed ⟨#[]⟩ [] f',k')
  | .inr e=>r=.inr e)∧ValPost E rb s o w r e w':=by
 have hrl:=blk_lt h;have hA0:VL (objW w rb) (w.heap.size+1) vNull:=heap_at w rb 1 _ rfl;have hL0:=ost_new w rb;have hB0:=objW_below w rb;have hsz:=objW_size w rb;have hR0:=h.below hB0 hrl;have hng:17≤w.heap.size:=by omega
 have RO:=hide (row_any (σ:=List (ByteArray × JT)) 162 #[.pointer (some ⟨w.heap.size,0,none⟩),.pointer (some ⟨w.heap.size+4,0,none⟩),.pointer (some ⟨w.heap.size+2,0,none⟩)] enter_object1 (OSt rb w.heap.size (w.heap.size+4) (w.heap.size+3) (w.heap.size+2) (w.heap.size+5)) (ostep vf s) E rb (w.heap.size+2) s o 125
  hs hr (by omega) (by omega) (by omega) (by omega) (fun a b l hl hm=>hl.mv hm (by omega) (by omega) (by omega) (by omega) (by omega)) (fun l k l' k' q=>Nat.le_of_lt (hup l k l' k' q).1) (fun l k=>l.length≤k) (fun l k k' q1 q2=>by omega) (fun l k l' k' q1 q2=>by have:=hup l k l' k' q2;omega)
  (fun h64 a l k q1 q2 q3 q4 q5 _=>object1_any E rb w.heap.size s (o+1) vf hs hr (by omega) (VC h64) a l k q1 q2 q3 q4 q5) [] k _ hR0 hk ho0 ho hL0 (by simp) (hE.below hB0) (by omega))
 have HFL:=hide hfl;generalize rowR (ostep vf s) 125 s o [] k=rr at RO HFL ⊢;have hmm:=@run_makeMap Tryz.prog;clear VC hup hE h hL0 hR0 hk hfl;simp only [objW,vNull,vc,zed,nilS] at RO hB0 hA0 hsz
 go_enter Tryz.func144,Tryz.ntmps144
 go_wp2_with fail
 refine (uh RO).mono ?_;rintro e u1 ⟨hh,hM⟩;have hA1:=hide ((hM.block (w.heap.size+1) (by omega) (by omega)).trans hA0);have hM1:=hide (show Mv rb w u1 from ⟨hM.os.trans hB0.os,hM.tape.trans hB0.tape,hM.output.trans hB0.output,Nat.le_trans hB0.size hM.size,fun k hk hn=>(hM.block k (by omega) hn).trans (hB0.block k hk)⟩);clear hA0 hB0 hM RO hsz hmm
 rcases hh with ⟨f,k',rfl,hk',rfl,hR,hL⟩|⟨g,k',fb,rfl,hk',rfl,hfb,hfl,kx,ox,hRx⟩
 · obtain ⟨hp,hpb,hnm,sv,gss,qs,hl,ho',e1,e2,hv,hn⟩:=hL
   have hlp:=blk_lt hpb;have hsvg:=owns_ge ho';have SF:=hide (sort_fields SC SC0 ho' e1 e2 hv hn (uh HFL f k' rfl));obtain ⟨q,cap0,hsvq,hq⟩:=owns_slice ho';have cl:u1.cell? ⟨w.heap.size+2,0,none⟩=some sv:=blk_cell hl 0;have HL:=hide hl;have HRd:=hide hR;have hne:w.heap.size+1≠rb:=by omega
   clear hp hpb hnm hl ho' hv hn hR hq HFL e1 e2 SC SC0;unfold byNameV at SF;subst hsvq
   go_wp2_with fail
   refine (uh SF).mono ?_;rintro e u2 ⟨rfl,f',gss',qs',hperm,hsort,ho2,e1',e2',hv2,hn2,b1,b2,b3,b4,hblk⟩;have hL2:=(hblk (w.heap.size+2) (by omega) (fun q=>by have:=(hsvg _ q).1;omega)).trans (uh HL);have hA2:=hide ((hblk (w.heap.size+1) (by omega) (fun q=>by have:=(hsvg _ q).1;omega)).trans (uh hA1));have hR2:=hide (show RL u2 rb s k' o from (hblk rb (blk_lt (uh HRd)) (fun q=>by have:=(hsvg _ q).1;omega)).trans (uh HRd));have hM2:=hide (show Mv rb w u2 from ⟨b1.trans (uh hM1).os,b2.trans (uh hM1).tape,b3.trans (uh hM1).output,Nat.le_trans (uh hM1).size b4,fun b hb hn=>(hblk b (by have:=(uh hM1).size;omega) (fun q=>by have:=(hsvg _ q).1;omega)).trans ((uh hM1).block b hb hn)⟩);have cl2:u2.cell? ⟨w.heap.size+2,0,none⟩=some (.slice q f.length cap0):=blk_cell hL2 0;have HO:=hide ho2;have HV:=hide hv2;have HN:=hide hn2;have HP:=hide hperm;have HSo:=hide hsort;clear hL2 hblk b1 b2 b3 b4 ho2 hv2 hn2 hperm hsort hA1 hM1 HL HRd cl SF;obtain ⟨q0,q1,q2,q3,q4,q5,q6,q7⟩:=VL.cells (show VL u2 (w.heap.size+1) (vc 0 false zed ⟨#[]⟩ nilS nilS) from uh hA2);obtain ⟨g0,g1,g2,g3,g4,g5,g6,g7⟩:=VL.frees (uh hA2);simp only [zed,nilS] at q0 q1 q2 q3 q4 q5 q6 q7;go_wp2;have hU:=put8_upd u2 (w.heap.size+1) 5 false zed ⟨#[]⟩ nilS (.slice q f.length cap0);refine bodyPost_ret (ret_object (m:=w.heap.size+1) _ 5 false zed ⟨#[]⟩ nilS (.slice q f.length cap0) .nilIface (put8_lies (k':=0) (t':=false) (d':=zed) (x':=⟨#[]⟩) (lv':=nilS) (fv':=nilS) (uh hA2) 5 false zed ⟨#[]⟩ nilS (.slice q f.length cap0)) _ rfl rfl) rfl ?_;refine ⟨.inl (JT.mk 5 false zed ⟨#[]⟩ [] f',k'),⟨f',uh HP,uh HSo,rfl⟩,.inl ⟨JT.mk 5 false zed ⟨#[]⟩ [] f',k',(vc 5 false zed ⟨#[]⟩ nilS (.slice q f.length cap0)).toList,own (.slice q f.length cap0)++qs'.flatten,rfl,hk',rfl,?_,?_,uh HN⟩,?_⟩
   · exact hU.obj (Ne.symm hne) (uh hR2)
   · exact obj_val (uh HO) e1' e2' (uh HV) (Nat.le_refl _) (by omega) hU
   · exact (uh hM2).own (by omega) hU
 · have HRd:=hide hRx
   have HFl:=hide hfl;have hne:w.heap.size+1≠rb:=by omega
   have hnf:w.heap.size+1≠fb:=by omega
   clear hRx hfl HFL SC SC0;obtain ⟨q0,q1,q2,q3,q4,q5,q6,q7⟩:=VL.cells (show VL u1 (w.heap.size+1) (vc 0 false zed ⟨#[]⟩ nilS nilS) from uh hA1);obtain ⟨g0,g1,g2,g3,g4,g5,g6,g7⟩:=VL.frees (uh hA1);simp only [zed,nilS] at q0 q1 q2 q3 q4 q5 q6 q7;go_wp2;have hU:=put8_upd u1 (w.heap.size+1) 0 false zed ⟨#[]⟩ nilS nilS;refine bodyPost_ret (ret_object (m:=w.heap.size+1) _ 0 false zed ⟨#[]⟩ nilS nilS (.iface 178 (.pointer (some ⟨fb,0,none⟩))) (put8_lies (k':=0) (t':=false) (d':=zed) (x':=⟨#[]⟩) (lv':=nilS) (fv':=nilS) (uh hA1) 0 false zed ⟨#[]⟩ nilS nilS) _ rfl rfl) rfl ?_;refine ⟨.inr ⟨g,k',fb,?_,hk',?_,?_,?_,kx,ox,?_⟩,?_⟩
   · rfl
   · rfl
   · omega
   · exact hU.obj (Ne.symm hnf) (uh HFl)
   · exact hU.obj (Ne.symm hne) (uh HRd)
   · exact (uh hM1).own (by omega) hU
end Go.Proofs.YthnhobplgmojeaaGreatDoor.rd
