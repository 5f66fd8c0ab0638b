/- Texts in one: Zt Zu Zv Zw Zx Zy Zi Zj -/
import Derived.Test.YthnhobplgmojeaaGreatDoorScP
import Derived.Shelf.SlSortFuncK.SWK
import Derived.Deep.Cut
import Derived.Deep.DeepCutAuto
import Derived.Test.YthnhobplgmojeaaGreatDoorZzP
namespace Go.Proofs.YthnhobplgmojeaaGreatDoor.rd.ss
open Go.RowKit Go.Shelf Go.Lib Go.Sort
structure SF (P:Program) (k:Nat):Prop where
 mixed:P.follows .mixedOrders=true
 t0:P.underlying 0=some (TypeDesc.tuple #[])
 a0:∀ w,(isAgg 0).run P w=.ok false w
 z0:∀ w,(Go.sizeOf 0).run P w=.ok 1 w
 v0:∀ w,(zeroValue 0).run P w=.ok (Value.tuple #[]) w
 t3:P.underlying 3=some (TypeDesc.int IntKind.i64)
 a3:∀ w,(isAgg 3).run P w=.ok false w
 z3:∀ w,(Go.sizeOf 3).run P w=.ok 1 w
 v3:∀ w,(zeroValue 3).run P w=.ok (Value.int IntKind.i64 0) w
 t4:P.underlying 4=some (TypeDesc.bool)
 a4:∀ w,(isAgg 4).run P w=.ok false w
 z4:∀ w,(Go.sizeOf 4).run P w=.ok 1 w
 v4:∀ w,(zeroValue 4).run P w=.ok (Value.bool false) w
 t22:P.underlying 26=some (TypeDesc.slice 70)
 a22:∀ w,(isAgg 26).run P w=.ok false w
 z22:∀ w,(Go.sizeOf 26).run P w=.ok 1 w
 v22:∀ w,(zeroValue 26).run P w=.ok (Value.slice none 0 0) w
 t25:P.underlying 174=some (TypeDesc.func #[70,70] #[3] false)
 aE:∀ w,(isAgg 70).run P w=.ok true w
 zE:∀ w,(Go.sizeOf 70).run P w=.ok k w
 a25:∀ w,(isAgg 174).run P w=.ok false w
 z25:∀ w,(Go.sizeOf 174).run P w=.ok 1 w
 v25:∀ w,(zeroValue 174).run P w=.ok (Value.nilFunc) w
 t39:P.underlying 152=some (TypeDesc.int IntKind.u64)
 a39:∀ w,(isAgg 152).run P w=.ok false w
 z39:∀ w,(Go.sizeOf 152).run P w=.ok 1 w
 v39:∀ w,(zeroValue 152).run P w=.ok (Value.int IntKind.u64 0) w
 fs:P.funcs[214]?=some Tryz.f214
 fr:P.funcs[196]?=some Tryz.f196
 fm:P.funcs[178]?=some Tryz.f178
theorem sf_prog:SF Tryz.prog 9 where
 mixed:=by kernel_rfl
 t0:=Tryz.underlying0
 a0:=Tryz.isAgg0
 z0:=Tryz.sizeOf0
 v0:=Tryz.zeroValue0
 t3:=Tryz.underlying3
 a3:=Tryz.isAgg3
 z3:=Tryz.sizeOf3
 v3:=Tryz.zeroValue3
 t4:=Tryz.underlying4
 a4:=Tryz.isAgg4
 z4:=Tryz.sizeOf4
 v4:=Tryz.zeroValue4
 t22:=Tryz.underlying26
 a22:=Tryz.isAgg26
 z22:=Tryz.sizeOf26
 v22:=Tryz.zeroValue26
 t25:=Tryz.underlying174
 a25:=Tryz.isAgg174
 z25:=Tryz.sizeOf174
 v25:=Tryz.zeroValue174
 t39:=Tryz.underlying152
 a39:=Tryz.isAgg152
 z39:=Tryz.sizeOf152
 v39:=Tryz.zeroValue152
 aE:=Tryz.isAgg70
 zE:=Tryz.sizeOf70
 fs:=Tryz.func214
 fr:=Tryz.func196
 fm:=Tryz.func178
section
variable {P:Program}{k:Nat}{enc:Nat→List Value}
structure Bs (enc:Nat→List Value) (k:Nat) (w0:World) (g n:Nat):Prop where
 len:∀ x,(enc x).length=k
 one:∀ x,∀ v∈enc x,v.oneCell'=true
 hg:g < w0.heap.size
 h0:∃ d0:Array Nat,d0.size=n∧HoldsK enc k w0 g 0 d0
 hn:n < 4611686018427387904
def SL (enc:Nat→List Value) (k:Nat) (w0:World) (g:Nat) (L:List Nat) (W:World):Prop:=SWK enc k w0 g 0 L.toArray W
theorem SL.holds {w0 W:World}{g n:Nat}{L:List Nat} (b:Bs enc k w0 g n) (h:SL enc k w0 g L W) (hl:L.length=n):HoldsK enc k W g 0 L.toArray:=by
 obtain ⟨d0,e,h0⟩:=b.h0;exact SWK.holds h b.hg h0 (by rw [e];simpa using hl)
theorem SL.grown {w0 W:World}{g:Nat}{L:List Nat} (h:SL enc k w0 g L W) (q:Nat) (os:Array Obj):SL enc k w0 g L (grow (W.drewN q) os):=by
 obtain ⟨n,os',rfl⟩:=h;exact ⟨_,_,sortWorldK_grown_c enc k w0 g 0 n q L.toArray os' os⟩
theorem SL.load {w0 W:World}{g n:Nat}{L:List Nat} (b:Bs enc k w0 g n) (h:SL enc k w0 g L W) (hl:L.length=n) (i:Nat) (hi:i < n) :
 Sem.run P (loadCellsFrom ⟨g,i*k,none⟩ 0 k #[]) W=.ok (enc (at' L i)).toArray W:=by
 have:=run_loadCellsFrom_list P W ⟨g,0+i*k,none⟩ (enc (at' L i)) k (b.len _) (HoldsK.cells (h.holds b hl) b.len (by simp;omega))
 rwa [Nat.zero_add] at this
theorem SL.swap {w0 W:World}{g n:Nat}{L L':List Nat} (b:Bs enc k w0 g n) (h:SL enc k w0 g L W) (hl:L.length=n) (i j:Nat) (hi:i < n) (hj:j < n) (hs:swp L.toArray i j=L'.toArray) :
 Sem.run P (storeCells ⟨g,i*k,none⟩ (enc (at' L j)) 0) W=.ok () (W.setCells g (i*k) (enc (at' L j))) ∧
 Sem.run P (storeCells ⟨g,j*k,none⟩ (enc (at' L i)) 0) (W.setCells g (i*k) (enc (at' L j)))=.ok () ((W.setCells g (i*k) (enc (at' L j))).setCells g (j*k) (enc (at' L i))) ∧
 SL enc k w0 g L' ((W.setCells g (i*k) (enc (at' L j))).setCells g (j*k) (enc (at' L i))):=by
 have hz:L.toArray.size=n:=by simpa using hl
 have bnd:∀ x,x < n→x*k+k≤L.toArray.size*k:=fun x hx=>by
  have:=Nat.mul_le_mul_right k (show x+1≤L.toArray.size by omega);rwa [Nat.add_mul,Nat.one_mul] at this
 have hH:=h.holds b hl;have q1:=stores_of_holds P hH (i*k) (enc (at' L j)) (by rw [b.len,size_flatK];exact bnd i hi) (b.one _);have q2:=stores_of_holds P (holds_setCells_c hH (i*k) (enc (at' L j)) (by rw [b.len,size_flatK];exact bnd i hi)) (j*k) (enc (at' L i)) (by rw [b.len,size_setMany,size_flatK];exact bnd j hj) (b.one _);have q3:=SWK.swap h b.len b.hg i j (by omega) (by omega);rw [hs] at q3;rw [Nat.zero_add] at q1;simp only [Nat.zero_add] at q2 q3;exact ⟨q1,q2,q3⟩
theorem range_swp {A X M Y S:List Nat}{i la lx lb:Nat} (l1:A.length=la) (l2:X.length=lx) (l3:Y.length=lx) (l4:la+lx+M.length=lb) (hi:i < lx) :
 swp (A++(Y.take i++(X.drop i++(M++(X.take i++(Y.drop i++S)))))).toArray (la+i) (lb+i)=(A++(Y.take (i+1)++(X.drop (i+1)++(M++(X.take (i+1)++(Y.drop (i+1)++S)))))).toArray:=by
 rw [cut_at (L:=X) (k:=i) (by omega),cut_at (L:=Y) (k:=i) (by omega),take_at (L:=X) (k:=i) (by omega),take_at (L:=Y) (k:=i) (by omega)];have:=@swp_at (A++Y.take i) (X.drop (i+1)++(M++X.take i)) (Y.drop (i+1)++S) (at' X i) (at' Y i) (la+i) (lb+i) (by rw [List.length_append,List.length_take];omega) (by simp only [List.length_append,List.length_take,List.length_drop];omega);simpa only [List.append_assoc,List.cons_append,List.singleton_append,List.nil_append] using this
set_option maxHeartbeats 4000000 in
set_option maxRecDepth 1000000 in
theorem swapRange_any (F:SF P k) {w0 w:World}{g n cap:Nat} (b:Bs enc k w0 g n) (A X M Y S:List Nat) (fv:Value) (hl:(A++(X++(M++(Y++S)))).length=n) (hXY:Y.length=X.length) (h:SL enc k w0 g (A++(X++(M++(Y++S)))) w) :
 Calls P 214 #[.slice (some ⟨g,0,none⟩) n cap,.int .i64 (A.length:Nat),.int .i64 ((A.length+X.length+M.length:Nat):Int),.int .i64 (X.length:Nat),fv] w fun e w' =>
  e=.returned (.tuple #[])∧SL enc k w0 g (A++(Y++(M++(X++S)))) w':=by
 have mixed:=F.mixed;have t0:=F.t0;have a0:=F.a0;have z0:=F.z0;have v0:=F.v0;have t3:=F.t3;have a3:=F.a3;have z3:=F.z3;have v3:=F.v3;have t4:=F.t4;have a4:=F.a4;have z4:=F.z4;have v4:=F.v4;have t22:=F.t22;have a22:=F.a22;have z22:=F.z22;have v22:=F.v22;have t25:=F.t25;have a25:=F.a25;have z25:=F.z25;have v25:=F.v25;have aE:=F.aE;have zE:=F.zE;have u22:=run_underlying F.t22;have FS:=F.fs;have HB:Hid (Bs enc k w0 g n):=b;have hn:=b.hn;have hlen:A.length+(X.length+(M.length+(Y.length+S.length)))=n:=by simpa using hl
 have HH:Hid (SL enc k w0 g (A++(X++(M++(Y++S)))) w):=h;clear F b h hl;obtain ⟨la,hla⟩:∃ la,A.length=la:=⟨_,rfl⟩;obtain ⟨lx,hlx⟩:∃ lx,X.length=lx:=⟨_,rfl⟩;obtain ⟨lb,hlb⟩:∃ lb,la+lx+M.length=lb:=⟨_,rfl⟩;rw [hla,hlx,hlb];have HN:Hid (la+(lx+(M.length+(lx+S.length)))=n):=by show _=_;omega
 have HL:Hid (A.length=la∧X.length=lx∧Y.length=lx∧la+lx+M.length=lb):=⟨hla,hlx,by omega,hlb⟩;have hb1:lb+lx≤n:=by omega
 have hb2:la+lx≤lb:=by omega
 clear hla hlx hlb hXY hlen
 go_enter FS,Tryz.ntmps214
 go_wp2
 go_loopw [10] (fun v wr=>∃ (i:Nat),v=.int .i64 (i:Int)∧i≤lx∧SL enc k w0 g (A++(Y.take i++(X.drop i++(M++(X.take i++(Y.drop i++S)))))) wr) (fun v _=>lx - (intOf v).toNat)
 case atStart=>exact ⟨0,rfl,Nat.zero_le _,by simpa using HH.out⟩
 case round =>
  obtain ⟨i,rfl,hi,hS⟩:=hrel
  by_cases hlt:i < lx
  · have hltz:(i:Int) < (lx:Int):=by omega
    obtain ⟨l1,l2,l3,l4⟩:=HL.out;have hsw:=@range_swp A X M Y S i la lx lb l1 l2 l3 l4 hlt
    have hll:(A++(Y.take i++(X.drop i++(M++(X.take i++(Y.drop i++S)))))).length=n:=by
     have:=HN.out;simp only [List.length_append,List.length_take,List.length_drop];omega
    have hS1:SL enc k w0 g _ wr.drew:=SWK.drewN hS 1;have ll1:=SL.load (P:=P) HB.out hS1 hll (la+i) (by omega);have ll2:=SL.load (P:=P) HB.out hS1 hll (lb+i) (by omega);obtain ⟨s1,s2,s3⟩:=SL.swap (P:=P) HB.out hS1 hll (la+i) (lb+i) (by omega) (by omega) hsw;have e1:=HB.out.len (at' (A++(Y.take i++(X.drop i++(M++(X.take i++(Y.drop i++S)))))) (la+i));have e2:=HB.out.len (at' (A++(Y.take i++(X.drop i++(M++(X.take i++(Y.drop i++S)))))) (lb+i));generalize enc (at' (A++(Y.take i++(X.drop i++(M++(X.take i++(Y.drop i++S)))))) (la+i))=c1 at ll1 ll2 s1 s2 s3 e1 e2;generalize enc (at' (A++(Y.take i++(X.drop i++(M++(X.take i++(Y.drop i++S)))))) (lb+i))=c2 at ll1 ll2 s1 s2 s3 e1 e2;have hS3:=hide s3;clear s3 hS hS1 hsw hll l1 l2 l3 l4;have wa:IntKind.i64.wrap ((la:Int)+(i:Int))=(la:Int)+(i:Int):=by rw [IntKind.wrap_i64];omega
    have wb:IntKind.i64.wrap ((lb:Int)+(i:Int))=(lb:Int)+(i:Int):=by rw [IntKind.wrap_i64];omega
    have ja:(la:Int)+(i:Int) < (n:Int):=by omega
    have jb:(lb:Int)+(i:Int) < (n:Int):=by omega
    have pa:(0:Int)≤(la:Int)+(i:Int):=by omega
    have pb:(0:Int)≤(lb:Int)+(i:Int):=by omega
    have ea:((la:Int)+(i:Int)).toNat=la+i:=by omega
    have eb:((lb:Int)+(i:Int)).toNat=lb+i:=by omega
    go_wp2_with fail
    go_big_region_o
    all_goals go_wp2
    go_round
    case measure=>simp only [intOf];omega
    case rel=>exact ⟨i+1,by first|rfl|go_num,by omega,uh hS3⟩
  · have hltz:¬ (i:Int) < (lx:Int):=by omega
    obtain ⟨l1,l2,l3,l4⟩:=HL.out;have ei:i=lx:=by omega
    subst ei;rw [List.take_of_length_le (by omega),List.drop_of_length_le (by omega),List.take_of_length_le (by omega),List.drop_of_length_le (by omega)] at hS;have hS':=hide hS;clear hS;go_wp2
    go_end0
    exact ⟨rfl,by simpa using uh hS'⟩
end
variable {P:Program}{k:Nat}{enc:Nat→List Value}
theorem swapRange_at (F:SF P k) {w0 w:World}{g n cap:Nat} (b:Bs enc k w0 g n) (A X M Y S:List Nat) (fv:Value) (p q r:Int) (hp:p=A.length) (hq:q=A.length+X.length+M.length) (hr:r=X.length) (hl:(A++(X++(M++(Y++S)))).length=n) (hXY:Y.length=X.length) (h:SL enc k w0 g (A++(X++(M++(Y++S)))) w) :
 Calls P 214 #[.slice (some ⟨g,0,none⟩) n cap,.int .i64 p,.int .i64 q,.int .i64 r,fv] w fun e w' =>
  e=.returned (.tuple #[])∧SL enc k w0 g (A++(Y++(M++(X++S)))) w':=by
 subst hp hr;have hq':q=((A.length+X.length+M.length:Nat):Int):=by rw [hq];omega
 rw [hq'];exact swapRange_any F b A X M Y S fv hl hXY h
structure Rot (enc:Nat→List Value) (k:Nat) (w0:World) (g n m:Nat) (G:List Nat) (i j:Nat) (w:World):Prop where
 st:∃ A X Y S:List Nat,SL enc k w0 g (A++(X++(Y++S))) w∧(A++(X++(Y++S))).length=n∧X.length=i∧Y.length=j∧A.length+i=m∧A++(Y++(X++S))=G
theorem Rot.more (F:SF P k) {w0 w:World}{g n cap m i j:Nat}{G:List Nat} (b:Bs enc k w0 g n) (h:Rot enc k w0 g n m G i j w) (hij:j≤i) (fv:Value) (p q r:Int) (hp:p=(m:Int) - i) (hq:q=m) (hr:r=j) :
 Calls P 214 #[.slice (some ⟨g,0,none⟩) n cap,.int .i64 p,.int .i64 q,.int .i64 r,fv] w fun e w' =>
  e=.returned (.tuple #[])∧Rot enc k w0 g n m G (i - j) j w'∧(i=j→SL enc k w0 g G w'):=by
 obtain ⟨A,X,Y,S,h1,h2,h3,h4,h5,h6⟩:=h;have e:A++(X++(Y++S))=A++(X.take j++(X.drop j++(Y++S))):=by rw [← List.append_assoc (X.take j),List.take_append_drop]
 rw [e] at h1 h2;refine (swapRange_at F b A (X.take j) (X.drop j) Y S fv p q r (by omega) (by rw [List.length_take,List.length_drop];omega) (by rw [List.length_take];omega) h2 (by rw [List.length_take];omega) h1).mono ?_;rintro e' w' ⟨rfl,h7⟩;have hG:A++(Y++(X.take j++(X.drop j++S)))=G:=by rw [← h6,← List.append_assoc (X.take j),List.take_append_drop]
 refine ⟨rfl,⟨A++Y,X.drop j,X.take j,S,by rw [List.append_assoc];exact h7,?_,by rw [List.length_drop];omega,by rw [List.length_take];omega,by rw [List.length_append];omega,by rw [List.append_assoc];exact hG⟩,fun hi=>?_⟩
 · simp only [List.length_append,List.length_take,List.length_drop] at h2 ⊢
   omega
 · have:X.drop j=[]:=List.drop_of_length_le (by omega)
   rw [this] at h7 hG;rw [← hG];exact h7
theorem Rot.less (F:SF P k) {w0 w:World}{g n cap m i j:Nat}{G:List Nat} (b:Bs enc k w0 g n) (h:Rot enc k w0 g n m G i j w) (hij:i < j) (fv:Value) (p q r:Int) (hp:p=(m:Int) - i) (hq:q=(m:Int)+j - i) (hr:r=i) :
 Calls P 214 #[.slice (some ⟨g,0,none⟩) n cap,.int .i64 p,.int .i64 q,.int .i64 r,fv] w fun e w' =>
  e=.returned (.tuple #[])∧Rot enc k w0 g n m G i (j - i) w':=by
 obtain ⟨A,X,Y,S,h1,h2,h3,h4,h5,h6⟩:=h;have e:A++(X++(Y++S))=A++(X++(Y.take (j - i)++(Y.drop (j - i)++S))):=by rw [← List.append_assoc (Y.take (j - i)),List.take_append_drop]
 rw [e] at h1 h2;refine (swapRange_at F b A X (Y.take (j - i)) (Y.drop (j - i)) S fv p q r (by omega) (by rw [List.length_take];omega) (by omega) h2 (by rw [List.length_drop];omega) h1).mono ?_;rintro e' w' ⟨rfl,h7⟩;refine ⟨rfl,A,Y.drop (j - i),Y.take (j - i),X++S,h7,?_,by rw [List.length_drop];omega,by rw [List.length_take];omega,by omega,?_⟩
 · simp only [List.length_append,List.length_take,List.length_drop] at h2 ⊢
   omega
 · rw [← h6,← List.append_assoc (Y.take (j - i)),List.take_append_drop]
set_option maxHeartbeats 4000000 in
set_option maxRecDepth 1000000 in
theorem rotate_any (F:SF P k) {w0 w:World}{g n cap:Nat} (b:Bs enc k w0 g n) (A X Y S:List Nat) (fv:Value) (a m e:Nat) (ha:a=A.length) (hm:m=A.length+X.length) (he:e=A.length+X.length+Y.length) (hl:(A++(X++(Y++S))).length=n) (hX:0 < X.length) (hY:0 < Y.length) (h:SL enc k w0 g (A++(X++(Y++S))) w) :
 Calls P 196 #[.slice (some ⟨g,0,none⟩) n cap,.int .i64 a,.int .i64 m,.int .i64 e,fv] w fun e w' =>
  e=.returned (.tuple #[])∧SL enc k w0 g (A++(Y++(X++S))) w':=by
 have hn:=b.hn;have hr:Rot enc k w0 g n m (A++(Y++(X++S))) (m - a) (e - m) w:=⟨A,X,Y,S,h,hl,by omega,by omega,by omega,rfl⟩;have hen:e≤n:=by simp only [List.length_append] at hl;omega
 have ham:a < m:=by omega
 have hme:m < e:=by omega
 generalize A++(Y++(X++S))=G at hr ⊢;have HR:=hide hr;clear h hl hX hY ha hm he hr;have mixed:=F.mixed;have t0:=F.t0;have a0:=F.a0;have z0:=F.z0;have v0:=F.v0;have t3:=F.t3;have a3:=F.a3;have z3:=F.z3;have v3:=F.v3;have t4:=F.t4;have a4:=F.a4;have z4:=F.z4;have v4:=F.v4;have t22:=F.t22;have a22:=F.a22;have z22:=F.z22;have v22:=F.v22;have t25:=F.t25;have a25:=F.a25;have z25:=F.z25;have v25:=F.v25;have u22:=run_underlying F.t22;have FR:=F.fr;have eS:∀ args w,(callFunc 214 args).run P w=.ok (.enter 214 args) w:=enters_of F.fs (by kernel_rfl) rfl;have HF:Hid (SF P k):=F;have HB:Hid (Bs enc k w0 g n):=b;clear F b;have w1:IntKind.i64.wrap ((m:Int) - (a:Int))=(m:Int) - (a:Int):=by rw [IntKind.wrap_i64];omega
 have w2:IntKind.i64.wrap ((e:Int) - (m:Int))=(e:Int) - (m:Int):=by rw [IntKind.wrap_i64];omega
 go_enter FR,Tryz.ntmps196
 go_wp2
 go_loopw [10,11] (fun v u wr=>∃ (i j:Nat),v=.int .i64 (i:Int)∧u=.int .i64 (j:Int)∧0 < i∧0 < j∧i≤m∧m+j≤n∧Rot enc k w0 g n m G i j wr) (fun v u _=>(intOf v).toNat+(intOf u).toNat)
 case atStart=>exact ⟨m - a,e - m,by congr 1;omega,by congr 1;omega,by omega,by omega,by omega,by omega,uh HR⟩
 case round =>
  obtain ⟨i,j,rfl,rfl,hi,hj,him,hjn,hrot⟩:=hrel;have HR2:=hide hrot;clear hrot HR;have w3:IntKind.i64.wrap ((m:Int) - (i:Int))=(m:Int) - (i:Int):=by rw [IntKind.wrap_i64];omega
  rcases Nat.lt_trichotomy i j with hlt|heq|hgt
  · have h1:decide ((i:Int)=(j:Int))=false:=decide_eq_false (by omega)
    have h2:¬ (j:Int) < (i:Int):=by omega
    have w4:IntKind.i64.wrap ((m:Int)+(j:Int))=(m:Int)+(j:Int):=by rw [IntKind.wrap_i64];omega
    have w5:IntKind.i64.wrap ((m:Int)+(j:Int) - (i:Int))=(m:Int)+(j:Int) - (i:Int):=by rw [IntKind.wrap_i64];omega
    have w6:IntKind.i64.wrap ((j:Int) - (i:Int))=(j:Int) - (i:Int):=by rw [IntKind.wrap_i64];omega
    go_wp2_with (go_at_fn 214;refine (Rot.less HF.out HB.out (uh HR2) hlt _ _ _ _ (by omega) (by omega) (by omega)).mono ?_;rintro e1 w1' ⟨rfl,hn1⟩)
    go_round
    case measure=>simp only [intOf];omega
    case rel=>exact ⟨i,j - i,rfl,by congr 1;omega,by omega,by omega,by omega,by omega,hn1⟩
  · subst heq
    go_wp2_with (go_at_fn 214;refine (Rot.more HF.out HB.out (uh HR2) (Nat.le_refl _) _ _ _ _ (by omega) (by omega) (by omega)).mono ?_;rintro e1 w1' ⟨rfl,hn1,hn2⟩)
    go_end0
    exact ⟨rfl,by simpa using hn2⟩
  · have h1:decide ((i:Int)=(j:Int))=false:=decide_eq_false (by omega)
    have h2:(j:Int) < (i:Int):=by omega
    have w6:IntKind.i64.wrap ((i:Int) - (j:Int))=(i:Int) - (j:Int):=by rw [IntKind.wrap_i64];omega
    go_wp2_with (go_at_fn 214;refine (Rot.more HF.out HB.out (uh HR2) (Nat.le_of_lt hgt) _ _ _ _ (by omega) (by omega) (by omega)).mono ?_;rintro e1 w1' ⟨rfl,hn1,hn2⟩)
    go_round
    case measure=>simp only [intOf];omega
    case rel=>exact ⟨i - j,j,by congr 1;omega,rfl,by omega,by omega,by omega,by omega,hn1⟩
variable {P:Program}{k:Nat}{enc:Nat→List Value}{D:List Fd}
structure CM (P:Program) (enc:Nat→List Value) (D:List Fd):Prop where
 eg:∀ args w,(callFunc 136 args).run P w=.ok (.enter 136 args) w
 c:∀ (x y:Nat) (W:World),Calls P 136 #[.agg (enc x).toArray,.agg (enc y).toArray] W fun e w'=>e=.returned (.int .i64 (cfI D x y))∧∃ q os',w'=grow (W.drewN q) os'
def Lo (D:List Fd) (Y:List Nat) (x a i:Nat):Prop:=∀ u,u < i - (a+1)→lr D (at' Y u) x
def Hi (D:List Fd) (Y:List Nat) (x a j:Nat):Prop:=∀ u,j - (a+1)≤u→u < Y.length→lr D x (at' Y u)
theorem one_lo {x t:Nat}{Y:List Nat} (hp:Pre D [x] Y) (ht:t < Y.length) (h:cfI D (at' Y t) x < 0):∀ u,u < t+1→lr D (at' Y u) x:=by
 intro u hu;have h1:=lr_of_lt D h
 by_cases e:u=t
 · rw [e];exact h1
 · exact lr_trans D (pw_at D hp.b (by omega) ht) h1
theorem one_hi {x t:Nat}{Y:List Nat} (hp:Pre D [x] Y) (ht:t < Y.length) (h:¬ cfI D (at' Y t) x < 0):∀ u,t≤u→u < Y.length→lr D x (at' Y u):=by
 intro u hu hl;have h1:=lr_of_not D (hp.x x (List.mem_singleton.2 rfl) _ (at_mem ht)) h
 by_cases e:u=t
 · rw [e];exact h1
 · exact lr_trans D h1 (pw_at D hp.b (by omega) hl)
theorem at_one {A Y S:List Nat}{x a:Nat} (ha:a=A.length):at' (A++(x::(Y++S))) a=x:=by
 have:=@at_right A (x::(Y++S)) 0 (by simp);rw [Nat.add_zero] at this;rw [ha,this,at_eq (by simp)];rfl
theorem at_beh {A Y S:List Nat}{x a t i:Nat} (ha:a=A.length) (hi:i=a+1+t) (ht:t < Y.length):at' (A++(x::(Y++S))) i=at' Y t:=by
 have e:A++(x::(Y++S))=(A++[x])++(Y++S):=by simp
 have:=@at_right (A++[x]) (Y++S) t (by rw [List.length_append];omega);rw [e,hi,ha];rw [List.length_append,List.length_singleton] at this;rw [this,at_left ht]
theorem step_swp {A Y S:List Nat}{x a t:Nat} (ha:a=A.length) (ht:t < Y.length) :
 swp (A++(Y.take t++(x::(Y.drop t++S)))).toArray (a+t) (a+t+1)=(A++(Y.take (t+1)++(x::(Y.drop (t+1)++S)))).toArray:=by
 rw [cut_at ht,take_at ht];have:=@swp_at (A++Y.take t) [] (Y.drop (t+1)++S) x (at' Y t) (a+t) (a+t+1) (by rw [List.length_append,List.length_take];omega) (by rw [List.length_append,List.length_take];simp;omega);simpa only [List.append_assoc,List.cons_append,List.singleton_append,List.nil_append] using this
set_option maxHeartbeats 4000000 in
set_option maxRecDepth 1000000 in
theorem sym_one (F:SF P k) (C:CM P enc D) {w0 w:World}{g n cap:Nat} (b:Bs enc k w0 g n) (A Y S:List Nat) (x:Nat) (a m e:Nat) (ha:a=A.length) (hm:m=a+1) (he:e=a+1+Y.length) (hl:(A++(x::(Y++S))).length=n) (hp:Pre D [x] Y) (h:SL enc k w0 g (A++(x::(Y++S))) w) :
 Calls P 178 #[.slice (some ⟨g,0,none⟩) n cap,.int .i64 a,.int .i64 m,.int .i64 e,byNameV] w fun e w' =>
  e=.returned (.tuple #[])∧∃ C,Post D [x] Y C∧SL enc k w0 g (A++(C++S)) w':=by
 unfold byNameV;have hn:=b.hn;have hen:e≤n:=by simp only [List.length_append,List.length_cons] at hl;omega
 have hae:a+1≤e:=by omega
 have mixed:=F.mixed;have t0:=F.t0;have a0:=F.a0;have z0:=F.z0;have v0:=F.v0;have t3:=F.t3;have a3:=F.a3;have z3:=F.z3;have v3:=F.v3;have t4:=F.t4;have a4:=F.a4;have z4:=F.z4;have v4:=F.v4;have t22:=F.t22;have a22:=F.a22;have z22:=F.z22;have v22:=F.v22;have t25:=F.t25;have a25:=F.a25;have z25:=F.z25;have v25:=F.v25;have t39:=F.t39;have a39:=F.a39;have z39:=F.z39;have v39:=F.v39;have aE:=F.aE;have zE:=F.zE;have u22:=run_underlying F.t22;have FM:=F.fm;have eg:=C.eg;have HC:=hide C.c;have HB:Hid (Bs enc k w0 g n):=b;have HL:Hid (a=A.length∧e=a+1+Y.length∧(A++(x::(Y++S))).length=n):=⟨ha,he,hl⟩;have HP:Hid (Pre D [x] Y):=hp;have HH:=hide h;subst hm;clear F C b ha he hl hp h;have w1:IntKind.i64.wrap ((a:Int)+1 - (a:Int))=1:=by rw [IntKind.wrap_i64];omega
 go_enter FM,Tryz.ntmps178
 go_wp2
 go_loopw [10,11] (fun v u wr=>∃ (i j:Nat),v=.int .i64 (i:Int)∧u=.int .i64 (j:Int)∧a+1≤i∧i≤j∧j≤e∧SL enc k w0 g (A++(x::(Y++S))) wr∧Lo D Y x a i∧Hi D Y x a j) (fun v u _=>(intOf u).toNat - (intOf v).toNat)
 case atStart =>
  obtain ⟨l1,l2,l3⟩:=HL.out;exact ⟨a+1,e,by first|rfl|go_num,rfl,Nat.le_refl _,by omega,Nat.le_refl _,uh HH,fun t ht=>by omega,fun t t1 t2=>by omega⟩
 case round =>
  obtain ⟨i,j,rfl,rfl,hi,hij,hje,hS,hlo,hhi⟩:=hrel;have LO:=hide hlo;have HI:=hide hhi;have HS:=hide hS;clear hlo hhi hS HH
  by_cases hlt:i < j
  · have hltz:(i:Int) < (j:Int):=by omega
    have w2:IntKind.i64.wrap ((i:Int)+(j:Int))=(i:Int)+(j:Int):=by rw [IntKind.wrap_i64];omega
    go_wp2_with fail
    obtain ⟨h,hh⟩:∃ h,(i+j) / 2=h:=⟨_,rfl⟩;have hhz:((i:Int)+(j:Int)) / 2=(h:Int):=by omega
    have hih:i≤h:=by omega
    have hhj:h < j:=by omega
    clear hh;rw [hhz];obtain ⟨l1,l2,l3⟩:=HL.out;obtain ⟨t,ht⟩:∃ t,h=a+1+t:=⟨h - (a+1),by omega⟩;have htl:t < Y.length:=by omega
    have ll1:∀ n' os',Sem.run P (loadCellsFrom ⟨g,h*k,none⟩ 0 k #[]) (grow (wr.drewN n') os')=.ok (enc (at' Y t)).toArray (grow (wr.drewN n') os'):=fun n' os'=>by
     have:=SL.load (P:=P) HB.out ((uh HS).grown n' os') l3 h (by omega)
     rwa [at_beh l1 ht htl] at this
    have ll2:∀ n' os',Sem.run P (loadCellsFrom ⟨g,a*k,none⟩ 0 k #[]) (grow (wr.drewN n') os')=.ok (enc x).toArray (grow (wr.drewN n') os'):=fun n' os'=>by
     have:=SL.load (P:=P) HB.out ((uh HS).grown n' os') l3 a (by omega)
     rwa [at_one l1] at this
    have hcg:=fun W=>uh HC (at' Y t) x W
    have HR:Hid ((cfI D (at' Y t) x < 0→∀ u,u < t+1→lr D (at' Y u) x)∧(¬ cfI D (at' Y t) x < 0→∀ u,t≤u→u < Y.length→lr D x (at' Y u))):=⟨one_lo HP.out htl,one_hi HP.out htl⟩;have HT:Hid (h=a+1+t∧t < Y.length):=⟨ht,htl⟩;generalize cfI D (at' Y t) x=r at hcg HR;have q1:=HB.out.len (at' Y t);have q2:=HB.out.len x;generalize enc (at' Y t)=c1 at ll1 hcg q1;generalize enc x=c2 at ll2 hcg q2;have jz:(h:Int) < (n:Int):=by omega
    have jz2:(a:Int) < (n:Int):=by omega
    have hcg':=hide hcg;clear hcg ht htl l1 l2 l3
    by_cases hr:r < 0
    · go_quiet_grown (first|(go_at_fn 136;refine Calls.grown_of (uh hcg' _)))
      go_wp2
      go_round
      case measure=>simp only [intOf];omega
      case rel=>exact ⟨h+1,by first|rfl|omega|go_num,j,by first|rfl|omega|go_num,by omega,by omega,by omega,(uh HS).grown _ _,fun u hu=>HR.out.1 hr u (by have:=HT.out;omega),uh HI⟩
    · go_quiet_grown (first|(go_at_fn 136;refine Calls.grown_of (uh hcg' _)))
      go_wp2
      go_round
      case measure=>simp only [intOf];omega
      case rel=>exact ⟨i,by first|rfl|omega|go_num,h,by first|rfl|omega|go_num,by omega,by omega,by omega,(uh HS).grown _ _,uh LO,fun u hu hl=>HR.out.2 hr u (by have:=HT.out;omega) hl⟩
  · have hltz:¬ (i:Int) < (j:Int):=by omega
    have eij:j=i:=by omega
    subst eij;have w3:IntKind.i64.wrap ((j:Int) - 1)=(j:Int) - 1:=by rw [IntKind.wrap_i64];omega
    go_wp2
    go_loopw [13] (fun v wr=>∃ (t:Nat),v=.int .i64 ((a+t:Nat):Int)∧a+t+1≤j∧SL enc k w0 g (A++(Y.take t++(x::(Y.drop t++S)))) wr) (fun v _=>j - (intOf v).toNat)
    case atStart=>exact ⟨0,rfl,by omega,by simpa using uh HS⟩
    case round =>
     obtain ⟨t,rfl,ht,hS⟩:=hrel;clear HS
     by_cases hlt2:a+t+1 < j
     · have hz:((a+t:Nat):Int) < (j:Int) - 1:=by omega
       obtain ⟨l1,l2,l3⟩:=HL.out;have htl:t < Y.length:=by omega
       have hsw:=@step_swp A Y S x a t l1 htl
       have hll:(A++(Y.take t++(x::(Y.drop t++S)))).length=n:=by
        simp only [List.length_append,List.length_cons,List.length_take,List.length_drop] at l3 ⊢;omega
       have hS1:SL enc k w0 g _ wr.drew:=SWK.drewN hS 1;have ll1:=SL.load (P:=P) HB.out hS1 hll (a+t) (by omega);have ll2:=SL.load (P:=P) HB.out hS1 hll (a+t+1) (by omega);obtain ⟨s1,s2,s3⟩:=SL.swap (P:=P) HB.out hS1 hll (a+t) (a+t+1) (by omega) (by omega) hsw;have e1:=HB.out.len (at' (A++(Y.take t++(x::(Y.drop t++S)))) (a+t));have e2:=HB.out.len (at' (A++(Y.take t++(x::(Y.drop t++S)))) (a+t+1));generalize enc (at' (A++(Y.take t++(x::(Y.drop t++S)))) (a+t))=c1 at ll1 ll2 s1 s2 s3 e1 e2;generalize enc (at' (A++(Y.take t++(x::(Y.drop t++S)))) (a+t+1))=c2 at ll1 ll2 s1 s2 s3 e1 e2;have hS3:=hide s3;clear s3 hS hS1 hsw hll l1 l2 l3 htl;generalize hat:a+t=q at *;have wa:IntKind.i64.wrap ((q:Int)+1)=(q:Int)+1:=by rw [IntKind.wrap_i64];omega
       have ja:(q:Int) < (n:Int):=by omega
       have jb:(q:Int)+1 < (n:Int):=by omega
       have pb:(0:Int)≤(q:Int)+1:=by omega
       have eb:((q:Int)+1).toNat=q+1:=by omega
       have HAT:=hide hat;clear hat
       go_wp2_with fail
       go_big_region_o
       all_goals go_wp2
       go_round
       case measure=>simp only [intOf];omega
       case rel=>exact ⟨t+1,by have:=uh HAT;congr 1;omega,by have:=uh HAT;omega,uh hS3⟩
     · have hz:¬ ((a+t:Nat):Int) < (j:Int) - 1:=by omega
       have HS2:=hide hS;clear hS;go_wp2
       (try simp only [Exit.inBlock,Exit.then])
       refine bodyPost_ret (results_none rfl _ _ _) rfl ?_;obtain ⟨l1,l2,l3⟩:=HL.out;refine ⟨rfl,Y.take t++x::Y.drop t,post_one D HP.out (by omega) (fun u hu=>uh LO u (by omega)) (fun u hu hl=>uh HI u (by omega) hl),by simpa using uh HS2⟩
variable {P:Program}{k:Nat}{enc:Nat→List Value}{D:List Fd}
def Lo2 (D:List Fd) (X:List Nat) (y a i:Nat):Prop:=∀ u,u < i - a→lr D (at' X u) y
def Hi2 (D:List Fd) (X:List Nat) (y a j:Nat):Prop:=∀ u,j - a≤u→u < X.length→lr D y (at' X u)
theorem last_lo {y t:Nat}{X:List Nat} (hp:Pre D X [y]) (ht:t < X.length) (h:¬ cfI D y (at' X t) < 0):∀ u,u < t+1→lr D (at' X u) y:=by
 intro u hu;have h1:=lr_of_not D (hp.x _ (at_mem ht) y (List.mem_singleton.2 rfl)) h
 by_cases e:u=t
 · rw [e];exact h1
 · exact lr_trans D (pw_at D hp.a (by omega) ht) h1
theorem last_hi {y t:Nat}{X:List Nat} (hp:Pre D X [y]) (h:cfI D y (at' X t) < 0):∀ u,t≤u→u < X.length→lr D y (at' X u):=by
 intro u hu hl;have h1:=lr_of_lt D h
 by_cases e:u=t
 · rw [e];exact h1
 · exact lr_trans D h1 (pw_at D hp.a (by omega) hl)
theorem at_ahead {A X R:List Nat}{a t i:Nat} (ha:a=A.length) (hi:i=a+t) (ht:t < X.length):at' (A++(X++R)) i=at' X t:=by
 rw [hi,ha,at_right (by rw [List.length_append];omega),at_left ht]
theorem at_last {A X S:List Nat}{y m:Nat} (hm:m=A.length+X.length):at' (A++(X++(y::S))) m=y:=by
 rw [hm,at_right (by simp)];have:=@at_right X (y::S) 0 (by simp);rw [Nat.add_zero] at this;rw [this,at_eq (by simp)];rfl
theorem back_swp {A X S:List Nat}{y a t:Nat} (ha:a=A.length) (ht:t < X.length) :
 swp (A++(X.take (t+1)++(y::(X.drop (t+1)++S)))).toArray (a+t+1) (a+t)=(A++(X.take t++(y::(X.drop t++S)))).toArray:=by
 rw [cut_at ht,take_at ht];have:=@swp_at' (A++X.take t) [] (X.drop (t+1)++S) (at' X t) y (a+t) (a+t+1) (by rw [List.length_append,List.length_take];omega) (by rw [List.length_append,List.length_take];simp;omega);simpa only [List.append_assoc,List.cons_append,List.singleton_append,List.nil_append] using this
set_option maxHeartbeats 4000000 in
set_option maxRecDepth 1000000 in
theorem sym_last (F:SF P k) (C:CM P enc D) {w0 w:World}{g n cap:Nat} (b:Bs enc k w0 g n) (A X S:List Nat) (y:Nat) (a m e:Nat) (ha:a=A.length) (hm:m=a+X.length) (he:e=m+1) (hX:1 < X.length) (hl:(A++(X++(y::S))).length=n) (hp:Pre D X [y]) (h:SL enc k w0 g (A++(X++(y::S))) w) :
 Calls P 178 #[.slice (some ⟨g,0,none⟩) n cap,.int .i64 a,.int .i64 m,.int .i64 e,byNameV] w fun e w' =>
  e=.returned (.tuple #[])∧∃ C,Post D X [y] C∧SL enc k w0 g (A++(C++S)) w':=by
 unfold byNameV;have hn:=b.hn;have hen:m+1≤n:=by simp only [List.length_append,List.length_cons] at hl;omega
 have hae:a+1 < m:=by omega
 have mixed:=F.mixed;have t0:=F.t0;have a0:=F.a0;have z0:=F.z0;have v0:=F.v0;have t3:=F.t3;have a3:=F.a3;have z3:=F.z3;have v3:=F.v3;have t4:=F.t4;have a4:=F.a4;have z4:=F.z4;have v4:=F.v4;have t22:=F.t22;have a22:=F.a22;have z22:=F.z22;have v22:=F.v22;have t25:=F.t25;have a25:=F.a25;have z25:=F.z25;have v25:=F.v25;have t39:=F.t39;have a39:=F.a39;have z39:=F.z39;have v39:=F.v39;have aE:=F.aE;have zE:=F.zE;have u22:=run_underlying F.t22;have FM:=F.fm;have eg:=C.eg;have HC:=hide C.c;have HB:Hid (Bs enc k w0 g n):=b;have HL:Hid (a=A.length∧m=a+X.length∧(A++(X++(y::S))).length=n):=⟨ha,hm,hl⟩;have HP:Hid (Pre D X [y]):=hp;have HH:=hide h;subst he;clear F C b ha hm hl hp h hX;have w9:IntKind.i64.wrap ((m:Int) - (a:Int))=(m:Int) - (a:Int):=by rw [IntKind.wrap_i64];omega
 have w1:IntKind.i64.wrap ((m:Int)+1 - (m:Int))=1:=by rw [IntKind.wrap_i64];omega
 have ne1:decide ((m:Int) - (a:Int)=1)=false:=decide_eq_false (by omega);have ne2:¬ ((m:Int) - (a:Int)=1):=by omega
 go_enter FM,Tryz.ntmps178
 go_wp2
 go_loopw [14,15] (fun v u wr=>∃ (i j:Nat),v=.int .i64 (i:Int)∧u=.int .i64 (j:Int)∧a≤i∧i≤j∧j≤m∧SL enc k w0 g (A++(X++(y::S))) wr∧Lo2 D X y a i∧Hi2 D X y a j) (fun v u _=>(intOf u).toNat - (intOf v).toNat)
 case atStart =>
  obtain ⟨l1,l2,l3⟩:=HL.out;exact ⟨a,m,rfl,rfl,Nat.le_refl _,by omega,Nat.le_refl _,uh HH,fun t ht=>by omega,fun t t1 t2=>by omega⟩
 case round =>
  obtain ⟨i,j,rfl,rfl,hi,hij,hje,hS,hlo,hhi⟩:=hrel;have LO:=hide hlo;have HI:=hide hhi;have HS:=hide hS;clear hlo hhi hS HH
  by_cases hlt:i < j
  · have hltz:(i:Int) < (j:Int):=by omega
    have w2:IntKind.i64.wrap ((i:Int)+(j:Int))=(i:Int)+(j:Int):=by rw [IntKind.wrap_i64];omega
    go_wp2_with fail
    obtain ⟨h,hh⟩:∃ h,(i+j) / 2=h:=⟨_,rfl⟩;have hhz:((i:Int)+(j:Int)) / 2=(h:Int):=by omega
    have hih:i≤h:=by omega
    have hhj:h < j:=by omega
    clear hh;rw [hhz];obtain ⟨l1,l2,l3⟩:=HL.out;obtain ⟨t,ht⟩:∃ t,h=a+t:=⟨h - a,by omega⟩;have htl:t < X.length:=by omega
    have ll1:∀ n' os',Sem.run P (loadCellsFrom ⟨g,h*k,none⟩ 0 k #[]) (grow (wr.drewN n') os')=.ok (enc (at' X t)).toArray (grow (wr.drewN n') os'):=fun n' os'=>by
     have:=SL.load (P:=P) HB.out ((uh HS).grown n' os') l3 h (by omega)
     rwa [at_ahead l1 ht htl] at this
    have ll2:∀ n' os',Sem.run P (loadCellsFrom ⟨g,m*k,none⟩ 0 k #[]) (grow (wr.drewN n') os')=.ok (enc y).toArray (grow (wr.drewN n') os'):=fun n' os'=>by
     have:=SL.load (P:=P) HB.out ((uh HS).grown n' os') l3 m (by omega)
     rwa [at_last (by omega)] at this
    have hcg:=fun W=>uh HC y (at' X t) W
    have HR:Hid ((¬ cfI D y (at' X t) < 0→∀ u,u < t+1→lr D (at' X u) y)∧(cfI D y (at' X t) < 0→∀ u,t≤u→u < X.length→lr D y (at' X u))):=⟨last_lo HP.out htl,last_hi HP.out⟩;have HT:Hid (h=a+t∧t < X.length):=⟨ht,htl⟩;generalize cfI D y (at' X t)=r at hcg HR;have q1:=HB.out.len (at' X t);have q2:=HB.out.len y;generalize enc (at' X t)=c1 at ll1 hcg q1;generalize enc y=c2 at ll2 hcg q2;have jz:(h:Int) < (n:Int):=by omega
    have jz2:(m:Int) < (n:Int):=by omega
    have hcg':=hide hcg;clear hcg ht htl l1 l2 l3
    by_cases hr:r < 0
    · go_quiet_grown (first|(go_at_fn 136;refine Calls.grown_of (uh hcg' _)))
      go_wp2
      go_round
      case measure=>simp only [intOf];omega
      case rel=>exact ⟨i,by first|rfl|omega|go_num,h,by first|rfl|omega|go_num,by omega,by omega,by omega,(uh HS).grown _ _,uh LO,fun u hu hl=>HR.out.2 hr u (by have:=HT.out;omega) hl⟩
    · go_quiet_grown (first|(go_at_fn 136;refine Calls.grown_of (uh hcg' _)))
      go_wp2
      go_round
      case measure=>simp only [intOf];omega
      case rel=>exact ⟨h+1,by first|rfl|omega|go_num,j,by first|rfl|omega|go_num,by omega,by omega,by omega,(uh HS).grown _ _,fun u hu=>HR.out.1 hr u (by have:=HT.out;omega),uh HI⟩
  · have hltz:¬ (i:Int) < (j:Int):=by omega
    have eij:j=i:=by omega
    subst eij;go_wp2
    go_loopw [17] (fun v wr=>∃ (t:Nat),v=.int .i64 ((a+t:Nat):Int)∧j≤a+t∧a+t≤m∧SL enc k w0 g (A++(X.take t++(y::(X.drop t++S)))) wr) (fun v _=>(intOf v).toNat - j)
    case atStart =>
     obtain ⟨l1,l2,l3⟩:=HL.out;exact ⟨X.length,by rw [← l2],by omega,by omega,by simpa using uh HS⟩
    case round =>
     obtain ⟨t,rfl,ht,htm,hS⟩:=hrel;clear HS
     by_cases hlt2:j < a+t
     · obtain ⟨t,rfl⟩:∃ t',t=t'+1:=⟨t - 1,by omega⟩
       obtain ⟨l1,l2,l3⟩:=HL.out;have htl:t < X.length:=by omega
       have hsw:=@back_swp A X S y a t l1 htl
       have hll:(A++(X.take (t+1)++(y::(X.drop (t+1)++S)))).length=n:=by
        simp only [List.length_append,List.length_cons,List.length_take,List.length_drop] at l3 ⊢;omega
       have hS1:SL enc k w0 g _ wr.drew:=SWK.drewN hS 1;have ll1:=SL.load (P:=P) HB.out hS1 hll (a+t) (by omega);have ll2:=SL.load (P:=P) HB.out hS1 hll (a+t+1) (by omega);obtain ⟨s1,s2,s3⟩:=SL.swap (P:=P) HB.out hS1 hll (a+t+1) (a+t) (by omega) (by omega) hsw;have e1:=HB.out.len (at' (A++(X.take (t+1)++(y::(X.drop (t+1)++S)))) (a+t));have e2:=HB.out.len (at' (A++(X.take (t+1)++(y::(X.drop (t+1)++S)))) (a+t+1));generalize enc (at' (A++(X.take (t+1)++(y::(X.drop (t+1)++S)))) (a+t))=c1 at ll1 ll2 s1 s2 s3 e1 e2;generalize enc (at' (A++(X.take (t+1)++(y::(X.drop (t+1)++S)))) (a+t+1))=c2 at ll1 ll2 s1 s2 s3 e1 e2;have hS3:=hide s3;clear s3 hS hS1 hsw hll l1 l2 l3 htl;rw [show a+(t+1)=a+t+1 from rfl] at hlt2 htm ht ⊢;generalize hat:a+t=q at *;have hz:(j:Int) < (q:Int)+1:=by omega
       have wa:IntKind.i64.wrap ((q:Int)+1 - 1)=(q:Int):=by rw [IntKind.wrap_i64];omega
       have wb:IntKind.i64.wrap (q:Int)=(q:Int):=by rw [IntKind.wrap_i64];omega
       have ja:(q:Int) < (n:Int):=by omega
       have jb:(q:Int)+1 < (n:Int):=by omega
       have pb:(0:Int)≤(q:Int)+1:=by omega
       have eb:((q:Int)+1).toNat=q+1:=by omega
       have HAT:=hide hat;clear hat
       go_wp2_with fail
       go_big_region_o
       all_goals go_wp2
       go_round
       case measure=>simp only [intOf];omega
       case rel=>exact ⟨t,by have:=uh HAT;congr 1;omega,by have:=uh HAT;omega,by have:=uh HAT;omega,uh hS3⟩
     · have hz:¬ (j:Int) < ((a+t:Nat):Int):=by omega
       have HS2:=hide hS;clear hS;go_wp2
       (try simp only [Exit.inBlock,Exit.then])
       refine bodyPost_ret (results_none rfl _ _ _) rfl ?_;obtain ⟨l1,l2,l3⟩:=HL.out;refine ⟨rfl,X.take t++y::X.drop t,post_last D HP.out (by omega) (fun u hu=>uh LO u (by omega)) (fun u hu hl=>uh HI u (by omega) hl),by simpa using uh HS2⟩
variable {P:Program}{k:Nat}{enc:Nat→List Value}{D:List Fd}
def MC (P:Program) (enc:Nat→List Value) (k:Nat) (D:List Fd) (w0:World) (g n cap N:Nat):Prop:=∀ (A X Y S:List Nat) (w:World) (a m e:Nat),X.length+Y.length≤N→0 < X.length→0 < Y.length→a=A.length→m=a+X.length→e=m+Y.length→(A++(X++(Y++S))).length=n→Pre D X Y→SL enc k w0 g (A++(X++(Y++S))) w →
    Calls P 178 #[.slice (some ⟨g,0,none⟩) n cap,.int .i64 a,.int .i64 m,.int .i64 e,byNameV] w fun e w' =>
     e=.returned (.tuple #[])∧∃ C,Post D X Y C∧SL enc k w0 g (A++(C++S)) w'
def SX (D:List Fd) (X Y:List Nat) (a mid s0 s:Nat):Prop:=s=s0∨(a < s∧mid - s < Y.length∧lr D (at' X (s - a - 1)) (at' Y (mid - s)))
def SY (D:List Fd) (X Y:List Nat) (a mid r0 r:Nat):Prop:=r=r0∨(r < mid∧r - a < X.length∧lr D (at' Y (mid - r - 1)) (at' X (r - a)))
structure Rg (a m e mid s0 r0:Nat):Prop where
 h1:a≤s0
 h2:s0≤r0
 h3:r0≤m
 h4:r0≤mid
 h5:mid+m≤s0+e
 h6:s0=a∨mid+m=s0+e
 h7:r0=m∨r0=mid
theorem rg_hi {a m e mid:Nat} (h:(a+e) / 2=mid) (h1:mid < m) (h2:m < e):Rg a m e mid (mid+m - e) mid:=by
 constructor <;> omega
theorem rg_lo {a m e mid:Nat} (h:(a+e) / 2=mid) (h1:¬ mid < m) (h0:a < m):Rg a m e mid a m:=by
 constructor <;> omega
theorem parts (X Y A S:List Nat) (i j:Nat):A++(X++(Y++S))=(A++X.take i)++(X.drop i++(Y.take j++(Y.drop j++S))):=by
 have h1:=List.take_append_drop i X;have h2:=List.take_append_drop j Y
 conv=>lhs;rw [← h1,← h2]
 simp only [List.append_assoc]
theorem mid_sides {A X Y S:List Nat}{a m e n mid s0 r0 r i j:Nat} (hl:a=A.length∧m=a+X.length∧e=m+Y.length∧(A++(X++(Y++S))).length=n) (hp:Pre D X Y) (hg:Rg a m e mid s0 r0) (hx:SX D X Y a mid s0 r) (hy:SY D X Y a mid r0 r) (hi:r=a+i) (hj:mid=r+j) :
 (∀ x∈X.take i,∀ y∈Y.drop j,lr D x y)∧(∀ y∈Y.take j,∀ x∈X.drop i,lr D y x):=by
 obtain ⟨l1,l2,l3,-⟩:=hl;obtain ⟨g1,g2,g3,g4,g5,g6,g7⟩:=hg;have e1:r - a - 1=i - 1:=by omega
 have e2:mid - r=j:=by omega
 have e3:mid - r - 1=j - 1:=by omega
 have e4:r - a=i:=by omega
 unfold SX at hx;unfold SY at hy;rw [e1,e2] at hx;rw [e3,e4] at hy
 have hi9:i≤X.length:=by
  rcases hy with h|⟨h,h',_⟩ <;> omega
 have hj9:j≤Y.length:=by
  rcases hx with h|⟨h,h',_⟩ <;> omega
 refine ⟨side_x D hp hi9 ?_,side_y D hp hj9 ?_⟩
 · rcases hx with h|⟨h1,h2,h3⟩
   · rcases g6 with q|q
     · exact .inl (by omega)
     · exact .inr (.inl (by omega))
   · exact .inr (.inr ⟨by omega,h2,h3⟩)
 · rcases hy with h|⟨h1,h2,h3⟩
   · rcases g7 with q|q
     · exact .inr (.inl (by omega))
     · exact .inl (by omega)
   · exact .inr (.inr ⟨by omega,h2,h3⟩)
structure MS (A X Y S:List Nat) (a m e mid r ee i j n:Nat):Prop where
 l1:a=A.length
 l2:m=a+X.length
 l3:e=m+Y.length
 l4:(A++(X++(Y++S))).length=n
 k1:ee+r=mid+m
 k2:r=a+i
 k3:mid=r+j
 k4:i≤X.length
 k5:j≤Y.length
section
variable {A X Y S:List Nat}{w0 W:World}{a m e mid r ee i j n g cap N:Nat}
theorem skip1 (h:MS A X Y S a m e mid r ee i j n) (hc:¬ (r < m∧m < ee)) (hS:SL enc k w0 g (A++(X++(Y++S))) W):SL enc k w0 g (A++(X.take i++(Y.take j++(X.drop i++(Y.drop j++S))))) W:=by
 obtain ⟨l1,l2,l3,l4,k1,k2,k3,k4,k5⟩:=h;rw [parts X Y A S i j,List.append_assoc] at hS
 by_cases hr9:r < m
 · have ej:j=0:=by omega
   subst ej;simpa using hS
 · have ei:X.length≤i:=by omega
   rw [List.drop_of_length_le ei] at hS ⊢;simpa using hS
theorem call1 (F:SF P k) (b:Bs enc k w0 g n) (h:MS A X Y S a m e mid r ee i j n) (hc:r < m∧m < ee) (hS:SL enc k w0 g (A++(X++(Y++S))) W) (fv:Value) :
 Calls P 196 #[.slice (some ⟨g,0,none⟩) n cap,.int .i64 r,.int .i64 m,.int .i64 ee,fv] W fun e w' =>
  e=.returned (.tuple #[])∧SL enc k w0 g (A++(X.take i++(Y.take j++(X.drop i++(Y.drop j++S))))) w':=by
 obtain ⟨l1,l2,l3,l4,k1,k2,k3,k4,k5⟩:=h;have eL:=parts X Y A S i j;refine (rotate_any (cap:=cap) F b (A++X.take i) (X.drop i) (Y.take j) (Y.drop j++S) fv r m ee (by rw [List.length_append,List.length_take];omega) (by rw [List.length_append,List.length_take,List.length_drop];omega) (by rw [List.length_append,List.length_take,List.length_drop,List.length_take];omega) (by rw [← eL];exact l4) (by rw [List.length_drop];omega) (by rw [List.length_take];omega) (by rw [← eL];exact hS)).mono ?_;rintro e1 w1 ⟨rfl,hS1⟩;rw [List.append_assoc] at hS1;exact ⟨rfl,hS1⟩
theorem skip2 (h:MS A X Y S a m e mid r ee i j n) (hp:Pre D X Y) (hc:¬ (a < r∧r < mid)) (hS:SL enc k w0 g (A++(X.take i++(Y.take j++(X.drop i++(Y.drop j++S))))) W) :
 Post D (X.take i) (Y.take j) (X.take i++Y.take j)∧SL enc k w0 g (A++((X.take i++Y.take j)++(X.drop i++(Y.drop j++S)))) W:=by
 obtain ⟨l1,l2,l3,l4,k1,k2,k3,k4,k5⟩:=h;refine ⟨?_,by rw [List.append_assoc (X.take i)];exact hS⟩
 by_cases hr9:a < r
 · have ej:j=0:=by omega
   exact post_left D (Pre.take D hp i j) (by rw [ej];rfl)
 · have ei:i=0:=by omega
   exact post_right D (Pre.take D hp i j) (by rw [ei];rfl)
theorem call2 (IH:MC P enc k D w0 g n cap N) (hN:X.length+Y.length≤N+1) (hmid:(a+e) / 2=mid) (h:MS A X Y S a m e mid r ee i j n) (hp:Pre D X Y) (hc:a < r∧r < mid) (hS:SL enc k w0 g (A++(X.take i++(Y.take j++(X.drop i++(Y.drop j++S))))) W) :
 Calls P 178 #[.slice (some ⟨g,0,none⟩) n cap,.int .i64 a,.int .i64 r,.int .i64 mid,byNameV] W fun e w' =>
  e=.returned (.tuple #[])∧∃ C1,Post D (X.take i) (Y.take j) C1∧SL enc k w0 g (A++(C1++(X.drop i++(Y.drop j++S)))) w':=by
 obtain ⟨l1,l2,l3,l4,k1,k2,k3,k4,k5⟩:=h;exact IH A (X.take i) (Y.take j) (X.drop i++(Y.drop j++S)) W a r mid (by rw [List.length_take,List.length_take];omega) (by rw [List.length_take];omega) (by rw [List.length_take];omega) l1 (by rw [List.length_take];omega) (by rw [List.length_take];omega) (by simp only [List.length_append,List.length_take,List.length_drop] at l4 ⊢;omega) (Pre.take D hp i j) hS
theorem call3 (IH:MC P enc k D w0 g n cap N) (hN:X.length+Y.length≤N+1) (hX:1 < X.length) (hY:1 < Y.length) (hmid:(a+e) / 2=mid) (h:MS A X Y S a m e mid r ee i j n) (hp:Pre D X Y) (hc:mid < ee∧ee < e) {C1:List Nat} (hC:Post D (X.take i) (Y.take j) C1) (hS:SL enc k w0 g (A++(C1++(X.drop i++(Y.drop j++S)))) W) (hv:(∀ x∈X.take i,∀ y∈Y.drop j,lr D x y)∧(∀ y∈Y.take j,∀ x∈X.drop i,lr D y x)) :
 Calls P 178 #[.slice (some ⟨g,0,none⟩) n cap,.int .i64 mid,.int .i64 ee,.int .i64 e,byNameV] W fun e w' =>
  e=.returned (.tuple #[])∧∃ C,Post D X Y C∧SL enc k w0 g (A++(C++S)) w':=by
 obtain ⟨l1,l2,l3,l4,k1,k2,k3,k4,k5⟩:=h;have hcl:=Post.len D hC;rw [List.length_take,List.length_take] at hcl;refine (IH (A++C1) (X.drop i) (Y.drop j) S W mid ee e (by rw [List.length_drop,List.length_drop];omega) (by rw [List.length_drop];omega) (by rw [List.length_drop];omega) (by rw [List.length_append];omega) (by rw [List.length_drop];omega) (by rw [List.length_drop];omega) (by simp only [List.length_append,List.length_drop] at l4 ⊢;omega) (Pre.drop D hp i j) (by rw [List.append_assoc];exact hS)).mono ?_;rintro e1 w1 ⟨rfl,C2,hC2,hS3⟩;exact ⟨rfl,C1++C2,post_two D hC hC2 hp hv.1 hv.2,by simpa using hS3⟩
theorem skip3 (h:MS A X Y S a m e mid r ee i j n) (hp:Pre D X Y) (hc:¬ (mid < ee∧ee < e)) {C1:List Nat} (hC:Post D (X.take i) (Y.take j) C1) (hS:SL enc k w0 g (A++(C1++(X.drop i++(Y.drop j++S)))) W) (hv:(∀ x∈X.take i,∀ y∈Y.drop j,lr D x y)∧(∀ y∈Y.take j,∀ x∈X.drop i,lr D y x)) :
 ∃ C,Post D X Y C∧SL enc k w0 g (A++(C++S)) W:=by
 obtain ⟨l1,l2,l3,l4,k1,k2,k3,k4,k5⟩:=h
 have hC2:Post D (X.drop i) (Y.drop j) (X.drop i++Y.drop j):=by
  by_cases hr9:mid < ee
  · exact post_left D (Pre.drop D hp i j) (List.drop_of_length_le (by omega))
  · exact post_right D (Pre.drop D hp i j) (List.drop_of_length_le (by omega))
 exact ⟨C1++(X.drop i++Y.drop j),post_two D hC hC2 hp hv.1 hv.2,by simpa using hS⟩
end
set_option maxHeartbeats 8000000 in
set_option maxRecDepth 1000000 in
theorem sym_more (F:SF P k) (C:CM P enc D) {w0 w:World}{g n cap N:Nat} (b:Bs enc k w0 g n) (IH:MC P enc k D w0 g n cap N) (A X Y S:List Nat) (a m e:Nat) (hN:X.length+Y.length≤N+1) (hX:1 < X.length) (hY:1 < Y.length) (ha:a=A.length) (hm:m=a+X.length) (he:e=m+Y.length) (hl:(A++(X++(Y++S))).length=n) (hp:Pre D X Y) (h:SL enc k w0 g (A++(X++(Y++S))) w) :
 Calls P 178 #[.slice (some ⟨g,0,none⟩) n cap,.int .i64 a,.int .i64 m,.int .i64 e,byNameV] w fun e w' =>
  e=.returned (.tuple #[])∧∃ C,Post D X Y C∧SL enc k w0 g (A++(C++S)) w':=by
 unfold byNameV;have hn:=b.hn;have hen:e≤n:=by simp only [List.length_append] at hl;omega
 have ham:a+1 < m:=by omega
 have hme:m+1 < e:=by omega
 have mixed:=F.mixed;have t0:=F.t0;have a0:=F.a0;have z0:=F.z0;have v0:=F.v0;have t3:=F.t3;have a3:=F.a3;have z3:=F.z3;have v3:=F.v3;have t4:=F.t4;have a4:=F.a4;have z4:=F.z4;have v4:=F.v4;have t22:=F.t22;have a22:=F.a22;have z22:=F.z22;have v22:=F.v22;have t25:=F.t25;have a25:=F.a25;have z25:=F.z25;have v25:=F.v25;have t39:=F.t39;have a39:=F.a39;have z39:=F.z39;have v39:=F.v39;have aE:=F.aE;have zE:=F.zE;have u22:=run_underlying F.t22;have FM:=F.fm;have eg:=C.eg;have eR:∀ args w,(callFunc 196 args).run P w=.ok (.enter 196 args) w:=enters_of F.fr (by kernel_rfl) rfl;have eM:∀ args w,(callFunc 178 args).run P w=.ok (.enter 178 args) w:=enters_of F.fm (by kernel_rfl) rfl;have HF:Hid (SF P k):=F;have HC:=hide C.c;have HB:Hid (Bs enc k w0 g n):=b;have HL:Hid (a=A.length∧m=a+X.length∧e=m+Y.length∧(A++(X++(Y++S))).length=n):=⟨ha,hm,he,hl⟩;have HP:Hid (Pre D X Y):=hp;have HI:=hide IH;have HXY:Hid (1 < X.length∧1 < Y.length):=⟨hX,hY⟩;have HN:=hide hN;have HH:=hide h;clear F C b ha hm he hl hp h hX hY IH hN;obtain ⟨mid,hmid⟩:∃ mid,(a+e) / 2=mid:=⟨_,rfl⟩;have hmz:((a:Int)+(e:Int)) / 2=(mid:Int):=by omega
 have hm1:a < mid:=by omega
 have hm2:mid < e:=by omega
 have w1:IntKind.i64.wrap ((m:Int) - (a:Int))=(m:Int) - (a:Int):=by rw [IntKind.wrap_i64];omega
 have ne1:decide ((m:Int) - (a:Int)=1)=false:=decide_eq_false (by omega);have ne2:¬ ((m:Int) - (a:Int)=1):=by omega
 have w2:IntKind.i64.wrap ((e:Int) - (m:Int))=(e:Int) - (m:Int):=by rw [IntKind.wrap_i64];omega
 have ne3:decide ((e:Int) - (m:Int)=1)=false:=decide_eq_false (by omega);have ne4:¬ ((e:Int) - (m:Int)=1):=by omega
 have w3:IntKind.i64.wrap ((a:Int)+(e:Int))=(a:Int)+(e:Int):=by rw [IntKind.wrap_i64];omega
 have w4:IntKind.i64.wrap ((mid:Int)+(m:Int))=(mid:Int)+(m:Int):=by rw [IntKind.wrap_i64];omega
 have w5:IntKind.i64.wrap ((mid:Int)+(m:Int) - (e:Int))=(mid:Int)+(m:Int) - (e:Int):=by rw [IntKind.wrap_i64];omega
 have w6:IntKind.i64.wrap ((mid:Int)+(m:Int) - 1)=(mid:Int)+(m:Int) - 1:=by rw [IntKind.wrap_i64];omega
 have HM:Hid ((a+e) / 2=mid):=hmid;clear hmid
 go_enter FM,Tryz.ntmps178
 go_upto_if 140 with fail
 go_cut [20,21] (fun s20 s21 wx=>∃ s0 r0:Nat,s20=.int .i64 (s0:Int)∧s21=.int .i64 (r0:Int)∧Rg a m e mid s0 r0∧wx=w)
 case first =>
  by_cases hc:mid < m
  · have hcz:(mid:Int) < (m:Int):=by omega
    go_wp2;go_meet
    case rel=>exact ⟨mid+m - e,mid,by congr 1;have:=HM.out;omega,rfl,rg_hi HM.out hc (by omega),rfl⟩
  · have hcz:¬ (mid:Int) < (m:Int):=by omega
    go_wp2;go_meet
    case rel=>exact ⟨a,m,rfl,rfl,rg_lo HM.out hc (by omega),rfl⟩
 case rest =>
  obtain ⟨s0,r0,rfl,rfl,hrg,rfl⟩:=hcut;have HRG:Hid (Rg a m e mid s0 r0):=hrg;obtain ⟨rg1,rg2,rg3,rg4,rg5,-,-⟩:=hrg;go_wp2
  go_loopw [20,21] (fun v u wr=>∃ (s r:Nat),v=.int .i64 (s:Int)∧u=.int .i64 (r:Int)∧s0≤s∧s≤r∧r≤r0∧SL enc k w0 g (A++(X++(Y++S))) wr∧SX D X Y a mid s0 s∧SY D X Y a mid r0 r) (fun v u _=>(intOf u).toNat - (intOf v).toNat)
  case atStart=>exact ⟨s0,r0,rfl,rfl,Nat.le_refl _,by omega,Nat.le_refl _,uh HH,.inl rfl,.inl rfl⟩
  case round =>
   obtain ⟨s,r,rfl,rfl,hs,hsr,hr,hS,hx,hy⟩:=hrel;have HX:=hide hx;have HY:=hide hy;have HS:=hide hS;clear hx hy hS HH
   by_cases hlt:s < r
   · have hltz:(s:Int) < (r:Int):=by omega
     have w7:IntKind.i64.wrap ((s:Int)+(r:Int))=(s:Int)+(r:Int):=by rw [IntKind.wrap_i64];omega
     obtain ⟨c,hc⟩:∃ c,(s+r) / 2=c:=⟨_,rfl⟩;have hcz:((s:Int)+(r:Int)) / 2=(c:Int):=by omega
     have hsc:s≤c:=by omega
     have hcr:c < r:=by omega
     clear hc
     go_wp2_with fail
     obtain ⟨l1,l2,l3,l4⟩:=HL.out;obtain ⟨p,hp⟩:∃ p,p+c+1=mid+m:=⟨mid+m - 1 - c,by omega⟩;obtain ⟨tx,htx⟩:∃ t,c=a+t:=⟨c - a,by omega⟩;obtain ⟨ty,hty⟩:∃ t,p=m+t:=⟨p - m,by omega⟩;have hpz:IntKind.i64.wrap ((mid:Int)+(m:Int) - 1 - (c:Int))=(p:Int):=by rw [IntKind.wrap_i64];omega
     have htxl:tx < X.length:=by omega
     have htyl:ty < Y.length:=by omega
     have ll1:∀ n' os',Sem.run P (loadCellsFrom ⟨g,c*k,none⟩ 0 k #[]) (grow (wr.drewN n') os')=.ok (enc (at' X tx)).toArray (grow (wr.drewN n') os'):=fun n' os'=>by
      have:=SL.load (P:=P) HB.out ((uh HS).grown n' os') l4 c (by omega)
      rwa [at_ahead l1 htx htxl] at this
     have ll2:∀ n' os',Sem.run P (loadCellsFrom ⟨g,p*k,none⟩ 0 k #[]) (grow (wr.drewN n') os')=.ok (enc (at' Y ty)).toArray (grow (wr.drewN n') os'):=fun n' os'=>by
      have:=SL.load (P:=P) HB.out ((uh HS).grown n' os') l4 p (by omega);have e9:A++(X++(Y++S))=(A++X)++(Y++S):=by simp
      rw [e9,at_ahead (a:=m) (by rw [List.length_append];omega) hty htyl] at this;exact this
     have hcg:=fun W=>uh HC (at' Y ty) (at' X tx) W
     have hlt9:=HP.out.x _ (at_mem htxl) _ (at_mem htyl)
     have HR:Hid ((¬ cfI D (at' Y ty) (at' X tx) < 0→SX D X Y a mid s0 (c+1))∧(cfI D (at' Y ty) (at' X tx) < 0→SY D X Y a mid r0 c)):=⟨fun q=>.inr ⟨by omega,by omega,by
      have e1:c+1 - a - 1=tx:=by omega
      have e2:mid - (c+1)=ty:=by omega
      rw [e1,e2];exact lr_of_not D hlt9 q⟩,fun q=>.inr ⟨by omega,by omega,by
      have e1:c - a=tx:=by omega
      have e2:mid - c - 1=ty:=by omega
      rw [e1,e2];exact lr_of_lt D q⟩⟩
     generalize cfI D (at' Y ty) (at' X tx)=v at hcg HR;have q1:=HB.out.len (at' X tx);have q2:=HB.out.len (at' Y ty);generalize enc (at' X tx)=c1 at ll1 hcg q1;generalize enc (at' Y ty)=c2 at ll2 hcg q2;have jz:(c:Int) < (n:Int):=by omega
     have jz2:(p:Int) < (n:Int):=by omega
     have hcg':=hide hcg;clear hcg htx hty htxl htyl hlt9 hp l1 l2 l3 l4
     by_cases hv:v < 0
     · go_quiet_grown (first|(go_at_fn 136;refine Calls.grown_of (uh hcg' _)))
       go_wp2
       go_round
       case measure=>simp only [intOf];omega
       case rel=>first|exact ⟨s,c,rfl,rfl,by omega,by omega,by omega,(uh HS).grown _ _,uh HX,HR.out.2 hv⟩|exact ⟨s,by first|rfl|omega|go_num,c,by first|rfl|omega|go_num,by omega,by omega,by omega,(uh HS).grown _ _,uh HX,HR.out.2 hv⟩
     · go_quiet_grown (first|(go_at_fn 136;refine Calls.grown_of (uh hcg' _)))
       go_wp2
       go_round
       case measure=>simp only [intOf];omega
       case rel=>first|exact ⟨c+1,r,by first|rfl|go_num,rfl,by omega,by omega,by omega,(uh HS).grown _ _,HR.out.1 hv,uh HY⟩|exact ⟨c+1,by first|rfl|omega|go_num,r,by first|rfl|omega|go_num,by omega,by omega,by omega,(uh HS).grown _ _,HR.out.1 hv,uh HY⟩
   · have hltz:¬ (s:Int) < (r:Int):=by omega
     have esr:r=s:=by omega
     subst esr;have w8:IntKind.i64.wrap ((mid:Int)+(m:Int) - (r:Int))=(mid:Int)+(m:Int) - (r:Int):=by rw [IntKind.wrap_i64];omega
     obtain ⟨ee,hee⟩:∃ ee,ee+r=mid+m:=⟨mid+m - r,by omega⟩;have heez:(mid:Int)+(m:Int) - (r:Int)=(ee:Int):=by omega
     obtain ⟨i,hi⟩:∃ i,r=a+i:=⟨r - a,by omega⟩;obtain ⟨j,hj⟩:∃ j,mid=r+j:=⟨mid - r,by omega⟩
     have HE:Hid (MS A X Y S a m e mid r ee i j n):=by
      obtain ⟨l1,l2,l3,l4⟩:=HL.out;exact ⟨l1,l2,l3,l4,hee,hi,hj,by omega,by omega⟩
     have HV:=hide (mid_sides HL.out HP.out HRG.out (uh HX) (uh HY) hi hj);have hem:m≤ee:=by omega
     have hee1:ee≤e:=by omega
     clear hi hj HX HY HL
     rcases Nat.lt_or_ge a r with ca|ca
     · rcases Nat.lt_or_ge r m with cr|cr
       · skip
         rcases Nat.lt_or_ge m ee with cm|cm
         · rcases Nat.lt_or_ge ee e with ce|ce
           · have z1:(r:Int) < (m:Int):=by omega
             have z2:(m:Int) < (ee:Int):=by omega
             have z3:(a:Int) < (r:Int):=by omega
             have z4:(r:Int) < (mid:Int):=by omega
             have z5:(mid:Int) < (ee:Int):=by omega
             have z6:(ee:Int) < (e:Int):=by omega
             go_wp2_with (first|(go_at_fn 196;refine (call1 (cap:=cap) HF.out HB.out HE.out (by omega) (uh HS) _).mono ?_;rintro e1 w1 ⟨rfl,hS1⟩;have HS1:=hide hS1;clear hS1)|(go_at_fn 178;refine (call2 (uh HI) (uh HN) HM.out HE.out HP.out (by omega) (uh HS1)).mono ?_;rintro e2 w2 ⟨rfl,C1,hC1,hS2⟩;have HC1:=hide hC1;have HS2:=hide hS2;clear hC1 hS2)|(go_at_fn 178;refine (call3 (uh HI) (uh HN) HXY.out.1 HXY.out.2 HM.out HE.out HP.out (by omega) (uh HC1) (uh HS2) (uh HV)).mono ?_;rintro e3 w3 ⟨rfl,hfin⟩))
             go_end0
             exact ⟨rfl,hfin⟩
           · have z1:(r:Int) < (m:Int):=by omega
             have z2:(m:Int) < (ee:Int):=by omega
             have z3:(a:Int) < (r:Int):=by omega
             have z4:(r:Int) < (mid:Int):=by omega
             have z5:(mid:Int) < (ee:Int):=by omega
             have z6:¬ (ee:Int) < (e:Int):=by omega
             go_wp2_with (first|(go_at_fn 196;refine (call1 (cap:=cap) HF.out HB.out HE.out (by omega) (uh HS) _).mono ?_;rintro e1 w1 ⟨rfl,hS1⟩;have HS1:=hide hS1;clear hS1)|(go_at_fn 178;refine (call2 (uh HI) (uh HN) HM.out HE.out HP.out (by omega) (uh HS1)).mono ?_;rintro e2 w2 ⟨rfl,C1,hC1,hS2⟩;have HC1:=hide hC1;have HS2:=hide hS2;clear hC1 hS2))
             go_end0
             exact ⟨rfl,skip3 HE.out HP.out (by omega) (uh HC1) (uh HS2) (uh HV)⟩
         · have z1:(r:Int) < (m:Int):=by omega
           have z2:¬ (m:Int) < (ee:Int):=by omega
           have z3:(a:Int) < (r:Int):=by omega
           have z4:¬ (r:Int) < (mid:Int):=by omega
           have z5:(mid:Int) < (ee:Int):=by omega
           have z6:(ee:Int) < (e:Int):=by omega
           have hS1:=skip1 HE.out (by omega) (uh HS);obtain ⟨hC1,hS2⟩:=skip2 HE.out HP.out (by omega) hS1;have HC1:=hide hC1;have HS2:=hide hS2;clear hC1 hS2 hS1
           go_wp2_with (first|(go_at_fn 178;refine (call3 (uh HI) (uh HN) HXY.out.1 HXY.out.2 HM.out HE.out HP.out (by omega) (uh HC1) (uh HS2) (uh HV)).mono ?_;rintro e3 w3 ⟨rfl,hfin⟩))
           go_end0
           exact ⟨rfl,hfin⟩
       · skip
         rcases Nat.lt_or_ge m ee with cm|cm
         · rcases Nat.lt_or_ge ee e with ce|ce
           · have z1:¬ (r:Int) < (m:Int):=by omega
             have z2:(m:Int) < (ee:Int):=by omega
             have z3:(a:Int) < (r:Int):=by omega
             have z4:(r:Int) < (mid:Int):=by omega
             have z5:¬ (mid:Int) < (ee:Int):=by omega
             have z6:(ee:Int) < (e:Int):=by omega
             have hS1:=skip1 HE.out (by omega) (uh HS);have HS1:=hide hS1;clear hS1
             go_wp2_with (first|(go_at_fn 178;refine (call2 (uh HI) (uh HN) HM.out HE.out HP.out (by omega) (uh HS1)).mono ?_;rintro e2 w2 ⟨rfl,C1,hC1,hS2⟩;have HC1:=hide hC1;have HS2:=hide hS2;clear hC1 hS2))
             go_end0
             exact ⟨rfl,skip3 HE.out HP.out (by omega) (uh HC1) (uh HS2) (uh HV)⟩
           · exfalso;omega
         · have z1:¬ (r:Int) < (m:Int):=by omega
           have z2:¬ (m:Int) < (ee:Int):=by omega
           have z3:(a:Int) < (r:Int):=by omega
           have z4:¬ (r:Int) < (mid:Int):=by omega
           have z5:¬ (mid:Int) < (ee:Int):=by omega
           have z6:(ee:Int) < (e:Int):=by omega
           have hS1:=skip1 HE.out (by omega) (uh HS);obtain ⟨hC1,hS2⟩:=skip2 HE.out HP.out (by omega) hS1;have HC1:=hide hC1;have HS2:=hide hS2;clear hC1 hS2 hS1;go_wp2
           go_end0
           exact ⟨rfl,skip3 HE.out HP.out (by omega) (uh HC1) (uh HS2) (uh HV)⟩
     · skip
       rcases Nat.lt_or_ge m ee with cm|cm
       · rcases Nat.lt_or_ge ee e with ce|ce
         · have z1:(r:Int) < (m:Int):=by omega
           have z2:(m:Int) < (ee:Int):=by omega
           have z3:¬ (a:Int) < (r:Int):=by omega
           have z4:(r:Int) < (mid:Int):=by omega
           have z5:(mid:Int) < (ee:Int):=by omega
           have z6:(ee:Int) < (e:Int):=by omega
           go_wp2_with (first|(go_at_fn 196;refine (call1 (cap:=cap) HF.out HB.out HE.out (by omega) (uh HS) _).mono ?_;rintro e1 w1 ⟨rfl,hS1⟩;obtain ⟨hC1,hS2⟩:=skip2 HE.out HP.out (by omega) hS1;have HC1:=hide hC1;have HS2:=hide hS2;clear hC1 hS2 hS1)|(go_at_fn 178;refine (call3 (uh HI) (uh HN) HXY.out.1 HXY.out.2 HM.out HE.out HP.out (by omega) (uh HC1) (uh HS2) (uh HV)).mono ?_;rintro e3 w3 ⟨rfl,hfin⟩))
           go_end0
           exact ⟨rfl,hfin⟩
         · have z1:(r:Int) < (m:Int):=by omega
           have z2:(m:Int) < (ee:Int):=by omega
           have z3:¬ (a:Int) < (r:Int):=by omega
           have z4:(r:Int) < (mid:Int):=by omega
           have z5:(mid:Int) < (ee:Int):=by omega
           have z6:¬ (ee:Int) < (e:Int):=by omega
           go_wp2_with (first|(go_at_fn 196;refine (call1 (cap:=cap) HF.out HB.out HE.out (by omega) (uh HS) _).mono ?_;rintro e1 w1 ⟨rfl,hS1⟩;obtain ⟨hC1,hS2⟩:=skip2 HE.out HP.out (by omega) hS1;have HC1:=hide hC1;have HS2:=hide hS2;clear hC1 hS2 hS1))
           go_end0
           exact ⟨rfl,skip3 HE.out HP.out (by omega) (uh HC1) (uh HS2) (uh HV)⟩
       · have z1:(r:Int) < (m:Int):=by omega
         have z2:¬ (m:Int) < (ee:Int):=by omega
         have z3:¬ (a:Int) < (r:Int):=by omega
         have z4:¬ (r:Int) < (mid:Int):=by omega
         have z5:(mid:Int) < (ee:Int):=by omega
         have z6:(ee:Int) < (e:Int):=by omega
         have hS1:=skip1 HE.out (by omega) (uh HS);obtain ⟨hC1,hS2⟩:=skip2 HE.out HP.out (by omega) hS1;have HC1:=hide hC1;have HS2:=hide hS2;clear hC1 hS2 hS1
         go_wp2_with (first|(go_at_fn 178;refine (call3 (uh HI) (uh HN) HXY.out.1 HXY.out.2 HM.out HE.out HP.out (by omega) (uh HC1) (uh HS2) (uh HV)).mono ?_;rintro e3 w3 ⟨rfl,hfin⟩))
         go_end0
         exact ⟨rfl,hfin⟩
variable {P:Program}{k:Nat}{enc:Nat→List Value}{D:List Fd}
theorem sym_any (F:SF P k) (C:CM P enc D) {w0:World}{g n cap:Nat} (b:Bs enc k w0 g n):∀ N,MC P enc k D w0 g n cap N
 | 0=>fun A X Y S w a m e hN hX hY ha hm he hl hp h=>absurd hN (by omega)
 | N+1=>fun A X Y S w a m e hN hX hY ha hm he hl hp h=>by
   by_cases h1:X.length=1
   · obtain ⟨x,rfl⟩:=List.length_eq_one_iff.1 h1
     exact sym_one F C b A Y S x a m e ha (by simpa using hm) (by rw [he,hm];simp) (by simpa using hl) hp (by simpa using h)
   · by_cases h2:Y.length=1
     · obtain ⟨y,rfl⟩:=List.length_eq_one_iff.1 h2
       exact sym_last F C b A X S y a m e ha hm (by simpa using he) (by omega) (by simpa using hl) hp (by simpa using h)
     · exact sym_more F C b (sym_any F C b N) A X Y S a m e hN (by omega) (by omega) ha hm he hl hp h
variable {D:List Fd}
theorem at_arr (d:Array Nat) (p:Nat):at' d.toList p=d[p]!:=by unfold at';rfl
theorem perm_of_in {a b:Nat}{d d':Array Nat} (hab:a≤b) (h:PermIn a b d d'):d'.toList.Perm d.toList:=by
 obtain ⟨h1,h2,h3⟩:=h
 have e:∀ x:Array Nat,x.toList=x.toList.take a++((x.extract a b).toList++x.toList.drop b):=fun x=>by
  rw [Array.toList_extract,List.extract_eq_take_drop];have:=parted x.toList a b b hab (Nat.le_refl _);rw [Nat.sub_self,List.take_zero,List.nil_append] at this;exact this
 have g:∀ p,p < a∨b≤p→d'.toList[p]?=d.toList[p]?:=fun p hp=>by
  by_cases q:p < d.size
  · have:=h2 p hp
    rw [getElem!_pos _ p (by omega),getElem!_pos _ p q] at this;rw [Array.getElem?_toList,Array.getElem?_toList,Array.getElem?_eq_getElem (by omega),Array.getElem?_eq_getElem q,this]
  · rw [List.getElem?_eq_none (by simp;omega),List.getElem?_eq_none (by simp;omega)]
 have t1:d'.toList.take a=d.toList.take a:=by
  apply List.ext_getElem?;intro p;rw [List.getElem?_take,List.getElem?_take]
  split
  · exact g p (.inl ‹_›)
  · rfl
 have t2:d'.toList.drop b=d.toList.drop b:=by
  apply List.ext_getElem?;intro p;rw [List.getElem?_drop,List.getElem?_drop];exact g _ (.inr (by omega))
 rw [e d',e d,t1,t2];exact List.Perm.append_left _ (List.Perm.append_right _ h3)
theorem seg_ins {n a b:Nat}{L:List Nat} (hn:L.length=n) (hab:a≤b) (hb:b≤n) (hd:L.Nodup) (hr:∀ p,a≤p→p < b→at' L p=p) (d':Array Nat) (hd':d'=insertionSort (ltOf (cfI D)) L.toArray a b) :
 Seg D d'.toList a b∧d'.toList.Perm L∧d'.size=n∧∀ p,p < a∨b≤p→at' d'.toList p=at' L p:=by
 have hz:L.toArray.size=n:=by simpa using hn
 rw [ins_eq D L.toArray a b (by omega) (fun p q p1 p2 p3=>by
  have e1:=hr p p1 (by omega);have e2:=hr q (by omega) p3;unfold at' at e1 e2
  rw [e1,e2];exact p2)] at hd'
 obtain ⟨h1,h2⟩:=insertionSort_holds (swoX D) L.toArray a b hab (by omega);rw [← hd'] at h1 h2;have hperm:=perm_of_in hab h1;have hsz:d'.size=n:=by rw [h1.1,hz]
 have hnd:d'.toList.Nodup:=(hperm.nodup_iff).2 (by simpa using hd);refine ⟨⟨hab,by simp;omega,fun p p1 p2=>?_,fun p q p1 p2 p3=>?_⟩,by simpa using hperm,hsz,fun p hp=>by rw [at_arr];exact h1.2.1 p hp⟩
 · have hm:at' d'.toList p∈(d'.extract a b).toList:=by
    rw [Array.toList_extract,List.extract_eq_take_drop];have:=@at_part d'.toList a (b - a) (p - a) (by omega) (by simp;omega);rw [show a+(p - a)=p by omega] at this;rw [← this];exact at_mem (by rw [List.length_take,List.length_drop];simp;omega)
   have hm2:=(h1.2.2.mem_iff).1 hm;rw [Array.toList_extract,List.extract_eq_take_drop] at hm2;obtain ⟨i,hi,hx⟩:=mem_at hm2;rw [List.length_take,List.length_drop] at hi;rw [at_part (by omega) (by simp;omega)] at hx;have:=hr (a+i) (by omega) (by omega);rw [this] at hx;omega
 · have h3:=h2 p q p1 p2 p3
   rw [at_arr,at_arr]
   cases hc:lxI D d'[p]! d'[q]!
   · exfalso
     have e:=lx_total D _ _ hc h3;rw [getElem!_pos _ p (by omega),getElem!_pos _ q (by omega)] at e;have h9:=List.pairwise_iff_getElem.1 hnd p q (by simp;omega) (by simp;omega) p2;exact h9 (by simpa using e)
   · exact hc
theorem ins_block {w0 W:World}{g n cap a b:Nat}{L:List Nat} (B:Bs (encI D) 9 w0 g n) (h:SL (encI D) 9 w0 g L W) (hn:L.length=n) (hab:a≤b) (hb:b≤n) (hd:L.Nodup) (hr:∀ p,a≤p→p < b→at' L p=p) :
 Calls Tryz.prog 177 #[.slice (some ⟨g,0,none⟩) n cap,.int .i64 a,.int .i64 b,byNameV] W fun e w'=>e=.returned (.tuple #[]) ∧
  ∃ L',SL (encI D) 9 w0 g L' w'∧Seg D L' a b∧L'.Perm L∧∀ p,p < a∨b≤p→at' L' p=at' L p:=by
 have LI:SlLaysF0.n20 Tryz.prog Tryz.sortFd_ren:={ Tryz.sortFd with };have hz:L.toArray.size=n:=by simpa using hn
 have hbn:=B.hn;have hq:=AnyQ.insertionSortCmpFunc LI 9 Tryz.isAgg70 Tryz.sizeOf70 (encI D) (fun x=>encF_len _) (fun x=>encF_one _) (cfI D) 136 #[] g 0 cap a b L.toArray W enter_byName (fun m os dk _ x y=>byName_any _ _ _) (h.holds B hn) (SWK.lt h B.hg) hab (by omega) (by omega);rw [hz] at hq;refine Calls.mono (show Calls Tryz.prog 177 #[.slice (some ⟨g,0,none⟩) n cap,.int .i64 a,.int .i64 b,byNameV] W _ from hq) ?_;rintro e w' ⟨rfl,m,os,rfl⟩;obtain ⟨s1,s2,s3,s4⟩:=seg_ins (D:=D) hn hab hb hd hr _ rfl;refine ⟨rfl,_,?_,s1,s2,s4⟩;have:=SWK.on h B.hg m (insertionSort (ltOf (cfI D)) L.toArray a b) os (by rw [s3,hz]);exact this
variable {D:List Fd}
theorem cm_prog:CM Tryz.prog (encI D) D where
 eg:=enter_byName
 c _ _ W:=byName_any _ _ W
theorem sym_block {w0 W:World}{g n cap a m e:Nat}{L:List Nat} (B:Bs (encI D) 9 w0 g n) (h:SL (encI D) 9 w0 g L W) (hn:L.length=n) (h1:Seg D L a m) (h2:Seg D L m e) (ham:a < m) (hme:m < e) :
 Calls Tryz.prog 178 #[.slice (some ⟨g,0,none⟩) n cap,.int .i64 a,.int .i64 m,.int .i64 e,byNameV] W fun e' w'=>e'=.returned (.tuple #[]) ∧
  ∃ L',SL (encI D) 9 w0 g L' w'∧Seg D L' a e∧L'.Perm L∧∀ p,p < a∨(e≤p∧p < n)→at' L' p=at' L p:=by
 have q2:=h1.len;have q4:=h2.len;have eL:=parted L a m e (by omega) (by omega);have len1:((L.drop a).take (m - a)).length=m - a:=by rw [List.length_take,List.length_drop];omega
 have len2:((L.drop m).take (e - m)).length=e - m:=by rw [List.length_take,List.length_drop];omega
 refine (sym_any sf_prog cm_prog B _ (L.take a) ((L.drop a).take (m - a)) ((L.drop m).take (e - m)) (L.drop e) W a m e (Nat.le_refl _) (by omega) (by omega) (by rw [List.length_take];omega) (by omega) (by omega) (by rw [← eL];exact hn) (seg_pre D h1 h2) (by rw [← eL];exact h)).mono ?_;rintro e' w' ⟨rfl,C,hC,hS⟩;obtain ⟨s1,s2,s3,s4⟩:=seg_post D h1 h2 hC;exact ⟨rfl,_,hS,s1,s3,fun p hp=>s4 p (by omega)⟩
theorem sym_blockI {w0 W:World}{g n cap a m e:Nat}{L:List Nat} (mi ei:Int) (hmi:mi=m) (hei:ei=e) (B:Bs (encI D) 9 w0 g n) (h:SL (encI D) 9 w0 g L W) (hn:L.length=n) (h1:Seg D L a m) (h2:Seg D L m e) (ham:a < m) (hme:m < e) :
 Calls Tryz.prog 178 #[.slice (some ⟨g,0,none⟩) n cap,.int .i64 a,.int .i64 mi,.int .i64 ei,.func (.func 136) #[] #[]] W fun e' w'=>e'=.returned (.tuple #[]) ∧
  ∃ L',SL (encI D) 9 w0 g L' w'∧Seg D L' a e∧L'.Perm L∧∀ p,p < a∨(e≤p∧p < n)→at' L' p=at' L p:=by
 subst hmi hei;exact sym_block B h hn h1 h2 ham hme
set_option maxHeartbeats 4000000 in
set_option maxRecDepth 1000000 in
theorem stable_blocks {w0 w:World}{g n cap:Nat} (B:Bs (encI D) 9 w0 g n) (hb:n≤1000000000000000) (h:SL (encI D) 9 w0 g (List.range n) w) :
 Calls Tryz.prog 151 #[.slice (some ⟨g,0,none⟩) n cap,.int .i64 n,byNameV] w fun e w'=>e=.returned (.tuple #[])∧SL (encI D) 9 w0 g (stb D n) w':=by
 have HB:Hid (Bs (encI D) 9 w0 g n):=B;have HH:=hide h;unfold byNameV;clear B h
 go_enter Tryz.func151,Tryz.ntmps151
 go_wp2
 go_loopw [7,8] (fun v u wr=>∃ (a:Nat) (L:List Nat),v=.int .i64 (a:Int)∧u=.int .i64 ((a+20:Nat):Int)∧a≤n∧Bin D n 20 a L∧SL (encI D) 9 w0 g L wr) (fun v _ _=>n - (intOf v).toNat)
 case atStart=>exact ⟨0,List.range n,rfl,rfl,Nat.zero_le _,Bin.start D n 20,uh HH⟩
 case round =>
  obtain ⟨a,L,rfl,rfl,han,hbin,hS⟩:=hrel;have HN:=hide hbin;have HS:=hide hS;clear hbin hS HH
  by_cases hlt:a+20≤n
  · have hltz:((a+20:Nat):Int)≤(n:Int):=by omega
    go_wp2_with (go_at_call 177;refine (ins_block HB.out (uh HS) (by rw [(uh HN).perm.length_eq];simp) (by omega) hlt ((uh HN).perm.nodup_iff.2 List.nodup_range) (fun p p1 p2=>(uh HN).rest p p1 (by omega))).mono ?_;rintro e1 w1 ⟨rfl,L',hL1,hL2,hL3,hL4⟩)
    go_round
    case measure=>simp only [intOf];omega
    case rel=>exact ⟨a+20,L',by first|rfl|go_num,by first|rfl|go_num,by omega,(uh HN).next D hL3 hL2 (fun p hp=>hL4 p (by omega)),hL1⟩
  · have hltz:¬ ((a+20:Nat):Int)≤(n:Int):=by omega
    go_wp2_with (go_at_call 177;refine (ins_block HB.out (uh HS) (by rw [(uh HN).perm.length_eq];simp) han (Nat.le_refl _) ((uh HN).perm.nodup_iff.2 List.nodup_range) (fun p p1 p2=>(uh HN).rest p p1 (by omega))).mono ?_;rintro e1 w1 ⟨rfl,L',hL1,hL2,hL3,hL4⟩)
    have hblk:Blk D n 20 L':=(uh HN).done D (by omega) hL3 (fun _=>hL2) (fun p hp=>hL4 p (.inl hp));have HK:=hide hblk;have HS1:=hide hL1;clear hblk hL1 hL2 hL3 hL4 HN HS
    go_loopw [6] (fun v wr=>∃ (b:Nat) (L:List Nat),v=.int .i64 (b:Int)∧20≤b∧b≤2*n+20∧Blk D n b L∧SL (encI D) 9 w0 g L wr) (fun v _=>2*n+20 - (intOf v).toNat)
    case atStart=>exact ⟨20,L',rfl,by omega,by omega,uh HK,uh HS1⟩
    case round =>
     obtain ⟨b,M,rfl,hb20,hb2,hblk,hS⟩:=hrel;have HK2:=hide hblk;have HS2:=hide hS;clear hblk hS HK HS1
     by_cases hbn:b < n
     · have hbz:(b:Int) < (n:Int):=by omega
       have w1:IntKind.i64.wrap (2*(b:Int))=2*(b:Int):=by rw [IntKind.wrap_i64];omega
       go_wp2
       go_loopw [7,8] (fun v u wr=>∃ (a:Nat) (L:List Nat),v=.int .i64 (a:Int)∧u=.int .i64 ((a+2*b:Nat):Int)∧a≤n∧Bmg D n b a L∧SL (encI D) 9 w0 g L wr) (fun v _ _=>n - (intOf v).toNat)
       case atStart=>exact ⟨0,M,rfl,by first|rfl|go_num|(congr 1;omega),Nat.zero_le _,(uh HK2).start,uh HS2⟩
       case round =>
        obtain ⟨a,L,rfl,rfl,han,hbin,hS⟩:=hrel;have HN:=hide hbin;have HS:=hide hS;clear hbin hS HK2 HS2;obtain ⟨m,hm⟩:∃ m,m=a+b:=⟨_,rfl⟩;have w2:IntKind.i64.wrap ((a:Int)+(b:Int))=(m:Int):=by rw [IntKind.wrap_i64];omega
        have HLL:Hid (L.length=n):=by show _=_;rw [(uh HN).perm.length_eq];simp
        by_cases hlt:a+2*b≤n
        · have hltz:((a+2*b:Nat):Int)≤(n:Int):=by omega
          have hltz2:(a:Int)+2*(b:Int)≤(n:Int):=by omega
          obtain ⟨e,he⟩:∃ e,e=a+2*b:=⟨_,rfl⟩
          have HG:Hid (Seg D L a m∧Seg D L m e):=by
           have:=(uh HN).two D (by omega) (by omega);rw [Nat.min_eq_left hlt] at this;rw [hm,he];exact this
          rw [← he] at hltz ⊢;have w3:IntKind.i64.wrap ((e:Int)+2*(b:Int))=(e:Int)+2*(b:Int):=by rw [IntKind.wrap_i64];omega
          go_wp2_with (go_at_call 178;refine (sym_blockI _ _ (by omega) (by omega) HB.out (uh HS) HLL.out HG.out.1 HG.out.2 (by omega) (by omega)).mono ?_;rintro e1 w1 ⟨rfl,L2,hL1,hL2,hL3,hL4⟩)
          go_round
          case measure=>simp only [intOf];omega
          case rel=>exact ⟨e,L2,by first|(congr 1;omega)|rfl,by first|(congr 1;omega)|rfl,by omega,by rw [he] at hL2 hL4 ⊢;exact (uh HN).next D hL3 hL2 hL4,hL1⟩
        · have hltz:¬ ((a+2*b:Nat):Int)≤(n:Int):=by omega
          have w4:IntKind.i64.wrap ((b:Int)*2)=(b:Int)*2:=by rw [IntKind.wrap_i64];omega
          by_cases hmn:m < n
          · have hmnz:(m:Int) < (n:Int):=by omega
            have HG:Hid (Seg D L a m∧Seg D L m n):=by
             have:=(uh HN).two D (by omega) (by omega);rw [Nat.min_eq_right (by omega)] at this;rw [hm];exact this
            go_wp2_with (go_at_call 178;refine (sym_blockI _ _ (by omega) rfl HB.out (uh HS) HLL.out HG.out.1 HG.out.2 (by omega) hmn).mono ?_;rintro e1 w1 ⟨rfl,L2,hL1,hL2,hL3,hL4⟩)
            go_round
            case measure=>simp only [intOf];omega
            case rel=>exact ⟨2*b,L2,by first|rfl|go_num|(congr 1;omega),by omega,by omega,(uh HN).done D (by omega) hL3 (fun _=>hL2) (fun p hp=>hL4 p (.inl hp)),hL1⟩
          · have hmnz:¬ (m:Int) < (n:Int):=by omega
            go_wp2
            go_round
            case measure=>simp only [intOf];omega
            case rel=>exact ⟨2*b,L,by first|rfl|go_num|(congr 1;omega),by omega,by omega,(uh HN).done D (by omega) (.refl _) (fun q=>by
             have:=(uh HN).rest a (Nat.dvd_trans (Nat.dvd_mul_left b 2) (uh HN).dv) (Nat.le_refl _) q;rw [Nat.min_eq_right (by omega)] at this
             exact this) (fun _ _=>rfl),uh HS⟩
     · have hbz:¬ (b:Int) < (n:Int):=by omega
       go_wp2
       go_end0
       have:=(uh HK2).all D (by omega);exact ⟨rfl,by rw [← this];exact uh HS2⟩
theorem stable_all {w:World}{B g cap:Nat}{D:List Fd} (hl:D.length≤1000000000000000) (ho:w.ownsRow B 70 9 (.slice (some ⟨g,0,none⟩) D.length cap) D.length (D.flatMap encF)) :
 Calls Tryz.prog 135 #[.slice (some ⟨g,0,none⟩) D.length cap,byNameV] w fun e w'=>e=.returned (.tuple #[]) ∧
  w'.ownsRow B 70 9 (.slice (some ⟨g,0,none⟩) D.length cap) D.length (((stb D D.length).map (fdI D)).flatMap encF)∧Mv g w w':=by
 obtain ⟨hH,hlt⟩:=holds_row ho;have hz:=rng_size D.length;have hB:Bs (encI D) 9 w g D.length:=⟨fun x=>encF_len _,fun x=>encF_one _,hlt,⟨_,hz,hH⟩,by omega⟩;have hs:=hide (stable_blocks (cap:=cap) hB hl (SWK.start hH))
 have key:∀ w',SL (encI D) 9 w g (stb D D.length) w'→w'.ownsRow B 70 9 (.slice (some ⟨g,0,none⟩) D.length cap) D.length (((stb D D.length).map (fdI D)).flatMap encF)∧Mv g w w':=fun w' h=>by
  obtain ⟨m,os,rfl⟩:=h;have:=sorted_row ho (stb D D.length).toArray (by simp [stb]) m os;simpa using this
 have HK:=hide key;clear key ho hH hB hz;generalize D.length=n at *;unfold byNameV at hs ⊢
 go_enter Tryz.func135,Tryz.ntmps135
 go_wp2_with (go_at_call 151;refine (uh hs).mono ?_;rintro e w1 ⟨rfl,h1⟩)
 go_end0
 obtain ⟨h2,h3⟩:=uh HK _ h1;exact ⟨rfl,h2,h3⟩
end Go.Proofs.YthnhobplgmojeaaGreatDoor.rd.ss
