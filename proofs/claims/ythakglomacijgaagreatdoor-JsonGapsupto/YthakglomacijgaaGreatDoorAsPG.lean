/- Texts in one: As -/
import Derived.Test.YthakglomacijgaaGreatDoorChecked
import Derived.WalkKit
import Derived.Lib.SmallJoins
import Derived.LaidEql
import Derived.Stop.Asserts
import Derived.RowKitTokens
namespace Go.Proofs.YthakglomacijgaaGreatDoor.rd
open Go.RowKit Go.Extern.Stop Go.Stop Go.Extern
theorem hide' {p:Prop} (h:p):Hid p:=h
theorem rl_valueOfPP (t:Addr) (w:World):(ReflectliteValue.unpack (.iface 94 (.pointer (some t)))).run Tryz.prog w
 = .ok (.agg #[.pointer (some ⟨16,94,none⟩),.pointer (some ⟨w.heap.size,0,none⟩),.int .u64 150]) (w.alloc (.cells #[.pointer (some t)] 94)):=by kernel_rfl
theorem rl_typePP (a:Addr) (w:World):(ReflectliteValue.methodAny (ReflectliteValue.valueError "reflectlite.Value.Type" 0) (fun t _ _ _=>ReflectliteType.toType t) #[.agg #[.pointer (some ⟨16,94,none⟩),.pointer (some a),.int .u64 150]]).run Tryz.prog w
 = .ok (.iface 144 (.agg #[.pointer (some ⟨16,94,none⟩)])) w:=by kernel_rfl
theorem rl_mKind (h:Value) (w:World):(Go.method 360 144 (.agg #[h]) "Kind").run Tryz.prog w=.ok (206,h) w:=by kernel_rfl
theorem rl_kindPP (w:World):((ReflectliteType.abiMethod fun t=>(fun a:Nat=>Value.int IntKind.u8 (a:Int)) <$> Rtype.kind t) #[.pointer (some ⟨16,94,none⟩)]).run Tryz.prog w=.ok (.int .u8 22) w:=by kernel_rfl
theorem rl_kindP (w:World):((ReflectliteType.abiMethod fun t=>(fun a:Nat=>Value.int IntKind.u8 (a:Int)) <$> Rtype.kind t) #[.pointer (some ⟨16,92,none⟩)]).run Tryz.prog w=.ok (.int .u8 22) w:=by kernel_rfl
theorem rl_meth (z:Sem Value) (f:TypeId→Addr→Nat→Nat→Sem Value) (v:Value) :
 ReflectliteValue.method z f #[v]=(do match ← ReflectliteValue.parts v with|none=>z|some (t,a,fl)=>f t a fl (fl % 32)):=rfl
theorem rl_partsPP (a:Addr) (w:World):(ReflectliteValue.parts (.agg #[.pointer (some ⟨16,94,none⟩),.pointer (some a),.int .u64 150])).run Tryz.prog w=.ok (some (94,a,150)) w:=by kernel_rfl
theorem rl_isNilPP (a p:Addr) (W:World) (ha:W.cell? a=some (.pointer (some p))) :
 (ReflectliteValue.method (ReflectliteValue.valueError "reflectlite.Value.IsNil" 0) ReflectliteValue.isNil #[.agg #[.pointer (some ⟨16,94,none⟩),.pointer (some a),.int .u64 150]]).run Tryz.prog W=.ok (.bool false) W:=by
 rw [rl_meth]
 simp only [Sem.run_bind,rl_partsPP,Result.andThen]
 simp [ReflectliteValue.isNil,loadVar,isAgg,underlying,Tryz.underlying94,ha,Result.andThen]
theorem rl_mElem (h:Value) (w:World):(Go.method 360 144 (.agg #[h]) "Elem").run Tryz.prog w=.ok (218,.agg #[h]) w:=by kernel_rfl
theorem rl_mImplements (h:Value) (w:World):(Go.method 360 144 (.agg #[h]) "Implements").run Tryz.prog w=.ok (219,.agg #[h]) w:=by kernel_rfl
theorem rl_mAssignable (h:Value) (w:World):(Go.method 360 144 (.agg #[h]) "AssignableTo").run Tryz.prog w=.ok (216,.agg #[h]) w:=by kernel_rfl
theorem rl_elemT (w:World):(ReflectliteType.method ReflectliteType.elem #[.agg #[.pointer (some ⟨16,94,none⟩)]]).run Tryz.prog w=.ok (.iface 144 (.agg #[.pointer (some ⟨16,92,none⟩)])) w:=by kernel_rfl
theorem rl_implements (w:World):(ReflectliteType.relation "Implements" ReflectliteType.implements_ #[.agg #[.pointer (some ⟨16,92,none⟩)],.iface 144 (.agg #[.pointer (some ⟨16,46,none⟩)])]).run Tryz.prog w=.ok (.bool true) w:=by kernel_rfl
theorem rl_typeOfP (v:Value) (w:World):(ReflectliteType.typeOf #[.iface 92 v]).run Tryz.prog w=.ok (.iface 144 (.agg #[.pointer (some ⟨16,92,none⟩)])) w:=by kernel_rfl
theorem rl_assignable (w:World):(ReflectliteType.relation "AssignableTo" ReflectliteType.assignableTo #[.agg #[.pointer (some ⟨16,92,none⟩)],.iface 144 (.agg #[.pointer (some ⟨16,92,none⟩)])]).run Tryz.prog w=.ok (.bool true) w:=by kernel_rfl
theorem rl_valueOfP (e:Addr) (w:World):(ReflectliteValue.unpack (.iface 92 (.pointer (some e)))).run Tryz.prog w
 = .ok (.agg #[.pointer (some ⟨16,92,none⟩),.pointer (some ⟨w.heap.size,0,none⟩),.int .u64 150]) (w.alloc (.cells #[.pointer (some e)] 92)):=by kernel_rfl
theorem rl_elemOf (w:World):(Rtype.elem? 94).run Tryz.prog w=.ok (some 92) w:=by kernel_rfl
theorem rl_mk (p:Addr) (w:World):(ReflectliteValue.mk 92 p ReflectliteValue.flagAddr).run Tryz.prog w=.ok (.agg #[.pointer (some ⟨16,92,none⟩),.pointer (some p),.int .u64 406]) w:=by kernel_rfl
theorem rl_elemV (a p:Addr) (W:World) (ha:W.cell? a=some (.pointer (some p))) :
 (ReflectliteValue.method (ReflectliteValue.valueError "reflectlite.Value.Elem" 0) ReflectliteValue.elem #[.agg #[.pointer (some ⟨16,94,none⟩),.pointer (some a),.int .u64 150]]).run Tryz.prog W
  = .ok (.agg #[.pointer (some ⟨16,92,none⟩),.pointer (some p),.int .u64 406]) W:=by
 rw [rl_meth]
 simp only [Sem.run_bind,rl_partsPP,Result.andThen]
 simp [ReflectliteValue.elem,loadVar,isAgg,underlying,Tryz.underlying94,ha,Result.andThen,rl_elemOf,rl_mk]
theorem rl_partsA (a:Addr) (w:World):(ReflectliteValue.parts (.agg #[.pointer (some ⟨16,92,none⟩),.pointer (some a),.int .u64 406])).run Tryz.prog w=.ok (some (92,a,406)) w:=by kernel_rfl
theorem rl_partsB (a:Addr) (w:World):(ReflectliteValue.parts (.agg #[.pointer (some ⟨16,92,none⟩),.pointer (some a),.int .u64 150])).run Tryz.prog w=.ok (some (92,a,150)) w:=by kernel_rfl
theorem rl_direct (w:World):(Rtype.directlyAssignable 92 92).run Tryz.prog w=.ok true w:=by kernel_rfl
theorem rl_set (ta b e:Addr) (old:Value) (W:World) (hb:W.cell? b=some (.pointer (some e))) (ht:W.cell? ta=some old) (hf:W.frozen? ta=false) :
 (ReflectliteValue.set #[.agg #[.pointer (some ⟨16,92,none⟩),.pointer (some ta),.int .u64 406],.agg #[.pointer (some ⟨16,92,none⟩),.pointer (some b),.int .u64 150]]).run Tryz.prog W
  = .ok (.tuple #[]) (W.setCell ta (.pointer (some e))):=by
 change Sem.run Tryz.prog (ReflectliteValue.parts (.agg #[.pointer (some ⟨16,92,none⟩),.pointer (some ta),.int .u64 406]) >>= fun p=>ReflectliteValue.parts (.agg #[.pointer (some ⟨16,92,none⟩),.pointer (some b),.int .u64 150]) >>= fun q=>_) W=_
 rw [Sem.run_bind,rl_partsA]
 dsimp only [Result.andThen]
 rw [Sem.run_bind,rl_partsB]
 dsimp only [Result.andThen]
 simp [ReflectliteValue.flagAddr,loadVar,isAgg,underlying,Tryz.underlying92,hb,Result.andThen,rl_direct,storeVar,Value.cells,storeCells,Addr.add]
 rw [run_store Tryz.prog W ta _ _ (by rfl)]
 simp [ht,hf]
set_option maxRecDepth 100000 in
set_option maxHeartbeats 4000000 in
theorem as_hit (e:Addr) (tb:Nat) (old:Value) (w:World) (hg:w.cell? ⟨2,0,none⟩=some (.iface 144 (.agg #[.pointer (some ⟨16,46,none⟩)]))) (ht0:w.cell? ⟨tb,0,none⟩=some old) (hf0:w.frozen? ⟨tb,0,none⟩=false) :
 Calls Tryz.prog 68 #[.iface 92 (.pointer (some e)),.iface 94 (.pointer (some ⟨tb,0,none⟩))] w fun ev w'=>ev=.returned (.bool true)∧∃ X,Below w.heap.size w X∧w'=X.setCell ⟨tb,0,none⟩ (.pointer (some e)):=by
 have h6:=@run_callFunc_extern Tryz.prog 91 _ (fun args=>ReflectliteValue.unpack (args.getD 0 (.tuple #[]))) Tryz.func91 (by kernel_rfl) (by kernel_rfl) (by kernel_rfl) (by kernel_rfl)
 have h7:=@run_callFunc_extern Tryz.prog 92 _ (ReflectliteValue.methodAny (ReflectliteValue.valueError "reflectlite.Value.Type" 0) (fun t _ _ _=>ReflectliteType.toType t)) Tryz.func92 (by kernel_rfl) (by kernel_rfl) (by kernel_rfl) (by kernel_rfl)
 have h8:=@run_callFunc_extern Tryz.prog 93 _ (ReflectliteValue.method (ReflectliteValue.valueError "reflectlite.Value.IsNil" 0) ReflectliteValue.isNil) Tryz.func93 (by kernel_rfl) (by kernel_rfl) (by kernel_rfl) (by kernel_rfl)
 have h27:=@run_callFunc_extern Tryz.prog 206 _ (ReflectliteType.abiMethod fun t=>do pure (.int .u8 (← Rtype.kind t))) Tryz.func206 (by kernel_rfl) (by kernel_rfl) (by kernel_rfl) (by kernel_rfl)
 have h37:=@run_callFunc_extern Tryz.prog 218 _ (ReflectliteType.method ReflectliteType.elem) Tryz.func218 (by kernel_rfl) (by kernel_rfl) (by kernel_rfl) (by kernel_rfl)
 have h38:=@run_callFunc_extern Tryz.prog 219 _ (ReflectliteType.relation "Implements" ReflectliteType.implements_) Tryz.func219 (by kernel_rfl) (by kernel_rfl) (by kernel_rfl) (by kernel_rfl)
 have h10:=@run_callFunc_extern Tryz.prog 116 _ ReflectliteType.typeOf Tryz.func116 (by kernel_rfl) (by kernel_rfl) (by kernel_rfl) (by kernel_rfl)
 have h35:=@run_callFunc_extern Tryz.prog 216 _ (ReflectliteType.relation "AssignableTo" ReflectliteType.assignableTo) Tryz.func216 (by kernel_rfl) (by kernel_rfl) (by kernel_rfl) (by kernel_rfl)
 have h11:=@run_callFunc_extern Tryz.prog 117 _ (ReflectliteValue.method (ReflectliteValue.valueError "reflectlite.Value.Elem" 0) ReflectliteValue.elem) Tryz.func117 (by kernel_rfl) (by kernel_rfl) (by kernel_rfl) (by kernel_rfl)
 have h12:=@run_callFunc_extern Tryz.prog 118 _ ReflectliteValue.set Tryz.func118 (by kernel_rfl) (by kernel_rfl) (by kernel_rfl) (by kernel_rfl)
 have r1:=rl_typeOfP
 have r2:=rl_mAssignable
 have r3:=rl_assignable
 have r4:=rl_valueOfP
 have r5:=rl_valueOfPP
 have r6:=rl_typePP
 have r7:=rl_mKind
 have r8:=rl_mElem
 have r9:=rl_mImplements
 have r10:=rl_kindPP
 have r11:=rl_kindP
 have r12:=rl_elemT
 have r13:=rl_implements
 have hgl:2 < w.heap.size:=by
  rcases Nat.lt_or_ge 2 w.heap.size with h|h
  · exact h
  · simp [World.cell?,Array.getElem?_eq_none h] at hg
 have htl:tb < w.heap.size:=by
  rcases Nat.lt_or_ge tb w.heap.size with h|h
  · exact h
  · simp [World.cell?,Array.getElem?_eq_none h] at ht0
 generalize hA:w.alloc (.cells #[.pointer (some ⟨tb,0,none⟩)] 94)=A
 generalize hB:A.alloc (.cells #[.pointer (some ⟨16,94,none⟩),.pointer (some ⟨w.heap.size,0,none⟩),.int .u64 150] 117)=B
 generalize hC:B.alloc (.cells #[.pointer (some ⟨16,94,none⟩),.pointer (some ⟨w.heap.size,0,none⟩),.int .u64 150] 117)=C
 generalize hD:C.alloc (.cells #[.pointer (some e)] 92)=D
 have sA:A.heap.size=w.heap.size+1:=by rw [← hA];simp
 have sB:B.heap.size=w.heap.size+2:=by rw [← hB];simp;omega
 have sC:C.heap.size=w.heap.size+3:=by rw [← hC];simp;omega
 have bD:Below w.heap.size w D:=by
  rw [← hD,← hC,← hB,← hA]
  exact ((((Below.refl _ _).alloc (Nat.le_refl _) _).alloc (by simp) _).alloc (by simp;omega) _).alloc (by simp;omega) _
 have a0:A.cell? ⟨w.heap.size,0,none⟩=some (.pointer (some ⟨tb,0,none⟩)):=by rw [← hA];simp
 have b0:B.cell? ⟨w.heap.size,0,none⟩=some (.pointer (some ⟨tb,0,none⟩)):=by rw [← hB,World.cell?_alloc_lt _ _ ⟨w.heap.size,0,none⟩ (by show w.heap.size < _;omega)];exact a0
 have c0:C.cell? ⟨w.heap.size,0,none⟩=some (.pointer (some ⟨tb,0,none⟩)):=by rw [← hC,World.cell?_alloc_lt _ _ ⟨w.heap.size,0,none⟩ (by show w.heap.size < _;omega)];exact b0
 have d0:D.cell? ⟨w.heap.size+1+1+1,0,none⟩=some (.pointer (some e)):=by rw [← hD,World.cell?_alloc_at _ _ _ _ (by show w.heap.size+1+1+1=_;omega)];rfl
 have n8:=rl_isNilPP ⟨w.heap.size,0,none⟩ ⟨tb,0,none⟩ B b0
 have el:=rl_elemV ⟨w.heap.size,0,none⟩ ⟨tb,0,none⟩ C c0
 have st:=rl_set ⟨tb,0,none⟩ ⟨w.heap.size+1+1+1,0,none⟩ e old D d0 ((bD.cell (p:=⟨tb,0,none⟩) htl).trans ht0) ((bD.frozen (p:=⟨tb,0,none⟩) htl).trans hf0)
 have bB:Below w.heap.size w B:=by
  rw [← hB,← hA]
  exact ((Below.refl _ _).alloc (Nat.le_refl _) _).alloc (by simp) _
 have hg2:=(bB.cell (p:=⟨2,0,none⟩) hgl).trans hg
 have HbD:=hide' bD
 subst hD hC hB hA
 clear a0 b0 c0 d0 sA sB sC bB bD
 go_enter Tryz.func68,Tryz.ntmps68
 go_wp2
 refine wp_loop_rounds 1 ?_
 rw [rounds_succ]
 go_wp2
 go_ret
 exact ⟨rfl,_,HbD.out,rfl⟩
end Go.Proofs.YthakglomacijgaaGreatDoor.rd
