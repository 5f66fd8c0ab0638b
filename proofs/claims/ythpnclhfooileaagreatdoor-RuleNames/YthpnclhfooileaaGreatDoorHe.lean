/- Package rule: the table of operators: what each operation of its drawn region yields, and what holds among them. Made by a program. -/
import Derived.Test.YthpnclhfooileaaGreatDoorRy
import Derived.Test.YthpnclhfooileaaGreatDoorJp
namespace Go.Proofs.YthpnclhfooileaaGreatDoor.ru
open Go.RowKit
open rd (wp_region_inv ready_mem)

def regs : Code → List (Array Oper)
  | .region _ ops _ => [ops]
  | .seq a b => regs a ++ regs b
  | _ => []
/-- The operations of a function's n-th region. -/
def opsOf (f : Func) (n : Nat) : Array Oper := ((f.body.map regs).getD []).getD n #[]
theorem op_at {ops : Array Oper} {i : Nat} {e : Op × Option Tmp × Option (Nat × Bool)} (h : (ops[i]?).map (fun o => (o.op, o.dst, o.guard)) = some e) : ∃ o, ops[i]? = some o ∧ o.op = e.1 ∧ o.dst = e.2.1 ∧ o.guard = e.2.2 := by
  cases ho : ops[i]? with
  | none => rw [ho] at h; cases h
  | some o =>
    rw [ho] at h
    injection h with h
    subst h
    exact ⟨o, rfl, rfl, rfl, rfl⟩
theorem ready_on {ops : Array Oper} {listed : Array Bool} {i : Nat} (h : i ∈ Region.ready .any ops listed) (j : Nat) (hk : (ops[i]?).any (fun o => o.after.any (fun e => e.on == j && Region.binds .any e)) = true) : listed.getD j false = true := by
  obtain ⟨_, _, o, ho, hon⟩ := ready_mem h
  rw [ho] at hk
  simp only [Option.any_some, Array.any_eq_true'] at hk
  obtain ⟨e, he, hj⟩ := hk
  rw [Bool.and_eq_true, beq_iff_eq] at hj
  have := hon e he hj.2
  rw [hj.1] at this
  exact this
theorem wpOp_val {P : Program} {ops : Array Oper} {Q : Exit → Act → World → Prop} {i : Nat} {K : Act → World → Prop} {a : Act} {w w' : World} {o : Oper} {v : Value} (h : ops[i]? = some o) (hg : o.guard = none) (hr : (execOp a.eval o).run P w = .ok (.value v) w') (hh : K (a.put o.dst v) w') : wpOp P ops Q i K a w := by
  unfold wpOp
  simp only [h]
  rw [if_pos (by unfold Region.wanted; rw [hg])]
  refine .inl ?_
  unfold Oper.wp
  rw [hr]
  exact hh

/-- What tells whether a value is of a kind; the kind lies in block b. -/
def okF (b : Nat) : Value := .func (.func 45) #[] #[.pointer (some ⟨b, 0, none⟩)]
def pl (g : FuncId) : Value := .func (.func g) #[] #[]
def kindV (v : Value) (g : FuncId) : Value := .agg #[v, pl g]
def bound (m : FuncId) (k : Value) : Value := .func (.func m) #[k] #[]
/-- What the slots hold in the end; n: the heap's size at the call. -/
def vals (n : Nat) : List Value := [.slice (some ⟨n + 8, 0, none⟩) 43 43, .pointer (some ⟨n + 1, 0, none⟩), .pointer (some ⟨n + 3, 0, none⟩), .pointer (some ⟨n + 5, 0, none⟩), .pointer (some ⟨n + 6, 0, none⟩), undef, undef, undef, undef, undef, undef, undef, .agg #[.string ⟨#[65, 110, 100]⟩, .nilFunc, .nilFunc, .bool false], .agg #[.string ⟨#[79, 114]⟩, .nilFunc, .nilFunc, .bool false], .agg #[.string ⟨#[78, 111, 116]⟩, .nilFunc, .nilFunc, .bool false], .pointer (some ⟨n + 1, 0, none⟩), okF n, kindV (okF n) 23, bound 28 (kindV (okF n) 23), .agg #[.string ⟨#[83, 116, 114, 105, 110, 103, 69, 113, 117, 97, 108, 115]⟩, okF n, bound 28 (kindV (okF n) 23), .bool false], .pointer (some ⟨n + 1, 0, none⟩), okF n, kindV (okF n) 23, bound 28 (kindV (okF n) 23), .agg #[.string ⟨#[83, 116, 114, 105, 110, 103, 69, 113, 117, 97, 108, 115, 80, 97, 116, 104]⟩, okF n, bound 28 (kindV (okF n) 23), .bool true], .pointer (some ⟨n + 1, 0, none⟩), okF n, kindV (okF n) 23, bound 29 (kindV (okF n) 23), .agg #[.string ⟨#[83, 116, 114, 105, 110, 103, 76, 101, 115, 115, 84, 104, 97, 110]⟩, okF n, bound 29 (kindV (okF n) 23), .bool false], .pointer (some ⟨n + 1, 0, none⟩), okF n, kindV (okF n) 23, bound 29 (kindV (okF n) 23), .agg #[.string ⟨#[83, 116, 114, 105, 110, 103, 76, 101, 115, 115, 84, 104, 97, 110, 80, 97, 116, 104]⟩, okF n, bound 29 (kindV (okF n) 23), .bool true], .pointer (some ⟨n + 1, 0, none⟩), okF n, kindV (okF n) 23, bound 30 (kindV (okF n) 23), .agg #[.string ⟨#[83, 116, 114, 105, 110, 103, 71, 114, 101, 97, 116, 101, 114, 84, 104, 97, 110]⟩, okF n, bound 30 (kindV (okF n) 23), .bool false], .pointer (some ⟨n + 1, 0, none⟩), okF n, kindV (okF n) 23, bound 30 (kindV (okF n) 23), .agg #[.string ⟨#[83, 116, 114, 105, 110, 103, 71, 114, 101, 97, 116, 101, 114, 84, 104, 97, 110, 80, 97, 116, 104]⟩, okF n, bound 30 (kindV (okF n) 23), .bool true], .pointer (some ⟨n + 1, 0, none⟩), okF n, kindV (okF n) 23, bound 31 (kindV (okF n) 23), .agg #[.string ⟨#[83, 116, 114, 105, 110, 103, 76, 101, 115, 115, 84, 104, 97, 110, 69, 113, 117, 97, 108, 115]⟩, okF n, bound 31 (kindV (okF n) 23), .bool false], .pointer (some ⟨n + 1, 0, none⟩), okF n, kindV (okF n) 23, bound 31 (kindV (okF n) 23), .agg #[.string ⟨#[83, 116, 114, 105, 110, 103, 76, 101, 115, 115, 84, 104, 97, 110, 69, 113, 117, 97, 108, 115, 80, 97, 116, 104]⟩, okF n, bound 31 (kindV (okF n) 23), .bool true], .pointer (some ⟨n + 1, 0, none⟩), okF n, kindV (okF n) 23, bound 32 (kindV (okF n) 23), .agg #[.string ⟨#[83, 116, 114, 105, 110, 103, 71, 114, 101, 97, 116, 101, 114, 84, 104, 97, 110, 69, 113, 117, 97, 108, 115]⟩, okF n, bound 32 (kindV (okF n) 23), .bool false], .pointer (some ⟨n + 1, 0, none⟩), okF n, kindV (okF n) 23, bound 32 (kindV (okF n) 23), .agg #[.string ⟨#[83, 116, 114, 105, 110, 103, 71, 114, 101, 97, 116, 101, 114, 84, 104, 97, 110, 69, 113, 117, 97, 108, 115, 80, 97, 116, 104]⟩, okF n, bound 32 (kindV (okF n) 23), .bool true], .pointer (some ⟨n + 1, 0, none⟩), okF n, .agg #[.string ⟨#[83, 116, 114, 105, 110, 103, 77, 97, 116, 99, 104, 101, 115]⟩, okF n, pl 33, .bool false], .pointer (some ⟨n + 3, 0, none⟩), okF (n + 2), kindV (okF (n + 2)) 24, bound 28 (kindV (okF (n + 2)) 24), .agg #[.string ⟨#[78, 117, 109, 101, 114, 105, 99, 69, 113, 117, 97, 108, 115]⟩, okF (n + 2), bound 28 (kindV (okF (n + 2)) 24), .bool false], .pointer (some ⟨n + 3, 0, none⟩), okF (n + 2), kindV (okF (n + 2)) 24, bound 28 (kindV (okF (n + 2)) 24), .agg #[.string ⟨#[78, 117, 109, 101, 114, 105, 99, 69, 113, 117, 97, 108, 115, 80, 97, 116, 104]⟩, okF (n + 2), bound 28 (kindV (okF (n + 2)) 24), .bool true], .pointer (some ⟨n + 3, 0, none⟩), okF (n + 2), kindV (okF (n + 2)) 24, bound 29 (kindV (okF (n + 2)) 24), .agg #[.string ⟨#[78, 117, 109, 101, 114, 105, 99, 76, 101, 115, 115, 84, 104, 97, 110]⟩, okF (n + 2), bound 29 (kindV (okF (n + 2)) 24), .bool false], .pointer (some ⟨n + 3, 0, none⟩), okF (n + 2), kindV (okF (n + 2)) 24, bound 29 (kindV (okF (n + 2)) 24), .agg #[.string ⟨#[78, 117, 109, 101, 114, 105, 99, 76, 101, 115, 115, 84, 104, 97, 110, 80, 97, 116, 104]⟩, okF (n + 2), bound 29 (kindV (okF (n + 2)) 24), .bool true], .pointer (some ⟨n + 3, 0, none⟩), okF (n + 2), kindV (okF (n + 2)) 24, bound 30 (kindV (okF (n + 2)) 24), .agg #[.string ⟨#[78, 117, 109, 101, 114, 105, 99, 71, 114, 101, 97, 116, 101, 114, 84, 104, 97, 110]⟩, okF (n + 2), bound 30 (kindV (okF (n + 2)) 24), .bool false], .pointer (some ⟨n + 3, 0, none⟩), okF (n + 2), kindV (okF (n + 2)) 24, bound 30 (kindV (okF (n + 2)) 24), .agg #[.string ⟨#[78, 117, 109, 101, 114, 105, 99, 71, 114, 101, 97, 116, 101, 114, 84, 104, 97, 110, 80, 97, 116, 104]⟩, okF (n + 2), bound 30 (kindV (okF (n + 2)) 24), .bool true], .pointer (some ⟨n + 3, 0, none⟩), okF (n + 2), kindV (okF (n + 2)) 24, bound 31 (kindV (okF (n + 2)) 24), .agg #[.string ⟨#[78, 117, 109, 101, 114, 105, 99, 76, 101, 115, 115, 84, 104, 97, 110, 69, 113, 117, 97, 108, 115]⟩, okF (n + 2), bound 31 (kindV (okF (n + 2)) 24), .bool false], .pointer (some ⟨n + 3, 0, none⟩), okF (n + 2), kindV (okF (n + 2)) 24, bound 31 (kindV (okF (n + 2)) 24), .agg #[.string ⟨#[78, 117, 109, 101, 114, 105, 99, 76, 101, 115, 115, 84, 104, 97, 110, 69, 113, 117, 97, 108, 115, 80, 97, 116, 104]⟩, okF (n + 2), bound 31 (kindV (okF (n + 2)) 24), .bool true], .pointer (some ⟨n + 3, 0, none⟩), okF (n + 2), kindV (okF (n + 2)) 24, bound 32 (kindV (okF (n + 2)) 24), .agg #[.string ⟨#[78, 117, 109, 101, 114, 105, 99, 71, 114, 101, 97, 116, 101, 114, 84, 104, 97, 110, 69, 113, 117, 97, 108, 115]⟩, okF (n + 2), bound 32 (kindV (okF (n + 2)) 24), .bool false], .pointer (some ⟨n + 3, 0, none⟩), okF (n + 2), kindV (okF (n + 2)) 24, bound 32 (kindV (okF (n + 2)) 24), .agg #[.string ⟨#[78, 117, 109, 101, 114, 105, 99, 71, 114, 101, 97, 116, 101, 114, 84, 104, 97, 110, 69, 113, 117, 97, 108, 115, 80, 97, 116, 104]⟩, okF (n + 2), bound 32 (kindV (okF (n + 2)) 24), .bool true], .pointer (some ⟨n + 5, 0, none⟩), okF (n + 4), kindV (okF (n + 4)) 25, bound 28 (kindV (okF (n + 4)) 25), .agg #[.string ⟨#[66, 111, 111, 108, 101, 97, 110, 69, 113, 117, 97, 108, 115]⟩, okF (n + 4), bound 28 (kindV (okF (n + 4)) 25), .bool false], .pointer (some ⟨n + 5, 0, none⟩), okF (n + 4), kindV (okF (n + 4)) 25, bound 28 (kindV (okF (n + 4)) 25), .agg #[.string ⟨#[66, 111, 111, 108, 101, 97, 110, 69, 113, 117, 97, 108, 115, 80, 97, 116, 104]⟩, okF (n + 4), bound 28 (kindV (okF (n + 4)) 25), .bool true], .pointer (some ⟨n + 6, 0, none⟩), pl 26, kindV (pl 26) 27, bound 28 (kindV (pl 26) 27), .agg #[.string ⟨#[84, 105, 109, 101, 115, 116, 97, 109, 112, 69, 113, 117, 97, 108, 115]⟩, pl 26, bound 28 (kindV (pl 26) 27), .bool false], .pointer (some ⟨n + 6, 0, none⟩), pl 26, kindV (pl 26) 27, bound 28 (kindV (pl 26) 27), .agg #[.string ⟨#[84, 105, 109, 101, 115, 116, 97, 109, 112, 69, 113, 117, 97, 108, 115, 80, 97, 116, 104]⟩, pl 26, bound 28 (kindV (pl 26) 27), .bool true], .pointer (some ⟨n + 6, 0, none⟩), pl 26, kindV (pl 26) 27, bound 29 (kindV (pl 26) 27), .agg #[.string ⟨#[84, 105, 109, 101, 115, 116, 97, 109, 112, 76, 101, 115, 115, 84, 104, 97, 110]⟩, pl 26, bound 29 (kindV (pl 26) 27), .bool false], .pointer (some ⟨n + 6, 0, none⟩), pl 26, kindV (pl 26) 27, bound 29 (kindV (pl 26) 27), .agg #[.string ⟨#[84, 105, 109, 101, 115, 116, 97, 109, 112, 76, 101, 115, 115, 84, 104, 97, 110, 80, 97, 116, 104]⟩, pl 26, bound 29 (kindV (pl 26) 27), .bool true], .pointer (some ⟨n + 6, 0, none⟩), pl 26, kindV (pl 26) 27, bound 30 (kindV (pl 26) 27), .agg #[.string ⟨#[84, 105, 109, 101, 115, 116, 97, 109, 112, 71, 114, 101, 97, 116, 101, 114, 84, 104, 97, 110]⟩, pl 26, bound 30 (kindV (pl 26) 27), .bool false], .pointer (some ⟨n + 6, 0, none⟩), pl 26, kindV (pl 26) 27, bound 30 (kindV (pl 26) 27), .agg #[.string ⟨#[84, 105, 109, 101, 115, 116, 97, 109, 112, 71, 114, 101, 97, 116, 101, 114, 84, 104, 97, 110, 80, 97, 116, 104]⟩, pl 26, bound 30 (kindV (pl 26) 27), .bool true], .pointer (some ⟨n + 6, 0, none⟩), pl 26, kindV (pl 26) 27, bound 31 (kindV (pl 26) 27), .agg #[.string ⟨#[84, 105, 109, 101, 115, 116, 97, 109, 112, 76, 101, 115, 115, 84, 104, 97, 110, 69, 113, 117, 97, 108, 115]⟩, pl 26, bound 31 (kindV (pl 26) 27), .bool false], .pointer (some ⟨n + 6, 0, none⟩), pl 26, kindV (pl 26) 27, bound 31 (kindV (pl 26) 27), .agg #[.string ⟨#[84, 105, 109, 101, 115, 116, 97, 109, 112, 76, 101, 115, 115, 84, 104, 97, 110, 69, 113, 117, 97, 108, 115, 80, 97, 116, 104]⟩, pl 26, bound 31 (kindV (pl 26) 27), .bool true], .pointer (some ⟨n + 6, 0, none⟩), pl 26, kindV (pl 26) 27, bound 32 (kindV (pl 26) 27), .agg #[.string ⟨#[84, 105, 109, 101, 115, 116, 97, 109, 112, 71, 114, 101, 97, 116, 101, 114, 84, 104, 97, 110, 69, 113, 117, 97, 108, 115]⟩, pl 26, bound 32 (kindV (pl 26) 27), .bool false], .pointer (some ⟨n + 6, 0, none⟩), pl 26, kindV (pl 26) 27, bound 32 (kindV (pl 26) 27), .agg #[.string ⟨#[84, 105, 109, 101, 115, 116, 97, 109, 112, 71, 114, 101, 97, 116, 101, 114, 84, 104, 97, 110, 69, 113, 117, 97, 108, 115, 80, 97, 116, 104]⟩, pl 26, bound 32 (kindV (pl 26) 27), .bool true], okF (n + 7), .agg #[.string ⟨#[73, 115, 78, 117, 108, 108]⟩, okF (n + 7), .nilFunc, .bool false], .agg #[.string ⟨#[73, 115, 80, 114, 101, 115, 101, 110, 116]⟩, .nilFunc, .nilFunc, .bool false], .pointer (some ⟨n + 3, 0, none⟩), okF (n + 2), .agg #[.string ⟨#[73, 115, 78, 117, 109, 101, 114, 105, 99]⟩, okF (n + 2), .nilFunc, .bool false], .pointer (some ⟨n + 1, 0, none⟩), okF n, .agg #[.string ⟨#[73, 115, 83, 116, 114, 105, 110, 103]⟩, okF n, .nilFunc, .bool false], .pointer (some ⟨n + 5, 0, none⟩), okF (n + 4), .agg #[.string ⟨#[73, 115, 66, 111, 111, 108, 101, 97, 110]⟩, okF (n + 4), .nilFunc, .bool false], .pointer (some ⟨n + 6, 0, none⟩), pl 26, .agg #[.string ⟨#[73, 115, 84, 105, 109, 101, 115, 116, 97, 109, 112]⟩, pl 26, .nilFunc, .bool false], .slice (some ⟨n + 8, 0, none⟩) 43 43]
def val (n k : Nat) : Value := (vals n).getD k undef
/-- The table's cells. -/
def rowC (n : Nat) : Array Value := #[.string ⟨#[]⟩, .nilFunc, .nilFunc, .bool false, .string ⟨#[65, 110, 100]⟩, .nilFunc, .nilFunc, .bool false, .string ⟨#[79, 114]⟩, .nilFunc, .nilFunc, .bool false, .string ⟨#[78, 111, 116]⟩, .nilFunc, .nilFunc, .bool false, .string ⟨#[83, 116, 114, 105, 110, 103, 69, 113, 117, 97, 108, 115]⟩, okF n, bound 28 (kindV (okF n) 23), .bool false, .string ⟨#[83, 116, 114, 105, 110, 103, 69, 113, 117, 97, 108, 115, 80, 97, 116, 104]⟩, okF n, bound 28 (kindV (okF n) 23), .bool true, .string ⟨#[83, 116, 114, 105, 110, 103, 76, 101, 115, 115, 84, 104, 97, 110]⟩, okF n, bound 29 (kindV (okF n) 23), .bool false, .string ⟨#[83, 116, 114, 105, 110, 103, 76, 101, 115, 115, 84, 104, 97, 110, 80, 97, 116, 104]⟩, okF n, bound 29 (kindV (okF n) 23), .bool true, .string ⟨#[83, 116, 114, 105, 110, 103, 71, 114, 101, 97, 116, 101, 114, 84, 104, 97, 110]⟩, okF n, bound 30 (kindV (okF n) 23), .bool false, .string ⟨#[83, 116, 114, 105, 110, 103, 71, 114, 101, 97, 116, 101, 114, 84, 104, 97, 110, 80, 97, 116, 104]⟩, okF n, bound 30 (kindV (okF n) 23), .bool true, .string ⟨#[83, 116, 114, 105, 110, 103, 76, 101, 115, 115, 84, 104, 97, 110, 69, 113, 117, 97, 108, 115]⟩, okF n, bound 31 (kindV (okF n) 23), .bool false, .string ⟨#[83, 116, 114, 105, 110, 103, 76, 101, 115, 115, 84, 104, 97, 110, 69, 113, 117, 97, 108, 115, 80, 97, 116, 104]⟩, okF n, bound 31 (kindV (okF n) 23), .bool true, .string ⟨#[83, 116, 114, 105, 110, 103, 71, 114, 101, 97, 116, 101, 114, 84, 104, 97, 110, 69, 113, 117, 97, 108, 115]⟩, okF n, bound 32 (kindV (okF n) 23), .bool false, .string ⟨#[83, 116, 114, 105, 110, 103, 71, 114, 101, 97, 116, 101, 114, 84, 104, 97, 110, 69, 113, 117, 97, 108, 115, 80, 97, 116, 104]⟩, okF n, bound 32 (kindV (okF n) 23), .bool true, .string ⟨#[83, 116, 114, 105, 110, 103, 77, 97, 116, 99, 104, 101, 115]⟩, okF n, pl 33, .bool false, .string ⟨#[78, 117, 109, 101, 114, 105, 99, 69, 113, 117, 97, 108, 115]⟩, okF (n + 2), bound 28 (kindV (okF (n + 2)) 24), .bool false, .string ⟨#[78, 117, 109, 101, 114, 105, 99, 69, 113, 117, 97, 108, 115, 80, 97, 116, 104]⟩, okF (n + 2), bound 28 (kindV (okF (n + 2)) 24), .bool true, .string ⟨#[78, 117, 109, 101, 114, 105, 99, 76, 101, 115, 115, 84, 104, 97, 110]⟩, okF (n + 2), bound 29 (kindV (okF (n + 2)) 24), .bool false, .string ⟨#[78, 117, 109, 101, 114, 105, 99, 76, 101, 115, 115, 84, 104, 97, 110, 80, 97, 116, 104]⟩, okF (n + 2), bound 29 (kindV (okF (n + 2)) 24), .bool true, .string ⟨#[78, 117, 109, 101, 114, 105, 99, 71, 114, 101, 97, 116, 101, 114, 84, 104, 97, 110]⟩, okF (n + 2), bound 30 (kindV (okF (n + 2)) 24), .bool false, .string ⟨#[78, 117, 109, 101, 114, 105, 99, 71, 114, 101, 97, 116, 101, 114, 84, 104, 97, 110, 80, 97, 116, 104]⟩, okF (n + 2), bound 30 (kindV (okF (n + 2)) 24), .bool true, .string ⟨#[78, 117, 109, 101, 114, 105, 99, 76, 101, 115, 115, 84, 104, 97, 110, 69, 113, 117, 97, 108, 115]⟩, okF (n + 2), bound 31 (kindV (okF (n + 2)) 24), .bool false, .string ⟨#[78, 117, 109, 101, 114, 105, 99, 76, 101, 115, 115, 84, 104, 97, 110, 69, 113, 117, 97, 108, 115, 80, 97, 116, 104]⟩, okF (n + 2), bound 31 (kindV (okF (n + 2)) 24), .bool true, .string ⟨#[78, 117, 109, 101, 114, 105, 99, 71, 114, 101, 97, 116, 101, 114, 84, 104, 97, 110, 69, 113, 117, 97, 108, 115]⟩, okF (n + 2), bound 32 (kindV (okF (n + 2)) 24), .bool false, .string ⟨#[78, 117, 109, 101, 114, 105, 99, 71, 114, 101, 97, 116, 101, 114, 84, 104, 97, 110, 69, 113, 117, 97, 108, 115, 80, 97, 116, 104]⟩, okF (n + 2), bound 32 (kindV (okF (n + 2)) 24), .bool true, .string ⟨#[66, 111, 111, 108, 101, 97, 110, 69, 113, 117, 97, 108, 115]⟩, okF (n + 4), bound 28 (kindV (okF (n + 4)) 25), .bool false, .string ⟨#[66, 111, 111, 108, 101, 97, 110, 69, 113, 117, 97, 108, 115, 80, 97, 116, 104]⟩, okF (n + 4), bound 28 (kindV (okF (n + 4)) 25), .bool true, .string ⟨#[84, 105, 109, 101, 115, 116, 97, 109, 112, 69, 113, 117, 97, 108, 115]⟩, pl 26, bound 28 (kindV (pl 26) 27), .bool false, .string ⟨#[84, 105, 109, 101, 115, 116, 97, 109, 112, 69, 113, 117, 97, 108, 115, 80, 97, 116, 104]⟩, pl 26, bound 28 (kindV (pl 26) 27), .bool true, .string ⟨#[84, 105, 109, 101, 115, 116, 97, 109, 112, 76, 101, 115, 115, 84, 104, 97, 110]⟩, pl 26, bound 29 (kindV (pl 26) 27), .bool false, .string ⟨#[84, 105, 109, 101, 115, 116, 97, 109, 112, 76, 101, 115, 115, 84, 104, 97, 110, 80, 97, 116, 104]⟩, pl 26, bound 29 (kindV (pl 26) 27), .bool true, .string ⟨#[84, 105, 109, 101, 115, 116, 97, 109, 112, 71, 114, 101, 97, 116, 101, 114, 84, 104, 97, 110]⟩, pl 26, bound 30 (kindV (pl 26) 27), .bool false, .string ⟨#[84, 105, 109, 101, 115, 116, 97, 109, 112, 71, 114, 101, 97, 116, 101, 114, 84, 104, 97, 110, 80, 97, 116, 104]⟩, pl 26, bound 30 (kindV (pl 26) 27), .bool true, .string ⟨#[84, 105, 109, 101, 115, 116, 97, 109, 112, 76, 101, 115, 115, 84, 104, 97, 110, 69, 113, 117, 97, 108, 115]⟩, pl 26, bound 31 (kindV (pl 26) 27), .bool false, .string ⟨#[84, 105, 109, 101, 115, 116, 97, 109, 112, 76, 101, 115, 115, 84, 104, 97, 110, 69, 113, 117, 97, 108, 115, 80, 97, 116, 104]⟩, pl 26, bound 31 (kindV (pl 26) 27), .bool true, .string ⟨#[84, 105, 109, 101, 115, 116, 97, 109, 112, 71, 114, 101, 97, 116, 101, 114, 84, 104, 97, 110, 69, 113, 117, 97, 108, 115]⟩, pl 26, bound 32 (kindV (pl 26) 27), .bool false, .string ⟨#[84, 105, 109, 101, 115, 116, 97, 109, 112, 71, 114, 101, 97, 116, 101, 114, 84, 104, 97, 110, 69, 113, 117, 97, 108, 115, 80, 97, 116, 104]⟩, pl 26, bound 32 (kindV (pl 26) 27), .bool true, .string ⟨#[73, 115, 78, 117, 108, 108]⟩, okF (n + 7), .nilFunc, .bool false, .string ⟨#[73, 115, 80, 114, 101, 115, 101, 110, 116]⟩, .nilFunc, .nilFunc, .bool false, .string ⟨#[73, 115, 78, 117, 109, 101, 114, 105, 99]⟩, okF (n + 2), .nilFunc, .bool false, .string ⟨#[73, 115, 83, 116, 114, 105, 110, 103]⟩, okF n, .nilFunc, .bool false, .string ⟨#[73, 115, 66, 111, 111, 108, 101, 97, 110]⟩, okF (n + 4), .nilFunc, .bool false, .string ⟨#[73, 115, 84, 105, 109, 101, 115, 116, 97, 109, 112]⟩, pl 26, .nilFunc, .bool false]

theorem sh_fa {a : Act} {o : Oper} {p b : Nat} {x : World} (ho : o.op = .fieldAddr 74 (.tmp p) 0) (hp : a.eval (.tmp p) = .pointer (some ⟨b, 0, none⟩)) : (execOp a.eval o).run Tryz.prog x = .ok (.value (.pointer (some ⟨b, 0, none⟩))) x := by
  unfold execOp
  rw [ho]
  simp only [hp]
  kernel_rfl
theorem sh_ld1 {a : Act} {o : Oper} {p b : Nat} {x : World} {v : Value} (ho : o.op = .load 50 (.tmp p)) (hp : a.eval (.tmp p) = .pointer (some ⟨b, 0, none⟩)) (hc : x.cell? ⟨b, 0, none⟩ = some v) : (execOp a.eval o).run Tryz.prog x = .ok (.value v) x := by
  unfold execOp
  rw [ho]
  simp only [hp]
  go_simp
theorem sh_ld2 {a : Act} {o : Oper} {p b : Nat} {x : World} {v u : Value} (ho : o.op = .load 74 (.tmp p)) (hp : a.eval (.tmp p) = .pointer (some ⟨b, 0, none⟩)) (hc : x.cell? ⟨b, 0, none⟩ = some v) (hd : x.cell? ⟨b, 1, none⟩ = some u) : (execOp a.eval o).run Tryz.prog x = .ok (.value (.agg #[v, u])) x := by
  unfold execOp
  rw [ho]
  simp only [hp]
  go_simp
theorem sh_mf {a : Act} {o : Oper} {p g : Nat} {x : World} {v : Value} (ho : o.op = .makeFunc (.func g) #[.tmp p] #[]) (hp : a.eval (.tmp p) = v) : (execOp a.eval o).run Tryz.prog x = .ok (.value (.func (.func g) #[v] #[])) x := by
  unfold execOp
  rw [ho]
  subst hp
  kernel_rfl
theorem sh_b0 {a : Act} {o : Oper} {s : ByteArray} {x : World} (ho : o.op = .build 53 #[(0, .const (.string s))]) : (execOp a.eval o).run Tryz.prog x = .ok (.value (.agg #[.string s, .nilFunc, .nilFunc, .bool false])) x := by
  unfold execOp
  rw [ho]
  kernel_rfl
theorem sh_b1 {a : Act} {o : Oper} {s : ByteArray} {x : World} {p : Nat} {f : Fn} {c d : Array Value} (ho : o.op = .build 53 #[(0, .const (.string s)), (1, .tmp p)]) (hp : a.eval (.tmp p) = .func f c d) : (execOp a.eval o).run Tryz.prog x = .ok (.value (.agg #[.string s, .func f c d, .nilFunc, .bool false])) x := by
  have e : execOp a.eval o = (do pure (Next.value (← Instr.build 53 #[(0, .string s), (1, a.eval (.tmp p))]))) := by
    unfold execOp
    rw [ho]
    kernel_rfl
  rw [e, hp]
  change _ = _
  kernel_rfl
theorem sh_b2 {a : Act} {o : Oper} {s : ByteArray} {x : World} {p q : Nat} {f g : Fn} {c d c' d' : Array Value} (ho : o.op = .build 53 #[(0, .const (.string s)), (1, .tmp p), (2, .tmp q)]) (hp : a.eval (.tmp p) = .func f c d) (hq : a.eval (.tmp q) = .func g c' d') : (execOp a.eval o).run Tryz.prog x = .ok (.value (.agg #[.string s, .func f c d, .func g c' d', .bool false])) x := by
  have e : execOp a.eval o = (do pure (Next.value (← Instr.build 53 #[(0, .string s), (1, a.eval (.tmp p)), (2, a.eval (.tmp q))]))) := by
    unfold execOp
    rw [ho]
    kernel_rfl
  rw [e, hp, hq]
  change _ = _
  kernel_rfl
theorem sh_b2p {a : Act} {o : Oper} {s : ByteArray} {x : World} {p g : Nat} {f : Fn} {c d : Array Value} (ho : o.op = .build 53 #[(0, .const (.string s)), (1, .tmp p), (2, .func g)]) (hp : a.eval (.tmp p) = .func f c d) : (execOp a.eval o).run Tryz.prog x = .ok (.value (.agg #[.string s, .func f c d, .func (.func g) #[] #[], .bool false])) x := by
  have e : execOp a.eval o = (do pure (Next.value (← Instr.build 53 #[(0, .string s), (1, a.eval (.tmp p)), (2, .func (.func g) #[] #[])]))) := by
    unfold execOp
    rw [ho]
    kernel_rfl
  rw [e, hp]
  change _ = _
  kernel_rfl
theorem sh_b3 {a : Act} {o : Oper} {s : ByteArray} {x : World} {p q : Nat} {f g : Fn} {c d c' d' : Array Value} (ho : o.op = .build 53 #[(0, .const (.string s)), (1, .tmp p), (2, .tmp q), (3, .const (.bool true))]) (hp : a.eval (.tmp p) = .func f c d) (hq : a.eval (.tmp q) = .func g c' d') : (execOp a.eval o).run Tryz.prog x = .ok (.value (.agg #[.string s, .func f c d, .func g c' d', .bool true])) x := by
  have e : execOp a.eval o = (do pure (Next.value (← Instr.build 53 #[(0, .string s), (1, a.eval (.tmp p)), (2, a.eval (.tmp q)), (3, .bool true)]))) := by
    unfold execOp
    rw [ho]
    kernel_rfl
  rw [e, hp, hq]
  change _ = _
  kernel_rfl

/-- Ahead of the region: the four kinds. -/
structure X0 (n : Nat) (x : World) : Prop where
  sz : x.heap.size = n + 7
  a0 : x.cell? ⟨n + 1, 0, none⟩ = some (okF n)
  a1 : x.cell? ⟨n + 1, 1, none⟩ = some (pl 23)
  b0 : x.cell? ⟨n + 3, 0, none⟩ = some (okF (n + 2))
  b1 : x.cell? ⟨n + 3, 1, none⟩ = some (pl 24)
  c0 : x.cell? ⟨n + 5, 0, none⟩ = some (okF (n + 4))
  c1 : x.cell? ⟨n + 5, 1, none⟩ = some (pl 25)
  d0 : x.cell? ⟨n + 6, 0, none⟩ = some (pl 26)
  d1 : x.cell? ⟨n + 6, 1, none⟩ = some (pl 27)
def WC (x : World) : World := x.alloc (.cells #[.int .i64 0] 3)
def WR (n : Nat) (x : World) : World := (WC x).alloc (.cells (rowC n) 53)
/-- The world, by whether the call and the table's making have come up. -/
def Wd (n : Nat) (x : World) : Bool → Bool → World
  | false, _ => x
  | true, false => WC x
  | true, true => WR n x
theorem WC_below (x : World) : Below x.heap.size x (WC x) := (Below.refl _ _).alloc (Nat.le_refl _) _
theorem WR_below (n : Nat) (x : World) : Below x.heap.size x (WR n x) := (WC_below x).alloc (by unfold WC; rw [World.size_alloc]; omega) _
theorem Wd_below (n : Nat) (x : World) (p q : Bool) : Below x.heap.size x (Wd n x p q) := by
  cases p
  · cases q <;> exact Below.refl _ _
  · cases q
    · exact WC_below x
    · exact WR_below n x
/-- Which slots are known. -/
def Kn (listed : Array Bool) (k : Nat) : Prop := (1 ≤ k ∧ k ≤ 4) ∨ ((12 ≤ k ∧ k ≤ 193) ∧ listed.getD (k - 12) false = true) ∨ (k = 0 ∧ listed.getD 182 false = true)
structure OJ (n : Nat) (x0 : World) (listed : Array Bool) (a : Act) (x : World) : Prop where
  wx : x = Wd n x0 (listed.getD 166 false) (listed.getD 181 false)
  ord : listed.getD 181 false = true → listed.getD 166 false = true
  old : listed.getD 167 false = true → listed.getD 166 false = true
  df : a.defers = []
  sz : a.tmps.size = 194
  kn : ∀ k, Kn listed k → a.eval (.tmp k) = val n k
theorem OJ.cell {n : Nat} {x0 x : World} {listed : Array Bool} {a : Act} (h : OJ n x0 listed a x) {b o : Nat} {v : Value} (hc : x0.cell? ⟨b, o, none⟩ = some v) : x.cell? ⟨b, o, none⟩ = some v := by
  rw [h.wx]
  exact keepC' (Wd_below n x0 _ _) hc
theorem get_set_ne {l : Array Bool} (i j : Nat) (h : j ≠ i) (d : Bool) : (l.setIfInBounds i true).getD j d = l.getD j d := by
  simp only [Array.getD_eq_getD_getElem?]
  rw [Array.getElem?_setIfInBounds_ne (by omega)]
theorem get_set_eq {l : Array Bool} (i : Nat) (h : i < l.size) : (l.setIfInBounds i true).getD i false = true := by
  simp [h]
theorem eval_put_ne {a : Act} {d k : Nat} {v : Value} (h : k ≠ d) : (a.put (some d) v).eval (.tmp k) = a.eval (.tmp k) := by
  show (a.tmps.setIfInBounds d v).getD k undef = a.tmps.getD k undef
  simp only [Array.getD_eq_getD_getElem?]
  rw [Array.getElem?_setIfInBounds_ne (by omega)]
theorem eval_put_eq {a : Act} {d : Nat} {v : Value} (h : d < a.tmps.size) : (a.put (some d) v).eval (.tmp d) = v := by
  show (a.tmps.setIfInBounds d v).getD d undef = v
  simp [h]
/-- The slot that the i-th operation writes. -/
def dstOf (i : Nat) : Nat := if i = 182 then 0 else i + 12
theorem kn_set {listed : Array Bool} {i k : Nat} (h : Kn (listed.setIfInBounds i true) k) : k = dstOf i ∨ Kn listed k := by
  unfold dstOf
  rcases h with h | ⟨h1, h2⟩ | ⟨h1, h2⟩
  · exact .inr (.inl h)
  · by_cases q : k - 12 = i
    · left; rw [if_neg (by omega)]; omega
    · rw [get_set_ne i _ q] at h2
      exact .inr (.inr (.inl ⟨h1, h2⟩))
  · by_cases q : i = 182
    · left; rw [if_pos q]; exact h1
    · rw [get_set_ne i _ (by omega)] at h2
      exact .inr (.inr (.inr ⟨h1, h2⟩))
theorem dst_lt {i : Nat} (h : i < 183) : dstOf i < 194 := by unfold dstOf; split <;> omega
theorem OJ.put {n : Nat} {x0 x x' : World} {listed : Array Bool} {a : Act} (h : OJ n x0 listed a x) (i : Nat) (hi : i < 183) (hx : x' = Wd n x0 ((listed.setIfInBounds i true).getD 166 false) ((listed.setIfInBounds i true).getD 181 false)) (ho : (listed.setIfInBounds i true).getD 181 false = true → (listed.setIfInBounds i true).getD 166 false = true) (hl : (listed.setIfInBounds i true).getD 167 false = true → (listed.setIfInBounds i true).getD 166 false = true) : OJ n x0 (listed.setIfInBounds i true) (a.put (some (dstOf i)) (val n (dstOf i))) x' := by
  refine ⟨hx, ho, hl, h.df, ?_, ?_⟩
  · show (a.tmps.setIfInBounds _ _).size = 194
    rw [Array.size_setIfInBounds]; exact h.sz
  · intro k hk
    by_cases q : k = dstOf i
    · subst q
      exact eval_put_eq (by rw [h.sz]; exact dst_lt hi)
    · rw [eval_put_ne q]
      rcases kn_set hk with z | z
      · exact absurd z q
      · exact h.kn k z
/-- An operation that leaves the world as it is. -/
theorem OJ.quiet {n : Nat} {x0 x : World} {listed : Array Bool} {a : Act} (h : OJ n x0 listed a x) (i d : Nat) (hd : dstOf i = d) (hi : i < 183) (h1 : i ≠ 166) (h2 : i ≠ 181) (h7 : i = 167 → listed.getD 166 false = true) : OJ n x0 (listed.setIfInBounds i true) (a.put (some d) (val n d)) x := by
  subst hd
  refine h.put i hi ?_ ?_ ?_
  · rw [get_set_ne i _ (Ne.symm h1), get_set_ne i _ (Ne.symm h2)]; exact h.wx
  · rw [get_set_ne i _ (Ne.symm h1), get_set_ne i _ (Ne.symm h2)]; exact h.ord
  · rw [get_set_ne i _ (Ne.symm h1)]
    by_cases q : i = 167
    · exact fun _ => h7 q
    · rw [get_set_ne i _ (Ne.symm q)]; exact h.old
/-- The slot of an operation that has come up. -/
theorem OJ.at {n : Nat} {x0 x : World} {listed : Array Bool} {a : Act} (h : OJ n x0 listed a x) {i : Nat} (hr : i ∈ Region.ready .any (opsOf Tryz.f14 5) listed) (k : Nat) (hk : 12 ≤ k ∧ k ≤ 193) (hd : ((opsOf Tryz.f14 5)[i]?).any (fun o => o.after.any (fun e => e.on == k - 12 && Region.binds .any e)) = true) : a.eval (.tmp k) = val n k :=
  h.kn k (.inr (.inl ⟨hk, ready_on hr _ hd⟩))
end Go.Proofs.YthpnclhfooileaaGreatDoor.ru
