/- Package rule: operators: the table. Made by a program. -/
import Derived.Test.YthpnclhfooileaaGreatDoorHf
import Derived.Deep.Cut
namespace Go.Proofs.YthpnclhfooileaaGreatDoor.ru
open Go.RowKit
open rd (wp_region_inv ready_mem)

set_option maxRecDepth 100000 in
theorem ofKind_any (k : Int) (w : World) : Calls Tryz.prog 22 #[.int .i64 k] w fun e w' => e = .returned (okF w.heap.size) ∧ w' = w.alloc (.cells #[.int .i64 k] 3) := by
  go_enter Tryz.func22, Tryz.ntmps22
  go_wp2
  go_ret
  exact ⟨rfl, rfl⟩
theorem getD_tf {l : Array Bool} {i : Nat} (h : l.getD i true = false) : l.getD i false = false := by
  by_cases q : i < l.size
  · simp [q] at h ⊢; exact h
  · simp [q] at h
theorem Wd_true (n : Nat) (x : World) (p q : Bool) (hp : p = true) (hq : q = true) : Wd n x p q = WR n x := by subst hp hq; rfl
set_option maxRecDepth 100000 in
theorem opS166 {n : Nat} {x0 x : World} {listed : Array Bool} {a : Act} {Q : Exit → Act → World → Prop} (hs : listed.size = 183) (X : X0 n x0) (hJ : OJ n x0 listed a x) (hr : 166 ∈ Region.ready .any (opsOf Tryz.f14 5) listed) : wpOp Tryz.prog (opsOf Tryz.f14 5) Q 166 (OJ n x0 (listed.setIfInBounds 166 true)) a x := by
  obtain ⟨o, ho, h1, h2, h3⟩ := op_at (ops := (opsOf Tryz.f14 5)) (i := 166) (e := (.call { callee := .value (.func 22), args := #[.const (.int .i64 0)], argTypes := #[3] }, some 178, none)) (by kernel_rfl)
  have h3' : o.guard = none := h3
  have h2' : o.dst = some 178 := h2
  clear h2 h3
  have f6 : listed.getD 166 false = false := getD_tf (ready_mem hr).2.1
  have f1 : listed.getD 181 false = false := by
    cases q : listed.getD 181 false with
    | false => rfl
    | true => rw [hJ.ord q] at f6; cases f6
  have hx : x = x0 := by have := hJ.wx; rw [f6] at this; exact this
  subst hx
  have e : (execOp a.eval o).run Tryz.prog x = .ok (.enter 22 #[.int .i64 0]) x := by
    unfold execOp
    rw [h1]
    change _ = _
    kernel_rfl
  unfold wpOp
  simp only [ho]
  rw [if_pos (by unfold Region.wanted; rw [h3'])]
  refine .inl ?_
  unfold Oper.wp
  rw [e]
  refine (ofKind_any 0 x).mono ?_
  rintro e w' ⟨rfl, rfl⟩
  show OJ n x (listed.setIfInBounds 166 true) (a.put o.dst (okF x.heap.size)) (WC x)
  rw [h2', X.sz, ← vl178 n]
  have hset : (listed.setIfInBounds 166 true).getD 166 false = true := get_set_eq 166 (by omega)
  have hset1 : (listed.setIfInBounds 166 true).getD 181 false = false := by rw [get_set_ne 166 181 (by decide)]; exact f1
  exact hJ.put 166 (by decide) (by rw [hset, hset1]; rfl) (fun _ => hset) (fun _ => hset)
theorem bsl (n : Nat) (x : World) : (do pure (Next.value (← Instr.buildSlice 48 43 (#[(1, Value.agg #[.string ⟨#[65, 110, 100]⟩, .nilFunc, .nilFunc, .bool false]), (2, Value.agg #[.string ⟨#[79, 114]⟩, .nilFunc, .nilFunc, .bool false]), (3, Value.agg #[.string ⟨#[78, 111, 116]⟩, .nilFunc, .nilFunc, .bool false]), (4, Value.agg #[.string ⟨#[83, 116, 114, 105, 110, 103, 69, 113, 117, 97, 108, 115]⟩, okF n, bound 28 (kindV (okF n) 23), .bool false]), (5, Value.agg #[.string ⟨#[83, 116, 114, 105, 110, 103, 69, 113, 117, 97, 108, 115, 80, 97, 116, 104]⟩, okF n, bound 28 (kindV (okF n) 23), .bool true]), (6, Value.agg #[.string ⟨#[83, 116, 114, 105, 110, 103, 76, 101, 115, 115, 84, 104, 97, 110]⟩, okF n, bound 29 (kindV (okF n) 23), .bool false]), (7, Value.agg #[.string ⟨#[83, 116, 114, 105, 110, 103, 76, 101, 115, 115, 84, 104, 97, 110, 80, 97, 116, 104]⟩, okF n, bound 29 (kindV (okF n) 23), .bool true]), (8, Value.agg #[.string ⟨#[83, 116, 114, 105, 110, 103, 71, 114, 101, 97, 116, 101, 114, 84, 104, 97, 110]⟩, okF n, bound 30 (kindV (okF n) 23), .bool false]), (9, Value.agg #[.string ⟨#[83, 116, 114, 105, 110, 103, 71, 114, 101, 97, 116, 101, 114, 84, 104, 97, 110, 80, 97, 116, 104]⟩, okF n, bound 30 (kindV (okF n) 23), .bool true]), (10, Value.agg #[.string ⟨#[83, 116, 114, 105, 110, 103, 76, 101, 115, 115, 84, 104, 97, 110, 69, 113, 117, 97, 108, 115]⟩, okF n, bound 31 (kindV (okF n) 23), .bool false]), (11, Value.agg #[.string ⟨#[83, 116, 114, 105, 110, 103, 76, 101, 115, 115, 84, 104, 97, 110, 69, 113, 117, 97, 108, 115, 80, 97, 116, 104]⟩, okF n, bound 31 (kindV (okF n) 23), .bool true]), (12, Value.agg #[.string ⟨#[83, 116, 114, 105, 110, 103, 71, 114, 101, 97, 116, 101, 114, 84, 104, 97, 110, 69, 113, 117, 97, 108, 115]⟩, okF n, bound 32 (kindV (okF n) 23), .bool false]), (13, Value.agg #[.string ⟨#[83, 116, 114, 105, 110, 103, 71, 114, 101, 97, 116, 101, 114, 84, 104, 97, 110, 69, 113, 117, 97, 108, 115, 80, 97, 116, 104]⟩, okF n, bound 32 (kindV (okF n) 23), .bool true]), (14, Value.agg #[.string ⟨#[83, 116, 114, 105, 110, 103, 77, 97, 116, 99, 104, 101, 115]⟩, okF n, pl 33, .bool false]), (15, Value.agg #[.string ⟨#[78, 117, 109, 101, 114, 105, 99, 69, 113, 117, 97, 108, 115]⟩, okF (n + 2), bound 28 (kindV (okF (n + 2)) 24), .bool false]), (16, Value.agg #[.string ⟨#[78, 117, 109, 101, 114, 105, 99, 69, 113, 117, 97, 108, 115, 80, 97, 116, 104]⟩, okF (n + 2), bound 28 (kindV (okF (n + 2)) 24), .bool true]), (17, Value.agg #[.string ⟨#[78, 117, 109, 101, 114, 105, 99, 76, 101, 115, 115, 84, 104, 97, 110]⟩, okF (n + 2), bound 29 (kindV (okF (n + 2)) 24), .bool false]), (18, Value.agg #[.string ⟨#[78, 117, 109, 101, 114, 105, 99, 76, 101, 115, 115, 84, 104, 97, 110, 80, 97, 116, 104]⟩, okF (n + 2), bound 29 (kindV (okF (n + 2)) 24), .bool true]), (19, Value.agg #[.string ⟨#[78, 117, 109, 101, 114, 105, 99, 71, 114, 101, 97, 116, 101, 114, 84, 104, 97, 110]⟩, okF (n + 2), bound 30 (kindV (okF (n + 2)) 24), .bool false]), (20, Value.agg #[.string ⟨#[78, 117, 109, 101, 114, 105, 99, 71, 114, 101, 97, 116, 101, 114, 84, 104, 97, 110, 80, 97, 116, 104]⟩, okF (n + 2), bound 30 (kindV (okF (n + 2)) 24), .bool true]), (21, Value.agg #[.string ⟨#[78, 117, 109, 101, 114, 105, 99, 76, 101, 115, 115, 84, 104, 97, 110, 69, 113, 117, 97, 108, 115]⟩, okF (n + 2), bound 31 (kindV (okF (n + 2)) 24), .bool false]), (22, Value.agg #[.string ⟨#[78, 117, 109, 101, 114, 105, 99, 76, 101, 115, 115, 84, 104, 97, 110, 69, 113, 117, 97, 108, 115, 80, 97, 116, 104]⟩, okF (n + 2), bound 31 (kindV (okF (n + 2)) 24), .bool true]), (23, Value.agg #[.string ⟨#[78, 117, 109, 101, 114, 105, 99, 71, 114, 101, 97, 116, 101, 114, 84, 104, 97, 110, 69, 113, 117, 97, 108, 115]⟩, okF (n + 2), bound 32 (kindV (okF (n + 2)) 24), .bool false]), (24, Value.agg #[.string ⟨#[78, 117, 109, 101, 114, 105, 99, 71, 114, 101, 97, 116, 101, 114, 84, 104, 97, 110, 69, 113, 117, 97, 108, 115, 80, 97, 116, 104]⟩, okF (n + 2), bound 32 (kindV (okF (n + 2)) 24), .bool true]), (25, Value.agg #[.string ⟨#[66, 111, 111, 108, 101, 97, 110, 69, 113, 117, 97, 108, 115]⟩, okF (n + 4), bound 28 (kindV (okF (n + 4)) 25), .bool false]), (26, Value.agg #[.string ⟨#[66, 111, 111, 108, 101, 97, 110, 69, 113, 117, 97, 108, 115, 80, 97, 116, 104]⟩, okF (n + 4), bound 28 (kindV (okF (n + 4)) 25), .bool true]), (27, Value.agg #[.string ⟨#[84, 105, 109, 101, 115, 116, 97, 109, 112, 69, 113, 117, 97, 108, 115]⟩, pl 26, bound 28 (kindV (pl 26) 27), .bool false]), (28, Value.agg #[.string ⟨#[84, 105, 109, 101, 115, 116, 97, 109, 112, 69, 113, 117, 97, 108, 115, 80, 97, 116, 104]⟩, pl 26, bound 28 (kindV (pl 26) 27), .bool true]), (29, Value.agg #[.string ⟨#[84, 105, 109, 101, 115, 116, 97, 109, 112, 76, 101, 115, 115, 84, 104, 97, 110]⟩, pl 26, bound 29 (kindV (pl 26) 27), .bool false]), (30, Value.agg #[.string ⟨#[84, 105, 109, 101, 115, 116, 97, 109, 112, 76, 101, 115, 115, 84, 104, 97, 110, 80, 97, 116, 104]⟩, pl 26, bound 29 (kindV (pl 26) 27), .bool true]), (31, Value.agg #[.string ⟨#[84, 105, 109, 101, 115, 116, 97, 109, 112, 71, 114, 101, 97, 116, 101, 114, 84, 104, 97, 110]⟩, pl 26, bound 30 (kindV (pl 26) 27), .bool false]), (32, Value.agg #[.string ⟨#[84, 105, 109, 101, 115, 116, 97, 109, 112, 71, 114, 101, 97, 116, 101, 114, 84, 104, 97, 110, 80, 97, 116, 104]⟩, pl 26, bound 30 (kindV (pl 26) 27), .bool true]), (33, Value.agg #[.string ⟨#[84, 105, 109, 101, 115, 116, 97, 109, 112, 76, 101, 115, 115, 84, 104, 97, 110, 69, 113, 117, 97, 108, 115]⟩, pl 26, bound 31 (kindV (pl 26) 27), .bool false]), (34, Value.agg #[.string ⟨#[84, 105, 109, 101, 115, 116, 97, 109, 112, 76, 101, 115, 115, 84, 104, 97, 110, 69, 113, 117, 97, 108, 115, 80, 97, 116, 104]⟩, pl 26, bound 31 (kindV (pl 26) 27), .bool true]), (35, Value.agg #[.string ⟨#[84, 105, 109, 101, 115, 116, 97, 109, 112, 71, 114, 101, 97, 116, 101, 114, 84, 104, 97, 110, 69, 113, 117, 97, 108, 115]⟩, pl 26, bound 32 (kindV (pl 26) 27), .bool false]), (36, Value.agg #[.string ⟨#[84, 105, 109, 101, 115, 116, 97, 109, 112, 71, 114, 101, 97, 116, 101, 114, 84, 104, 97, 110, 69, 113, 117, 97, 108, 115, 80, 97, 116, 104]⟩, pl 26, bound 32 (kindV (pl 26) 27), .bool true]), (37, Value.agg #[.string ⟨#[73, 115, 78, 117, 108, 108]⟩, okF (n + 7), .nilFunc, .bool false]), (38, Value.agg #[.string ⟨#[73, 115, 80, 114, 101, 115, 101, 110, 116]⟩, .nilFunc, .nilFunc, .bool false]), (39, Value.agg #[.string ⟨#[73, 115, 78, 117, 109, 101, 114, 105, 99]⟩, okF (n + 2), .nilFunc, .bool false]), (40, Value.agg #[.string ⟨#[73, 115, 83, 116, 114, 105, 110, 103]⟩, okF n, .nilFunc, .bool false]), (41, Value.agg #[.string ⟨#[73, 115, 66, 111, 111, 108, 101, 97, 110]⟩, okF (n + 4), .nilFunc, .bool false]), (42, Value.agg #[.string ⟨#[73, 115, 84, 105, 109, 101, 115, 116, 97, 109, 112]⟩, pl 26, .nilFunc, .bool false])] : Array (Nat × Value))))).run Tryz.prog x = .ok (.value (.slice (some ⟨x.heap.size, 0, none⟩) 43 43)) (x.alloc (.cells (rowC n) 53)) := by kernel_rfl
set_option maxRecDepth 100000 in
theorem opS181 {n : Nat} {x0 x : World} {listed : Array Bool} {a : Act} {Q : Exit → Act → World → Prop} (hs : listed.size = 183) (X : X0 n x0) (hJ : OJ n x0 listed a x) (hr : 181 ∈ Region.ready .any (opsOf Tryz.f14 5) listed) : wpOp Tryz.prog (opsOf Tryz.f14 5) Q 181 (OJ n x0 (listed.setIfInBounds 181 true)) a x := by
  obtain ⟨o, ho, h1, h2, h3⟩ := op_at (ops := (opsOf Tryz.f14 5)) (i := 181) (e := (.buildSlice 48 43 #[(1, .tmp 12), (2, .tmp 13), (3, .tmp 14), (4, .tmp 19), (5, .tmp 24), (6, .tmp 29), (7, .tmp 34), (8, .tmp 39), (9, .tmp 44), (10, .tmp 49), (11, .tmp 54), (12, .tmp 59), (13, .tmp 64), (14, .tmp 67), (15, .tmp 72), (16, .tmp 77), (17, .tmp 82), (18, .tmp 87), (19, .tmp 92), (20, .tmp 97), (21, .tmp 102), (22, .tmp 107), (23, .tmp 112), (24, .tmp 117), (25, .tmp 122), (26, .tmp 127), (27, .tmp 132), (28, .tmp 137), (29, .tmp 142), (30, .tmp 147), (31, .tmp 152), (32, .tmp 157), (33, .tmp 162), (34, .tmp 167), (35, .tmp 172), (36, .tmp 177), (37, .tmp 179), (38, .tmp 180), (39, .tmp 183), (40, .tmp 186), (41, .tmp 189), (42, .tmp 192)], some 193, none)) (by kernel_rfl)
  have h3' : o.guard = none := h3
  have h2' : o.dst = some 193 := h2
  clear h2 h3
  have f6 : listed.getD 166 false = true := hJ.old (ready_on hr 167 (by kernel_rfl))
  have f1 : listed.getD 181 false = false := getD_tf (ready_mem hr).2.1
  have hx : x = WC x0 := by have := hJ.wx; rw [f6, f1] at this; exact this
  have e : execOp a.eval o = (do pure (Next.value (← Instr.buildSlice 48 43 (#[(1, a.eval (.tmp 12)), (2, a.eval (.tmp 13)), (3, a.eval (.tmp 14)), (4, a.eval (.tmp 19)), (5, a.eval (.tmp 24)), (6, a.eval (.tmp 29)), (7, a.eval (.tmp 34)), (8, a.eval (.tmp 39)), (9, a.eval (.tmp 44)), (10, a.eval (.tmp 49)), (11, a.eval (.tmp 54)), (12, a.eval (.tmp 59)), (13, a.eval (.tmp 64)), (14, a.eval (.tmp 67)), (15, a.eval (.tmp 72)), (16, a.eval (.tmp 77)), (17, a.eval (.tmp 82)), (18, a.eval (.tmp 87)), (19, a.eval (.tmp 92)), (20, a.eval (.tmp 97)), (21, a.eval (.tmp 102)), (22, a.eval (.tmp 107)), (23, a.eval (.tmp 112)), (24, a.eval (.tmp 117)), (25, a.eval (.tmp 122)), (26, a.eval (.tmp 127)), (27, a.eval (.tmp 132)), (28, a.eval (.tmp 137)), (29, a.eval (.tmp 142)), (30, a.eval (.tmp 147)), (31, a.eval (.tmp 152)), (32, a.eval (.tmp 157)), (33, a.eval (.tmp 162)), (34, a.eval (.tmp 167)), (35, a.eval (.tmp 172)), (36, a.eval (.tmp 177)), (37, a.eval (.tmp 179)), (38, a.eval (.tmp 180)), (39, a.eval (.tmp 183)), (40, a.eval (.tmp 186)), (41, a.eval (.tmp 189)), (42, a.eval (.tmp 192))] : Array (Nat × Value))))) := by
    unfold execOp
    rw [h1]
    change _ = _
    kernel_rfl
  have q12 := (hJ.at hr 12 ⟨by decide, by decide⟩ (by kernel_rfl)).trans (vl12 n)
  have q13 := (hJ.at hr 13 ⟨by decide, by decide⟩ (by kernel_rfl)).trans (vl13 n)
  have q14 := (hJ.at hr 14 ⟨by decide, by decide⟩ (by kernel_rfl)).trans (vl14 n)
  have q19 := (hJ.at hr 19 ⟨by decide, by decide⟩ (by kernel_rfl)).trans (vl19 n)
  have q24 := (hJ.at hr 24 ⟨by decide, by decide⟩ (by kernel_rfl)).trans (vl24 n)
  have q29 := (hJ.at hr 29 ⟨by decide, by decide⟩ (by kernel_rfl)).trans (vl29 n)
  have q34 := (hJ.at hr 34 ⟨by decide, by decide⟩ (by kernel_rfl)).trans (vl34 n)
  have q39 := (hJ.at hr 39 ⟨by decide, by decide⟩ (by kernel_rfl)).trans (vl39 n)
  have q44 := (hJ.at hr 44 ⟨by decide, by decide⟩ (by kernel_rfl)).trans (vl44 n)
  have q49 := (hJ.at hr 49 ⟨by decide, by decide⟩ (by kernel_rfl)).trans (vl49 n)
  have q54 := (hJ.at hr 54 ⟨by decide, by decide⟩ (by kernel_rfl)).trans (vl54 n)
  have q59 := (hJ.at hr 59 ⟨by decide, by decide⟩ (by kernel_rfl)).trans (vl59 n)
  have q64 := (hJ.at hr 64 ⟨by decide, by decide⟩ (by kernel_rfl)).trans (vl64 n)
  have q67 := (hJ.at hr 67 ⟨by decide, by decide⟩ (by kernel_rfl)).trans (vl67 n)
  have q72 := (hJ.at hr 72 ⟨by decide, by decide⟩ (by kernel_rfl)).trans (vl72 n)
  have q77 := (hJ.at hr 77 ⟨by decide, by decide⟩ (by kernel_rfl)).trans (vl77 n)
  have q82 := (hJ.at hr 82 ⟨by decide, by decide⟩ (by kernel_rfl)).trans (vl82 n)
  have q87 := (hJ.at hr 87 ⟨by decide, by decide⟩ (by kernel_rfl)).trans (vl87 n)
  have q92 := (hJ.at hr 92 ⟨by decide, by decide⟩ (by kernel_rfl)).trans (vl92 n)
  have q97 := (hJ.at hr 97 ⟨by decide, by decide⟩ (by kernel_rfl)).trans (vl97 n)
  have q102 := (hJ.at hr 102 ⟨by decide, by decide⟩ (by kernel_rfl)).trans (vl102 n)
  have q107 := (hJ.at hr 107 ⟨by decide, by decide⟩ (by kernel_rfl)).trans (vl107 n)
  have q112 := (hJ.at hr 112 ⟨by decide, by decide⟩ (by kernel_rfl)).trans (vl112 n)
  have q117 := (hJ.at hr 117 ⟨by decide, by decide⟩ (by kernel_rfl)).trans (vl117 n)
  have q122 := (hJ.at hr 122 ⟨by decide, by decide⟩ (by kernel_rfl)).trans (vl122 n)
  have q127 := (hJ.at hr 127 ⟨by decide, by decide⟩ (by kernel_rfl)).trans (vl127 n)
  have q132 := (hJ.at hr 132 ⟨by decide, by decide⟩ (by kernel_rfl)).trans (vl132 n)
  have q137 := (hJ.at hr 137 ⟨by decide, by decide⟩ (by kernel_rfl)).trans (vl137 n)
  have q142 := (hJ.at hr 142 ⟨by decide, by decide⟩ (by kernel_rfl)).trans (vl142 n)
  have q147 := (hJ.at hr 147 ⟨by decide, by decide⟩ (by kernel_rfl)).trans (vl147 n)
  have q152 := (hJ.at hr 152 ⟨by decide, by decide⟩ (by kernel_rfl)).trans (vl152 n)
  have q157 := (hJ.at hr 157 ⟨by decide, by decide⟩ (by kernel_rfl)).trans (vl157 n)
  have q162 := (hJ.at hr 162 ⟨by decide, by decide⟩ (by kernel_rfl)).trans (vl162 n)
  have q167 := (hJ.at hr 167 ⟨by decide, by decide⟩ (by kernel_rfl)).trans (vl167 n)
  have q172 := (hJ.at hr 172 ⟨by decide, by decide⟩ (by kernel_rfl)).trans (vl172 n)
  have q177 := (hJ.at hr 177 ⟨by decide, by decide⟩ (by kernel_rfl)).trans (vl177 n)
  have q179 := (hJ.at hr 179 ⟨by decide, by decide⟩ (by kernel_rfl)).trans (vl179 n)
  have q180 := (hJ.at hr 180 ⟨by decide, by decide⟩ (by kernel_rfl)).trans (vl180 n)
  have q183 := (hJ.at hr 183 ⟨by decide, by decide⟩ (by kernel_rfl)).trans (vl183 n)
  have q186 := (hJ.at hr 186 ⟨by decide, by decide⟩ (by kernel_rfl)).trans (vl186 n)
  have q189 := (hJ.at hr 189 ⟨by decide, by decide⟩ (by kernel_rfl)).trans (vl189 n)
  have q192 := (hJ.at hr 192 ⟨by decide, by decide⟩ (by kernel_rfl)).trans (vl192 n)
  have hsz : x.heap.size = n + 8 := by rw [hx]; unfold WC; rw [World.size_alloc, X.sz]
  have hset : (listed.setIfInBounds 181 true).getD 181 false = true := get_set_eq 181 (by omega)
  have hset1 : (listed.setIfInBounds 181 true).getD 166 false = true := by rw [get_set_ne 181 166 (by decide)]; exact f6
  refine wpOp_val (w' := WR n x0) ho h3' (v := val n 193) ?_ (by rw [h2']; exact hJ.put 181 (by decide) (by rw [hset, hset1]; rfl) (fun _ => hset1) (fun _ => hset1))
  rw [vl193, e, q12, q13, q14, q19, q24, q29, q34, q39, q44, q49, q54, q59, q64, q67, q72, q77, q82, q87, q92, q97, q102, q107, q112, q117, q122, q127, q132, q137, q142, q147, q152, q157, q162, q167, q172, q177, q179, q180, q183, q186, q189, q192]
  refine (bsl n x).trans ?_
  rw [hsz, hx]
  rfl
set_option maxRecDepth 100000 in
theorem opS182 {n : Nat} {x0 x : World} {listed : Array Bool} {a : Act} {Q : Exit → Act → World → Prop} (hJ : OJ n x0 listed a x) (hr : 182 ∈ Region.ready .any (opsOf Tryz.f14 5) listed) : wpOp Tryz.prog (opsOf Tryz.f14 5) Q 182 (OJ n x0 (listed.setIfInBounds 182 true)) a x := by
  obtain ⟨o, ho, h1, h2, h3⟩ := op_at (ops := (opsOf Tryz.f14 5)) (i := 182) (e := (.assign (.tmp 193), some 0, none)) (by kernel_rfl)
  have h3' : o.guard = none := h3
  have h2' : o.dst = some 0 := h2
  clear h2 h3
  refine wpOp_val (w' := x) ho h3' (v := val n 0) ?_ (by rw [h2']; exact hJ.quiet 182 0 (by decide) (by decide) (by decide) (by decide) (fun h => absurd h (by decide)))
  have k := hJ.at hr 193 ⟨by decide, by decide⟩ (by kernel_rfl)
  rw [show val n 0 = val n 193 by kernel_rfl, ← k]
  unfold execOp
  rw [h1]
  rfl
set_option maxRecDepth 100000 in
theorem all_steps {n : Nat} {x0 x : World} {listed : Array Bool} {a : Act} {Q : Exit → Act → World → Prop} (i : Nat) (hs : listed.size = 183) (X : X0 n x0) (hJ : OJ n x0 listed a x) (hr : i ∈ Region.ready .any (opsOf Tryz.f14 5) listed) (hi : i < 183) : wpOp Tryz.prog (opsOf Tryz.f14 5) Q i (OJ n x0 (listed.setIfInBounds i true)) a x := by
  by_cases h91 : i < 91
  · by_cases h45 : i < 45
    · by_cases h22 : i < 22
      · by_cases h11 : i < 11
        · by_cases h5 : i < 5
          · by_cases h2 : i < 2
            · by_cases h1 : i < 1
              · obtain rfl : i = 0 := by omega
                exact opS0 X hJ hr
              · obtain rfl : i = 1 := by omega
                exact opS1 X hJ hr
            · by_cases h3 : i < 3
              · obtain rfl : i = 2 := by omega
                exact opS2 X hJ hr
              · by_cases h4 : i < 4
                · obtain rfl : i = 3 := by omega
                  exact opS3 X hJ hr
                · obtain rfl : i = 4 := by omega
                  exact opS4 X hJ hr
          · by_cases h8 : i < 8
            · by_cases h6 : i < 6
              · obtain rfl : i = 5 := by omega
                exact opS5 X hJ hr
              · by_cases h7 : i < 7
                · obtain rfl : i = 6 := by omega
                  exact opS6 X hJ hr
                · obtain rfl : i = 7 := by omega
                  exact opS7 X hJ hr
            · by_cases h9 : i < 9
              · obtain rfl : i = 8 := by omega
                exact opS8 X hJ hr
              · by_cases h10 : i < 10
                · obtain rfl : i = 9 := by omega
                  exact opS9 X hJ hr
                · obtain rfl : i = 10 := by omega
                  exact opS10 X hJ hr
        · by_cases h16 : i < 16
          · by_cases h13 : i < 13
            · by_cases h12 : i < 12
              · obtain rfl : i = 11 := by omega
                exact opS11 X hJ hr
              · obtain rfl : i = 12 := by omega
                exact opS12 X hJ hr
            · by_cases h14 : i < 14
              · obtain rfl : i = 13 := by omega
                exact opS13 X hJ hr
              · by_cases h15 : i < 15
                · obtain rfl : i = 14 := by omega
                  exact opS14 X hJ hr
                · obtain rfl : i = 15 := by omega
                  exact opS15 X hJ hr
          · by_cases h19 : i < 19
            · by_cases h17 : i < 17
              · obtain rfl : i = 16 := by omega
                exact opS16 X hJ hr
              · by_cases h18 : i < 18
                · obtain rfl : i = 17 := by omega
                  exact opS17 X hJ hr
                · obtain rfl : i = 18 := by omega
                  exact opS18 X hJ hr
            · by_cases h20 : i < 20
              · obtain rfl : i = 19 := by omega
                exact opS19 X hJ hr
              · by_cases h21 : i < 21
                · obtain rfl : i = 20 := by omega
                  exact opS20 X hJ hr
                · obtain rfl : i = 21 := by omega
                  exact opS21 X hJ hr
      · by_cases h33 : i < 33
        · by_cases h27 : i < 27
          · by_cases h24 : i < 24
            · by_cases h23 : i < 23
              · obtain rfl : i = 22 := by omega
                exact opS22 X hJ hr
              · obtain rfl : i = 23 := by omega
                exact opS23 X hJ hr
            · by_cases h25 : i < 25
              · obtain rfl : i = 24 := by omega
                exact opS24 X hJ hr
              · by_cases h26 : i < 26
                · obtain rfl : i = 25 := by omega
                  exact opS25 X hJ hr
                · obtain rfl : i = 26 := by omega
                  exact opS26 X hJ hr
          · by_cases h30 : i < 30
            · by_cases h28 : i < 28
              · obtain rfl : i = 27 := by omega
                exact opS27 X hJ hr
              · by_cases h29 : i < 29
                · obtain rfl : i = 28 := by omega
                  exact opS28 X hJ hr
                · obtain rfl : i = 29 := by omega
                  exact opS29 X hJ hr
            · by_cases h31 : i < 31
              · obtain rfl : i = 30 := by omega
                exact opS30 X hJ hr
              · by_cases h32 : i < 32
                · obtain rfl : i = 31 := by omega
                  exact opS31 X hJ hr
                · obtain rfl : i = 32 := by omega
                  exact opS32 X hJ hr
        · by_cases h39 : i < 39
          · by_cases h36 : i < 36
            · by_cases h34 : i < 34
              · obtain rfl : i = 33 := by omega
                exact opS33 X hJ hr
              · by_cases h35 : i < 35
                · obtain rfl : i = 34 := by omega
                  exact opS34 X hJ hr
                · obtain rfl : i = 35 := by omega
                  exact opS35 X hJ hr
            · by_cases h37 : i < 37
              · obtain rfl : i = 36 := by omega
                exact opS36 X hJ hr
              · by_cases h38 : i < 38
                · obtain rfl : i = 37 := by omega
                  exact opS37 X hJ hr
                · obtain rfl : i = 38 := by omega
                  exact opS38 X hJ hr
          · by_cases h42 : i < 42
            · by_cases h40 : i < 40
              · obtain rfl : i = 39 := by omega
                exact opS39 X hJ hr
              · by_cases h41 : i < 41
                · obtain rfl : i = 40 := by omega
                  exact opS40 X hJ hr
                · obtain rfl : i = 41 := by omega
                  exact opS41 X hJ hr
            · by_cases h43 : i < 43
              · obtain rfl : i = 42 := by omega
                exact opS42 X hJ hr
              · by_cases h44 : i < 44
                · obtain rfl : i = 43 := by omega
                  exact opS43 X hJ hr
                · obtain rfl : i = 44 := by omega
                  exact opS44 X hJ hr
    · by_cases h68 : i < 68
      · by_cases h56 : i < 56
        · by_cases h50 : i < 50
          · by_cases h47 : i < 47
            · by_cases h46 : i < 46
              · obtain rfl : i = 45 := by omega
                exact opS45 X hJ hr
              · obtain rfl : i = 46 := by omega
                exact opS46 X hJ hr
            · by_cases h48 : i < 48
              · obtain rfl : i = 47 := by omega
                exact opS47 X hJ hr
              · by_cases h49 : i < 49
                · obtain rfl : i = 48 := by omega
                  exact opS48 X hJ hr
                · obtain rfl : i = 49 := by omega
                  exact opS49 X hJ hr
          · by_cases h53 : i < 53
            · by_cases h51 : i < 51
              · obtain rfl : i = 50 := by omega
                exact opS50 X hJ hr
              · by_cases h52 : i < 52
                · obtain rfl : i = 51 := by omega
                  exact opS51 X hJ hr
                · obtain rfl : i = 52 := by omega
                  exact opS52 X hJ hr
            · by_cases h54 : i < 54
              · obtain rfl : i = 53 := by omega
                exact opS53 X hJ hr
              · by_cases h55 : i < 55
                · obtain rfl : i = 54 := by omega
                  exact opS54 X hJ hr
                · obtain rfl : i = 55 := by omega
                  exact opS55 X hJ hr
        · by_cases h62 : i < 62
          · by_cases h59 : i < 59
            · by_cases h57 : i < 57
              · obtain rfl : i = 56 := by omega
                exact opS56 X hJ hr
              · by_cases h58 : i < 58
                · obtain rfl : i = 57 := by omega
                  exact opS57 X hJ hr
                · obtain rfl : i = 58 := by omega
                  exact opS58 X hJ hr
            · by_cases h60 : i < 60
              · obtain rfl : i = 59 := by omega
                exact opS59 X hJ hr
              · by_cases h61 : i < 61
                · obtain rfl : i = 60 := by omega
                  exact opS60 X hJ hr
                · obtain rfl : i = 61 := by omega
                  exact opS61 X hJ hr
          · by_cases h65 : i < 65
            · by_cases h63 : i < 63
              · obtain rfl : i = 62 := by omega
                exact opS62 X hJ hr
              · by_cases h64 : i < 64
                · obtain rfl : i = 63 := by omega
                  exact opS63 X hJ hr
                · obtain rfl : i = 64 := by omega
                  exact opS64 X hJ hr
            · by_cases h66 : i < 66
              · obtain rfl : i = 65 := by omega
                exact opS65 X hJ hr
              · by_cases h67 : i < 67
                · obtain rfl : i = 66 := by omega
                  exact opS66 X hJ hr
                · obtain rfl : i = 67 := by omega
                  exact opS67 X hJ hr
      · by_cases h79 : i < 79
        · by_cases h73 : i < 73
          · by_cases h70 : i < 70
            · by_cases h69 : i < 69
              · obtain rfl : i = 68 := by omega
                exact opS68 X hJ hr
              · obtain rfl : i = 69 := by omega
                exact opS69 X hJ hr
            · by_cases h71 : i < 71
              · obtain rfl : i = 70 := by omega
                exact opS70 X hJ hr
              · by_cases h72 : i < 72
                · obtain rfl : i = 71 := by omega
                  exact opS71 X hJ hr
                · obtain rfl : i = 72 := by omega
                  exact opS72 X hJ hr
          · by_cases h76 : i < 76
            · by_cases h74 : i < 74
              · obtain rfl : i = 73 := by omega
                exact opS73 X hJ hr
              · by_cases h75 : i < 75
                · obtain rfl : i = 74 := by omega
                  exact opS74 X hJ hr
                · obtain rfl : i = 75 := by omega
                  exact opS75 X hJ hr
            · by_cases h77 : i < 77
              · obtain rfl : i = 76 := by omega
                exact opS76 X hJ hr
              · by_cases h78 : i < 78
                · obtain rfl : i = 77 := by omega
                  exact opS77 X hJ hr
                · obtain rfl : i = 78 := by omega
                  exact opS78 X hJ hr
        · by_cases h85 : i < 85
          · by_cases h82 : i < 82
            · by_cases h80 : i < 80
              · obtain rfl : i = 79 := by omega
                exact opS79 X hJ hr
              · by_cases h81 : i < 81
                · obtain rfl : i = 80 := by omega
                  exact opS80 X hJ hr
                · obtain rfl : i = 81 := by omega
                  exact opS81 X hJ hr
            · by_cases h83 : i < 83
              · obtain rfl : i = 82 := by omega
                exact opS82 X hJ hr
              · by_cases h84 : i < 84
                · obtain rfl : i = 83 := by omega
                  exact opS83 X hJ hr
                · obtain rfl : i = 84 := by omega
                  exact opS84 X hJ hr
          · by_cases h88 : i < 88
            · by_cases h86 : i < 86
              · obtain rfl : i = 85 := by omega
                exact opS85 X hJ hr
              · by_cases h87 : i < 87
                · obtain rfl : i = 86 := by omega
                  exact opS86 X hJ hr
                · obtain rfl : i = 87 := by omega
                  exact opS87 X hJ hr
            · by_cases h89 : i < 89
              · obtain rfl : i = 88 := by omega
                exact opS88 X hJ hr
              · by_cases h90 : i < 90
                · obtain rfl : i = 89 := by omega
                  exact opS89 X hJ hr
                · obtain rfl : i = 90 := by omega
                  exact opS90 X hJ hr
  · by_cases h137 : i < 137
    · by_cases h114 : i < 114
      · by_cases h102 : i < 102
        · by_cases h96 : i < 96
          · by_cases h93 : i < 93
            · by_cases h92 : i < 92
              · obtain rfl : i = 91 := by omega
                exact opS91 X hJ hr
              · obtain rfl : i = 92 := by omega
                exact opS92 X hJ hr
            · by_cases h94 : i < 94
              · obtain rfl : i = 93 := by omega
                exact opS93 X hJ hr
              · by_cases h95 : i < 95
                · obtain rfl : i = 94 := by omega
                  exact opS94 X hJ hr
                · obtain rfl : i = 95 := by omega
                  exact opS95 X hJ hr
          · by_cases h99 : i < 99
            · by_cases h97 : i < 97
              · obtain rfl : i = 96 := by omega
                exact opS96 X hJ hr
              · by_cases h98 : i < 98
                · obtain rfl : i = 97 := by omega
                  exact opS97 X hJ hr
                · obtain rfl : i = 98 := by omega
                  exact opS98 X hJ hr
            · by_cases h100 : i < 100
              · obtain rfl : i = 99 := by omega
                exact opS99 X hJ hr
              · by_cases h101 : i < 101
                · obtain rfl : i = 100 := by omega
                  exact opS100 X hJ hr
                · obtain rfl : i = 101 := by omega
                  exact opS101 X hJ hr
        · by_cases h108 : i < 108
          · by_cases h105 : i < 105
            · by_cases h103 : i < 103
              · obtain rfl : i = 102 := by omega
                exact opS102 X hJ hr
              · by_cases h104 : i < 104
                · obtain rfl : i = 103 := by omega
                  exact opS103 X hJ hr
                · obtain rfl : i = 104 := by omega
                  exact opS104 X hJ hr
            · by_cases h106 : i < 106
              · obtain rfl : i = 105 := by omega
                exact opS105 X hJ hr
              · by_cases h107 : i < 107
                · obtain rfl : i = 106 := by omega
                  exact opS106 X hJ hr
                · obtain rfl : i = 107 := by omega
                  exact opS107 X hJ hr
          · by_cases h111 : i < 111
            · by_cases h109 : i < 109
              · obtain rfl : i = 108 := by omega
                exact opS108 X hJ hr
              · by_cases h110 : i < 110
                · obtain rfl : i = 109 := by omega
                  exact opS109 X hJ hr
                · obtain rfl : i = 110 := by omega
                  exact opS110 X hJ hr
            · by_cases h112 : i < 112
              · obtain rfl : i = 111 := by omega
                exact opS111 X hJ hr
              · by_cases h113 : i < 113
                · obtain rfl : i = 112 := by omega
                  exact opS112 X hJ hr
                · obtain rfl : i = 113 := by omega
                  exact opS113 X hJ hr
      · by_cases h125 : i < 125
        · by_cases h119 : i < 119
          · by_cases h116 : i < 116
            · by_cases h115 : i < 115
              · obtain rfl : i = 114 := by omega
                exact opS114 X hJ hr
              · obtain rfl : i = 115 := by omega
                exact opS115 X hJ hr
            · by_cases h117 : i < 117
              · obtain rfl : i = 116 := by omega
                exact opS116 X hJ hr
              · by_cases h118 : i < 118
                · obtain rfl : i = 117 := by omega
                  exact opS117 X hJ hr
                · obtain rfl : i = 118 := by omega
                  exact opS118 X hJ hr
          · by_cases h122 : i < 122
            · by_cases h120 : i < 120
              · obtain rfl : i = 119 := by omega
                exact opS119 X hJ hr
              · by_cases h121 : i < 121
                · obtain rfl : i = 120 := by omega
                  exact opS120 X hJ hr
                · obtain rfl : i = 121 := by omega
                  exact opS121 X hJ hr
            · by_cases h123 : i < 123
              · obtain rfl : i = 122 := by omega
                exact opS122 X hJ hr
              · by_cases h124 : i < 124
                · obtain rfl : i = 123 := by omega
                  exact opS123 X hJ hr
                · obtain rfl : i = 124 := by omega
                  exact opS124 X hJ hr
        · by_cases h131 : i < 131
          · by_cases h128 : i < 128
            · by_cases h126 : i < 126
              · obtain rfl : i = 125 := by omega
                exact opS125 X hJ hr
              · by_cases h127 : i < 127
                · obtain rfl : i = 126 := by omega
                  exact opS126 X hJ hr
                · obtain rfl : i = 127 := by omega
                  exact opS127 X hJ hr
            · by_cases h129 : i < 129
              · obtain rfl : i = 128 := by omega
                exact opS128 X hJ hr
              · by_cases h130 : i < 130
                · obtain rfl : i = 129 := by omega
                  exact opS129 X hJ hr
                · obtain rfl : i = 130 := by omega
                  exact opS130 X hJ hr
          · by_cases h134 : i < 134
            · by_cases h132 : i < 132
              · obtain rfl : i = 131 := by omega
                exact opS131 X hJ hr
              · by_cases h133 : i < 133
                · obtain rfl : i = 132 := by omega
                  exact opS132 X hJ hr
                · obtain rfl : i = 133 := by omega
                  exact opS133 X hJ hr
            · by_cases h135 : i < 135
              · obtain rfl : i = 134 := by omega
                exact opS134 X hJ hr
              · by_cases h136 : i < 136
                · obtain rfl : i = 135 := by omega
                  exact opS135 X hJ hr
                · obtain rfl : i = 136 := by omega
                  exact opS136 X hJ hr
    · by_cases h160 : i < 160
      · by_cases h148 : i < 148
        · by_cases h142 : i < 142
          · by_cases h139 : i < 139
            · by_cases h138 : i < 138
              · obtain rfl : i = 137 := by omega
                exact opS137 X hJ hr
              · obtain rfl : i = 138 := by omega
                exact opS138 X hJ hr
            · by_cases h140 : i < 140
              · obtain rfl : i = 139 := by omega
                exact opS139 X hJ hr
              · by_cases h141 : i < 141
                · obtain rfl : i = 140 := by omega
                  exact opS140 X hJ hr
                · obtain rfl : i = 141 := by omega
                  exact opS141 X hJ hr
          · by_cases h145 : i < 145
            · by_cases h143 : i < 143
              · obtain rfl : i = 142 := by omega
                exact opS142 X hJ hr
              · by_cases h144 : i < 144
                · obtain rfl : i = 143 := by omega
                  exact opS143 X hJ hr
                · obtain rfl : i = 144 := by omega
                  exact opS144 X hJ hr
            · by_cases h146 : i < 146
              · obtain rfl : i = 145 := by omega
                exact opS145 X hJ hr
              · by_cases h147 : i < 147
                · obtain rfl : i = 146 := by omega
                  exact opS146 X hJ hr
                · obtain rfl : i = 147 := by omega
                  exact opS147 X hJ hr
        · by_cases h154 : i < 154
          · by_cases h151 : i < 151
            · by_cases h149 : i < 149
              · obtain rfl : i = 148 := by omega
                exact opS148 X hJ hr
              · by_cases h150 : i < 150
                · obtain rfl : i = 149 := by omega
                  exact opS149 X hJ hr
                · obtain rfl : i = 150 := by omega
                  exact opS150 X hJ hr
            · by_cases h152 : i < 152
              · obtain rfl : i = 151 := by omega
                exact opS151 X hJ hr
              · by_cases h153 : i < 153
                · obtain rfl : i = 152 := by omega
                  exact opS152 X hJ hr
                · obtain rfl : i = 153 := by omega
                  exact opS153 X hJ hr
          · by_cases h157 : i < 157
            · by_cases h155 : i < 155
              · obtain rfl : i = 154 := by omega
                exact opS154 X hJ hr
              · by_cases h156 : i < 156
                · obtain rfl : i = 155 := by omega
                  exact opS155 X hJ hr
                · obtain rfl : i = 156 := by omega
                  exact opS156 X hJ hr
            · by_cases h158 : i < 158
              · obtain rfl : i = 157 := by omega
                exact opS157 X hJ hr
              · by_cases h159 : i < 159
                · obtain rfl : i = 158 := by omega
                  exact opS158 X hJ hr
                · obtain rfl : i = 159 := by omega
                  exact opS159 X hJ hr
      · by_cases h171 : i < 171
        · by_cases h165 : i < 165
          · by_cases h162 : i < 162
            · by_cases h161 : i < 161
              · obtain rfl : i = 160 := by omega
                exact opS160 X hJ hr
              · obtain rfl : i = 161 := by omega
                exact opS161 X hJ hr
            · by_cases h163 : i < 163
              · obtain rfl : i = 162 := by omega
                exact opS162 X hJ hr
              · by_cases h164 : i < 164
                · obtain rfl : i = 163 := by omega
                  exact opS163 X hJ hr
                · obtain rfl : i = 164 := by omega
                  exact opS164 X hJ hr
          · by_cases h168 : i < 168
            · by_cases h166 : i < 166
              · obtain rfl : i = 165 := by omega
                exact opS165 X hJ hr
              · by_cases h167 : i < 167
                · obtain rfl : i = 166 := by omega
                  exact opS166 hs X hJ hr
                · obtain rfl : i = 167 := by omega
                  exact opS167 X hJ hr
            · by_cases h169 : i < 169
              · obtain rfl : i = 168 := by omega
                exact opS168 X hJ hr
              · by_cases h170 : i < 170
                · obtain rfl : i = 169 := by omega
                  exact opS169 X hJ hr
                · obtain rfl : i = 170 := by omega
                  exact opS170 X hJ hr
        · by_cases h177 : i < 177
          · by_cases h174 : i < 174
            · by_cases h172 : i < 172
              · obtain rfl : i = 171 := by omega
                exact opS171 X hJ hr
              · by_cases h173 : i < 173
                · obtain rfl : i = 172 := by omega
                  exact opS172 X hJ hr
                · obtain rfl : i = 173 := by omega
                  exact opS173 X hJ hr
            · by_cases h175 : i < 175
              · obtain rfl : i = 174 := by omega
                exact opS174 X hJ hr
              · by_cases h176 : i < 176
                · obtain rfl : i = 175 := by omega
                  exact opS175 X hJ hr
                · obtain rfl : i = 176 := by omega
                  exact opS176 X hJ hr
          · by_cases h180 : i < 180
            · by_cases h178 : i < 178
              · obtain rfl : i = 177 := by omega
                exact opS177 X hJ hr
              · by_cases h179 : i < 179
                · obtain rfl : i = 178 := by omega
                  exact opS178 X hJ hr
                · obtain rfl : i = 179 := by omega
                  exact opS179 X hJ hr
            · by_cases h181 : i < 181
              · obtain rfl : i = 180 := by omega
                exact opS180 X hJ hr
              · by_cases h182 : i < 182
                · obtain rfl : i = 181 := by omega
                  exact opS181 hs X hJ hr
                · obtain rfl : i = 182 := by omega
                  exact opS182 hJ hr
theorem after_lt {ops : Array Oper} (h : (ops.toList.zipIdx.all fun q => q.1.after.all fun e => decide (e.on < q.2)) = true) : ∀ i (hi : i < ops.size), ∀ e ∈ ops[i].after, e.on < i := by
  intro i hi e he
  rw [List.all_eq_true] at h
  have := h (ops[i], i) (by rw [List.mem_zipIdx_iff_getElem?]; simp [hi])
  rw [Array.all_eq_true'] at this
  simpa using this e he
set_option maxRecDepth 100000 in
theorem region5 {n : Nat} {w : World} {a : Act} {Q : Exit → Act → World → Prop} {ops : Array Oper} (hops : ops = (opsOf Tryz.f14 5)) (X : X0 n w.drew) (hd : a.defers = []) (hz : a.tmps.size = 194)
    (k1 : a.eval (.tmp 1) = .pointer (some ⟨n + 1, 0, none⟩)) (k2 : a.eval (.tmp 2) = .pointer (some ⟨n + 3, 0, none⟩)) (k3 : a.eval (.tmp 3) = .pointer (some ⟨n + 5, 0, none⟩)) (k4 : a.eval (.tmp 4) = .pointer (some ⟨n + 6, 0, none⟩))
    (hQ : ∀ a' : Act, a'.defers = [] → a'.eval (.tmp 0) = .slice (some ⟨n + 8, 0, none⟩) 43 43 → Q .normal a' (WR n w.drew)) : (Code.region 5 ops true).wp Tryz.prog Q a w := by
  subst hops
  have hsz : ((opsOf Tryz.f14 5)).size = 183 := by kernel_rfl
  refine wp_region_inv (by kernel_rfl) (OJ n w.drew) ?_ (after_lt (by kernel_rfl)) ?_ ?_
  · have e : ∀ j, (Array.replicate ((opsOf Tryz.f14 5)).size false).getD j false = false := by
      intro j
      simp only [Array.getD_eq_getD_getElem?, Array.getElem?_replicate]
      split <;> rfl
    refine ⟨by rw [e, e]; rfl, fun q => (by rw [e] at q; cases q), fun q => (by rw [e] at q; cases q), hd, hz, ?_⟩
    rintro k (⟨h1, h2⟩ | ⟨_, h2⟩ | ⟨_, h2⟩)
    · match k, h1, h2 with
      | 1, _, _ => exact k1.trans (by kernel_rfl)
      | 2, _, _ => exact k2.trans (by kernel_rfl)
      | 3, _, _ => exact k3.trans (by kernel_rfl)
      | 4, _, _ => exact k4.trans (by kernel_rfl)
    · rw [e] at h2; cases h2
    · rw [e] at h2; cases h2
  · intro listed a x i hs hJ hr
    exact all_steps i (by rw [hs, hsz]) X hJ hr (by rw [← hsz]; exact (ready_mem hr).1)
  · intro listed a x hs hJ hall
    have l0 := hall 182 (by rw [hsz]; decide)
    have l1 := hall 181 (by rw [hsz]; decide)
    have l6 := hall 166 (by rw [hsz]; decide)
    have hx := hJ.wx
    rw [l1, l6] at hx
    have hx' : x = WR n w.drew := hx
    rw [hx']
    exact hQ a hJ.df ((hJ.kn 0 (.inr (.inr ⟨rfl, l0⟩))).trans (by kernel_rfl))

/-- What operators leaves: the table, and what tells of a kind. -/
structure OpsW (n : Nat) (w w' : World) : Prop where
  row : w'.heap[n + 8]? = some (.cells (rowC n) 53 (0, 0))
  num : w'.cell? ⟨n + 2, 0, none⟩ = some (.int .i64 2)
  below : Below n w w'
end Go.Proofs.YthpnclhfooileaaGreatDoor.ru
