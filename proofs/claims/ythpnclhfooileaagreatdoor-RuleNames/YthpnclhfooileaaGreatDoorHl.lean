/- Package rule: the asker's other, at the number 3. Made by a program. -/
import Derived.Test.YthpnclhfooileaaGreatDoorHk
namespace Go.Proofs.YthpnclhfooileaaGreatDoor.ru
open Go.RowKit

theorem ret_other {m : Nat} (w : World) (a b c d e f g h v : Value) (hv : V8 w m #[a, b, c, d, e, f, g, h]) (tmps : Array Value) (h6 : tmps.getD 6 undef = .pointer (some ⟨m, 0, none⟩)) (h7 : tmps.getD 7 undef = v) :
    (results Tryz.f44 tmps).run Tryz.prog w = .ok (.tuple #[.agg #[a, b, c, d, e, f, g, h], v]) w := by
  have q0 : w.cell? ⟨m, 0, none⟩ = some a := blk_cell hv 0
  have q1 : w.cell? ⟨m, 1, none⟩ = some b := blk_cell hv 1
  have q2 : w.cell? ⟨m, 2, none⟩ = some c := blk_cell hv 2
  have q3 : w.cell? ⟨m, 3, none⟩ = some d := blk_cell hv 3
  have q4 : w.cell? ⟨m, 4, none⟩ = some e := blk_cell hv 4
  have q5 : w.cell? ⟨m, 5, none⟩ = some f := blk_cell hv 5
  have q6 : w.cell? ⟨m, 6, none⟩ = some g := blk_cell hv 6
  have q7 : w.cell? ⟨m, 7, none⟩ = some h := blk_cell hv 7
  rw [results_cell_tmp Tryz.results44, h6, h7]
  simp [go_sem, q0, q1, q2, q3, q4, q5, q6, q7]
/-- The call's blocks: the answer, the other side. -/
structure OW (w wd : World) : Prop where
  r : V8 wd (w.heap.size + 1 + 1) z8
  s : V8 wd (w.heap.size + 1 + 1 + 1) #[.int .i64 2, .bool false, .bool false, .string ⟨#[51]⟩, .int .i64 0, .string ⟨#[]⟩, .slice none 0 0, .slice none 0 0]
  below : Below w.heap.size w wd
theorem OW.keep {w wd w' : World} (h : OW w wd) (hb : Below wd.heap.size wd w') : OW w w' := ⟨(hb.block _ (blk_lt h.r)).trans h.r, (hb.block _ (blk_lt h.s)).trans h.s, h.below.trans (hb.mono h.below.size)⟩
theorem OW.start (w : World) (x y : Obj) : OW w ((((w.alloc x).alloc y).alloc (.cells #[.int .i64 0, .bool false, .bool false, .string ⟨#[]⟩, .int .i64 0, .string ⟨#[]⟩, .slice none 0 0, .slice none 0 0] 34)).alloc (.cells #[.int .i64 2, .bool false, .bool false, .string ⟨#[51]⟩, .int .i64 0, .string ⟨#[]⟩, .slice none 0 0, .slice none 0 0] 34)) := by
  have hb := two_below w x y
  refine ⟨al_old _ _ (al_new _ _ _ (by simp only [World.size_alloc])), al_new _ _ _ (by simp only [World.size_alloc]), (hb.alloc (by simp only [World.size_alloc]; omega) _).alloc (by simp only [World.size_alloc]; omega) _⟩

set_option maxRecDepth 100000 in
set_option maxHeartbeats 3200000 in
theorem other3 (ab sb b : Nat) (w : World) (hk : w.cell? ⟨b, 0, none⟩ = some (.int .i64 2)) :
    Calls Tryz.prog 44 #[.pointer (some ⟨ab, 0, none⟩), ruleV sb, .agg #[.string ⟨#[78, 117, 109, 101, 114, 105, 99, 69, 113, 117, 97, 108, 115]⟩, .func (.func 45) #[] #[.pointer (some ⟨b, 0, none⟩)], .func (.func 28) #[.agg #[.func (.func 45) #[] #[.pointer (some ⟨b, 0, none⟩)], .func (.func 24) #[] #[]]] #[], .bool false]] w fun e w' => e = .returned (.tuple #[three, .nilIface]) ∧ Below w.heap.size w w' := by
  have CI := hide (fun u hu => is_num b u hu)
  have CN := hide (fun u => jnorm_num false false ⟨#[51]⟩ ⟨#[51]⟩ 0 0 norm3 u)
  have HS := hide (fun x y => OW.start w x y)
  have HK := hide hk
  unfold three at CI ⊢
  unfold nv at CN
  unfold ruleV
  clear hk
  go_enter Tryz.func44, Tryz.ntmps44
  go_wp2_with fail
  have hW := unhide HS (.cells #[.int .i64 15, .slice none 0 0, .bool true, .bool false, .bool false, .slice (some ⟨sb, 0, none⟩) 1 1, .int .i64 2, .bool false, .bool false, .string ⟨#[51]⟩, .int .i64 0, .string ⟨#[]⟩, .slice none 0 0, .slice none 0 0, .bool false, .bool false, .bool false, .slice none 0 0, .string ⟨#[]⟩] 47) (.cells #[.string ⟨#[78, 117, 109, 101, 114, 105, 99, 69, 113, 117, 97, 108, 115]⟩, .func (.func 45) #[] #[.pointer (some ⟨b, 0, none⟩)], .func (.func 28) #[.agg #[.func (.func 45) #[] #[.pointer (some ⟨b, 0, none⟩)], .func (.func 24) #[] #[]]] #[], .bool false] 53)
  generalize (((w.alloc (.cells #[.int .i64 15, .slice none 0 0, .bool true, .bool false, .bool false, .slice (some ⟨sb, 0, none⟩) 1 1, .int .i64 2, .bool false, .bool false, .string ⟨#[51]⟩, .int .i64 0, .string ⟨#[]⟩, .slice none 0 0, .slice none 0 0, .bool false, .bool false, .bool false, .slice none 0 0, .string ⟨#[]⟩] 47)).alloc (.cells #[.string ⟨#[78, 117, 109, 101, 114, 105, 99, 69, 113, 117, 97, 108, 115]⟩, .func (.func 45) #[] #[.pointer (some ⟨b, 0, none⟩)], .func (.func 28) #[.agg #[.func (.func 45) #[] #[.pointer (some ⟨b, 0, none⟩)], .func (.func 24) #[] #[]]] #[], .bool false] 53)).alloc (.cells #[.int .i64 0, .bool false, .bool false, .string ⟨#[]⟩, .int .i64 0, .string ⟨#[]⟩, .slice none 0 0, .slice none 0 0] 34)).alloc (.cells #[.int .i64 2, .bool false, .bool false, .string ⟨#[51]⟩, .int .i64 0, .string ⟨#[]⟩, .slice none 0 0, .slice none 0 0] 34) = wd at hW ⊢
  clear HS
  have hkd := keepC' hW.below (unhide HK)
  refine (unhide CI _ hkd).mono ?_
  rintro e w1 ⟨rfl, h1⟩
  have hW1 := hW.keep h1
  clear CI HK hkd h1 hW
  have s0 : w1.cell? ⟨w.heap.size + 1 + 1 + 1, 0, none⟩ = some (.int .i64 2) := blk_cell hW1.s 0
  have s1 : w1.cell? ⟨w.heap.size + 1 + 1 + 1, 1, none⟩ = some (.bool false) := blk_cell hW1.s 1
  have s2 : w1.cell? ⟨w.heap.size + 1 + 1 + 1, 2, none⟩ = some (.bool false) := blk_cell hW1.s 2
  have s3 : w1.cell? ⟨w.heap.size + 1 + 1 + 1, 3, none⟩ = some (.string ⟨#[51]⟩) := blk_cell hW1.s 3
  have s4 : w1.cell? ⟨w.heap.size + 1 + 1 + 1, 4, none⟩ = some (.int .i64 0) := blk_cell hW1.s 4
  have s5 : w1.cell? ⟨w.heap.size + 1 + 1 + 1, 5, none⟩ = some (.string ⟨#[]⟩) := blk_cell hW1.s 5
  have s6 : w1.cell? ⟨w.heap.size + 1 + 1 + 1, 6, none⟩ = some (.slice none 0 0) := blk_cell hW1.s 6
  have s7 : w1.cell? ⟨w.heap.size + 1 + 1 + 1, 7, none⟩ = some (.slice none 0 0) := blk_cell hW1.s 7
  have HW1 := hide hW1
  clear hW1
  go_wp2_with fail
  refine (unhide CN _).mono ?_
  rintro e w2 ⟨rfl, h2⟩
  have hW2 := (unhide HW1).keep h2
  clear CN h2 HW1 s0 s1 s2 s3 s4 s5 s6 s7
  have hr := hW2.r
  have q0 : w2.cell? ⟨w.heap.size + 1 + 1, 0, none⟩ = some (.int .i64 0) := blk_cell hr 0
  have q1 : w2.cell? ⟨w.heap.size + 1 + 1, 1, none⟩ = some (.bool false) := blk_cell hr 1
  have q2 : w2.cell? ⟨w.heap.size + 1 + 1, 2, none⟩ = some (.bool false) := blk_cell hr 2
  have q3 : w2.cell? ⟨w.heap.size + 1 + 1, 3, none⟩ = some (.string ⟨#[]⟩) := blk_cell hr 3
  have q4 : w2.cell? ⟨w.heap.size + 1 + 1, 4, none⟩ = some (.int .i64 0) := blk_cell hr 4
  have q5 : w2.cell? ⟨w.heap.size + 1 + 1, 5, none⟩ = some (.string ⟨#[]⟩) := blk_cell hr 5
  have q6 : w2.cell? ⟨w.heap.size + 1 + 1, 6, none⟩ = some (.slice none 0 0) := blk_cell hr 6
  have q7 : w2.cell? ⟨w.heap.size + 1 + 1, 7, none⟩ = some (.slice none 0 0) := blk_cell hr 7
  have f0 : w2.frozen? ⟨w.heap.size + 1 + 1, 0, none⟩ = false := blk_free hr 0
  have f1 : w2.frozen? ⟨w.heap.size + 1 + 1, 1, none⟩ = false := blk_free hr 1
  have f2 : w2.frozen? ⟨w.heap.size + 1 + 1, 2, none⟩ = false := blk_free hr 2
  have f3 : w2.frozen? ⟨w.heap.size + 1 + 1, 3, none⟩ = false := blk_free hr 3
  have f4 : w2.frozen? ⟨w.heap.size + 1 + 1, 4, none⟩ = false := blk_free hr 4
  have f5 : w2.frozen? ⟨w.heap.size + 1 + 1, 5, none⟩ = false := blk_free hr 5
  have f6 : w2.frozen? ⟨w.heap.size + 1 + 1, 6, none⟩ = false := blk_free hr 6
  have f7 : w2.frozen? ⟨w.heap.size + 1 + 1, 7, none⟩ = false := blk_free hr 7
  have HV := hide (V8.put hr (.int .i64 2) (.bool false) (.bool false) (.string ⟨#[51]⟩) (.int .i64 0) (.string ⟨#[]⟩) (.slice none 0 0) (.slice none 0 0))
  have HU := hide (put8_upd w2 (w.heap.size + 1 + 1) (.int .i64 2) (.bool false) (.bool false) (.string ⟨#[51]⟩) (.int .i64 0) (.string ⟨#[]⟩) (.slice none 0 0) (.slice none 0 0))
  have HB := hide hW2.below
  clear hr hW2
  go_wp2
  refine bodyPost_ret (ret_other (m := w.heap.size + 1 + 1) _ _ _ _ _ _ _ _ _ _ (unhide HV) _ rfl rfl) rfl ?_
  exact ⟨rfl, (unhide HB).trans ((unhide HU).below (by omega))⟩
end Go.Proofs.YthpnclhfooileaaGreatDoor.ru
