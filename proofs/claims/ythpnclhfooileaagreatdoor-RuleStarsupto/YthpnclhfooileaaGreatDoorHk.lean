/- Package rule: the asker's get, at awake's two paths. Made by a program. -/
import Derived.Test.YthpnclhfooileaaGreatDoorHj
import Derived.Deep.RegionHeld3
namespace Go.Proofs.YthpnclhfooileaaGreatDoor.ru
open Go.RowKit

/-- An asker in block ab: the table, the input, the context. -/
def AskAt (w : World) (ab tb fb : Nat) : Prop := w.heap[ab]? = some (.cells #[.slice (some ⟨tb, 0, none⟩) 43 43, .int .i64 5, .bool false, .bool false, .string ⟨#[]⟩, .int .i64 0, .string ⟨#[]⟩, .slice none 0 0, .slice (some ⟨fb, 0, none⟩) 1 1, .int .i64 0, .bool false, .bool false, .string ⟨#[]⟩, .int .i64 0, .string ⟨#[]⟩, .slice none 0 0, .slice none 0 0] 67 (0, 0))
theorem AskAt.keep {w w' : World} {ab tb fb : Nat} (h : AskAt w ab tb fb) (hb : Below w.heap.size w w') : AskAt w' ab tb fb := (hb.block _ (blk_lt h)).trans h
theorem ret_aget {m : Nat} (w : World) (a b c d e f g h v : Value) (hv : V8 w m #[a, b, c, d, e, f, g, h]) (tmps : Array Value) (h6 : tmps.getD 4 undef = .pointer (some ⟨m, 0, none⟩)) (h7 : tmps.getD 5 undef = v) :
    (results Tryz.f42 tmps).run Tryz.prog w = .ok (.tuple #[.agg #[a, b, c, d, e, f, g, h], v]) w := by
  have q0 : w.cell? ⟨m, 0, none⟩ = some a := blk_cell hv 0
  have q1 : w.cell? ⟨m, 1, none⟩ = some b := blk_cell hv 1
  have q2 : w.cell? ⟨m, 2, none⟩ = some c := blk_cell hv 2
  have q3 : w.cell? ⟨m, 3, none⟩ = some d := blk_cell hv 3
  have q4 : w.cell? ⟨m, 4, none⟩ = some e := blk_cell hv 4
  have q5 : w.cell? ⟨m, 5, none⟩ = some f := blk_cell hv 5
  have q6 : w.cell? ⟨m, 6, none⟩ = some g := blk_cell hv 6
  have q7 : w.cell? ⟨m, 7, none⟩ = some h := blk_cell hv 7
  rw [results_cell_tmp Tryz.results42, h6, h7]
  simp [go_sem, q0, q1, q2, q3, q4, q5, q6, q7]
theorem far8 {w : World} {m k o : Nat} {v a b c d e f g h : Value} (hc : w.cell? ⟨k, o, none⟩ = some v) (hne : k ≠ m) : ((((((((w.setCell ⟨m, 0, none⟩ a).setCell ⟨m, 1, none⟩ b).setCell ⟨m, 2, none⟩ c).setCell ⟨m, 3, none⟩ d).setCell ⟨m, 4, none⟩ e).setCell ⟨m, 5, none⟩ f).setCell ⟨m, 6, none⟩ g).setCell ⟨m, 7, none⟩ h).cell? ⟨k, o, none⟩ = some v := by
  have hu := put8_upd w m a b c d e f g h
  have e1 := hu.block k hne
  unfold put8 at e1
  simp only [World.cell?] at hc ⊢
  rw [e1]
  exact hc
/-- The call's blocks: the path, the answer; and the asker. -/
structure AG (w wd : World) (ab tb fb sb : Nat) : Prop where
  p : wd.heap[w.heap.size]? = some (.cells #[.bool true, .bool false, .bool false, .slice (some ⟨sb, 0, none⟩) 1 1] 43 (0, 0))
  r : V8 wd (w.heap.size + 1) z8
  a : AskAt wd ab tb fb
  below : Below w.heap.size w wd
theorem AG.start {w : World} {ab tb fb sb : Nat} (h : AskAt w ab tb fb) : AG w ((w.alloc (.cells #[.bool true, .bool false, .bool false, .slice (some ⟨sb, 0, none⟩) 1 1] 43)).alloc (.cells #[.int .i64 0, .bool false, .bool false, .string ⟨#[]⟩, .int .i64 0, .string ⟨#[]⟩, .slice none 0 0, .slice none 0 0] 34)) ab tb fb sb := by
  have hb := two_below w (.cells #[.bool true, .bool false, .bool false, .slice (some ⟨sb, 0, none⟩) 1 1] 43) (.cells #[.int .i64 0, .bool false, .bool false, .string ⟨#[]⟩, .int .i64 0, .string ⟨#[]⟩, .slice none 0 0, .slice none 0 0] 34)
  exact ⟨two_lo _ _ _ _ _, two_hi _ _ _ _ _, h.keep hb, hb⟩
theorem AG.drew {w wd : World} {ab tb fb sb : Nat} (h : AG w wd ab tb fb sb) : AG w wd.drew ab tb fb sb := ⟨h.p, h.r, h.a, h.below.drew⟩
set_option maxRecDepth 100000 in
set_option maxHeartbeats 3200000 in
theorem aget_yes (ab tb fb sb : Nat) (w : World) (hA : AskAt w ab tb fb) (hC : ∀ u, Below w.heap.size w u → Calls Tryz.prog 53 #[pathV sb 1, objV fb 1, .agg z8] u fun e w' => e = .returned (.tuple #[.agg #[.int .i64 2, .bool false, .bool false, .string ⟨#[51]⟩, .int .i64 0, .string ⟨#[]⟩, .slice none 0 0, .slice none 0 0], .bool true]) ∧ Below u.heap.size u w') :
    Calls Tryz.prog 42 #[.pointer (some ⟨ab, 0, none⟩), pathV sb 1] w fun e w' => e = .returned (.tuple #[.agg #[.int .i64 2, .bool false, .bool false, .string ⟨#[51]⟩, .int .i64 0, .string ⟨#[]⟩, .slice none 0 0, .slice none 0 0], .bool true]) ∧ Below w.heap.size w w' := by
  have hab := blk_lt hA
  have HC := hide hC
  have HS := hide (AG.start (sb := sb) hA)
  unfold pathV objV z8 at HC
  unfold pathV
  clear hC hA
  go_enter Tryz.func42, Tryz.ntmps42
  go_wp2_with fail
  generalize (w.alloc (.cells #[.bool true, .bool false, .bool false, .slice (some ⟨sb, 0, none⟩) 1 1] 43)).alloc (.cells #[.int .i64 0, .bool false, .bool false, .string ⟨#[]⟩, .int .i64 0, .string ⟨#[]⟩, .slice none 0 0, .slice none 0 0] 34) = wd at HS ⊢
  have hW := unhide HS
  clear HS
  have x0 : wd.cell? ⟨w.heap.size, 0, none⟩ = some (.bool true) := blk_cell hW.p 0
  have x1 : wd.cell? ⟨w.heap.size, 1, none⟩ = some (.bool false) := blk_cell hW.p 1
  have x2 : wd.cell? ⟨w.heap.size, 2, none⟩ = some (.bool false) := blk_cell hW.p 2
  have x3 : wd.cell? ⟨w.heap.size, 3, none⟩ = some (.slice (some ⟨sb, 0, none⟩) 1 1) := blk_cell hW.p 3
  have x4 : wd.cell? ⟨ab, 0, none⟩ = some (.slice (some ⟨tb, 0, none⟩) 43 43) := blk_cell hW.a 0
  have x5 : wd.cell? ⟨ab, 1, none⟩ = some (.int .i64 5) := blk_cell hW.a 1
  have x6 : wd.cell? ⟨ab, 2, none⟩ = some (.bool false) := blk_cell hW.a 2
  have x7 : wd.cell? ⟨ab, 3, none⟩ = some (.bool false) := blk_cell hW.a 3
  have x8 : wd.cell? ⟨ab, 4, none⟩ = some (.string ⟨#[]⟩) := blk_cell hW.a 4
  have x9 : wd.cell? ⟨ab, 5, none⟩ = some (.int .i64 0) := blk_cell hW.a 5
  have x10 : wd.cell? ⟨ab, 6, none⟩ = some (.string ⟨#[]⟩) := blk_cell hW.a 6
  have x11 : wd.cell? ⟨ab, 7, none⟩ = some (.slice none 0 0) := blk_cell hW.a 7
  have x12 : wd.cell? ⟨ab, 8, none⟩ = some (.slice (some ⟨fb, 0, none⟩) 1 1) := blk_cell hW.a 8
  have x13 : wd.cell? ⟨ab, 9, none⟩ = some (.int .i64 0) := blk_cell hW.a 9
  have x14 : wd.cell? ⟨ab, 10, none⟩ = some (.bool false) := blk_cell hW.a 10
  have x15 : wd.cell? ⟨ab, 11, none⟩ = some (.bool false) := blk_cell hW.a 11
  have x16 : wd.cell? ⟨ab, 12, none⟩ = some (.string ⟨#[]⟩) := blk_cell hW.a 12
  have x17 : wd.cell? ⟨ab, 13, none⟩ = some (.int .i64 0) := blk_cell hW.a 13
  have x18 : wd.cell? ⟨ab, 14, none⟩ = some (.string ⟨#[]⟩) := blk_cell hW.a 14
  have x19 : wd.cell? ⟨ab, 15, none⟩ = some (.slice none 0 0) := blk_cell hW.a 15
  have x20 : wd.cell? ⟨ab, 16, none⟩ = some (.slice none 0 0) := blk_cell hW.a 16
  have hbd := hW.below
  have hwd := hide hW
  clear hW
  go_region_held3 (fun u => u.cell? ⟨w.heap.size, 0, none⟩ = some (.bool true) ∧ u.cell? ⟨w.heap.size, 1, none⟩ = some (.bool false) ∧ u.cell? ⟨w.heap.size, 2, none⟩ = some (.bool false) ∧ u.cell? ⟨w.heap.size, 3, none⟩ = some (.slice (some ⟨sb, 0, none⟩) 1 1) ∧ u.cell? ⟨ab, 0, none⟩ = some (.slice (some ⟨tb, 0, none⟩) 43 43) ∧ u.cell? ⟨ab, 1, none⟩ = some (.int .i64 5) ∧ u.cell? ⟨ab, 2, none⟩ = some (.bool false) ∧ u.cell? ⟨ab, 3, none⟩ = some (.bool false) ∧ u.cell? ⟨ab, 4, none⟩ = some (.string ⟨#[]⟩) ∧ u.cell? ⟨ab, 5, none⟩ = some (.int .i64 0) ∧ u.cell? ⟨ab, 6, none⟩ = some (.string ⟨#[]⟩) ∧ u.cell? ⟨ab, 7, none⟩ = some (.slice none 0 0) ∧ u.cell? ⟨ab, 8, none⟩ = some (.slice (some ⟨fb, 0, none⟩) 1 1) ∧ u.cell? ⟨ab, 9, none⟩ = some (.int .i64 0) ∧ u.cell? ⟨ab, 10, none⟩ = some (.bool false) ∧ u.cell? ⟨ab, 11, none⟩ = some (.bool false) ∧ u.cell? ⟨ab, 12, none⟩ = some (.string ⟨#[]⟩) ∧ u.cell? ⟨ab, 13, none⟩ = some (.int .i64 0) ∧ u.cell? ⟨ab, 14, none⟩ = some (.string ⟨#[]⟩) ∧ u.cell? ⟨ab, 15, none⟩ = some (.slice none 0 0) ∧ u.cell? ⟨ab, 16, none⟩ = some (.slice none 0 0)) (((try dsimp only); (repeat' apply And.intro); all_goals first | (with_reducible refine far8 ?_ ?_; assumption; omega) | (go_keep; done) | (simp; omega))) (first
    | (go_at_call 53; refine (unhide HC _ hbd.drew).mono ?_; rintro e w1 ⟨rfl, h1⟩; have hr : V8 w1 (w.heap.size + 1) z8 := (h1.block _ (blk_lt (unhide hwd).r)).trans (unhide hwd).r; have hB := hbd.drew.trans (h1.mono hbd.size); have k0 := keepC' h1 (show wd.drew.cell? ⟨w.heap.size, 0, none⟩ = some (.bool true) from x0); have k1 := keepC' h1 (show wd.drew.cell? ⟨w.heap.size, 1, none⟩ = some (.bool false) from x1); have k2 := keepC' h1 (show wd.drew.cell? ⟨w.heap.size, 2, none⟩ = some (.bool false) from x2); have k3 := keepC' h1 (show wd.drew.cell? ⟨w.heap.size, 3, none⟩ = some (.slice (some ⟨sb, 0, none⟩) 1 1) from x3); have k4 := keepC' h1 (show wd.drew.cell? ⟨ab, 0, none⟩ = some (.slice (some ⟨tb, 0, none⟩) 43 43) from x4); have k5 := keepC' h1 (show wd.drew.cell? ⟨ab, 1, none⟩ = some (.int .i64 5) from x5); have k6 := keepC' h1 (show wd.drew.cell? ⟨ab, 2, none⟩ = some (.bool false) from x6); have k7 := keepC' h1 (show wd.drew.cell? ⟨ab, 3, none⟩ = some (.bool false) from x7); have k8 := keepC' h1 (show wd.drew.cell? ⟨ab, 4, none⟩ = some (.string ⟨#[]⟩) from x8); have k9 := keepC' h1 (show wd.drew.cell? ⟨ab, 5, none⟩ = some (.int .i64 0) from x9); have k10 := keepC' h1 (show wd.drew.cell? ⟨ab, 6, none⟩ = some (.string ⟨#[]⟩) from x10); have k11 := keepC' h1 (show wd.drew.cell? ⟨ab, 7, none⟩ = some (.slice none 0 0) from x11); have k12 := keepC' h1 (show wd.drew.cell? ⟨ab, 8, none⟩ = some (.slice (some ⟨fb, 0, none⟩) 1 1) from x12); have k13 := keepC' h1 (show wd.drew.cell? ⟨ab, 9, none⟩ = some (.int .i64 0) from x13); have k14 := keepC' h1 (show wd.drew.cell? ⟨ab, 10, none⟩ = some (.bool false) from x14); have k15 := keepC' h1 (show wd.drew.cell? ⟨ab, 11, none⟩ = some (.bool false) from x15); have k16 := keepC' h1 (show wd.drew.cell? ⟨ab, 12, none⟩ = some (.string ⟨#[]⟩) from x16); have k17 := keepC' h1 (show wd.drew.cell? ⟨ab, 13, none⟩ = some (.int .i64 0) from x17); have k18 := keepC' h1 (show wd.drew.cell? ⟨ab, 14, none⟩ = some (.string ⟨#[]⟩) from x18); have k19 := keepC' h1 (show wd.drew.cell? ⟨ab, 15, none⟩ = some (.slice none 0 0) from x19); have k20 := keepC' h1 (show wd.drew.cell? ⟨ab, 16, none⟩ = some (.slice none 0 0) from x20); have q0 : w1.cell? ⟨w.heap.size + 1, 0, none⟩ = some (.int .i64 0) := blk_cell hr 0; have f0 : w1.frozen? ⟨w.heap.size + 1, 0, none⟩ = false := blk_free hr 0; have q1 : w1.cell? ⟨w.heap.size + 1, 1, none⟩ = some (.bool false) := blk_cell hr 1; have f1 : w1.frozen? ⟨w.heap.size + 1, 1, none⟩ = false := blk_free hr 1; have q2 : w1.cell? ⟨w.heap.size + 1, 2, none⟩ = some (.bool false) := blk_cell hr 2; have f2 : w1.frozen? ⟨w.heap.size + 1, 2, none⟩ = false := blk_free hr 2; have q3 : w1.cell? ⟨w.heap.size + 1, 3, none⟩ = some (.string ⟨#[]⟩) := blk_cell hr 3; have f3 : w1.frozen? ⟨w.heap.size + 1, 3, none⟩ = false := blk_free hr 3; have q4 : w1.cell? ⟨w.heap.size + 1, 4, none⟩ = some (.int .i64 0) := blk_cell hr 4; have f4 : w1.frozen? ⟨w.heap.size + 1, 4, none⟩ = false := blk_free hr 4; have q5 : w1.cell? ⟨w.heap.size + 1, 5, none⟩ = some (.string ⟨#[]⟩) := blk_cell hr 5; have f5 : w1.frozen? ⟨w.heap.size + 1, 5, none⟩ = false := blk_free hr 5; have q6 : w1.cell? ⟨w.heap.size + 1, 6, none⟩ = some (.slice none 0 0) := blk_cell hr 6; have f6 : w1.frozen? ⟨w.heap.size + 1, 6, none⟩ = false := blk_free hr 6; have q7 : w1.cell? ⟨w.heap.size + 1, 7, none⟩ = some (.slice none 0 0) := blk_cell hr 7; have f7 : w1.frozen? ⟨w.heap.size + 1, 7, none⟩ = false := blk_free hr 7))
  all_goals go_wp2_with fail
  all_goals have HV := V8.put hr (.int .i64 2) (.bool false) (.bool false) (.string ⟨#[51]⟩) (.int .i64 0) (.string ⟨#[]⟩) (.slice none 0 0) (.slice none 0 0)
  all_goals have HU := put8_upd w1 (w.heap.size + 1) (.int .i64 2) (.bool false) (.bool false) (.string ⟨#[51]⟩) (.int .i64 0) (.string ⟨#[]⟩) (.slice none 0 0) (.slice none 0 0)
  all_goals refine bodyPost_ret (ret_aget (m := w.heap.size + 1) _ _ _ _ _ _ _ _ _ _ HV _ rfl rfl) rfl ?_
  all_goals exact ⟨rfl, hB.trans (HU.below (by omega))⟩
set_option maxRecDepth 100000 in
set_option maxHeartbeats 3200000 in
theorem aget_no (ab tb fb sb : Nat) (w : World) (hA : AskAt w ab tb fb) (hC : ∀ u, Below w.heap.size w u → Calls Tryz.prog 53 #[pathV sb 1, objV fb 1, .agg z8] u fun e w' => e = .returned (.tuple #[.agg #[.int .i64 0, .bool false, .bool false, .string ⟨#[]⟩, .int .i64 0, .string ⟨#[]⟩, .slice none 0 0, .slice none 0 0], .bool false]) ∧ Below u.heap.size u w') :
    Calls Tryz.prog 42 #[.pointer (some ⟨ab, 0, none⟩), pathV sb 1] w fun e w' => e = .returned (.tuple #[.agg #[.int .i64 0, .bool false, .bool false, .string ⟨#[]⟩, .int .i64 0, .string ⟨#[]⟩, .slice none 0 0, .slice none 0 0], .bool false]) ∧ Below w.heap.size w w' := by
  have hab := blk_lt hA
  have HC := hide hC
  have HS := hide (AG.start (sb := sb) hA)
  unfold pathV objV z8 at HC
  unfold pathV
  clear hC hA
  go_enter Tryz.func42, Tryz.ntmps42
  go_wp2_with fail
  generalize (w.alloc (.cells #[.bool true, .bool false, .bool false, .slice (some ⟨sb, 0, none⟩) 1 1] 43)).alloc (.cells #[.int .i64 0, .bool false, .bool false, .string ⟨#[]⟩, .int .i64 0, .string ⟨#[]⟩, .slice none 0 0, .slice none 0 0] 34) = wd at HS ⊢
  have hW := unhide HS
  clear HS
  have x0 : wd.cell? ⟨w.heap.size, 0, none⟩ = some (.bool true) := blk_cell hW.p 0
  have x1 : wd.cell? ⟨w.heap.size, 1, none⟩ = some (.bool false) := blk_cell hW.p 1
  have x2 : wd.cell? ⟨w.heap.size, 2, none⟩ = some (.bool false) := blk_cell hW.p 2
  have x3 : wd.cell? ⟨w.heap.size, 3, none⟩ = some (.slice (some ⟨sb, 0, none⟩) 1 1) := blk_cell hW.p 3
  have x4 : wd.cell? ⟨ab, 0, none⟩ = some (.slice (some ⟨tb, 0, none⟩) 43 43) := blk_cell hW.a 0
  have x5 : wd.cell? ⟨ab, 1, none⟩ = some (.int .i64 5) := blk_cell hW.a 1
  have x6 : wd.cell? ⟨ab, 2, none⟩ = some (.bool false) := blk_cell hW.a 2
  have x7 : wd.cell? ⟨ab, 3, none⟩ = some (.bool false) := blk_cell hW.a 3
  have x8 : wd.cell? ⟨ab, 4, none⟩ = some (.string ⟨#[]⟩) := blk_cell hW.a 4
  have x9 : wd.cell? ⟨ab, 5, none⟩ = some (.int .i64 0) := blk_cell hW.a 5
  have x10 : wd.cell? ⟨ab, 6, none⟩ = some (.string ⟨#[]⟩) := blk_cell hW.a 6
  have x11 : wd.cell? ⟨ab, 7, none⟩ = some (.slice none 0 0) := blk_cell hW.a 7
  have x12 : wd.cell? ⟨ab, 8, none⟩ = some (.slice (some ⟨fb, 0, none⟩) 1 1) := blk_cell hW.a 8
  have x13 : wd.cell? ⟨ab, 9, none⟩ = some (.int .i64 0) := blk_cell hW.a 9
  have x14 : wd.cell? ⟨ab, 10, none⟩ = some (.bool false) := blk_cell hW.a 10
  have x15 : wd.cell? ⟨ab, 11, none⟩ = some (.bool false) := blk_cell hW.a 11
  have x16 : wd.cell? ⟨ab, 12, none⟩ = some (.string ⟨#[]⟩) := blk_cell hW.a 12
  have x17 : wd.cell? ⟨ab, 13, none⟩ = some (.int .i64 0) := blk_cell hW.a 13
  have x18 : wd.cell? ⟨ab, 14, none⟩ = some (.string ⟨#[]⟩) := blk_cell hW.a 14
  have x19 : wd.cell? ⟨ab, 15, none⟩ = some (.slice none 0 0) := blk_cell hW.a 15
  have x20 : wd.cell? ⟨ab, 16, none⟩ = some (.slice none 0 0) := blk_cell hW.a 16
  have hbd := hW.below
  have hwd := hide hW
  clear hW
  go_region_held3 (fun u => u.cell? ⟨w.heap.size, 0, none⟩ = some (.bool true) ∧ u.cell? ⟨w.heap.size, 1, none⟩ = some (.bool false) ∧ u.cell? ⟨w.heap.size, 2, none⟩ = some (.bool false) ∧ u.cell? ⟨w.heap.size, 3, none⟩ = some (.slice (some ⟨sb, 0, none⟩) 1 1) ∧ u.cell? ⟨ab, 0, none⟩ = some (.slice (some ⟨tb, 0, none⟩) 43 43) ∧ u.cell? ⟨ab, 1, none⟩ = some (.int .i64 5) ∧ u.cell? ⟨ab, 2, none⟩ = some (.bool false) ∧ u.cell? ⟨ab, 3, none⟩ = some (.bool false) ∧ u.cell? ⟨ab, 4, none⟩ = some (.string ⟨#[]⟩) ∧ u.cell? ⟨ab, 5, none⟩ = some (.int .i64 0) ∧ u.cell? ⟨ab, 6, none⟩ = some (.string ⟨#[]⟩) ∧ u.cell? ⟨ab, 7, none⟩ = some (.slice none 0 0) ∧ u.cell? ⟨ab, 8, none⟩ = some (.slice (some ⟨fb, 0, none⟩) 1 1) ∧ u.cell? ⟨ab, 9, none⟩ = some (.int .i64 0) ∧ u.cell? ⟨ab, 10, none⟩ = some (.bool false) ∧ u.cell? ⟨ab, 11, none⟩ = some (.bool false) ∧ u.cell? ⟨ab, 12, none⟩ = some (.string ⟨#[]⟩) ∧ u.cell? ⟨ab, 13, none⟩ = some (.int .i64 0) ∧ u.cell? ⟨ab, 14, none⟩ = some (.string ⟨#[]⟩) ∧ u.cell? ⟨ab, 15, none⟩ = some (.slice none 0 0) ∧ u.cell? ⟨ab, 16, none⟩ = some (.slice none 0 0)) (((try dsimp only); (repeat' apply And.intro); all_goals first | (with_reducible refine far8 ?_ ?_; assumption; omega) | (go_keep; done) | (simp; omega))) (first
    | (go_at_call 53; refine (unhide HC _ hbd.drew).mono ?_; rintro e w1 ⟨rfl, h1⟩; have hr : V8 w1 (w.heap.size + 1) z8 := (h1.block _ (blk_lt (unhide hwd).r)).trans (unhide hwd).r; have hB := hbd.drew.trans (h1.mono hbd.size); have k0 := keepC' h1 (show wd.drew.cell? ⟨w.heap.size, 0, none⟩ = some (.bool true) from x0); have k1 := keepC' h1 (show wd.drew.cell? ⟨w.heap.size, 1, none⟩ = some (.bool false) from x1); have k2 := keepC' h1 (show wd.drew.cell? ⟨w.heap.size, 2, none⟩ = some (.bool false) from x2); have k3 := keepC' h1 (show wd.drew.cell? ⟨w.heap.size, 3, none⟩ = some (.slice (some ⟨sb, 0, none⟩) 1 1) from x3); have k4 := keepC' h1 (show wd.drew.cell? ⟨ab, 0, none⟩ = some (.slice (some ⟨tb, 0, none⟩) 43 43) from x4); have k5 := keepC' h1 (show wd.drew.cell? ⟨ab, 1, none⟩ = some (.int .i64 5) from x5); have k6 := keepC' h1 (show wd.drew.cell? ⟨ab, 2, none⟩ = some (.bool false) from x6); have k7 := keepC' h1 (show wd.drew.cell? ⟨ab, 3, none⟩ = some (.bool false) from x7); have k8 := keepC' h1 (show wd.drew.cell? ⟨ab, 4, none⟩ = some (.string ⟨#[]⟩) from x8); have k9 := keepC' h1 (show wd.drew.cell? ⟨ab, 5, none⟩ = some (.int .i64 0) from x9); have k10 := keepC' h1 (show wd.drew.cell? ⟨ab, 6, none⟩ = some (.string ⟨#[]⟩) from x10); have k11 := keepC' h1 (show wd.drew.cell? ⟨ab, 7, none⟩ = some (.slice none 0 0) from x11); have k12 := keepC' h1 (show wd.drew.cell? ⟨ab, 8, none⟩ = some (.slice (some ⟨fb, 0, none⟩) 1 1) from x12); have k13 := keepC' h1 (show wd.drew.cell? ⟨ab, 9, none⟩ = some (.int .i64 0) from x13); have k14 := keepC' h1 (show wd.drew.cell? ⟨ab, 10, none⟩ = some (.bool false) from x14); have k15 := keepC' h1 (show wd.drew.cell? ⟨ab, 11, none⟩ = some (.bool false) from x15); have k16 := keepC' h1 (show wd.drew.cell? ⟨ab, 12, none⟩ = some (.string ⟨#[]⟩) from x16); have k17 := keepC' h1 (show wd.drew.cell? ⟨ab, 13, none⟩ = some (.int .i64 0) from x17); have k18 := keepC' h1 (show wd.drew.cell? ⟨ab, 14, none⟩ = some (.string ⟨#[]⟩) from x18); have k19 := keepC' h1 (show wd.drew.cell? ⟨ab, 15, none⟩ = some (.slice none 0 0) from x19); have k20 := keepC' h1 (show wd.drew.cell? ⟨ab, 16, none⟩ = some (.slice none 0 0) from x20); have q0 : w1.cell? ⟨w.heap.size + 1, 0, none⟩ = some (.int .i64 0) := blk_cell hr 0; have f0 : w1.frozen? ⟨w.heap.size + 1, 0, none⟩ = false := blk_free hr 0; have q1 : w1.cell? ⟨w.heap.size + 1, 1, none⟩ = some (.bool false) := blk_cell hr 1; have f1 : w1.frozen? ⟨w.heap.size + 1, 1, none⟩ = false := blk_free hr 1; have q2 : w1.cell? ⟨w.heap.size + 1, 2, none⟩ = some (.bool false) := blk_cell hr 2; have f2 : w1.frozen? ⟨w.heap.size + 1, 2, none⟩ = false := blk_free hr 2; have q3 : w1.cell? ⟨w.heap.size + 1, 3, none⟩ = some (.string ⟨#[]⟩) := blk_cell hr 3; have f3 : w1.frozen? ⟨w.heap.size + 1, 3, none⟩ = false := blk_free hr 3; have q4 : w1.cell? ⟨w.heap.size + 1, 4, none⟩ = some (.int .i64 0) := blk_cell hr 4; have f4 : w1.frozen? ⟨w.heap.size + 1, 4, none⟩ = false := blk_free hr 4; have q5 : w1.cell? ⟨w.heap.size + 1, 5, none⟩ = some (.string ⟨#[]⟩) := blk_cell hr 5; have f5 : w1.frozen? ⟨w.heap.size + 1, 5, none⟩ = false := blk_free hr 5; have q6 : w1.cell? ⟨w.heap.size + 1, 6, none⟩ = some (.slice none 0 0) := blk_cell hr 6; have f6 : w1.frozen? ⟨w.heap.size + 1, 6, none⟩ = false := blk_free hr 6; have q7 : w1.cell? ⟨w.heap.size + 1, 7, none⟩ = some (.slice none 0 0) := blk_cell hr 7; have f7 : w1.frozen? ⟨w.heap.size + 1, 7, none⟩ = false := blk_free hr 7))
  all_goals go_wp2_with fail
  all_goals have HV := V8.put hr (.int .i64 0) (.bool false) (.bool false) (.string ⟨#[]⟩) (.int .i64 0) (.string ⟨#[]⟩) (.slice none 0 0) (.slice none 0 0)
  all_goals have HU := put8_upd w1 (w.heap.size + 1) (.int .i64 0) (.bool false) (.bool false) (.string ⟨#[]⟩) (.int .i64 0) (.string ⟨#[]⟩) (.slice none 0 0) (.slice none 0 0)
  all_goals refine bodyPost_ret (ret_aget (m := w.heap.size + 1) _ _ _ _ _ _ _ _ _ _ HV _ rfl rfl) rfl ?_
  all_goals exact ⟨rfl, hB.trans (HU.below (by omega))⟩
end Go.Proofs.YthpnclhfooileaaGreatDoor.ru
