/- json.Norm of a number. -/
import Derived.Test.YthpnclhfooileaaGreatDoorLb
import Derived.Test.YthpnclhfooileaaGreatDoorChecked
import Derived.WalkKit
import Derived.Deep.QuietTactic
import Derived.BigQuiet
import Derived.Outline
import Derived.WalkLawsBesides
import Derived.Lib.SmallJoins
import Derived.Deep.Cut
import Derived.Laws.EntriesVeiled
import Derived.Conc.MuLone
namespace Go.Proofs.YthpnclhfooileaaGreatDoor.ru
open Go.RowKit

/-- A number as a value. -/
def nv (ng : Bool) (dg : ByteArray) (ex : Int) : Value := .agg #[.int .i64 2, .bool false, .bool ng, .string dg, .int .i64 ex, .string ⟨#[]⟩, .slice none 0 0, .slice none 0 0]
def dvv (ng : Bool) (dg : ByteArray) (ex : Int) : Value := .agg #[.bool ng, .string dg, .int .i64 ex]
def nC (ng : Bool) (dg : ByteArray) (ex : Int) : Array Value := #[.int .i64 2, .bool false, .bool ng, .string dg, .int .i64 ex, .string ⟨#[]⟩, .slice none 0 0, .slice none 0 0]
/-- A value of eight cells in block m. -/
def V8 (w : World) (m : Nat) (c : Array Value) : Prop := w.heap[m]? = some (.cells c 34 (0, 0))
theorem ret8 {fn : Func} {t : Tmp} {m : Nat} (hr : fn.results = #[.cell t 34]) (w : World) (a b c d e f g h : Value) (hv : V8 w m #[a, b, c, d, e, f, g, h]) (tmps : Array Value) (ht : tmps[t]?.getD undef = .pointer (some ⟨m, 0, none⟩)) :
    (results fn tmps).run Tryz.prog w = .ok (.agg #[a, b, c, d, e, f, g, h]) w := by
  have q0 : w.cell? ⟨m, 0, none⟩ = some a := blk_cell hv 0
  have q1 : w.cell? ⟨m, 1, none⟩ = some b := blk_cell hv 1
  have q2 : w.cell? ⟨m, 2, none⟩ = some c := blk_cell hv 2
  have q3 : w.cell? ⟨m, 3, none⟩ = some d := blk_cell hv 3
  have q4 : w.cell? ⟨m, 4, none⟩ = some e := blk_cell hv 4
  have q5 : w.cell? ⟨m, 5, none⟩ = some f := blk_cell hv 5
  have q6 : w.cell? ⟨m, 6, none⟩ = some g := blk_cell hv 6
  have q7 : w.cell? ⟨m, 7, none⟩ = some h := blk_cell hv 7
  simp [results, hr, ht, go_sem, q0, q1, q2, q3, q4, q5, q6, q7]
def z8 : Array Value := #[.int .i64 0, .bool false, .bool false, .string ⟨#[]⟩, .int .i64 0, .string ⟨#[]⟩, .slice none 0 0, .slice none 0 0]
/-- Eight cells stored. -/
def put8 (w : World) (m : Nat) (a b c d e f g h : Value) : World := (((((((w.setCell ⟨m, 0, none⟩ a).setCell ⟨m, 1, none⟩ b).setCell ⟨m, 2, none⟩ c).setCell ⟨m, 3, none⟩ d).setCell ⟨m, 4, none⟩ e).setCell ⟨m, 5, none⟩ f).setCell ⟨m, 6, none⟩ g).setCell ⟨m, 7, none⟩ h
theorem V8.put {w : World} {m : Nat} (h8 : V8 w m z8) (a b c d e f g h : Value) : V8 (put8 w m a b c d e f g h) m #[a, b, c, d, e, f, g, h] := by
  unfold put8
  have k0 : V8 (w.setCell ⟨m, 0, none⟩ a) m #[a, .bool false, .bool false, .string ⟨#[]⟩, .int .i64 0, .string ⟨#[]⟩, .slice none 0 0, .slice none 0 0] := blk_set (cs := #[.int .i64 0, .bool false, .bool false, .string ⟨#[]⟩, .int .i64 0, .string ⟨#[]⟩, .slice none 0 0, .slice none 0 0]) h8 0 a
  have k1 : V8 ((w.setCell ⟨m, 0, none⟩ a).setCell ⟨m, 1, none⟩ b) m #[a, b, .bool false, .string ⟨#[]⟩, .int .i64 0, .string ⟨#[]⟩, .slice none 0 0, .slice none 0 0] := blk_set (cs := #[a, .bool false, .bool false, .string ⟨#[]⟩, .int .i64 0, .string ⟨#[]⟩, .slice none 0 0, .slice none 0 0]) k0 1 b
  have k2 : V8 (((w.setCell ⟨m, 0, none⟩ a).setCell ⟨m, 1, none⟩ b).setCell ⟨m, 2, none⟩ c) m #[a, b, c, .string ⟨#[]⟩, .int .i64 0, .string ⟨#[]⟩, .slice none 0 0, .slice none 0 0] := blk_set (cs := #[a, b, .bool false, .string ⟨#[]⟩, .int .i64 0, .string ⟨#[]⟩, .slice none 0 0, .slice none 0 0]) k1 2 c
  have k3 : V8 ((((w.setCell ⟨m, 0, none⟩ a).setCell ⟨m, 1, none⟩ b).setCell ⟨m, 2, none⟩ c).setCell ⟨m, 3, none⟩ d) m #[a, b, c, d, .int .i64 0, .string ⟨#[]⟩, .slice none 0 0, .slice none 0 0] := blk_set (cs := #[a, b, c, .string ⟨#[]⟩, .int .i64 0, .string ⟨#[]⟩, .slice none 0 0, .slice none 0 0]) k2 3 d
  have k4 : V8 (((((w.setCell ⟨m, 0, none⟩ a).setCell ⟨m, 1, none⟩ b).setCell ⟨m, 2, none⟩ c).setCell ⟨m, 3, none⟩ d).setCell ⟨m, 4, none⟩ e) m #[a, b, c, d, e, .string ⟨#[]⟩, .slice none 0 0, .slice none 0 0] := blk_set (cs := #[a, b, c, d, .int .i64 0, .string ⟨#[]⟩, .slice none 0 0, .slice none 0 0]) k3 4 e
  have k5 : V8 ((((((w.setCell ⟨m, 0, none⟩ a).setCell ⟨m, 1, none⟩ b).setCell ⟨m, 2, none⟩ c).setCell ⟨m, 3, none⟩ d).setCell ⟨m, 4, none⟩ e).setCell ⟨m, 5, none⟩ f) m #[a, b, c, d, e, f, .slice none 0 0, .slice none 0 0] := blk_set (cs := #[a, b, c, d, e, .string ⟨#[]⟩, .slice none 0 0, .slice none 0 0]) k4 5 f
  have k6 : V8 (((((((w.setCell ⟨m, 0, none⟩ a).setCell ⟨m, 1, none⟩ b).setCell ⟨m, 2, none⟩ c).setCell ⟨m, 3, none⟩ d).setCell ⟨m, 4, none⟩ e).setCell ⟨m, 5, none⟩ f).setCell ⟨m, 6, none⟩ g) m #[a, b, c, d, e, f, g, .slice none 0 0] := blk_set (cs := #[a, b, c, d, e, f, .slice none 0 0, .slice none 0 0]) k5 6 g
  have k7 : V8 ((((((((w.setCell ⟨m, 0, none⟩ a).setCell ⟨m, 1, none⟩ b).setCell ⟨m, 2, none⟩ c).setCell ⟨m, 3, none⟩ d).setCell ⟨m, 4, none⟩ e).setCell ⟨m, 5, none⟩ f).setCell ⟨m, 6, none⟩ g).setCell ⟨m, 7, none⟩ h) m #[a, b, c, d, e, f, g, h] := blk_set (cs := #[a, b, c, d, e, f, g, .slice none 0 0]) k6 7 h
  exact k7
theorem put8_upd (w : World) (m : Nat) (a b c d e f g h : Value) : Upd m w (put8 w m a b c d e f g h) :=
  (Upd.setCell m 0 w a).trans ((Upd.setCell m 1 _ b).trans ((Upd.setCell m 2 _ c).trans ((Upd.setCell m 3 _ d).trans ((Upd.setCell m 4 _ e).trans ((Upd.setCell m 5 _ f).trans ((Upd.setCell m 6 _ g).trans (Upd.setCell m 7 _ h)))))))
set_option maxRecDepth 100000 in
set_option maxHeartbeats 1600000 in
theorem norm1_num (ng ng' : Bool) (dg dg' : ByteArray) (ex ex' : Int) (hd : ∀ w, Calls Tryz.prog 56 #[dvv ng dg ex] w fun e w' => e = .returned (dvv ng' dg' ex') ∧ Below w.heap.size w w') (cp : Option Addr) (w : World) :
    Calls Tryz.prog 75 #[nv ng dg ex, .pointer cp] w fun e w' => e = .returned (nv ng' dg' ex') ∧ Below w.heap.size w w' := by
  unfold nv
  have HD := hide hd
  clear hd
  unfold dvv at HD
  go_enter Tryz.func75, Tryz.ntmps75
  go_wp2_with fail
  refine (unhide HD _).mono ?_
  rintro e w1 ⟨rfl, hb1⟩
  clear HD
  have hV : V8 w1 (w.heap.size + 1) z8 := (hb1.block _ (by simp)).trans (by
    have := Array.getElem?_push_size (xs := (w.alloc (.cells (nC ng dg ex) 34)).heap) (x := (.cells z8 34 (0, 0) : Obj))
    rw [World.size_alloc] at this
    exact this)
  have HB := hide (((((Below.refl w.heap.size w).alloc (Nat.le_refl _) _).alloc (by simp) _).trans (hb1.mono (by simp; omega))))
  have HV := hide (V8.put hV (.int .i64 2) (.bool false) (.bool ng') (.string dg') (.int .i64 ex') (.string ⟨#[]⟩) (.slice none 0 0) (.slice none 0 0))
  have HU := hide (put8_upd w1 (w.heap.size + 1) (.int .i64 2) (.bool false) (.bool ng') (.string dg') (.int .i64 ex') (.string ⟨#[]⟩) (.slice none 0 0) (.slice none 0 0))
  have q0 : w1.cell? ⟨w.heap.size + 1, 0, none⟩ = some (.int .i64 0) := blk_cell hV 0
  have f0 : w1.frozen? ⟨w.heap.size + 1, 0, none⟩ = false := blk_free hV 0
  have q1 : w1.cell? ⟨w.heap.size + 1, 1, none⟩ = some (.bool false) := blk_cell hV 1
  have f1 : w1.frozen? ⟨w.heap.size + 1, 1, none⟩ = false := blk_free hV 1
  have q2 : w1.cell? ⟨w.heap.size + 1, 2, none⟩ = some (.bool false) := blk_cell hV 2
  have f2 : w1.frozen? ⟨w.heap.size + 1, 2, none⟩ = false := blk_free hV 2
  have q3 : w1.cell? ⟨w.heap.size + 1, 3, none⟩ = some (.string ⟨#[]⟩) := blk_cell hV 3
  have f3 : w1.frozen? ⟨w.heap.size + 1, 3, none⟩ = false := blk_free hV 3
  have q4 : w1.cell? ⟨w.heap.size + 1, 4, none⟩ = some (.int .i64 0) := blk_cell hV 4
  have f4 : w1.frozen? ⟨w.heap.size + 1, 4, none⟩ = false := blk_free hV 4
  have q5 : w1.cell? ⟨w.heap.size + 1, 5, none⟩ = some (.string ⟨#[]⟩) := blk_cell hV 5
  have f5 : w1.frozen? ⟨w.heap.size + 1, 5, none⟩ = false := blk_free hV 5
  have q6 : w1.cell? ⟨w.heap.size + 1, 6, none⟩ = some (.slice none 0 0) := blk_cell hV 6
  have f6 : w1.frozen? ⟨w.heap.size + 1, 6, none⟩ = false := blk_free hV 6
  have q7 : w1.cell? ⟨w.heap.size + 1, 7, none⟩ = some (.slice none 0 0) := blk_cell hV 7
  have f7 : w1.frozen? ⟨w.heap.size + 1, 7, none⟩ = false := blk_free hV 7
  clear hV hb1
  go_wp2
  refine bodyPost_ret (ret8 (t := 3) (m := w.heap.size + 1) Tryz.results75 _ _ _ _ _ _ _ _ _ (unhide HV) _ rfl) rfl ?_
  exact ⟨rfl, (unhide HB).trans ((unhide HU).below (by omega))⟩
set_option maxRecDepth 100000 in
set_option maxHeartbeats 1600000 in
theorem jnorm_num (ng ng' : Bool) (dg dg' : ByteArray) (ex ex' : Int) (hd : ∀ w, Calls Tryz.prog 56 #[dvv ng dg ex] w fun e w' => e = .returned (dvv ng' dg' ex') ∧ Below w.heap.size w w') (w : World) :
    Calls Tryz.prog 54 #[nv ng dg ex] w fun e w' => e = .returned (nv ng' dg' ex') ∧ Below w.heap.size w w' := by
  have HD := hide (fun cp w => norm1_num ng ng' dg dg' ex ex' hd cp w)
  clear hd
  unfold nv at *
  go_enter Tryz.func54, Tryz.ntmps54
  go_wp2_with fail
  refine (unhide HD _ _).mono ?_
  rintro e w1 ⟨rfl, hb1⟩
  clear HD
  have hV : V8 w1 (w.heap.size + 1) z8 := (hb1.block _ (by simp)).trans (by
    rw [Below.heap_alloc _ _ _ (by simp)]
    have := Array.getElem?_push_size (xs := (w.alloc (.cells (nC ng dg ex) 34)).heap) (x := (.cells z8 34 (0, 0) : Obj))
    rw [World.size_alloc] at this
    exact this)
  have HB := hide (((((Below.refl w.heap.size w).alloc (Nat.le_refl _) _).alloc (by simp) _).alloc (by simp; omega) _).trans (hb1.mono (by simp; omega)))
  have HV := hide (V8.put hV (.int .i64 2) (.bool false) (.bool ng') (.string dg') (.int .i64 ex') (.string ⟨#[]⟩) (.slice none 0 0) (.slice none 0 0))
  have HU := hide (put8_upd w1 (w.heap.size + 1) (.int .i64 2) (.bool false) (.bool ng') (.string dg') (.int .i64 ex') (.string ⟨#[]⟩) (.slice none 0 0) (.slice none 0 0))
  have q0 : w1.cell? ⟨w.heap.size + 1, 0, none⟩ = some (.int .i64 0) := blk_cell hV 0
  have f0 : w1.frozen? ⟨w.heap.size + 1, 0, none⟩ = false := blk_free hV 0
  have q1 : w1.cell? ⟨w.heap.size + 1, 1, none⟩ = some (.bool false) := blk_cell hV 1
  have f1 : w1.frozen? ⟨w.heap.size + 1, 1, none⟩ = false := blk_free hV 1
  have q2 : w1.cell? ⟨w.heap.size + 1, 2, none⟩ = some (.bool false) := blk_cell hV 2
  have f2 : w1.frozen? ⟨w.heap.size + 1, 2, none⟩ = false := blk_free hV 2
  have q3 : w1.cell? ⟨w.heap.size + 1, 3, none⟩ = some (.string ⟨#[]⟩) := blk_cell hV 3
  have f3 : w1.frozen? ⟨w.heap.size + 1, 3, none⟩ = false := blk_free hV 3
  have q4 : w1.cell? ⟨w.heap.size + 1, 4, none⟩ = some (.int .i64 0) := blk_cell hV 4
  have f4 : w1.frozen? ⟨w.heap.size + 1, 4, none⟩ = false := blk_free hV 4
  have q5 : w1.cell? ⟨w.heap.size + 1, 5, none⟩ = some (.string ⟨#[]⟩) := blk_cell hV 5
  have f5 : w1.frozen? ⟨w.heap.size + 1, 5, none⟩ = false := blk_free hV 5
  have q6 : w1.cell? ⟨w.heap.size + 1, 6, none⟩ = some (.slice none 0 0) := blk_cell hV 6
  have f6 : w1.frozen? ⟨w.heap.size + 1, 6, none⟩ = false := blk_free hV 6
  have q7 : w1.cell? ⟨w.heap.size + 1, 7, none⟩ = some (.slice none 0 0) := blk_cell hV 7
  have f7 : w1.frozen? ⟨w.heap.size + 1, 7, none⟩ = false := blk_free hV 7
  clear hV hb1
  go_wp2
  refine bodyPost_ret (ret8 (t := 2) (m := w.heap.size + 1) Tryz.results54 _ _ _ _ _ _ _ _ _ (unhide HV) _ rfl) rfl ?_
  exact ⟨rfl, (unhide HB).trans ((unhide HU).below (by omega))⟩
end Go.Proofs.YthpnclhfooileaaGreatDoor.ru
