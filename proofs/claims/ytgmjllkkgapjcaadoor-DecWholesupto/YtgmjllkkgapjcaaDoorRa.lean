/- The contracts of the reference's answer, and what its sums come to. -/
import Derived.Test.YtgmjllkkgapjcaaDoorRt
import Derived.Test.YtgmjllkkgapjcaaDoorRm
namespace Go.Proofs.YtgmjllkkgapjcaaDoor.rd
open Go.RowKit

/-- What answer answers. -/
def ansV (r : Dn × Bool) : Dn × Int := if r.2 then (r.1, 0) else (zed, 4)

theorem ret_answer {m : Nat} (w : World) (d : Dn) (c : Int) (h : DLies w m d) (tmps : Array Value) (ht : tmps.getD 6 undef = .pointer (some ⟨m, 0, none⟩)) (h3 : tmps.getD 7 undef = .int .i64 c) :
    (results Tryd.f57 tmps).run Tryd.prog w = .ok (.tuple #[dv d, .int .i64 c]) w := by
  obtain ⟨q0, q1, q2⟩ := h.cells
  rw [results_cell_tmp Tryd.results57, ht, h3]
  simp [go_sem, q0, q1, q2, dv]

set_option maxRecDepth 100000 in
set_option maxHeartbeats 1600000 in
theorem answer_any (neg : Bool) (v : Value) (zs : List Int) (ex : Int) (w : World) (hv : Ints w v zs) (hl : zs.length ≤ 1099511627776) (hd : Dig10 zs) (h0 : -9223372036854775808 ≤ ex) (h1 : ex ≤ 9223372036854775807) :
    Calls Tryd.prog 57 #[.bool neg, v, .int .i64 ex] w fun e w' => e = .returned (.tuple #[dv (ansV (tellV neg (valL zs) ex)).1, .int .i64 (ansV (tellV neg (valL zs) ex)).2]) ∧ Below w.heap.size w w' := by
  have c1 := fun w (h : Ints w v zs) => told_any neg v zs ex w h hl hd h0 h1
  rw [told_tellV neg ex hd] at c1
  generalize tellV neg (valL zs) ex = r at *
  obtain ⟨⟨dn, dd, de⟩, ok⟩ := r
  have C1 := hide c1
  have HI := hide hv
  clear c1 hv
  simp only [dv] at C1
  go_enter Tryd.func57, Tryd.ntmps57
  go_wp2_with fail
  refine (unhide C1 _ ((unhide HI).keep ((Below.refl _ _).alloc (Nat.le_refl _) _))).mono ?_
  rintro e w1 ⟨rfl, hb1⟩
  have l1 : DLies w1 w.heap.size zed := (dlies_new w zed).below hb1 (by simp)
  have hbb : Below w.heap.size w w1 := ((Below.refl _ _).alloc (Nat.le_refl _) _).trans (hb1.mono (by simp))
  have z1 : w.heap.size < w1.heap.size := blk_lt l1
  have hne : w1.heap.size ≠ w.heap.size := by omega
  obtain ⟨q0, q1, q2⟩ := l1.cells
  obtain ⟨f0, f1, f2⟩ := l1.frees
  simp only [zed] at q0 q1 q2
  clear hb1 C1 HI
  cases ok with
  | true =>
    go_wp2
    exact bodyPost_ret (ret_answer _ ⟨dn, dd, de⟩ 0 ((l1.set dn dd de).alloc _) _ rfl rfl) rfl ⟨rfl, below3a hbb (Nat.le_refl _) hbb.size _ _ _ _⟩
  | false =>
    go_wp2
    exact bodyPost_ret (ret_answer _ zed 4 ((l1.set _ _ _).alloc _) _ rfl rfl) rfl ⟨rfl, below3a hbb (Nat.le_refl _) hbb.size _ _ _ _⟩
end Go.Proofs.YtgmjllkkgapjcaaDoor.rd
