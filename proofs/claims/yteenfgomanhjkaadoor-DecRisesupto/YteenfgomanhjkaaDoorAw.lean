/- awake's contract: the two examples are answered as they must be. -/
import Derived.Test.YteenfgomanhjkaaDoorAd
namespace Go.Proofs.YteenfgomanhjkaaDoor.rd
open Go.RowKit

theorem parsed_awake (eN eX : Value) : parsed ⟨#[45, 49, 50, 46, 53, 48, 101, 49]⟩ eN eX = (dv ⟨true, ⟨#[49, 50, 53]⟩, 0⟩, .nilIface) := by kernel_rfl
theorem added_awake (eX : Value) : addSame (norm ⟨false, ⟨#[49, 48]⟩, -2⟩) (norm ⟨false, ⟨#[50]⟩, -1⟩) eX = (dv ⟨false, ⟨#[51]⟩, -1⟩, .nilIface) := by kernel_rfl

set_option maxRecDepth 100000 in
set_option maxHeartbeats 1600000 in
theorem awake_any (eN eX : Value) (w : World) (hg0 : 0 < w.heap.size) (hE0 : w.cell? ⟨0, 0, none⟩ = some eN)
    (hg1 : 1 < w.heap.size) (hE1 : w.cell? ⟨1, 0, none⟩ = some eX) :
    Calls Tryd.prog 4 #[] w fun e w' => e = .returned (.bool true) ∧ Below w.heap.size w w' := by
  have c1 := fun w h1 h2 h3 h4 => parse_any ⟨#[45, 49, 50, 46, 53, 48, 101, 49]⟩ eN eX w (by decide) h1 h2 h3 h4
  have c2 := fun w h1 h2 => add_same ⟨false, ⟨#[49, 48]⟩, -2⟩ ⟨false, ⟨#[50]⟩, -1⟩ eX w (by decide) (by decide) (by decide) (by decide) (by decide) (by decide) h1 h2 (by kernel_rfl)
  rw [parsed_awake] at c1
  rw [added_awake] at c2
  simp only [dv] at c1 c2
  have C1 := hide c1
  have C2 := hide c2
  clear c1 c2
  go_enter Tryd.func4, Tryd.ntmps4
  go_wp2_with fail
  refine (unhide C1 _ hg0 hE0 hg1 hE1).mono ?_
  rintro e w1 ⟨rfl, hb1⟩
  have z1 := hb1.size
  have g1 : 1 < w1.heap.size := by omega
  have e1 := keepC hb1 hE1
  simp only
  go_wp2_with fail
  refine (unhide C2 _ (by simp; omega) (by rw [World.cell?_alloc_past _ _ _ g1]; exact e1)).mono ?_
  rintro e w2 ⟨rfl, hb2⟩
  have l1 : DLies w2 w1.heap.size ⟨true, ⟨#[49, 50, 53]⟩, 0⟩ := (dlies_new w1 ⟨true, ⟨#[49, 50, 53]⟩, 0⟩).below hb2 (by simp)
  have q0 : w2.cell? ⟨w1.heap.size, 0, none⟩ = some (.bool true) := l1.cells.1
  have q1 : w2.cell? ⟨w1.heap.size, 1, none⟩ = some (.string ⟨#[49, 50, 53]⟩) := l1.cells.2.1
  have q2 : w2.cell? ⟨w1.heap.size, 2, none⟩ = some (.int .i64 0) := l1.cells.2.2
  have z2 : w1.heap.size < w2.heap.size := blk_lt l1
  have hbb : Below w.heap.size w w2 := (hb1.alloc z1 _).trans (hb2.mono (by simp; omega))
  simp only
  clear l1 hb1 hb2 C1 C2 hE0 hE1
  go_wp2
  go_ret
  exact ⟨rfl, hbb.alloc (by omega) _⟩
end Go.Proofs.YteenfgomanhjkaaDoor.rd
