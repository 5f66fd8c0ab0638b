/- Package rule: what Eval calls at the number 3. -/
import Derived.Test.YthpnclhfooileaaGreatDoorHh
import Derived.Test.YthpnclhfooileaaGreatDoorJs
import Derived.Test.YthpnclhfooileaaGreatDoorCp
import Derived.Conc.MuLone
import Derived.Laws.EntriesVeiled
namespace Go.Proofs.YthpnclhfooileaaGreatDoor.ru
open Go.RowKit

theorem cell_lt {w : World} {b o : Nat} {v : Value} (h : w.cell? ⟨b, o, none⟩ = some v) : b < w.heap.size := by
  rcases Nat.lt_or_ge b w.heap.size with q | q
  · exact q
  · simp [World.cell?, Array.getElem?_eq_none q] at h
def d3 : rd.Dn := ⟨false, ⟨#[51]⟩, 0⟩
theorem norm3 (w : World) : Calls Tryz.prog 56 #[dvv false ⟨#[51]⟩ 0] w fun e w' => e = .returned (dvv false ⟨#[51]⟩ 0) ∧ Below w.heap.size w w' := by
  have h := rd.norm_any d3 w (by decide) (by decide) (by decide)
  rw [show rd.norm d3 = d3 by kernel_rfl] at h
  exact h
theorem cmp3 (w : World) : Calls Tryz.prog 47 #[dvv false ⟨#[51]⟩ 0, dvv false ⟨#[51]⟩ 0] w fun e w' => e = .returned (.int .i64 0) ∧ Below w.heap.size w w' := by
  have h := rd.cmp_any d3 d3 w (by decide) (by decide) (by decide) (by decide) (by decide) (by decide)
  rw [show rd.norm d3 = d3 by kernel_rfl, show rd.decCmp d3 d3 = 0 by kernel_rfl] at h
  exact h
/-- The number 3 as a value. -/
def three : Value := .agg #[.int .i64 2, .bool false, .bool false, .string ⟨#[51]⟩, .int .i64 0, .string ⟨#[]⟩, .slice none 0 0, .slice none 0 0]

set_option maxRecDepth 100000 in
theorem is_num (b : Nat) (w : World) (h : w.cell? ⟨b, 0, none⟩ = some (.int .i64 2)) : Calls Tryz.prog 45 #[three, .pointer (some ⟨b, 0, none⟩)] w fun e w' => e = .returned (.bool true) ∧ Below w.heap.size w w' := by
  have hb := cell_lt h
  unfold three
  go_enter Tryz.func45, Tryz.ntmps45
  go_wp2
  go_ret
  exact ⟨rfl, (Below.refl _ _).alloc (Nat.le_refl _) _⟩
set_option maxRecDepth 100000 in
theorem order3 (w : World) : Calls Tryz.prog 24 #[three, three] w fun e w' => e = .returned (.int .i64 0) ∧ Below w.heap.size w w' := by
  have C := hide cmp3
  unfold dvv at C
  unfold three
  go_enter Tryz.func24, Tryz.ntmps24
  go_wp2_with fail
  refine (unhide C _).mono ?_
  rintro e w1 ⟨rfl, h1⟩
  have hb := two_below w (.cells #[.int .i64 2, .bool false, .bool false, .string ⟨#[51]⟩, .int .i64 0, .string ⟨#[]⟩, .slice none 0 0, .slice none 0 0] 34) (.cells #[.int .i64 2, .bool false, .bool false, .string ⟨#[51]⟩, .int .i64 0, .string ⟨#[]⟩, .slice none 0 0, .slice none 0 0] 34)
  have hB := hide (hb.trans (h1.mono hb.size))
  clear C h1 hb
  go_wp2
  go_ret
  exact ⟨rfl, unhide hB⟩
set_option maxRecDepth 100000 in
theorem equal3 (v : Value) (hv : ∃ f a c, v = .func f a c) (w : World) : Calls Tryz.prog 28 #[kindV v 24, three, three] w fun e w' => e = .returned (.bool true) ∧ Below w.heap.size w w' := by
  have C := hide order3
  obtain ⟨f, a, c, rfl⟩ := hv
  have hb : ∀ x y z : Obj, Below w.heap.size w (((w.alloc x).alloc y).alloc z) := fun x y z => (two_below w x y).alloc (by simp; omega) _
  have HB := hide hb
  clear hb
  unfold three at *
  unfold kindV pl
  go_enter Tryz.func28, Tryz.ntmps28
  go_wp2_with fail
  refine (unhide C _).mono ?_
  rintro e w1 ⟨rfl, h1⟩
  have hB := hide ((unhide HB _ _ _).trans (h1.mono (unhide HB _ _ _).size))
  clear C h1
  go_wp2
  go_ret
  exact ⟨rfl, unhide hB⟩
end Go.Proofs.YthpnclhfooileaaGreatDoor.ru
