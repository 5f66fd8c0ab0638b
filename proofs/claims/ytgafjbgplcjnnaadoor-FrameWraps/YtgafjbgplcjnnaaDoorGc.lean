/- The reference of package frame: Whole. -/
import Derived.Test.YtgafjbgplcjnnaaDoorGb
namespace Go.Proofs.YtgafjbgplcjnnaaDoor.fr
open Go.RowKit

theorem cell_lt' {w : World} {a : Addr} {v : Value} (h : w.cell? a = some v) : a.block < w.heap.size := by
  rcases Nat.lt_or_ge a.block w.heap.size with h' | h'
  · exact h'
  · simp [World.cell?, Array.getElem?_eq_none h'] at h
theorem BS.drewN {w : World} {v : Value} {l : List UInt8} (h : BS w v l) (n : Nat) : BS (w.drewN n) v l := h
theorem BS.keep {w w' : World} {v : Value} {l : List UInt8} (h : BS w v l) (hb : Below w.heap.size w w') : BS w' v l := by
  obtain ⟨oa, c, rfl, h1, h2, h3, h4⟩ := h
  refine ⟨oa, c, rfl, h1, h2, h3, fun a ha j u hu => ?_⟩
  have := h4 a ha j u hu
  rw [hb.cell (cell_lt' this)]; exact this
theorem add_add (a : Addr) (n j : Nat) : (a.add n).add j = a.add (n + j) := by
  unfold Addr.add
  by_cases h : n = 0
  · subst h; simp
  · by_cases h2 : j = 0
    · subst h2; simp
    · simp [h, h2, Nat.add_assoc]
theorem cellsU : Tryd.prog.cellsOf 5 = 1 := by kernel_rfl
theorem size1 (u : World) : (sizeOf (Tryd.prog.elem 22)).run Tryd.prog u = .ok 1 u := by
  have e : Tryd.prog.elem 22 = 5 := by kernel_rfl
  rw [e]
  have h : Tryd.t5.size = 1 := by kernel_rfl
  simp [sizeOf, go_sem, h]
theorem undU : Tryd.prog.underlying 22 = some (.slice (Tryd.prog.elem 22)) := by kernel_rfl
theorem sliced_bs {w : World} {oa : Option Addr} {c : Nat} {l : List UInt8} (h1 : l.length ≤ c) (h2 : c ≤ maxLen) (h3 : oa = none → l = [] ∧ c = 0) (h4 : ∀ a, oa = some a → ∀ j u, l[j]? = some u → w.cell? (a.add j) = some (vb u))
    (lo hi : Nat) (h : lo ≤ hi) (h' : hi ≤ l.length) : BS w (sliced oa lo hi c 1) ((l.take hi).drop lo) := by
  have hl : ((l.take hi).drop lo).length = hi - lo := by rw [List.length_drop, List.length_take]; omega
  refine ⟨if c = lo then oa else oa.map (·.add (lo * 1)), c - lo, by rw [hl]; rfl, by omega, by omega, fun q => ?_, fun a ha j u hu => ?_⟩
  · have : oa = none := by
      split at q
      · exact q
      · simpa using q
    obtain ⟨z1, z2⟩ := h3 this
    rw [z1, z2]; simp
  · rw [List.getElem?_drop, List.getElem?_take] at hu
    split at hu
    · rename_i hj
      split at ha
      · omega
      · cases oa with
        | none => simp at ha
        | some b =>
          simp only [Option.map_some, Option.some.injEq, Nat.mul_one] at ha
          subst ha
          rw [add_add]
          exact h4 b rfl _ u hu
    · cases hu
theorem BS.lh {w : World} {v : Value} {l : List UInt8} (h : BS w v l) (lo hi : Nat) (h1 : lo ≤ hi) (h2 : hi ≤ l.length) (kl kh : Int) (el : kl = (lo : Int)) (eh : kh = (hi : Int)) :
    ∃ v', (∀ u : World, (Instr.slice 22 v (some (.int .i64 kl)) (some (.int .i64 kh)) none).run Tryd.prog u = .ok v' u) ∧ BS w v' ((l.take hi).drop lo) := by
  obtain ⟨oa, c, rfl, q1, q2, q3, q4⟩ := h
  refine ⟨sliced oa lo hi c 1, fun u => ?_, sliced_bs q1 q2 q3 q4 lo hi h1 h2⟩
  subst el eh
  rw [run_slice_lh (P := Tryd.prog) (ht := undU) (h0 := by omega) (h1 := by omega) (h2 := by omega), size1]
  rfl
theorem BS.h {w : World} {v : Value} {l : List UInt8} (h : BS w v l) (hi : Nat) (h2 : hi ≤ l.length) (kh : Int) (eh : kh = (hi : Int)) :
    ∃ v', (∀ u : World, (Instr.slice 22 v none (some (.int .i64 kh)) none).run Tryd.prog u = .ok v' u) ∧ BS w v' (l.take hi) := by
  obtain ⟨oa, c, rfl, q1, q2, q3, q4⟩ := h
  refine ⟨sliced oa 0 hi c 1, fun u => ?_, by have := sliced_bs q1 q2 q3 q4 0 hi (by omega) h2; rwa [List.drop_zero] at this⟩
  subst eh
  rw [run_slice_h (P := Tryd.prog) (ht := undU) (h0 := by omega) (h2 := by omega), size1]
  rfl
theorem BS.l {w : World} {v : Value} {l : List UInt8} (h : BS w v l) (lo : Nat) (h2 : lo ≤ l.length) (kl : Int) (el : kl = (lo : Int)) :
    ∃ v', (∀ u : World, (Instr.slice 22 v (some (.int .i64 kl)) none none).run Tryd.prog u = .ok v' u) ∧ BS w v' (l.drop lo) := by
  obtain ⟨oa, c, rfl, q1, q2, q3, q4⟩ := h
  refine ⟨sliced oa lo l.length c 1, fun u => ?_, by have := sliced_bs q1 q2 q3 q4 lo l.length h2 (Nat.le_refl _); rwa [List.take_length] at this⟩
  subst el
  rw [run_slice_l (P := Tryd.prog) (ht := undU) (h0 := by omega) (h1 := by omega), size1]
  rfl

end Go.Proofs.YtgafjbgplcjnnaaDoor.fr
