/- The reference of package frame: four, number. -/
import Derived.Test.YtgafjbgplcjnnaaDoorGa
namespace Go.Proofs.YtgafjbgplcjnnaaDoor.fr
open Go.RowKit

theorem ext_nat (x : BitVec 32) (s : Nat) : (⟨x.extractLsb' s 8⟩ : UInt8).toNat = x.toNat / 2 ^ s % 256 := by
  show (x.extractLsb' s 8).toNat = _
  rw [BitVec.extractLsb'_toNat, Nat.shiftRight_eq_div_pow]
theorem u8_wrap (n : Nat) : IntKind.u8.wrap (n : Int) = ((n % 256 : Nat) : Int) := by
  rw [IntKind.wrap_u8]; omega
def fourCells (x : BitVec 32) : Array Value := ((four x).map vb).toArray

theorem fourCells_eq (x : BitVec 32) : fourCells x = #[.int .u8 ((x.toNat : Int) / 16777216), .int .u8 ((x.toNat : Int) / 65536 % 256), .int .u8 ((x.toNat : Int) / 256 % 256), .int .u8 ((x.toNat : Int) % 256)] := by
  have hx := x.isLt
  have e : fourCells x = #[vb ⟨x.extractLsb' 24 8⟩, vb ⟨x.extractLsb' 16 8⟩, vb ⟨x.extractLsb' 8 8⟩, vb ⟨x.extractLsb' 0 8⟩] := rfl
  rw [e]
  simp only [vb, ext_nat]
  congr 1
  simp only [List.cons.injEq, Value.int.injEq, true_and, and_true]
  refine ⟨?_, ?_, ?_, ?_⟩ <;> omega

set_option maxRecDepth 100000 in
set_option maxHeartbeats 1600000 in
theorem rfour_any (x : BitVec 32) (w : World) :
    Calls Tryd.prog 28 #[u32 x] w fun e w' => e = .returned (.slice (some ⟨w.heap.size, 0, none⟩) 4 4) ∧ w' = w.alloc (.cells (fourCells x) 5) := by
  have hx := x.isLt
  rw [fourCells_eq]
  simp only [u32]
  go_enter Tryd.func28, Tryd.ntmps28
  go_wp2
  go_ret
  exact ⟨rfl, rfl⟩

theorem num_nat (a b c d : UInt8) (r : List UInt8) : ((num (a :: b :: c :: d :: r)).toNat : Int) = (a.toNat : Int) * 16777216 + (b.toNat : Int) * 65536 + (c.toNat : Int) * 256 + (d.toNat : Int) := by
  have e : num (a :: b :: c :: d :: r) = (a.toBitVec ++ b.toBitVec ++ c.toBitVec ++ d.toBitVec : BitVec 32) := by
    show word (bits a ++ (bits b ++ (bits c ++ (bits d ++ [])))) = _
    apply BitVec.eq_of_getLsbD_eq
    intro i hi
    have h1 := word_at (bits a ++ (bits b ++ (bits c ++ (bits d ++ [])))) (31 - i) (by simp [bits_length]; omega) (by simp [bits_length])
    rw [show 31 - (31 - i) = i by omega] at h1
    rw [h1]
    have h8 : ∀ j : Nat, j < 32 → (bits a ++ (bits b ++ (bits c ++ (bits d ++ [])))).getD (31 - j) false = (a.toBitVec ++ b.toBitVec ++ c.toBitVec ++ d.toBitVec : BitVec 32).getLsbD j := by
      intro j hj
      simp only [BitVec.getLsbD_append]
      have : j ∈ List.range 32 := List.mem_range.mpr hj
      simp only [show List.range 32 = [0,1,2,3,4,5,6,7,8,9,10,11,12,13,14,15,16,17,18,19,20,21,22,23,24,25,26,27,28,29,30,31] from rfl, List.mem_cons, List.not_mem_nil, or_false] at this
      rcases this with rfl | rfl | rfl | rfl | rfl | rfl | rfl | rfl | rfl | rfl | rfl | rfl | rfl | rfl | rfl | rfl | rfl | rfl | rfl | rfl | rfl | rfl | rfl | rfl | rfl | rfl | rfl | rfl | rfl | rfl | rfl | rfl <;> rfl
    exact h8 i hi
  rw [e]
  simp only [BitVec.toNat_append]
  have ha := a.toNat_lt
  have hb := b.toNat_lt
  have hc := c.toNat_lt
  have hd := d.toNat_lt
  have or_add : ∀ (x y n : Nat), y < 2 ^ n → (x <<< n ||| y) = x * 2 ^ n + y := fun x y n h => by
    rw [← Nat.shiftLeft_add_eq_or_of_lt h, Nat.shiftLeft_eq]
  show ((((a.toNat <<< 8 ||| b.toNat) <<< 8 ||| c.toNat) <<< 8 ||| d.toNat : Nat) : Int) = _
  rw [or_add _ _ 8 hd, or_add _ _ 8 hc, or_add _ _ 8 hb]
  omega

set_option maxRecDepth 100000 in
set_option maxHeartbeats 1600000 in
theorem rnumber_any (l : List UInt8) (v : Value) (w : World) (h : BS w v l) (hl : 4 ≤ l.length) :
    Calls Tryd.prog 33 #[v] w fun e w' => e = .returned (u32 (num l)) ∧ ∃ n, w' = w.drewN n := by
  obtain ⟨oa, n, rfl, h1, h2, h3, h4⟩ := h
  match l, hl with
  | a :: b :: c :: d :: r, hl =>
    cases oa with
    | none => cases (h3 rfl).1
    | some ad =>
      have c0 : w.cell? ad = some (.int .u8 (a.toNat : Int)) := h4 ad rfl 0 a rfl
      have c1 : w.cell? ⟨ad.block, ad.off + 1, none⟩ = some (.int .u8 (b.toNat : Int)) := h4 ad rfl 1 b rfl
      have c2 : w.cell? ⟨ad.block, ad.off + 2, none⟩ = some (.int .u8 (c.toNat : Int)) := h4 ad rfl 2 c rfl
      have c3 : w.cell? ⟨ad.block, ad.off + 3, none⟩ = some (.int .u8 (d.toNat : Int)) := h4 ad rfl 3 d rfl
      have HN := hide (num_nat a b c d r)
      generalize num (a :: b :: c :: d :: r) = x at HN ⊢
      have ha := a.toNat_lt
      have hb := b.toNat_lt
      have hc := c.toNat_lt
      have hd := d.toNat_lt
      clear h3 h4
      generalize (a :: b :: c :: d :: r).length = m at *
      have i0 : (0 : Int) < (m : Int) := by omega
      have i1 : (1 : Int) < (m : Int) := by omega
      have i2 : (2 : Int) < (m : Int) := by omega
      have i3 : (3 : Int) < (m : Int) := by omega
      have n0 : 0 < m := by omega
      have n1 : 1 < m := by omega
      have n2 : 2 < m := by omega
      have n3 : 3 < m := by omega
      go_enter Tryd.func33, Tryd.ntmps33
      go_wp2
      go_quiet (fail)
      go_wp2
      go_ret
      refine ⟨?_, nq, rfl⟩
      show Ending.returned (.int .u32 _) = Ending.returned (.int .u32 _)
      rw [unhide HN]

end Go.Proofs.YtgafjbgplcjnnaaDoor.fr
