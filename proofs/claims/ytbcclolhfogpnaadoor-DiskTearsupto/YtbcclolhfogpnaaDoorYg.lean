/- DiskTears, over the calls' contracts: the reference's Bit; bits of what is torn. -/
import Derived.Test.YtbcclolhfogpnaaDoorYe
namespace Go.Proofs.YtbcclolhfogpnaaDoor.dk
open Go.RowKit Go.Joins mm

/-- A bit of bytes, the highest of each first. -/
def bt (l : List UInt8) (i : Nat) : Nat := match l[i / 8]? with | some b => b.toNat / 2 ^ (7 - i % 8) % 2 | none => 0
set_option maxRecDepth 100000 in
set_option maxHeartbeats 1600000 in
theorem rbit_any (l : List UInt8) (v : Value) (w : World) (i : Nat) (h : BY w v l) (hi : i < 8 * l.length) :
    Calls Tryd.prog 20 #[v, .int .i64 (i : Int)] w fun e w' => e = .returned (.int .i64 (bt l i : Int)) ∧ w' = w := by
  obtain ⟨a, c, rfl, h1, h2, hcell⟩ := h.at (by omega)
  obtain ⟨b, hb⟩ : ∃ b, l[i / 8]? = some b := ⟨l[i / 8]'(by omega), List.getElem?_eq_getElem (by omega)⟩
  have hc := hcell (i / 8) b hb
  have HB : Hid (bt l i = b.toNat / 2 ^ (7 - i % 8) % 2) := by show _ = _; unfold bt; rw [hb]
  obtain ⟨q, hq⟩ : ∃ q, q = i / 8 := ⟨_, rfl⟩
  obtain ⟨r, hr⟩ : ∃ r, r = i % 8 := ⟨_, rfl⟩
  have hr7 : r ≤ 7 := by omega
  have t1 : wrap64 ((i : Int) / 8) = (q : Int) := by
    have : (i : Int) / 8 = (q : Int) := by omega
    rw [this]
    exact IntWalk.wrap64_in (q : Int) ⟨by omega, by unfold maxLen at h2; omega⟩
  have t2 : (i : Int) % 8 = (r : Int) := by omega
  have e1 : (q : Int) < (l.length : Int) := by omega
  have e2 : (0 : Int) ≤ 7 - (r : Int) := by omega
  rw [← hq] at hc
  rw [← hr] at HB
  have hbl := b.toNat_lt
  clear hcell hb h hq hr hi
  go_enter Tryd.func20, Tryd.ntmps20
  go_wp2
  go_ret
  refine ⟨?_, rfl⟩
  rw [unhide HB]
  show Ending.returned (.int .i64 (Int.tmod ((b.toNat : Int) / 2 ^ (7 - r)) 2)) = _
  congr 2

theorem byte_bit (f : Nat → Bool) (j : Nat) (hj : j < 8) : (byteOf f).toNat.testBit (7 - j) = f j := by
  unfold byteOf
  have hc : j = 0 ∨ j = 1 ∨ j = 2 ∨ j = 3 ∨ j = 4 ∨ j = 5 ∨ j = 6 ∨ j = 7 := by omega
  rcases hc with rfl | rfl | rfl | rfl | rfl | rfl | rfl | rfl <;>
  · generalize f 0 = b0
    generalize f 1 = b1
    generalize f 2 = b2
    generalize f 3 = b3
    generalize f 4 = b4
    generalize f 5 = b5
    generalize f 6 = b6
    generalize f 7 = b7
    revert b0 b1 b2 b3 b4 b5 b6 b7
    decide +kernel
theorem bt_test (l : List UInt8) (i : Nat) (b : UInt8) (h : l[i / 8]? = some b) : bt l i = (b.toNat.testBit (7 - i % 8)).toNat := by
  unfold bt
  rw [h]
  simp only
  rw [Nat.testBit_eq_decide_div_mod_eq]
  have : b.toNat / 2 ^ (7 - i % 8) % 2 < 2 := Nat.mod_lt _ (by decide)
  rcases (by omega : b.toNat / 2 ^ (7 - i % 8) % 2 = 0 ∨ b.toNat / 2 ^ (7 - i % 8) % 2 = 1) with e | e <;> rw [e] <;> rfl
/-- A bit ahead and behind: it differs just where it is turned. -/
theorem bt_tear (a : Int) (t : Nat) (l : List UInt8) (i : Nat) (h : i < 8 * l.length) : ∃ x y : Bool, bt l i = x.toNat ∧ bt (tear a t l) i = y.toNat ∧ (x ^^ y) = bitOn a t i := by
  obtain ⟨b, hb⟩ : ∃ b, l[i / 8]? = some b := ⟨l[i / 8]'(by omega), List.getElem?_eq_getElem (by omega)⟩
  have ht : (tear a t l)[i / 8]? = some (b ^^^ mask a t (i / 8)) := by
    unfold tear
    rw [List.getElem?_mapIdx, hb]
    rfl
  refine ⟨_, _, bt_test l i b hb, bt_test _ i _ ht, ?_⟩
  rw [UInt8.toNat_xor, Nat.testBit_xor]
  unfold mask
  rw [byte_bit _ (i % 8) (Nat.mod_lt _ (by decide))]
  have e : 8 * (i / 8) + i % 8 = i := by omega
  simp only [e]
  cases b.toNat.testBit (7 - i % 8) <;> cases bitOn a t i <;> rfl
theorem bt_take (l : List UInt8) (n i : Nat) (h : i < 8 * (l.take n).length) : bt l i = bt (l.take n) i := by
  unfold bt
  rw [List.length_take] at h
  rw [List.getElem?_take, if_pos (by omega)]
theorem test_toNat (t k : Nat) : (t.testBit k).toNat = t / 2 ^ k % 2 := by
  rw [Nat.testBit_eq_decide_div_mod_eq]
  have : t / 2 ^ k % 2 < 2 := Nat.mod_lt _ (by decide)
  rcases (by omega : t / 2 ^ k % 2 = 0 ∨ t / 2 ^ k % 2 = 1) with e | e <;> rw [e] <;> rfl
theorem bitOn_in (a : Int) (t i d : Nat) (h0 : 0 ≤ a) (h : (i : Int) - a = (d : Int)) (hd : d ≤ 31) : (bitOn a t i).toNat = t / 2 ^ (31 - d) % 2 := by
  unfold bitOn
  rw [decide_eq_true h0, decide_eq_true (by omega : a ≤ (i : Int)), decide_eq_true (by omega : (i : Int) - a ≤ 31), h]
  simp only [Bool.true_and, Int.toNat_natCast]
  exact test_toNat _ _
theorem bitOn_out (a : Int) (t i : Nat) (h : ¬ (0 ≤ a ∧ a ≤ (i : Int) ∧ (i : Int) - a ≤ 31)) : bitOn a t i = false := by
  unfold bitOn
  by_cases h1 : 0 ≤ a
  · by_cases h2 : a ≤ (i : Int)
    · rw [decide_eq_false (fun q => h ⟨h1, h2, q⟩)]; simp
    · rw [decide_eq_false h2]; simp
  · rw [decide_eq_false h1]; simp
theorem xor_bits (x y : Bool) : Go.bits .xor .i64 (x.toNat : Int) (y.toNat : Int) = ((x ^^ y).toNat : Int) := by
  cases x <;> cases y <;> decide +kernel
end Go.Proofs.YtbcclolhfogpnaaDoor.dk
