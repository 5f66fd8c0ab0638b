/- The reference of package frame: Sum. -/
import Derived.Test.YtgafjbgplcjnnaaDoorCf
import Derived.Test.YtgafjbgplcjnnaaDoorCe
import Derived.Test.YtgafjbgplcjnnaaDoorLb
import Derived.Test.YtgafjbgplcjnnaaDoorChecked
import Derived.WalkKit
import Derived.Deep.QuietTactic
import Derived.BigQuiet
import Derived.Outline
import Derived.WalkLawsBesides
import Derived.Lib.SmallJoins
import Derived.Deep.Cut
import Derived.Lib.ConvBytes
import Derived.Laws.OwnMore
namespace Go.Proofs.YtgafjbgplcjnnaaDoor.fr
open Go.RowKit

def vb (c : UInt8) : Value := .int .u8 (c.toNat : Int)
/-- A list of bytes in memory. -/
def BS (w : World) (v : Value) (l : List UInt8) : Prop :=
  ∃ oa c, v = .slice oa l.length c ∧ l.length ≤ c ∧ c ≤ maxLen ∧ (oa = none → l = [] ∧ c = 0) ∧ ∀ a, oa = some a → ∀ j u, l[j]? = some u → w.cell? (a.add j) = some (vb u)
def u32 (x : BitVec 32) : Value := .int .u32 (x.toNat : Int)

/-- A bit of a byte. -/
def bitAt (b : UInt8) (j : Nat) : Bool := b.toBitVec.getLsbD (7 - j)
theorem bits_at (b : UInt8) : ∀ j, j < 8 → (bits b)[j]? = some (bitAt b j) := by
  intro j hj
  have : j = 0 ∨ j = 1 ∨ j = 2 ∨ j = 3 ∨ j = 4 ∨ j = 5 ∨ j = 6 ∨ j = 7 := by omega
  rcases this with rfl | rfl | rfl | rfl | rfl | rfl | rfl | rfl <;> rfl
theorem two_pow (j : Nat) (hj : j < 8) : BitVec.ofInt 8 ((128 / 2 ^ j : Nat) : Int) = BitVec.twoPow 8 (7 - j) := by
  have : j = 0 ∨ j = 1 ∨ j = 2 ∨ j = 3 ∨ j = 4 ∨ j = 5 ∨ j = 6 ∨ j = 7 := by omega
  rcases this with rfl | rfl | rfl | rfl | rfl | rfl | rfl | rfl <;> decide
theorem two_nat (j : Nat) (hj : j < 8) : (BitVec.twoPow 8 (7 - j)).toNat = 128 / 2 ^ j ∧ 0 < 128 / 2 ^ j ∧ 128 / 2 ^ j ≤ 128 := by
  have : j = 0 ∨ j = 1 ∨ j = 2 ∨ j = 3 ∨ j = 4 ∨ j = 5 ∨ j = 6 ∨ j = 7 := by omega
  rcases this with rfl | rfl | rfl | rfl | rfl | rfl | rfl | rfl <;> decide
theorem ofInt8 (b : UInt8) : BitVec.ofInt 8 (b.toNat : Int) = b.toBitVec := by
  apply BitVec.eq_of_toNat_eq
  rw [BitVec.toNat_ofInt]
  have := b.toNat_lt
  have e : b.toBitVec.toNat = b.toNat := rfl
  rw [e]
  omega
theorem ofInt32 (x : BitVec 32) : BitVec.ofInt 32 (x.toNat : Int) = x := by
  apply BitVec.eq_of_toNat_eq
  rw [BitVec.toNat_ofInt]
  have := x.isLt
  omega
theorem and_bit (b : UInt8) (j : Nat) (hj : j < 8) : Go.bits .and .u8 (b.toNat : Int) ((128 / 2 ^ j : Nat) : Int) = if bitAt b j then ((128 / 2 ^ j : Nat) : Int) else 0 := by
  obtain ⟨t1, t2, t3⟩ := two_nat j hj
  show IntKind.u8.wrap ((BitVec.ofInt 8 (b.toNat : Int) &&& BitVec.ofInt 8 ((128 / 2 ^ j : Nat) : Int)).toNat : Int) = _
  rw [ofInt8, two_pow j hj, BitVec.and_twoPow]
  unfold bitAt
  split
  · rw [t1]; exact IntWalk.u8_in _ ⟨by omega, by omega⟩
  · rfl
theorem wrap_mul (x : BitVec 32) : IntKind.u32.wrap ((x.toNat : Int) * 2) = ((x <<< 1).toNat : Int) := by
  rw [BitVec.toNat_shiftLeft, Nat.shiftLeft_eq]
  simp [IntKind.wrap, IntKind.signed, IntKind.bits]
theorem xor_pol (x : BitVec 32) : Go.bits .xor .u32 (x.toNat : Int) 79764919 = ((x ^^^ pol).toNat : Int) := by
  show IntKind.u32.wrap ((BitVec.ofInt 32 (x.toNat : Int) ^^^ BitVec.ofInt 32 79764919).toNat : Int) = _
  rw [ofInt32]
  have e : BitVec.ofInt 32 79764919 = pol := by decide
  rw [e]
  have := (x ^^^ pol).isLt
  exact IntWalk.u32_in _ ⟨by omega, by omega⟩
theorem xor_not (x : BitVec 32) : Go.bits .xor .u32 4294967295 (x.toNat : Int) = ((~~~ x).toNat : Int) := by
  show IntKind.u32.wrap ((BitVec.ofInt 32 4294967295 ^^^ BitVec.ofInt 32 (x.toNat : Int)).toNat : Int) = _
  rw [ofInt32]
  have e : BitVec.ofInt 32 4294967295 = BitVec.allOnes 32 := by decide
  rw [e, BitVec.xor_comm, BitVec.xor_allOnes]
  have := (~~~ x).isLt
  exact IntWalk.u32_in _ ⟨by omega, by omega⟩
theorem bt_eq (x : BitVec 32) (b : Bool) : bt x b = if (x.msb != b) then (x <<< 1) ^^^ pol else x <<< 1 := by
  unfold bt t0
  have h1 : (x ^^^ hi b) <<< 1 = x <<< 1 := by
    rw [BitVec.shiftLeft_xor_distrib]
    have : hi b <<< 1 = 0#32 := by cases b <;> decide
    rw [this, BitVec.xor_zero]
  have h2 : (x ^^^ hi b).msb = (x.msb != b) := by
    rw [BitVec.msb_xor]
    have : (hi b).msb = b := by cases b <;> decide
    rw [this]
  rw [h1, h2]
  split <;> simp

theorem sum_round (x0 : BitVec 32) (b : UInt8) (j : Nat) (hj : j < 8) : run x0 ((bits b).take (j + 1)) = bt (run x0 ((bits b).take j)) (bitAt b j) := by
  rw [List.take_add_one, bits_at b j hj, run_append]
  rfl
theorem msb_iff (x : BitVec 32) : x.msb = decide (2147483648 ≤ x.toNat) := by
  rw [BitVec.msb_eq_decide]

set_option maxRecDepth 100000 in
set_option maxHeartbeats 3200000 in
theorem rsum_any (l : List UInt8) (v : Value) (w : World) (h : BS w v l) :
    Calls Tryd.prog 14 #[v] w fun e w' => e = .returned (u32 (crc l)) ∧ w' = w := by
  obtain ⟨oa, c, rfl, h1, h2, h3, h4⟩ := h
  have HR := hide (show crc l = ~~~ (run ones (bitsL l)) from rfl)
  generalize crc l = res at HR ⊢
  go_enter Tryd.func14, Tryd.ntmps14
  go_wp2
  go_loopw [3, 4] (fun sv iv wr => ∃ (k : Nat) (x : BitVec 32), k ≤ l.length ∧ iv = .int .i64 (k : Int) ∧ sv = .int .u32 (x.toNat : Int) ∧ Hid (x = run ones (bitsL (l.take k))) ∧ wr = w) (fun _ iv _ => l.length - (intOf iv).toNat)
  case atStart => exact ⟨0, ones, by omega, rfl, rfl, rfl, rfl⟩
  case round =>
    obtain ⟨k, x0, hk, rfl, rfl, hx, rfl⟩ := hrel
    by_cases hc : k < l.length
    · have e1 : (k : Int) < (l.length : Int) := by omega
      have e2 : (k : Int) < 9223372036854775807 := by unfold maxLen at h2; omega
      have hoa : ∃ a, oa = some a := by
        cases oa with
        | none => rw [(h3 rfl).1] at hc; simp at hc
        | some a => exact ⟨a, rfl⟩
      obtain ⟨a, rfl⟩ := hoa
      obtain ⟨b, hb⟩ : ∃ b, l[k]? = some b := ⟨l[k], List.getElem?_eq_getElem hc⟩
      have hcell : wr.cell? (a.add k) = some (.int .u8 (b.toNat : Int)) := h4 a rfl k b hb
      have HX := hide (show run x0 (bits b) = run ones (bitsL (l.take (k + 1))) by
        rw [unhide hx, ← run_append, List.take_add_one, hb, bitsL_append]; simp [bitsL])
      clear h3 h4 hx HR
      go_wp2
      go_loopw [3, 5] (fun sv bv wr' => ∃ (j : Nat) (x : BitVec 32), j ≤ 8 ∧ bv = .int .u8 ((128 / 2 ^ j : Nat) : Int) ∧ sv = .int .u32 (x.toNat : Int) ∧ Hid (x = run x0 ((bits b).take j)) ∧ wr' = wr) (fun _ bv _ => (intOf bv).toNat)
      case atStart => exact ⟨0, x0, by omega, rfl, rfl, rfl, rfl⟩
      case round =>
        obtain ⟨j, x, hj, rfl, rfl, hxj, rfl⟩ := hrel
        by_cases hj8 : j < 8
        · obtain ⟨t1, t2, t3⟩ := two_nat j hj8
          have ha := and_bit b j hj8
          have hm := wrap_mul x
          have hp := xor_pol (x <<< 1)
          have HN := hide (bt_eq x (bitAt b j))
          have HS := hide (sum_round x0 b j hj8)
          have hd2 : Hid (128 / 2 ^ (j + 1) = 128 / 2 ^ j / 2) := by rw [Nat.div_div_eq_div_mul, ← Nat.pow_succ]; exact rfl
          have HM := hide (msb_iff x)
          clear t1
          have hyl := (x <<< 1).isLt
          have hzl := (x <<< 1 ^^^ pol).isLt
          generalize x <<< 1 ^^^ pol = z at *
          generalize x <<< 1 = y at *
          generalize 128 / 2 ^ j = d at *
          have d1 : (0 : Int) < (d : Int) := by omega
          have d2 : ((d : Int) == 0) = false := by rw [beq_eq_false_iff_ne]; omega
          generalize hbj : bitAt b j = bj at *
          have d3 : ((d : Int) != 0) = true := by rw [bne_iff_ne]; omega
          by_cases q : (2147483648 : Int) ≤ (x.toNat : Int)
          · have hmsb := hide (show x.msb = true by rw [unhide HM]; exact decide_eq_true (by omega))
            clear HM
            cases bj with
            | true =>
              rw [if_pos rfl] at ha
              go_wp2
              refine ⟨⟨j + 1, y, by omega, by rw [unhide hd2]; go_num, rfl, ?_, trivial⟩, by simp [intOf]; omega⟩
              show y = _
              rw [unhide HS, ← unhide hxj, unhide HN, unhide hmsb]
              rfl
            | false =>
              rw [if_neg Bool.false_ne_true] at ha
              go_wp2
              refine ⟨⟨j + 1, z, by omega, by rw [unhide hd2]; go_num, rfl, ?_, trivial⟩, by simp [intOf]; omega⟩
              show z = _
              rw [unhide HS, ← unhide hxj, unhide HN, unhide hmsb]
              rfl
          · have hmsb := hide (show x.msb = false by rw [unhide HM]; exact decide_eq_false (by omega))
            clear HM
            cases bj with
            | true =>
              rw [if_pos rfl] at ha
              go_wp2
              refine ⟨⟨j + 1, z, by omega, by rw [unhide hd2]; go_num, rfl, ?_, trivial⟩, by simp [intOf]; omega⟩
              show z = _
              rw [unhide HS, ← unhide hxj, unhide HN, unhide hmsb]
              rfl
            | false =>
              rw [if_neg Bool.false_ne_true] at ha
              go_wp2
              refine ⟨⟨j + 1, y, by omega, by rw [unhide hd2]; go_num, rfl, ?_, trivial⟩, by simp [intOf]; omega⟩
              show y = _
              rw [unhide HS, ← unhide hxj, unhide HN, unhide hmsb]
              rfl
        · obtain rfl : j = 8 := by omega
          have HX2 := hide (show x = run ones (bitsL (l.take (k + 1))) by rw [← unhide HX, unhide hxj]; rfl)
          clear HX hxj
          go_wp2
          exact ⟨⟨k + 1, x, by omega, by go_num, rfl, HX2, trivial⟩, by simp [intOf]; omega⟩
    · obtain rfl : k = l.length := by omega
      have hn : Go.bits .xor .u32 IntKind.u32.max (x0.toNat : Int) = ((~~~ x0).toNat : Int) := xor_not x0
      have HZ := hide (show ~~~ x0 = res by rw [unhide HR, unhide hx, List.take_length])
      clear HR hx h3 h4
      generalize ~~~ x0 = z at *
      go_wp2
      go_ret
      refine ⟨?_, rfl⟩
      rw [← unhide HZ]; rfl

end Go.Proofs.YtgafjbgplcjnnaaDoor.fr
