/- The landed package frame: sums by the table, numbers. -/
import Derived.Test.YtgafjbgplcjnnaaDoorEa
namespace Go.Proofs.YtgafjbgplcjnnaaDoor.fr
open Go.RowKit

/-- The table in memory. -/
def TB (w : World) (b : Nat) : Prop := ∀ i, i < 256 → w.cell? ⟨b, i, none⟩ = some (tv i)
theorem TB.keep {w w' : World} {b B : Nat} (h : TB w b) (hb : Below B w w') (hB : b < B) : TB w' b := fun i hi => by
  rw [hb.cell (p := ⟨b, i, none⟩) hB]; exact h i hi
theorem high8 (x : BitVec 32) : ∃ u : UInt8, (x.toNat : Int) / (16777216 : Int) = (u.toNat : Int) ∧ ∀ c : UInt8, BitVec.ofNat 32 (u ^^^ c).toNat = (x >>> 24) ^^^ c.toBitVec.setWidth 32 := by
  have hx := x.isLt
  refine ⟨⟨x.extractLsb' 24 8⟩, ?_, fun c => ?_⟩
  · rw [ext_nat]; omega
  · apply BitVec.eq_of_toNat_eq
    have e1 : ((⟨x.extractLsb' 24 8⟩ : UInt8) ^^^ c).toNat = (x.toNat / 2 ^ 24) ^^^ c.toNat := by
      rw [UInt8.toNat_xor, ext_nat, Nat.mod_eq_of_lt (by omega)]
    have e2 : (c.toBitVec.setWidth 32).toNat = c.toNat := by
      have := c.toNat_lt
      rw [BitVec.toNat_setWidth]
      show c.toNat % 2 ^ 32 = _
      omega
    have hl := ((⟨x.extractLsb' 24 8⟩ : UInt8) ^^^ c).toNat_lt
    rw [BitVec.toNat_xor, BitVec.toNat_ushiftRight, Nat.shiftRight_eq_div_pow, e2, ← e1, BitVec.toNat_ofNat]
    omega
theorem xor_8 (a b : UInt8) : Go.bits .xor .u8 (a.toNat : Int) (b.toNat : Int) = ((a ^^^ b).toNat : Int) := by
  show IntKind.u8.wrap ((BitVec.ofInt 8 (a.toNat : Int) ^^^ BitVec.ofInt 8 (b.toNat : Int)).toNat : Int) = _
  rw [ofInt8, ofInt8]
  have := (a ^^^ b).toNat_lt
  exact IntWalk.u8_in _ ⟨by omega, by show ((a ^^^ b).toNat : Int) ≤ 255; omega⟩
theorem shl_8 (x : BitVec 32) : (x.toNat : Int) * (256 : Int) % (4294967296 : Int) = ((x <<< 8).toNat : Int) := by
  rw [BitVec.toNat_shiftLeft, Nat.shiftLeft_eq]; omega

set_option maxRecDepth 100000 in
set_option maxHeartbeats 3200000 in
theorem tsum_any (b : Nat) (l : List UInt8) (v : Value) (w : World) (hT : TB w b) (h : BS w v l) :
    Calls Tryd.prog 26 #[.pointer (some ⟨b, 0, none⟩), v] w fun e w' => e = .returned (.int .u32 ((crc l).toNat : Int)) ∧ w' = w := by
  obtain ⟨oa, c, rfl, h1, h2, h3, h4⟩ := h
  have HR := hide (show crc l = ~~~ (run ones (bitsL l)) from rfl)
  generalize crc l = res at HR ⊢
  have HT := hide hT
  clear hT
  have H3 := hide h3
  have H4 := hide h4
  clear h3 h4
  go_enter Tryd.func26, Tryd.ntmps26
  go_wp2
  go_loopw [5, 10] (fun sv iv wr => ∃ (k : Nat) (x : BitVec 32), k ≤ l.length ∧ iv = .int .i64 (k : Int) ∧ sv = .int .u32 (x.toNat : Int) ∧ Hid (x = run ones (bitsL (l.take k))) ∧ wr = w) (fun _ iv _ => l.length - (intOf iv).toNat)
  case atStart => exact ⟨0, ones, by omega, rfl, rfl, rfl, rfl⟩
  case round =>
    obtain ⟨k, x, hk, rfl, rfl, hx, rfl⟩ := hrel
    by_cases hc : k < l.length
    · have e1 : (k : Int) < (l.length : Int) := by omega
      have e2 : (k : Int) < 9223372036854775807 := by unfold maxLen at h2; omega
      have hoa : ∃ a, oa = some a := by
        cases oa with
        | none => rw [(unhide H3 rfl).1] at hc; simp at hc
        | some a => exact ⟨a, rfl⟩
      obtain ⟨a, rfl⟩ := hoa
      obtain ⟨d, hd⟩ : ∃ d, l[k]? = some d := ⟨l[k], List.getElem?_eq_getElem hc⟩
      have hcell : wr.cell? (a.add k) = some (.int .u8 (d.toNat : Int)) := unhide H4 a rfl k d hd
      obtain ⟨u, hu, hu2⟩ := high8 x
      have HX := hide (show (x <<< 8) ^^^ tab (BitVec.ofNat 32 (u ^^^ d).toNat) = run ones (bitsL (l.take (k + 1))) by
        rw [List.take_add_one, hd, bitsL_append, run_append, ← unhide hx]
        show _ = run x (bitsL [d])
        rw [show bitsL [d] = bits d from by simp [bitsL], run_byte, hu2 d])
      have hxr := xor_8 u d
      have hul := u.toNat_lt
      have hyl := (u ^^^ d).toNat_lt
      have hc2 : wr.cell? ⟨b, (u ^^^ d).toNat, none⟩ = some (.int .u32 ((tab (BitVec.ofNat 32 (u ^^^ d).toNat)).toNat : Int)) := unhide HT _ hyl
      have HF := hide (xor_two (x <<< 8) (tab (BitVec.ofNat 32 (u ^^^ d).toNat)))
      rw [← shl_8] at HF
      generalize (x <<< 8) ^^^ tab (BitVec.ofNat 32 (u ^^^ d).toNat) = r at *
      generalize tab (BitVec.ofNat 32 (u ^^^ d).toNat) = z at *
      generalize (u ^^^ d) = y at *
      have hyi : (y.toNat : Int) < 256 := by omega
      have hm : (u.toNat : Int) % 256 = (u.toNat : Int) := by omega
      clear hd hu2 hx HR
      go_wp2
      refine ⟨⟨k + 1, r, by omega, by go_num, ?_, HX, trivial⟩, by simp [intOf]; omega⟩
      rw [unhide HF]
    · obtain rfl : k = l.length := by omega
      have hn : Go.bits .xor .u32 IntKind.u32.max (x.toNat : Int) = ((~~~ x).toNat : Int) := xor_not x
      have HZ := hide (show ~~~ x = res by rw [unhide HR, unhide hx, List.take_length])
      clear HR hx
      generalize ~~~ x = z at *
      go_wp2
      go_ret
      refine ⟨?_, rfl⟩
      rw [← unhide HZ]; rfl

theorem or_low (n : Nat) (b : UInt8) (h : n < 16777216) : Go.bits .or .u32 ((n : Int) * (256 : Int)) (b.toNat : Int) = ((n * 256 + b.toNat : Nat) : Int) := by
  have hb := b.toNat_lt
  have e1 : BitVec.ofInt 32 ((n : Int) * (256 : Int)) = BitVec.ofNat 32 (n * 256) := by
    apply BitVec.eq_of_toNat_eq
    rw [BitVec.toNat_ofInt, BitVec.toNat_ofNat]; omega
  have e2 : BitVec.ofInt 32 (b.toNat : Int) = BitVec.ofNat 32 b.toNat := by
    apply BitVec.eq_of_toNat_eq
    rw [BitVec.toNat_ofInt, BitVec.toNat_ofNat]; omega
  show IntKind.u32.wrap ((BitVec.ofInt 32 ((n : Int) * (256 : Int)) ||| BitVec.ofInt 32 (b.toNat : Int)).toNat : Int) = _
  rw [e1, e2, BitVec.toNat_or, BitVec.toNat_ofNat, BitVec.toNat_ofNat, Nat.mod_eq_of_lt (by omega), Nat.mod_eq_of_lt (by omega)]
  have e3 : (n * 256 ||| b.toNat) = n * 256 + b.toNat := by
    have := Nat.shiftLeft_add_eq_or_of_lt (show b.toNat < 2 ^ 8 by omega) n
    rw [Nat.shiftLeft_eq] at this
    exact this.symm
  rw [e3]
  exact IntWalk.u32_in _ ⟨by omega, by omega⟩
/-- The number that the first bytes tell. -/
def nv (l : List UInt8) : Nat → Nat
  | 0 => 0
  | k + 1 => nv l k * 256 + (l.getD k 0).toNat
theorem nv_lt (l : List UInt8) : ∀ k, nv l k < 256 ^ k
  | 0 => by simp [nv]
  | k + 1 => by
    have := nv_lt l k
    have hb := (l.getD k 0).toNat_lt
    rw [nv, Nat.pow_succ]; omega
theorem nv_four (l : List UInt8) (h : 4 ≤ l.length) : nv l 4 = (num l).toNat := by
  match l, h with
  | a :: b :: c :: d :: r, _ =>
    have := num_nat a b c d r
    simp only [nv, List.getD_cons_zero, List.getD_cons_succ] at this ⊢
    omega

set_option maxRecDepth 100000 in
set_option maxHeartbeats 3200000 in
theorem number_any (l : List UInt8) (v : Value) (w : World) (h : BS w v l) (hl : 4 ≤ l.length) :
    Calls Tryd.prog 32 #[v] w fun e w' => e = .returned (.int .u32 ((num l).toNat : Int)) ∧ w' = w := by
  obtain ⟨oa, c, rfl, h1, h2, h3, h4⟩ := h
  have HR := hide (nv_four l hl)
  generalize (num l).toNat = res at HR ⊢
  have hoa : ∃ a, oa = some a := by
    cases oa with
    | none => rw [(h3 rfl).1] at hl; simp at hl
    | some a => exact ⟨a, rfl⟩
  obtain ⟨a, rfl⟩ := hoa
  have H4 := hide (h4 a rfl)
  clear h3 h4
  go_enter Tryd.func32, Tryd.ntmps32
  go_wp2
  go_loopw [3, 5] (fun sv iv wr => ∃ (k n : Nat), k ≤ 4 ∧ iv = .int .i64 (k : Int) ∧ sv = .int .u32 (n : Int) ∧ Hid (n = nv l k) ∧ wr = w) (fun _ iv _ => 4 - (intOf iv).toNat)
  case atStart => exact ⟨0, 0, by omega, rfl, rfl, rfl, rfl⟩
  case round =>
    obtain ⟨k, n, hk, rfl, rfl, hn, rfl⟩ := hrel
    by_cases hc : k < 4
    · have e1 : (k : Int) < 4 := by omega
      have e3 : (k : Int) < (l.length : Int) := by omega
      have hcl : k < l.length := by omega
      obtain ⟨d, hd⟩ : ∃ d, l[k]? = some d := ⟨l[k], List.getElem?_eq_getElem (by omega)⟩
      have hcell : wr.cell? (a.add k) = some (.int .u8 (d.toNat : Int)) := unhide H4 k d hd
      have hnl : n < 16777216 := by
        rw [unhide hn]
        have h1 := nv_lt l k
        have : 256 ^ k ≤ 256 ^ 3 := Nat.pow_le_pow_right (by omega) (by omega)
        omega
      have HN := hide (show n * 256 + d.toNat = nv l (k + 1) by rw [nv, ← unhide hn, List.getD_eq_getElem?_getD, hd]; rfl)
      have hm : (n : Int) * 256 % 4294967296 = (n : Int) * 256 := by omega
      have hdl := d.toNat_lt
      have HO := hide (or_low n d hnl)
      have hm2 : (d.toNat : Int) % 4294967296 = (d.toNat : Int) := by omega
      clear hd hn HR
      go_wp2
      refine ⟨⟨k + 1, n * 256 + d.toNat, by omega, by go_num, ?_, HN, trivial⟩, by simp [intOf]; omega⟩
      rw [unhide HO]
    · obtain rfl : k = 4 := by omega
      have HZ := hide ((unhide hn).trans (unhide HR))
      clear HR hn
      go_wp2
      go_ret
      refine ⟨?_, rfl⟩
      rw [← unhide HZ]; rfl

end Go.Proofs.YtgafjbgplcjnnaaDoor.fr
