/- The reference of package stamp: number, is. -/
import Derived.Test.YtemcilikchlaiaaDoorKf
import Derived.Deep.Cut
namespace Go.Proofs.YtemcilikchlaiaaDoor.st
open Go.RowKit

theorem isI_at (s : ByteArray) (k : Nat) (c : UInt8) (h : k < s.size) : isI s k c = decide (s[k] = c) := by
  unfold isI
  have h2 : k < s.data.toList.length := by rw [Array.length_toList]; exact h
  rw [List.getElem?_eq_getElem h2]
  simp
  rfl
theorem isI_end (s : ByteArray) (k : Nat) (c : UInt8) (h : s.size ≤ k) : isI s k c = false := by
  unfold isI
  rw [List.getElem?_eq_none (by rw [Array.length_toList]; exact h)]
  simp
theorem byte_beq (a c : UInt8) : ((a.toNat : Int) == (c.toNat : Int)) = decide (a = c) := by
  by_cases h : a = c
  · subst h; simp
  · have : ¬ (a.toNat : Int) = (c.toNat : Int) := fun q => h (UInt8.toNat_inj.1 (by omega))
    rw [decide_eq_false h, beq_eq_false_iff_ne]
    exact this

set_option maxRecDepth 100000 in
set_option maxHeartbeats 1600000 in
theorem ris_any (s : ByteArray) (k : Nat) (c : UInt8) (ki ci : Int) (hk : ki = (k : Int)) (hc : ci = (c.toNat : Int)) (w : World) :
    Calls Tryd.prog 29 #[.string s, .int .i64 ki, .int .u8 ci] w fun e w' => e = .returned (.bool (isI s k c)) ∧ w' = w := by
  subst hk hc
  have hk0 : (0 : Int) ≤ (k : Int) := by omega
  by_cases h : k < s.size
  · have h' : (k : Int) < (s.size : Int) := by omega
    have hq := byte_beq s[k] c
    rw [isI_at s k c h, ← hq]
    clear hq
    go_enter Tryd.func29, Tryd.ntmps29
    go_wp2
    go_ret
    exact ⟨by simp, rfl⟩
  · have h' : ¬ (k : Int) < (s.size : Int) := by omega
    rw [isI_end s k c (by omega)]
    go_enter Tryd.func29, Tryd.ntmps29
    go_wp2
    go_ret
    exact ⟨rfl, rfl⟩

theorem numI_at (s : ByteArray) (c k acc : Nat) (h : k < s.size) : numI s (c + 1) k acc = if 48 ≤ s[k].toNat ∧ s[k].toNat ≤ 57 then numI s c (k + 1) (10 * acc + (s[k].toNat - 48)) else -1 := by
  conv => lhs; unfold numI
  have h2 : k < s.data.toList.length := by rw [Array.length_toList]; exact h
  rw [List.getElem?_eq_getElem h2]
  rfl
theorem numI_end (s : ByteArray) (c k acc : Nat) (h : s.size ≤ k) : numI s (c + 1) k acc = -1 := by
  unfold numI
  rw [List.getElem?_eq_none (by rw [Array.length_toList]; exact h)]

set_option maxRecDepth 100000 in
set_option maxHeartbeats 3200000 in
theorem rnumber_any (s : ByteArray) (i c : Nat) (fi ti : Int) (hf : fi = (i : Int)) (ht : ti = (i : Int) + (c : Int)) (hc : c ≤ 9) (hi : i ≤ 4611686018427387904) (w : World) :
    Calls Tryd.prog 28 #[.string s, .int .i64 fi, .int .i64 ti] w fun e w' => e = .returned (.int .i64 (numI s c i 0)) ∧ w' = w := by
  subst hf ht
  obtain ⟨res, hres⟩ : ∃ r, numI s c i 0 = r := ⟨_, rfl⟩
  have HR := hide hres
  rw [hres]
  clear hres
  go_enter Tryd.func28, Tryd.ntmps28
  go_wp2
  go_loop [7, 8] (fun n j => ∃ (k q acc : Nat), k + q = c ∧ j = .int .i64 ((i + k : Nat) : Int) ∧ n = .int .i64 (acc : Int) ∧ Hid (acc < 10 ^ k) ∧ Hid (numI s q (i + k) acc = res)) (fun _ j => i + c - (intOf j).toNat)
  case atStart => exact ⟨0, c, 0, by omega, rfl, rfl, by show (0 : Nat) < 10 ^ 0; decide, HR⟩
  case round =>
    clear HR
    obtain ⟨k, q, acc, hkq, rfl, rfl, hacc, hR⟩ := hrel
    have hp : acc < 1000000000 := Nat.lt_of_lt_of_le (unhide hacc) (by
      have := Nat.pow_le_pow_right (n := 10) (by omega) (show k ≤ 9 by omega)
      exact this)
    generalize hik : i + k = m at *
    have hm0 : (0 : Int) ≤ (m : Int) := by omega
    cases q with
    | zero =>
      have e1 : ¬ (m : Int) < (i : Int) + (c : Int) := by omega
      have HR := hide (show (acc : Int) = res from unhide hR)
      clear hR hacc hik hkq
      go_wp2
      go_ret
      exact ⟨by rw [← unhide HR]; rfl, rfl⟩
    | succ q =>
      have e1 : (m : Int) < (i : Int) + (c : Int) := by omega
      by_cases h : m < s.size
      · have h' : ¬ (s.size : Int) ≤ (m : Int) := by omega
        have h2' : (m : Int) < (s.size : Int) := by omega
        have hn := numI_at s q m acc h
        have hb := s[m].toNat_lt
        by_cases h1 : s[m].toNat < 48
        · have HR := hide (show (-1 : Int) = res by rw [← unhide hR, hn, if_neg (by omega)])
          have h1' : (s[m].toNat : Int) < 48 := by omega
          clear hR hn hacc hkq hb
          go_wp2
          go_ret
          exact ⟨by rw [← unhide HR]; rfl, rfl⟩
        · by_cases h2 : 57 < s[m].toNat
          · have HR := hide (show (-1 : Int) = res by rw [← unhide hR, hn, if_neg (by omega)])
            have h1' : ¬ (s[m].toNat : Int) < 48 := by omega
            have h3' : (57 : Int) < (s[m].toNat : Int) := by omega
            clear hR hn hacc hkq hb
            go_wp2
            go_ret
            exact ⟨by rw [← unhide HR]; rfl, rfl⟩
          · have HR := hide (show numI s q (m + 1) (10 * acc + (s[m].toNat - 48)) = res by rw [← unhide hR, hn, if_pos (by omega)])
            have h1' : ¬ (s[m].toNat : Int) < 48 := by omega
            have h3' : ¬ (57 : Int) < (s[m].toNat : Int) := by omega
            have hA := hide (show 10 * acc + (s[m].toNat - 48) < 10 ^ (k + 1) by rw [Nat.pow_succ]; have := unhide hacc; omega)
            clear hR hn hacc
            go_wp2
            refine ⟨⟨k + 1, q, 10 * acc + (s[m].toNat - 48), by omega, ?_, ?_, hA, ?_⟩, by simp [intOf]; omega⟩
            · congr 1; omega
            · congr 1; omega
            · have := unhide HR; rw [show i + (k + 1) = m + 1 by omega]; exact this
      · have h' : (s.size : Int) ≤ (m : Int) := by omega
        have HR := hide ((numI_end s q m acc (by omega)).symm.trans (unhide hR))
        clear hR hacc hkq
        go_wp2
        go_ret
        exact ⟨by rw [← unhide HR]; rfl, rfl⟩
/-- What Parse answers of a moment, or none. -/
def parV : Option (Int × Int) → Value
  | some p => .tuple #[iv p.1 p.2, .int .i64 0]
  | none => .tuple #[iv 0 0, .int .i64 13]
theorem ret_rparse {m : Nat} (w : World) (s n k : Int) (h : IL w m s n) (tmps : Array Value) (h2 : tmps.getD 2 undef = .pointer (some ⟨m, 0, none⟩)) (h3 : tmps.getD 3 undef = .int .i64 k) :
    (results Tryd.f11 tmps).run Tryd.prog w = .ok (.tuple #[iv s n, .int .i64 k]) w := by
  obtain ⟨q0, q1⟩ := h.cells
  rw [results_cell_tmp Tryd.results11, h2, h3]
  simp [go_sem, q0, q1, iv]
/-- Numbers and signs of day and time. -/
def headP (s : ByteArray) : Prop := (isI s 4 45 && isI s 7 45 && isI s 10 84 && isI s 13 58 && isI s 16 58) = true ∧ 0 ≤ numI s 4 0 0 ∧ 0 ≤ numI s 2 5 0 ∧ 0 ≤ numI s 2 8 0 ∧ 0 ≤ numI s 2 11 0 ∧ numI s 2 11 0 ≤ 23 ∧ 0 ≤ numI s 2 14 0 ∧ numI s 2 14 0 ≤ 59 ∧ 0 ≤ numI s 2 17 0 ∧ numI s 2 17 0 ≤ 59
theorem headP_of {s : ByteArray} (h : headI s) : headP s := by
  obtain ⟨⟨a1, a2, a3, a4, a5⟩, ⟨b1, b2⟩, c, d, e⟩ := h
  obtain ⟨m1, m2, m3, m4⟩ := b2
  unfold headP
  rw [a1, a2, a3, a4, a5]
  exact ⟨rfl, b1, by omega, by omega, c.1, c.2, d.1, d.2, e.1, e.2⟩

end Go.Proofs.YtemcilikchlaiaaDoor.st
