/- The reference's Crash, pure: bit after bit is turned. -/
import Derived.Test.YtbcclolhfogpnaaDoorYg
import Derived.Laws.BitsAllLaws
namespace Go.Proofs.YtbcclolhfogpnaaDoor.dk
open Go.RowKit mm

def bm (r : Nat) : UInt8 := UInt8.ofNat (128 / 2 ^ r)
def maskTo (a : Int) (t i k : Nat) : UInt8 := byteOf (fun j => bitOn a t (8 * k + j) && decide (8 * k + j < i))
def tearTo (a : Int) (t i : Nat) (l : List UInt8) : List UInt8 := l.mapIdx (fun k b => b ^^^ maskTo a t i k)
theorem byte_none : byteOf (fun _ => false) = 0 := by decide +kernel
theorem tearTo_len (a : Int) (t i : Nat) (l : List UInt8) : (tearTo a t i l).length = l.length := by unfold tearTo; simp
theorem tearTo_get (a : Int) (t i : Nat) (l : List UInt8) (k : Nat) : (tearTo a t i l)[k]? = l[k]?.map (fun b => b ^^^ maskTo a t i k) := by unfold tearTo; rw [List.getElem?_mapIdx]
theorem tearTo_zero (a : Int) (t : Nat) (l : List UInt8) : tearTo a t 0 l = l := by
  apply List.ext_getElem?
  intro k
  rw [tearTo_get]
  have : maskTo a t 0 k = 0 := by
    unfold maskTo
    rw [← byte_none]
    congr 1
    funext j
    simp
  rw [this]
  cases l[k]? with
  | none => rfl
  | some b => simp
theorem byteOf_congr {f g : Nat → Bool} (h : ∀ j, j < 8 → f j = g j) : byteOf f = byteOf g := by
  unfold byteOf
  rw [h 0 (by omega), h 1 (by omega), h 2 (by omega), h 3 (by omega), h 4 (by omega), h 5 (by omega), h 6 (by omega), h 7 (by omega)]
theorem tearTo_all (a : Int) (t i : Nat) (l : List UInt8) (h : 8 * l.length ≤ i) : tearTo a t i l = tear a t l := by
  apply List.ext_getElem?
  intro k
  rw [tearTo_get]
  unfold tear
  rw [List.getElem?_mapIdx]
  cases hk : l[k]? with
  | none => rfl
  | some b =>
    obtain ⟨hlt, _⟩ := List.getElem?_eq_some_iff.mp hk
    have : maskTo a t i k = mask a t k := byteOf_congr (fun j hj => by rw [decide_eq_true (by omega : 8 * k + j < i), Bool.and_true])
    rw [this]
theorem tearTo_off (a : Int) (t i : Nat) (l : List UInt8) (h : bitOn a t i = false) : tearTo a t (i + 1) l = tearTo a t i l := by
  apply List.ext_getElem?
  intro k
  rw [tearTo_get, tearTo_get]
  have : maskTo a t (i + 1) k = maskTo a t i k := byteOf_congr (fun j _ => by
    by_cases e : 8 * k + j = i
    · rw [e, h]; simp
    · congr 1
      by_cases q : 8 * k + j < i
      · rw [decide_eq_true q, decide_eq_true (by omega)]
      · rw [decide_eq_false q, decide_eq_false (by omega)])
  rw [this]
/-- One more bit of a byte. -/
theorem byte_on (f g : Nat → Bool) (q : Nat) (hq : q < 8) (hf : f q = false) (hg : g q = true) (h : ∀ j, j < 8 → j ≠ q → f j = g j) : byteOf g = byteOf f ^^^ bm q := by
  have hc : q = 0 ∨ q = 1 ∨ q = 2 ∨ q = 3 ∨ q = 4 ∨ q = 5 ∨ q = 6 ∨ q = 7 := by omega
  unfold byteOf
  rcases hc with rfl | rfl | rfl | rfl | rfl | rfl | rfl | rfl <;>
  · first | rw [hf, hg]
    try rw [h 0 (by omega) (by omega)]
    try rw [h 1 (by omega) (by omega)]
    try rw [h 2 (by omega) (by omega)]
    try rw [h 3 (by omega) (by omega)]
    try rw [h 4 (by omega) (by omega)]
    try rw [h 5 (by omega) (by omega)]
    try rw [h 6 (by omega) (by omega)]
    try rw [h 7 (by omega) (by omega)]
    generalize g 0 = b0
    generalize g 1 = b1
    generalize g 2 = b2
    generalize g 3 = b3
    generalize g 4 = b4
    generalize g 5 = b5
    generalize g 6 = b6
    generalize g 7 = b7
    clear hf hg h
    revert b0 b1 b2 b3 b4 b5 b6 b7
    decide +kernel
theorem tearTo_on (a : Int) (t i : Nat) (l : List UInt8) (h : bitOn a t i = true) (b : UInt8) (hb : (tearTo a t i l)[i / 8]? = some b) : tearTo a t (i + 1) l = (tearTo a t i l).set (i / 8) (b ^^^ bm (i % 8)) := by
  apply List.ext_getElem?
  intro k
  obtain ⟨hlt, _⟩ := List.getElem?_eq_some_iff.mp hb
  rw [List.getElem?_set]
  by_cases e : i / 8 = k
  · subst e
    rw [if_pos rfl, if_pos hlt]
    rw [tearTo_get] at hb ⊢
    cases hl : l[i / 8]? with
    | none => rw [hl] at hb; cases hb
    | some c =>
      rw [hl] at hb
      simp only [Option.map_some, Option.some.injEq] at hb ⊢
      rw [← hb, UInt8.xor_assoc]
      congr 1
      have hi : 8 * (i / 8) + i % 8 = i := by omega
      refine byte_on _ _ (i % 8) (Nat.mod_lt _ (by decide)) ?_ ?_ (fun j hj hne => ?_)
      · simp only [hi]; simp
      · simp only [hi, h]; simp
      · congr 1
        by_cases q : 8 * (i / 8) + j < i
        · rw [decide_eq_true q, decide_eq_true (by omega)]
        · rw [decide_eq_false q, decide_eq_false (by omega)]
  · rw [if_neg e, tearTo_get, tearTo_get]
    have : maskTo a t (i + 1) k = maskTo a t i k := byteOf_congr (fun j hj => by
      congr 1
      by_cases q : 8 * k + j < i
      · rw [decide_eq_true q, decide_eq_true (by omega)]
      · rw [decide_eq_false q, decide_eq_false (by omega)])
    rw [this]
theorem xor_bm (b : UInt8) (r : Nat) (h : r < 8) : Go.bits .xor .u8 (b.toNat : Int) (128 / 2 ^ r) = ((b ^^^ bm r).toNat : Int) := by
  have e : ((128 : Int) / 2 ^ r) = ((128 / 2 ^ r : Nat) : Int) := by
    have hc : r = 0 ∨ r = 1 ∨ r = 2 ∨ r = 3 ∨ r = 4 ∨ r = 5 ∨ r = 6 ∨ r = 7 := by omega
    rcases hc with rfl | rfl | rfl | rfl | rfl | rfl | rfl | rfl <;> decide
  have hlt : 128 / 2 ^ r < 256 := Nat.lt_of_le_of_lt (Nat.div_le_self _ _) (by decide)
  rw [e, u8_xor_nat _ _ b.toNat_lt hlt, UInt8.toNat_xor]
  unfold bm
  rw [UInt8.toNat_ofNat', Nat.mod_eq_of_lt (by simpa using hlt)]
end Go.Proofs.YtbcclolhfogpnaaDoor.dk
