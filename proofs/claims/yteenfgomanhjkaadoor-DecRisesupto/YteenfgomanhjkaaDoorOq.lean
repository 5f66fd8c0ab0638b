/- What DecOrder asks of Cmp, Add and Floor, by values: no program in it. -/
import Derived.Test.YteenfgomanhjkaaDoorSx
namespace Go.Proofs.YteenfgomanhjkaaDoor.rd
open Go.RowKit

theorem refCmp_in (p q : Dn) (hp : Whole1 p) (hq : Whole1 q) : refCmp p q = -1 ∨ refCmp p q = 0 ∨ refCmp p q = 1 := by
  rw [← cmp_eq p q hp hq]
  unfold decCmp
  split
  · exact .inl rfl
  · split
    · exact .inr (.inr rfl)
    · split
      · exact cmpS_bd _ _
      · exact cmpS_bd _ _
/-- Cmp of two pairs is the same where their sizes stand to each other in the same way. -/
theorem refCmp_alike {p q r s : Dn} (hp : Whole1 p) (hq : Whole1 q) (hr : Whole1 r) (hs : Whole1 s) (h1 : sR p < sR q ↔ sR r < sR s) (h2 : sR q < sR p ↔ sR s < sR r) : refCmp p q = refCmp r s := by
  have a1 := refCmp_lt p q hp hq
  have a2 := refCmp_gt p q hp hq
  have b1 := refCmp_lt r s hr hs
  have b2 := refCmp_gt r s hr hs
  have c1 := refCmp_in p q hp hq
  have c2 := refCmp_in r s hr hs
  rw [← a1, ← b1] at h1
  rw [← a2, ← b2] at h2
  omega
theorem refCmp_zero (p q : Dn) (hp : Whole1 p) (hq : Whole1 q) : refCmp p q = 0 ↔ p = q := by
  constructor
  · intro h
    have a1 := refCmp_lt p q hp hq
    have a2 := refCmp_gt p q hp hq
    exact sR_inj hp hq (by omega)
  · rintro rfl; exact refCmp_self p hp
theorem refCmp_trans (p q r : Dn) (hp : Whole1 p) (hq : Whole1 q) (hr : Whole1 r) (h1 : refCmp p q ≤ 0) (h2 : refCmp q r ≤ 0) : ¬ 0 < refCmp p r := by
  have a1 := refCmp_gt p q hp hq
  have a2 := refCmp_gt q r hq hr
  have a3 := refCmp_gt p r hp hr
  omega
theorem refCmp_add (p q s : Dn) (hp : Whole1 p) (hq : Whole1 q) (h : addV p q = (s, true)) : refCmp s p = refCmp q zed := by
  obtain ⟨h1, h2⟩ := addV_exact h
  apply refCmp_alike h1 hp hq (.inl rfl)
  · rw [h2, sR_zed]; omega
  · rw [h2, sR_zed]; omega

theorem Formed.last {n : Dn} (h : Formed n) : valB n.dg % 10 ≠ 0 := by
  unfold valB
  have hla := h.la
  have hd := h.dig
  have hne := h.ne
  unfold AllDig at hd
  rw [← List.head?_reverse] at hla
  cases hx : n.dg.data.toList.reverse with
  | nil => rw [List.reverse_eq_nil_iff] at hx; exact absurd hx hne
  | cons a r =>
    rw [hx] at hla
    have e : n.dg.data.toList = r.reverse ++ [a] := by
      have := congrArg List.reverse hx
      rw [List.reverse_reverse, List.reverse_cons] at this
      exact this
    have ha : nu.dig a = true := hd a (by rw [e]; simp)
    have h1 := fz_pos a ha (hla a rfl)
    have h2 := fz_bd ha
    rw [e, valM_append, valM_one]
    simp only [List.length_cons, List.length_nil]
    omega
/-- Floor lies where it must. -/
theorem flo_bounds (n : Dn) (h : Whole1 n) : floorI n * 10 ^ 9999 ≤ sR n ∧ sR n < (floorI n + 1) * 10 ^ 9999 := by
  have t0 : (0 : Int) < 10 ^ 9999 := Int.pow_pos (by omega)
  rcases Int.lt_or_le n.ex 0 with hx | hx
  · rcases h with rfl | h
    · exact absurd hx (by decide)
    · have e0 := h.e0
      have hl := h.last
      have hp := h.valpos
      obtain ⟨k, hk⟩ : ∃ k : Nat, (-n.ex).toNat = k + 1 := ⟨(-n.ex).toNat - 1, by omega⟩
      have hsp : (10 : Int) ^ 9999 = 10 ^ (k + 1) * 10 ^ (n.ex + 9999).toNat := by
        rw [← Int.pow_add]; congr 1; omega
      have u0 : (0 : Int) < 10 ^ (n.ex + 9999).toNat := Int.pow_pos (by omega)
      have v0 : (0 : Int) < 10 ^ (k + 1) := Int.pow_pos (by omega)
      have hw : wsize n = valB n.dg / 10 ^ (k + 1) := by unfold wsize; rw [if_pos hx, hk]
      have hm : 0 < valB n.dg % 10 ^ (k + 1) := by
        have h1 := Int.emod_nonneg (valB n.dg) (show (10 : Int) ^ (k + 1) ≠ 0 by omega)
        rcases Int.lt_or_le 0 (valB n.dg % 10 ^ (k + 1)) with q | q
        · exact q
        · exfalso
          have h2 : valB n.dg % 10 ^ (k + 1) = 0 := by omega
          have h3 : (10 : Int) ^ (k + 1) = 10 ^ k * 10 := Int.pow_succ ..
          have h4 := Int.mul_ediv_add_emod (valB n.dg) (10 ^ (k + 1))
          rw [h2, Int.add_zero, h3] at h4
          have h5 : 10 ^ k * 10 * (valB n.dg / (10 ^ k * 10)) = 10 * (10 ^ k * (valB n.dg / (10 ^ k * 10))) := by grind
          rw [h5] at h4
          omega
      have hm2 := Int.emod_lt_of_pos (valB n.dg) v0
      have hdm := Int.mul_ediv_add_emod (valB n.dg) (10 ^ (k + 1))
      rw [← hw] at hdm
      have hb : bump n = if n.neg = true then wsize n + 1 else wsize n := by
        unfold bump
        cases n.neg <;> simp [hx]
      have hsR : sR n = (if n.neg then -1 else 1) * (valB n.dg * 10 ^ (n.ex + 9999).toNat) := rfl
      unfold floorI
      rw [hb, hsR, hsp]
      generalize (10 : Int) ^ (k + 1) = v at *
      generalize (10 : Int) ^ (n.ex + 9999).toNat = u at *
      generalize wsize n = q at *
      generalize valB n.dg % v = m at *
      generalize valB n.dg = D at *
      have m1 : 0 < m * u := Int.mul_pos hm u0
      have m2 : m * u < v * u := Int.mul_lt_mul_of_pos_right hm2 u0
      have e1 : D * u = q * (v * u) + m * u := by rw [← hdm]; grind
      cases n.neg
      · simp only [Bool.false_eq_true, if_false, Int.one_mul]
        have e2 : (q + 1) * (v * u) = q * (v * u) + v * u := by grind
        omega
      · simp only [if_true]
        have e2 : -(q + 1) * (v * u) = - (q * (v * u)) - v * u := by grind
        have e3 : (-(q + 1) + 1) * (v * u) = - (q * (v * u)) := by grind
        omega
  · have hb : bump n = wsize n := if_neg (fun q => by have := q.2; omega)
    have e : floorI n = sgn n.neg (wsize n) := by unfold floorI sgn; rw [hb]
    rw [e, sR_whole n hx]
    generalize sgn n.neg (wsize n) = f
    have e2 : (f + 1) * 10 ^ 9999 = f * 10 ^ 9999 + 10 ^ 9999 := by rw [Int.add_mul, Int.one_mul]
    omega
/-- Where Floor tells nothing the number lies beyond int64. -/
theorem flo_none (n : Dn) (h : Whole1 n) (v : Int) (hf : flo n = (v, false)) : v = 0 ∧ (sR n < -9223372036854775808 * 10 ^ 9999 ∨ 9223372036854775807 * 10 ^ 9999 < sR n) := by
  obtain ⟨b1, b2⟩ := flo_bounds n h
  unfold flo fitI at hf
  split at hf
  · simp at hf
  · rename_i hr
    simp only [Prod.mk.injEq, and_true] at hf
    refine ⟨hf.symm, ?_⟩
    have t0 : (0 : Int) < 10 ^ 9999 := Int.pow_pos (by omega)
    rcases Int.lt_or_le (floorI n) (-9223372036854775808) with q | q
    · left
      have : (floorI n + 1) * 10 ^ 9999 ≤ -9223372036854775808 * 10 ^ 9999 := Int.mul_le_mul_of_nonneg_right (by omega) (Int.le_of_lt t0)
      omega
    · right
      have : (9223372036854775807 + 1) * 10 ^ 9999 ≤ floorI n * 10 ^ 9999 := Int.mul_le_mul_of_nonneg_right (by omega) (Int.le_of_lt t0)
      have e : (9223372036854775807 + 1 : Int) * 10 ^ 9999 = 9223372036854775807 * 10 ^ 9999 + 10 ^ 9999 := by rw [Int.add_mul, Int.one_mul]
      omega
theorem flo_some (n : Dn) (h : Whole1 n) (v : Int) (hf : flo n = (v, true)) : -9223372036854775808 ≤ v ∧ v ≤ 9223372036854775807 ∧ v * 10 ^ 9999 ≤ sR n ∧ sR n < (v + 1) * 10 ^ 9999 := by
  obtain ⟨b1, b2⟩ := flo_bounds n h
  unfold flo fitI at hf
  split at hf
  · rename_i hr
    simp only [Prod.mk.injEq, and_true] at hf
    subst hf
    exact ⟨hr.1, hr.2, b1, b2⟩
  · simp at hf
/-- The next whole number is told. -/
theorem add_next (v : Int) (h0 : -9223372036854775808 ≤ v) (h1 : v ≤ 9223372036854775807) : ∃ r, addV (ofN v) oneD = (r, true) ∧ Whole1 r ∧ sR r = (v + 1) * 10 ^ 9999 ∧ r.dg.size ≤ 20 := by
  obtain ⟨a1, a2, _⟩ := of_exact v h0 h1
  have e1 : sR oneD = 1 * 10 ^ 9999 := by
    have := (of_exact 1 (by omega) (by omega)).2.1
    rw [of_one] at this
    exact this
  have es : sR (ofN v) + sR oneD = (v + 1) * 10 ^ 9999 := by rw [a2, e1, ← Int.add_mul]
  have key : ∀ r, Whole1 r → sR r = (v + 1) * 10 ^ 9999 → addV (ofN v) oneD = (r, true) := fun r hr hs => by
    unfold addV
    rw [es, ← hs]
    exact of_sR hr
  rcases Int.lt_or_le v 9223372036854775807 with q | q
  · obtain ⟨b1, b2, _⟩ := of_exact (v + 1) (by omega) (by omega)
    exact ⟨_, key _ b1 b2, b1, b2, (ofN_size (v + 1) (by omega) (by omega)).1⟩
  · have hv : v = 9223372036854775807 := by omega
    have n1 : norm ⟨false, lowD.dg, 0⟩ = ⟨false, lowD.dg, 0⟩ := by kernel_rfl
    have w1 : Whole1 ⟨false, lowD.dg, 0⟩ := by have := norm_formed ⟨false, lowD.dg, 0⟩; rw [n1] at this; exact this
    have s1 : sR ⟨false, lowD.dg, 0⟩ = (v + 1) * 10 ^ 9999 := by
      have e : sR ⟨false, lowD.dg, 0⟩ = 1 * (valB lowD.dg * 10 ^ ((0 : Int) + 9999).toNat) := rfl
      rw [e, val_low, show ((0 : Int) + 9999).toNat = 9999 from rfl, Int.one_mul, hv]
      rfl
    exact ⟨_, key _ w1 s1, w1, s1, by decide⟩
end Go.Proofs.YteenfgomanhjkaaDoor.rd
