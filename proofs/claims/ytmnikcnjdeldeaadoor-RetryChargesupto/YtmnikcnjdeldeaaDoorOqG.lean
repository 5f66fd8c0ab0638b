/- Several texts in one. -/
import Derived.Test.YtmnikcnjdeldeaaDoorRzG
/- What DecOrder asks of Cmp, Add and Floor, by values: no program in it. -/
namespace Go.Proofs.YtmnikcnjdeldeaaDoor.rd
open Go.RowKit

theorem refCmp_in (p q : Dn) (hp : Whole1 p) (hq : Whole1 q) : refCmp p q = -1 ∨ refCmp p q = 0 ∨ refCmp p q = 1 := by
  rw [← cmp_eq p q hp hq]
  unfold decCmp
  split
  · exact .inl rfl
  · split
    · exact .inr (.inr rfl)
    · split
      · exact cmpS_bd _ _
      · exact cmpS_bd _ _
/-- Cmp of two pairs is the same where their sizes stand to each other in the same way. -/
theorem refCmp_alike {p q r s : Dn} (hp : Whole1 p) (hq : Whole1 q) (hr : Whole1 r) (hs : Whole1 s) (h1 : sR p < sR q ↔ sR r < sR s) (h2 : sR q < sR p ↔ sR s < sR r) : refCmp p q = refCmp r s := by
  have a1 := refCmp_lt p q hp hq
  have a2 := refCmp_gt p q hp hq
  have b1 := refCmp_lt r s hr hs
  have b2 := refCmp_gt r s hr hs
  have c1 := refCmp_in p q hp hq
  have c2 := refCmp_in r s hr hs
  rw [← a1, ← b1] at h1
  rw [← a2, ← b2] at h2
  omega
theorem refCmp_zero (p q : Dn) (hp : Whole1 p) (hq : Whole1 q) : refCmp p q = 0 ↔ p = q := by
  constructor
  · intro h
    have a1 := refCmp_lt p q hp hq
    have a2 := refCmp_gt p q hp hq
    exact sR_inj hp hq (by omega)
  · rintro rfl; exact refCmp_self p hp
theorem refCmp_trans (p q r : Dn) (hp : Whole1 p) (hq : Whole1 q) (hr : Whole1 r) (h1 : refCmp p q ≤ 0) (h2 : refCmp q r ≤ 0) : ¬ 0 < refCmp p r := by
  have a1 := refCmp_gt p q hp hq
  have a2 := refCmp_gt q r hq hr
  have a3 := refCmp_gt p r hp hr
  omega
theorem refCmp_add (p q s : Dn) (hp : Whole1 p) (hq : Whole1 q) (h : addV p q = (s, true)) : refCmp s p = refCmp q zed := by
  obtain ⟨h1, h2⟩ := addV_exact h
  apply refCmp_alike h1 hp hq (.inl rfl)
  · rw [h2, sR_zed]; omega
  · rw [h2, sR_zed]; omega

theorem Formed.last {n : Dn} (h : Formed n) : valB n.dg % 10 ≠ 0 := by
  unfold valB
  have hla := h.la
  have hd := h.dig
  have hne := h.ne
  unfold AllDig at hd
  rw [← List.head?_reverse] at hla
  cases hx : n.dg.data.toList.reverse with
  | nil => rw [List.reverse_eq_nil_iff] at hx; exact absurd hx hne
  | cons a r =>
    rw [hx] at hla
    have e : n.dg.data.toList = r.reverse ++ [a] := by
      have := congrArg List.reverse hx
      rw [List.reverse_reverse, List.reverse_cons] at this
      exact this
    have ha : nu.dig a = true := hd a (by rw [e]; simp)
    have h1 := fz_pos a ha (hla a rfl)
    have h2 := fz_bd ha
    rw [e, valM_append, valM_one]
    simp only [List.length_cons, List.length_nil]
    omega
/-- Floor lies where it must. -/
theorem flo_bounds (n : Dn) (h : Whole1 n) : floorI n * 10 ^ 9999 ≤ sR n ∧ sR n < (floorI n + 1) * 10 ^ 9999 := by
  have t0 : (0 : Int) < 10 ^ 9999 := Int.pow_pos (by omega)
  rcases Int.lt_or_le n.ex 0 with hx | hx
  · rcases h with rfl | h
    · exact absurd hx (by decide)
    · have e0 := h.e0
      have hl := h.last
      have hp := h.valpos
      obtain ⟨k, hk⟩ : ∃ k : Nat, (-n.ex).toNat = k + 1 := ⟨(-n.ex).toNat - 1, by omega⟩
      have hsp : (10 : Int) ^ 9999 = 10 ^ (k + 1) * 10 ^ (n.ex + 9999).toNat := by
        rw [← Int.pow_add]; congr 1; omega
      have u0 : (0 : Int) < 10 ^ (n.ex + 9999).toNat := Int.pow_pos (by omega)
      have v0 : (0 : Int) < 10 ^ (k + 1) := Int.pow_pos (by omega)
      have hw : wsize n = valB n.dg / 10 ^ (k + 1) := by unfold wsize; rw [if_pos hx, hk]
      have hm : 0 < valB n.dg % 10 ^ (k + 1) := by
        have h1 := Int.emod_nonneg (valB n.dg) (show (10 : Int) ^ (k + 1) ≠ 0 by omega)
        rcases Int.lt_or_le 0 (valB n.dg % 10 ^ (k + 1)) with q | q
        · exact q
        · exfalso
          have h2 : valB n.dg % 10 ^ (k + 1) = 0 := by omega
          have h3 : (10 : Int) ^ (k + 1) = 10 ^ k * 10 := Int.pow_succ ..
          have h4 := Int.mul_ediv_add_emod (valB n.dg) (10 ^ (k + 1))
          rw [h2, Int.add_zero, h3] at h4
          have h5 : 10 ^ k * 10 * (valB n.dg / (10 ^ k * 10)) = 10 * (10 ^ k * (valB n.dg / (10 ^ k * 10))) := by grind
          rw [h5] at h4
          omega
      have hm2 := Int.emod_lt_of_pos (valB n.dg) v0
      have hdm := Int.mul_ediv_add_emod (valB n.dg) (10 ^ (k + 1))
      rw [← hw] at hdm
      have hb : bump n = if n.neg = true then wsize n + 1 else wsize n := by
        unfold bump
        cases n.neg <;> simp [hx]
      have hsR : sR n = (if n.neg then -1 else 1) * (valB n.dg * 10 ^ (n.ex + 9999).toNat) := rfl
      unfold floorI
      rw [hb, hsR, hsp]
      generalize (10 : Int) ^ (k + 1) = v at *
      generalize (10 : Int) ^ (n.ex + 9999).toNat = u at *
      generalize wsize n = q at *
      generalize valB n.dg % v = m at *
      generalize valB n.dg = D at *
      have m1 : 0 < m * u := Int.mul_pos hm u0
      have m2 : m * u < v * u := Int.mul_lt_mul_of_pos_right hm2 u0
      have e1 : D * u = q * (v * u) + m * u := by rw [← hdm]; grind
      cases n.neg
      · simp only [Bool.false_eq_true, if_false, Int.one_mul]
        have e2 : (q + 1) * (v * u) = q * (v * u) + v * u := by grind
        omega
      · simp only [if_true]
        have e2 : -(q + 1) * (v * u) = - (q * (v * u)) - v * u := by grind
        have e3 : (-(q + 1) + 1) * (v * u) = - (q * (v * u)) := by grind
        omega
  · have hb : bump n = wsize n := if_neg (fun q => by have := q.2; omega)
    have e : floorI n = sgn n.neg (wsize n) := by unfold floorI sgn; rw [hb]
    rw [e, sR_whole n hx]
    generalize sgn n.neg (wsize n) = f
    have e2 : (f + 1) * 10 ^ 9999 = f * 10 ^ 9999 + 10 ^ 9999 := by rw [Int.add_mul, Int.one_mul]
    omega
/-- Where Floor tells nothing the number lies beyond int64. -/
theorem flo_none (n : Dn) (h : Whole1 n) (v : Int) (hf : flo n = (v, false)) : v = 0 ∧ (sR n < -9223372036854775808 * 10 ^ 9999 ∨ 9223372036854775807 * 10 ^ 9999 < sR n) := by
  obtain ⟨b1, b2⟩ := flo_bounds n h
  unfold flo fitI at hf
  split at hf
  · simp at hf
  · rename_i hr
    simp only [Prod.mk.injEq, and_true] at hf
    refine ⟨hf.symm, ?_⟩
    have t0 : (0 : Int) < 10 ^ 9999 := Int.pow_pos (by omega)
    rcases Int.lt_or_le (floorI n) (-9223372036854775808) with q | q
    · left
      have : (floorI n + 1) * 10 ^ 9999 ≤ -9223372036854775808 * 10 ^ 9999 := Int.mul_le_mul_of_nonneg_right (by omega) (Int.le_of_lt t0)
      omega
    · right
      have : (9223372036854775807 + 1) * 10 ^ 9999 ≤ floorI n * 10 ^ 9999 := Int.mul_le_mul_of_nonneg_right (by omega) (Int.le_of_lt t0)
      have e : (9223372036854775807 + 1 : Int) * 10 ^ 9999 = 9223372036854775807 * 10 ^ 9999 + 10 ^ 9999 := by rw [Int.add_mul, Int.one_mul]
      omega
theorem flo_some (n : Dn) (h : Whole1 n) (v : Int) (hf : flo n = (v, true)) : -9223372036854775808 ≤ v ∧ v ≤ 9223372036854775807 ∧ v * 10 ^ 9999 ≤ sR n ∧ sR n < (v + 1) * 10 ^ 9999 := by
  obtain ⟨b1, b2⟩ := flo_bounds n h
  unfold flo fitI at hf
  split at hf
  · rename_i hr
    simp only [Prod.mk.injEq, and_true] at hf
    subst hf
    exact ⟨hr.1, hr.2, b1, b2⟩
  · simp at hf
/-- The next whole number is told. -/
theorem add_next (v : Int) (h0 : -9223372036854775808 ≤ v) (h1 : v ≤ 9223372036854775807) : ∃ r, addV (ofN v) oneD = (r, true) ∧ Whole1 r ∧ sR r = (v + 1) * 10 ^ 9999 ∧ r.dg.size ≤ 20 := by
  obtain ⟨a1, a2, _⟩ := of_exact v h0 h1
  have e1 : sR oneD = 1 * 10 ^ 9999 := by
    have := (of_exact 1 (by omega) (by omega)).2.1
    rw [of_one] at this
    exact this
  have es : sR (ofN v) + sR oneD = (v + 1) * 10 ^ 9999 := by rw [a2, e1, ← Int.add_mul]
  have key : ∀ r, Whole1 r → sR r = (v + 1) * 10 ^ 9999 → addV (ofN v) oneD = (r, true) := fun r hr hs => by
    unfold addV
    rw [es, ← hs]
    exact of_sR hr
  rcases Int.lt_or_le v 9223372036854775807 with q | q
  · obtain ⟨b1, b2, _⟩ := of_exact (v + 1) (by omega) (by omega)
    exact ⟨_, key _ b1 b2, b1, b2, (ofN_size (v + 1) (by omega) (by omega)).1⟩
  · have hv : v = 9223372036854775807 := by omega
    have n1 : norm ⟨false, lowD.dg, 0⟩ = ⟨false, lowD.dg, 0⟩ := by kernel_rfl
    have w1 : Whole1 ⟨false, lowD.dg, 0⟩ := by have := norm_formed ⟨false, lowD.dg, 0⟩; rw [n1] at this; exact this
    have s1 : sR ⟨false, lowD.dg, 0⟩ = (v + 1) * 10 ^ 9999 := by
      have e : sR ⟨false, lowD.dg, 0⟩ = 1 * (valB lowD.dg * 10 ^ ((0 : Int) + 9999).toNat) := rfl
      rw [e, val_low, show ((0 : Int) + 9999).toNat = 9999 from rfl, Int.one_mul, hv]
      rfl
    exact ⟨_, key _ w1 s1, w1, s1, by decide⟩
end Go.Proofs.YtmnikcnjdeldeaaDoor.rd

/- What DecRises asks of Delay, by values: no program in it. -/
namespace Go.Proofs.YtmnikcnjdeldeaaDoor.rd
open Go.RowKit

/-- A rate as it counts, in units of ten to the -9. -/
def rate9 (x : Int) : Int := max 1000000000 (min 1000000000000 (x / 10 ^ 9990))
/-- A delay: an interval, a rate in units of ten to the -9, so many rounds, a bound. -/
def dly (m f : Int) (n : Nat) (L : Int) : Int := min L (m * f ^ n / 1000000000 ^ n)

theorem pow9 : (10 : Int) ^ 9 = 1000000000 := by decide
theorem pow_split : (10 : Int) ^ 9999 = 10 ^ 9990 * 1000000000 := by
  rw [← pow9, ← Int.pow_add]
theorem posU : (0 : Int) < 10 ^ 9999 := Int.pow_pos (by omega)
theorem posT : (0 : Int) < 10 ^ 9990 := Int.pow_pos (by omega)
theorem posB (n : Nat) : (0 : Int) < 1000000000 ^ n := Int.pow_pos (by omega)
theorem rate9_bd (x : Int) : 1000000000 ≤ rate9 x ∧ rate9 x ≤ 1000000000000 := by unfold rate9; generalize x / 10 ^ 9990 = q; omega
theorem rate9_mono {x y : Int} (h : x ≤ y) : rate9 x ≤ rate9 y := by
  have h1 := Int.ediv_le_ediv posT h
  unfold rate9
  generalize x / 10 ^ 9990 = q at *
  generalize y / 10 ^ 9990 = r at *
  omega

theorem powf {f : Int} (h : 1000000000 ≤ f) (n : Nat) : 0 < f ^ n := Int.pow_pos (by omega)
theorem dly_le (m f : Int) (n : Nat) (L : Int) : dly m f n L ≤ L := by unfold dly; omega
theorem dly_m {m m' f : Int} (n : Nat) (L : Int) (hf : 1000000000 ≤ f) (h : m ≤ m') : dly m f n L ≤ dly m' f n L := by
  unfold dly
  have h1 := Int.mul_le_mul_of_nonneg_right h (Int.le_of_lt (powf hf n))
  have := Int.ediv_le_ediv (posB n) h1
  omega
theorem pow_le_f {f f' : Int} (hf : 1000000000 ≤ f) (h : f ≤ f') (n : Nat) : f ^ n ≤ f' ^ n := by
  induction n with
  | zero => rw [Int.pow_zero, Int.pow_zero]; exact Int.le_refl _
  | succ n ih =>
    rw [Int.pow_succ, Int.pow_succ]
    have h1 := Int.mul_le_mul_of_nonneg_right ih (show 0 ≤ f by omega)
    have h2 := Int.mul_le_mul_of_nonneg_left h (Int.le_of_lt (powf (show 1000000000 ≤ f' by omega) n))
    omega
theorem dly_f {m f f' : Int} (n : Nat) (L : Int) (hm : 0 ≤ m) (hf : 1000000000 ≤ f) (h : f ≤ f') : dly m f n L ≤ dly m f' n L := by
  unfold dly
  have h1 := Int.mul_le_mul_of_nonneg_left (pow_le_f hf h n) hm
  have := Int.ediv_le_ediv (posB n) h1
  omega
theorem quo_n {m f : Int} (n : Nat) (hm : 0 ≤ m) (hf : 1000000000 ≤ f) : m * f ^ n / 1000000000 ^ n ≤ m * f ^ (n + 1) / 1000000000 ^ (n + 1) := by
  rw [Int.le_ediv_iff_mul_le (posB _)]
  have h1 := Int.ediv_mul_le (m * f ^ n) (show (1000000000 : Int) ^ n ≠ 0 from Int.ne_of_gt (posB n))
  have h2 : 0 ≤ m * f ^ n := Int.mul_nonneg hm (Int.le_of_lt (powf hf n))
  rw [Int.pow_succ, Int.pow_succ, ← Int.mul_assoc, ← Int.mul_assoc]
  generalize m * f ^ n / 1000000000 ^ n * 1000000000 ^ n = a at *
  generalize m * f ^ n = b at *
  have h3 : a * 1000000000 ≤ b * 1000000000 := Int.mul_le_mul_of_nonneg_right h1 (by omega)
  have h4 := Int.mul_le_mul_of_nonneg_left hf h2
  omega
theorem quo_nn {m f : Int} (n k : Nat) (hm : 0 ≤ m) (hf : 1000000000 ≤ f) : m * f ^ n / 1000000000 ^ n ≤ m * f ^ (n + k) / 1000000000 ^ (n + k) := by
  induction k with
  | zero => exact Int.le_refl _
  | succ k ih => exact Int.le_trans ih (quo_n (n + k) hm hf)
theorem dly_n {m f : Int} {n n' : Nat} (L : Int) (hm : 0 ≤ m) (hf : 1000000000 ≤ f) (h : n ≤ n') : dly m f n L ≤ dly m f n' L := by
  obtain ⟨k, rfl⟩ : ∃ k, n' = n + k := ⟨n' - n, by omega⟩
  unfold dly
  have := quo_nn n k hm hf
  omega
theorem dly_L {m f : Int} (n : Nat) {L L' : Int} (h : L ≤ L') : dly m f n L ≤ dly m f n L' := by unfold dly; omega
theorem dly_ge {m f : Int} (n : Nat) (L : Int) (hm : 0 ≤ m) (hf : 1000000000 ≤ f) : min L m ≤ dly m f n L := by
  have h := dly_n L hm hf (Nat.zero_le n)
  have e : dly m f 0 L = min L m := by unfold dly; simp
  rw [e] at h
  exact h

/-- A number's first place, by its size. -/
theorem top_le {p : Dn} (h : Whole1 p) (k : Nat) (h0 : 0 ≤ sR p) (hs : sR p < 10 ^ k * 10 ^ 9999) : (p.dg.size : Int) + p.ex ≤ k := by
  rcases h with rfl | h
  · exact (show ((0 : Nat) : Int) + 0 ≤ k by omega)
  · have hn : p.neg = false := by
      cases q : p.neg
      · rfl
      · have := (sR_formed h).1 q; omega
    have hl := h.low
    have e0 := h.e0
    have hpos := h.pos
    have es : sR p = valB p.dg * 10 ^ (p.ex + 9999).toNat := by unfold sR; rw [hn]; simp
    rw [es, ← Int.pow_add] at hs
    have h1 := Int.mul_le_mul_of_nonneg_right hl (Int.le_of_lt (show (0 : Int) < 10 ^ (p.ex + 9999).toNat from Int.pow_pos (by omega)))
    rw [← Int.pow_add] at h1
    rcases Int.lt_or_le (k : Int) ((p.dg.size : Int) + p.ex) with q | q
    · exfalso
      have := pow_mono (show k + 9999 ≤ p.dg.size - 1 + (p.ex + 9999).toNat by omega)
      exact absurd (Int.lt_of_le_of_lt (Int.le_trans this h1) hs) (Int.lt_irrefl _)
    · exact q

theorem tellV_fits (n : Bool) (v e : Int) (K : Nat) (h0 : 0 ≤ v) (hv : v < 10 ^ K) (he : -9999 ≤ e) (hk : e + K ≤ 10000) : (tellV n v e).2 = true := by
  have hd := dgN_dig v.toNat
  have hvv : valL (dgN v.toNat) = v := by rw [dgN_val]; omega
  unfold tellV told
  by_cases hc : cutN (dgN v.toNat) = []
  · rw [if_pos hc]
  · rw [if_neg hc]
    have hl := cut_low hd hc
    have hcc := cutN_cut hd
    obtain ⟨l1, _, _⟩ := lowN_split _ hcc hc
    rw [hvv] at hl
    have hlen : (cutN (dgN v.toNat)).length - 1 < K := by
      rcases Nat.lt_or_ge ((cutN (dgN v.toNat)).length - 1) K with q | q
      · exact q
      · have := pow_mono q
        exact absurd (Int.lt_of_le_of_lt (Int.le_trans this hl) hv) (Int.lt_irrefl _)
    rw [if_neg (by omega)]

theorem mulV_fits {p q : Dn} (hp : Whole1 p) (hq : Whole1 q) (he : -9999 ≤ p.ex + q.ex) (ht : (p.dg.size : Int) + p.ex + (q.dg.size + q.ex) ≤ 10000) : ∃ r, mulV p q = (r, true) ∧ (r = zed ∨ p.ex + q.ex ≤ r.ex) := by
  have h0 := Int.mul_nonneg (valB_nonneg hp.dig) (valB_nonneg hq.dig)
  have hv : valB p.dg * valB q.dg < 10 ^ (p.dg.size + q.dg.size) := by
    rw [Int.pow_add]
    have a1 := valB_lt hp.dig
    have a2 := valB_lt hq.dig
    have a3 := valB_nonneg hp.dig
    have a4 := valB_nonneg hq.dig
    have a5 : (0 : Int) < 10 ^ p.dg.size := Int.pow_pos (by omega)
    have h1 := Int.mul_le_mul_of_nonneg_right (Int.le_of_lt a1) a4
    have h2 := Int.mul_lt_mul_of_pos_left a2 a5
    omega
  have hf := tellV_fits (p.neg != q.neg) (valB p.dg * valB q.dg) (p.ex + q.ex) (p.dg.size + q.dg.size) h0 hv he (by omega)
  have hx := tellV_exact (p.neg != q.neg) (valB p.dg * valB q.dg) (p.ex + q.ex) h0 hf
  refine ⟨(mulV p q).1, ?_, ?_⟩
  · exact Prod.ext rfl hf
  · rcases hx with ⟨h1, _⟩ | ⟨_, _, h3, _⟩
    · exact .inl h1
    · exact .inr h3

/-- A wait behind j rounds. -/
structure WaitAt (m f : Int) (j : Nat) (p : Dn) : Prop where
  wh : Whole1 p
  ex : -9 * (j : Int) ≤ p.ex
  sz : p.dg.size ≤ 2000
  sr : sR p * 1000000000 ^ j = m * f ^ j * 10 ^ 9999
/-- A factor. -/
structure FactorAt (f : Int) (q : Dn) : Prop where
  wh : Whole1 q
  ex : -9 ≤ q.ex
  sr : sR q = f * 10 ^ 9990
  lo : 1000000000 ≤ f
  hi : f ≤ 1000000000000

theorem FactorAt.top {f : Int} {q : Dn} (h : FactorAt f q) : (q.dg.size : Int) + q.ex ≤ 4 ∧ q.dg.size ≤ 13 := by
  have h1 := h.lo
  have h2 := h.hi
  have h3 := h.ex
  have t0 := posT
  have n0 : 0 ≤ sR q := by rw [h.sr]; exact Int.mul_nonneg (by omega) (Int.le_of_lt t0)
  have := top_le h.wh 4 n0 (by
    rw [h.sr, pow_split, show (10 : Int) ^ 4 = 10000 by decide]
    generalize (10 : Int) ^ 9990 = T at *
    have e : 10000 * (T * 1000000000) = 10000000000000 * T := by grind
    rw [e]
    exact Int.mul_lt_mul_of_pos_right (by omega) t0)
  omega

theorem WaitAt.nonneg {m f : Int} {j : Nat} {p : Dn} (h : WaitAt m f j p) (hm : 0 ≤ m) (hf : 1000000000 ≤ f) : 0 ≤ sR p := by
  have h1 := h.sr
  have h2 : 0 ≤ m * f ^ j * 10 ^ 9999 := Int.mul_nonneg (Int.mul_nonneg hm (Int.le_of_lt (powf hf j))) (Int.le_of_lt posU)
  rw [← h1] at h2
  exact Int.le_of_mul_le_mul_right (by rw [Int.zero_mul]; exact h2) (posB j)

theorem WaitAt.next {m f : Int} {j : Nat} {p q : Dn} (h : WaitAt m f j p) (hq : FactorAt f q) (hj : j ≤ 99) (hm : 0 ≤ m) (hlt : sR p < 2147483648 * 10 ^ 9999) :
    ∃ r, mulV p q = (r, true) ∧ WaitAt m f (j + 1) r := by
  have n0 := h.nonneg hm hq.lo
  obtain ⟨q1, q2⟩ := hq.top
  have q3 := hq.ex
  have p3 := h.ex
  have p1 := top_le h.wh 10 n0 (by
    have u0 := posU
    rw [show (10 : Int) ^ 10 = 10000000000 by decide]
    generalize (10 : Int) ^ 9999 = U at *
    omega)
  obtain ⟨r, hr, hx⟩ := mulV_fits h.wh hq.wh (by omega) (by omega)
  refine ⟨r, hr, ?_⟩
  obtain ⟨r1, r2⟩ := mulV_exact h.wh hq.wh hr
  refine ⟨r1, ?_, ?_, ?_⟩
  · rcases hx with rfl | hx
    · exact (show -9 * ((j + 1 : Nat) : Int) ≤ 0 by omega)
    · omega
  · obtain ⟨d, ev, d2, _, d3, d4⟩ := mul_res p q (.bool true) h.wh hq.wh p.dg.size q.dg.size (Nat.le_refl _) (Nat.le_refl _)
    rcases d4 with ⟨_, d4⟩ | d4
    · rw [hr] at d4
      injection d4 with d5 _
      subst d5
      omega
    · exfalso
      rw [hr, d4] at d2
      have := congrArg Prod.snd d2
      cases this
  · have h4 := h.sr
    rw [hq.sr] at r2
    have u0 := posU
    have e := pow_split
    have e2 : (sR r * 1000000000 ^ (j + 1)) * 10 ^ 9999 = (m * f ^ (j + 1) * 10 ^ 9999) * 10 ^ 9999 := by
      rw [Int.pow_succ (1000000000 : Int) j, Int.pow_succ f j]
      generalize (10 : Int) ^ 9999 = U at *
      generalize (10 : Int) ^ 9990 = T at *
      generalize (1000000000 : Int) ^ j = b at *
      generalize f ^ j = g at *
      have e3 : sR r * (b * 1000000000) * U = (sR r * U) * b * 1000000000 := by grind
      rw [e3, r2]
      have e4 : sR p * (f * T) * b * 1000000000 = (sR p * b) * f * (T * 1000000000) := by grind
      rw [e4, h4, ← e]
      grind
    exact Int.eq_of_mul_eq_mul_right (Int.ne_of_gt u0) e2

theorem WaitAt.early {m f : Int} {j n : Nat} {p : Dn} {L : Int} (h : WaitAt m f j p) (hm : 0 ≤ m) (hf : 1000000000 ≤ f) (hj : j ≤ n) (hge : L * 10 ^ 9999 ≤ sR p) : dly m f n L = L := by
  obtain ⟨k, rfl⟩ : ∃ k, n = j + k := ⟨n - j, by omega⟩
  have h1 := quo_nn j k hm hf
  have h2 : L ≤ m * f ^ j / 1000000000 ^ j := by
    rw [Int.le_ediv_iff_mul_le (posB _)]
    have h3 := Int.mul_le_mul_of_nonneg_right hge (Int.le_of_lt (posB j))
    rw [h.sr] at h3
    have u0 := posU
    generalize (10 : Int) ^ 9999 = U at *
    have e : L * U * 1000000000 ^ j = L * 1000000000 ^ j * U := by grind
    rw [e] at h3
    exact Int.le_of_mul_le_mul_right h3 u0
  unfold dly
  omega

/-- What Floor of the last wait says. -/
theorem WaitAt.last {m f : Int} {n : Nat} {p : Dn} {L v : Int} {ok : Bool} (h : WaitAt m f n p) (hm : 0 ≤ m) (hf : 1000000000 ≤ f) (hL : L ≤ 9223372036854775807) (hv : flo p = (v, ok)) :
    (ok = false → dly m f n L = L) ∧ (ok = true → dly m f n L = if L < v then L else v) := by
  have n0 := h.nonneg hm hf
  have u0 := posU
  constructor
  · intro q
    subst q
    obtain ⟨_, h1⟩ := flo_none p h.wh v hv
    refine h.early hm hf (Nat.le_refl _) ?_
    generalize (10 : Int) ^ 9999 = U at *
    have h3 := Int.mul_le_mul_of_nonneg_right hL (Int.le_of_lt u0)
    rcases h1 with h1 | h1
    · exfalso
      have : (-9223372036854775808 : Int) * U ≤ 0 := by omega
      omega
    · omega
  · intro q
    subst q
    obtain ⟨_, _, h1, h2⟩ := flo_some p h.wh v hv
    have h3 := Int.mul_le_mul_of_nonneg_right h1 (Int.le_of_lt (posB n))
    have h4 := Int.mul_lt_mul_of_pos_right h2 (posB n)
    have b0 := posB n
    rw [h.sr] at h3 h4
    have e : m * f ^ n / 1000000000 ^ n = v := by
      generalize (10 : Int) ^ 9999 = U at *
      generalize (1000000000 : Int) ^ n = b at *
      generalize m * f ^ n = a at *
      have e1 : v * U * b = v * b * U := by grind
      have e2 : (v + 1) * U * b = (v + 1) * b * U := by grind
      rw [e1] at h3
      rw [e2] at h4
      have h5 := Int.le_of_mul_le_mul_right h3 u0
      have h6 := Int.lt_of_mul_lt_mul_right h4 (Int.le_of_lt u0)
      have h7 : v ≤ a / b := (Int.le_ediv_iff_mul_le b0).2 h5
      have h8 : a / b < v + 1 := (Int.ediv_lt_iff_lt_mul b0).2 h6
      omega
    unfold dly
    rw [e]
    split <;> omega

/-- What is left of a rate's digits. -/
def cutD (n : Dn) : Dn := if n.ex < -9 then ⟨n.neg, n.dg.extract 0 (topN n + 9).toNat, -9⟩ else n
def ctd (d : Dn) : Dn := if decCmp (norm d) (ofN 1) < 0 then ofN 1 else if 0 ≤ decCmp (norm d) (ofN 1000) then ofN 1000 else norm (cutD (norm d))

theorem extract_val (s : ByteArray) (k : Nat) (hd : AllDig s) (hk : k ≤ s.size) : valB (s.extract 0 (s.size - k)) = valB s / 10 ^ k ∧ AllDig (s.extract 0 (s.size - k)) := by
  have hl := len_list s
  constructor
  · unfold valB
    rw [nu.ext_list, List.drop_zero, Nat.sub_zero]
    have h1 := valM_append (s.data.toList.take (s.size - k)) (s.data.toList.drop (s.size - k))
    rw [List.take_append_drop, List.length_drop, hl] at h1
    have e2 : s.size - (s.size - k) = k := by omega
    rw [e2] at h1
    have h2 := valM_nonneg (l := s.data.toList.drop (s.size - k)) (fun c hc => hd c (List.mem_of_mem_drop hc))
    have h3 := valM_lt (l := s.data.toList.drop (s.size - k)) (fun c hc => hd c (List.mem_of_mem_drop hc))
    rw [List.length_drop, hl, e2] at h3
    rw [h1]
    have h4 : (0 : Int) < 10 ^ k := Int.pow_pos (by omega)
    generalize (10 : Int) ^ k = t at *
    generalize valM (s.data.toList.take (s.size - k)) = a at *
    generalize valM (s.data.toList.drop (s.size - k)) = b at *
    rw [Int.add_comm, Int.add_mul_ediv_right _ _ (by omega), Int.ediv_eq_zero_of_lt h2 h3]
    omega
  · intro c hc
    rw [nu.ext_list, List.drop_zero, Nat.sub_zero] at hc
    exact hd c (List.mem_of_mem_take hc)

theorem digs_all (d : ByteArray) (h : AllDig d) : digs d = d := by
  unfold digs
  rw [List.filter_eq_self.2 h, Array.toArray_toList]

/-- The one form of a number, 1 or more, with nine places, all below 1000. -/
theorem norm_cut (s : ByteArray) (h : AllDig s) (hv : valB s < 1000000000000) : Whole1 (norm ⟨false, s, -9⟩) ∧ sR (norm ⟨false, s, -9⟩) = valB s * 10 ^ 9990 ∧ -9 ≤ (norm ⟨false, s, -9⟩).ex := by
  have h0 := valB_nonneg h
  have e : norm ⟨false, s, -9⟩ = (tellV false (valB s) (-9)).1 := by
    unfold norm
    simp only
    rw [digs_all s h, form_val _ _ _ h]
  have hf := tellV_fits false (valB s) (-9) 12 h0 (by rw [show (10 : Int) ^ 12 = 1000000000000 by decide]; exact hv) (by omega) (by omega)
  have hx := tellV_exact false (valB s) (-9) h0 hf
  rw [e]
  rcases hx with ⟨h1, h2⟩ | ⟨h1, h2, h3, h4⟩
  · rw [h1]
    refine ⟨.inl rfl, ?_, by decide⟩
    rw [h2, sR_zed, Int.zero_mul]
  · refine ⟨.inr h1, ?_, h3⟩
    generalize (tellV false (valB s) (-9)).1 = r at *
    unfold sR
    rw [h2]
    simp only [Bool.false_eq_true, if_false, Int.one_mul]
    have e5 : (r.ex + 9999).toNat = (r.ex - -9).toNat + 9990 := by omega
    rw [e5, Int.pow_add, ← Int.mul_assoc, h4]

/-- A number that is 1 or more has a place ahead of the point. -/
theorem top_pos (n : Dn) (hn : Whole1 n) (h : ¬ decCmp n (ofN 1) < 0) : 0 < topN n := by
  obtain ⟨a1, a2, _⟩ := of_exact 1 (by omega) (by omega)
  have c1 := refCmp_lt n (ofN 1) hn a1
  rw [cmp_eq _ _ hn a1, c1, a2, Int.one_mul] at h
  have u0 := posU
  rcases hn with rfl | hF
  · rw [sR_zed] at h
    exact absurd u0 h
  · unfold topN
    have e0 := hF.e0
    rcases Int.lt_or_le 0 ((n.dg.size : Int) + n.ex) with q | q
    · exact q
    · exfalso
      have p0 : (0 : Int) < 10 ^ (n.ex + 9999).toNat := Int.pow_pos (by omega)
      have h1 := valB_lt hF.dig
      have h2 := Int.mul_lt_mul_of_pos_right h1 p0
      rw [← Int.pow_add] at h2
      have h3 := pow_mono (show n.dg.size + (n.ex + 9999).toNat ≤ 9999 by omega)
      have h4 : sR n ≤ valB n.dg * 10 ^ (n.ex + 9999).toNat := by
        have := Int.mul_nonneg (valB_nonneg hF.dig) (Int.le_of_lt p0)
        unfold sR
        cases n.neg
        · simp
        · simp only [if_true]; omega
      omega

theorem ctd_factor (d : Dn) : FactorAt (rate9 (sR (norm d))) (ctd d) := by
  have w : Whole1 (norm d) := norm_formed d
  obtain ⟨a1, a2, a3⟩ := of_exact 1 (by omega) (by omega)
  obtain ⟨b1, b2, b3⟩ := of_exact 1000 (by omega) (by omega)
  obtain ⟨l1, l2⟩ := rate9_bd (sR (norm d))
  have t0 := posT
  have es := pow_split
  have c1 := refCmp_lt (norm d) (ofN 1) w a1
  have c2 := refCmp_lt (norm d) (ofN 1000) w b1
  unfold ctd
  rw [cmp_eq _ _ w a1, cmp_eq _ _ w b1]
  rw [a2, es] at c1
  rw [b2, es] at c2
  by_cases q1 : refCmp (norm d) (ofN 1) < 0
  · rw [if_pos q1]
    have hr : rate9 (sR (norm d)) = 1000000000 := by
      have h1 := c1.1 q1
      unfold rate9
      generalize (10 : Int) ^ 9990 = T at *
      have : sR (norm d) / T < 1000000000 := (Int.ediv_lt_iff_lt_mul t0).2 (by omega)
      omega
    refine ⟨a1, by omega, ?_, l1, l2⟩
    rw [hr, a2, es]
    omega
  · rw [if_neg q1]
    by_cases q2 : 0 ≤ refCmp (norm d) (ofN 1000)
    · rw [if_pos q2]
      have hr : rate9 (sR (norm d)) = 1000000000000 := by
        have h1 : ¬ sR (norm d) < 1000 * (10 ^ 9990 * 1000000000) := fun q => absurd (c2.2 q) (by omega)
        unfold rate9
        generalize (10 : Int) ^ 9990 = T at *
        have : 1000000000000 ≤ sR (norm d) / T := (Int.le_ediv_iff_mul_le t0).2 (by omega)
        omega
      refine ⟨b1, by omega, ?_, l1, l2⟩
      rw [hr, b2, es]
      generalize (10 : Int) ^ 9990 = T at *
      omega
    · rw [if_neg q2]
      have g1 : ¬ sR (norm d) < 1 * (10 ^ 9990 * 1000000000) := fun q => q1 (c1.2 q)
      have g2 := c2.1 (by omega)
      have hr : rate9 (sR (norm d)) = sR (norm d) / 10 ^ 9990 := by
        unfold rate9
        generalize (10 : Int) ^ 9990 = T at *
        have h1 : sR (norm d) / T < 1000000000000 := (Int.ediv_lt_iff_lt_mul t0).2 (by omega)
        have h2 : 1000000000 ≤ sR (norm d) / T := (Int.le_ediv_iff_mul_le t0).2 (by omega)
        omega
      have hF : Formed (norm d) := by
        rcases w with w | w
        · exfalso
          rw [w, sR_zed] at g1
          generalize (10 : Int) ^ 9990 = T at *
          omega
        · exact w
      generalize norm d = n at *
      have hn : n.neg = false := by
        cases q : n.neg
        · rfl
        · have := (sR_formed hF).1 q
          generalize (10 : Int) ^ 9990 = T at *
          omega
      have e0 := hF.e0
      have es : sR n = valB n.dg * 10 ^ (n.ex + 9999).toNat := by unfold sR; rw [hn]; simp
      have ht : (0 : Int) < n.dg.size + n.ex := by
        rcases Int.lt_or_le 0 ((n.dg.size : Int) + n.ex) with q | q
        · exact q
        · exfalso
          have h1 := valB_lt hF.dig
          have h2 := Int.mul_lt_mul_of_pos_right h1 (show (0 : Int) < 10 ^ (n.ex + 9999).toNat from Int.pow_pos (by omega))
          rw [← es, ← Int.pow_add] at h2
          have h3 := pow_mono (show n.dg.size + (n.ex + 9999).toNat ≤ 9999 by omega)
          rw [pow_split] at h3
          generalize (10 : Int) ^ 9990 = T at *
          omega
      unfold cutD
      by_cases hx : n.ex < -9
      · rw [if_pos hx, hn]
        have ek : (topN n + 9).toNat = n.dg.size - (-9 - n.ex).toNat := by unfold topN; omega
        rw [ek]
        obtain ⟨v1, v2⟩ := extract_val n.dg (-9 - n.ex).toNat hF.dig (by omega)
        have ev : sR n / 10 ^ 9990 = valB (n.dg.extract 0 (n.dg.size - (-9 - n.ex).toNat)) := by
          rw [v1, es, show (10 : Int) ^ 9990 = 10 ^ (-9 - n.ex).toNat * 10 ^ (n.ex + 9999).toNat by rw [← Int.pow_add]; congr 1; omega]
          exact Int.mul_ediv_mul_of_pos_left _ _ (Int.pow_pos (by omega))
        obtain ⟨r1, r2, r3⟩ := norm_cut _ v2 (by
          rw [← ev]
          exact (Int.ediv_lt_iff_lt_mul t0).2 (by generalize (10 : Int) ^ 9990 = T at *; omega))
        refine ⟨r1, r3, ?_, l1, l2⟩
        rw [r2, hr, ev]
      · rw [if_neg hx, hF.norm_id]
        refine ⟨.inr hF, by omega, ?_, l1, l2⟩
        have e5 : (n.ex + 9999).toNat = (n.ex + 9).toNat + 9990 := by omega
        rw [hr, es, e5, Int.pow_add, ← Int.mul_assoc, Int.mul_ediv_cancel _ (Int.ne_of_gt t0)]
end Go.Proofs.YtmnikcnjdeldeaaDoor.rd
