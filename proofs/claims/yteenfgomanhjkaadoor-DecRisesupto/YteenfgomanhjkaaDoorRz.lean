/- Sums and products by their values: no program in it. -/
import Derived.Test.YteenfgomanhjkaaDoorFr
namespace Go.Proofs.YteenfgomanhjkaaDoor.rd
open Go.RowKit

theorem Whole1.dig {n : Dn} (h : Whole1 n) : AllDig n.dg := by
  rcases h with rfl | h
  · intro c hc; simp [zed] at hc
  · exact h.dig
theorem oneForm_ok {n : Dn} (h : Formed n) : tellV n.neg (valB n.dg) n.ex = (n, true) := by
  have hn := h.norm_id
  rw [← form_val _ _ _ h.dig]
  have hd : digs n.dg = n.dg := by
    unfold digs
    rw [List.filter_eq_self.2 h.dig, Array.toArray_toList]
  unfold norm at hn
  rw [hd] at hn
  have hp := h.pos
  rcases ho : oneForm n.neg n.dg n.ex with ⟨r, ok⟩
  rw [ho] at hn
  simp only at hn
  subst hn
  cases ok with
  | true => rfl
  | false =>
    exfalso
    unfold oneForm at ho
    split at ho
    · simp at ho
    · split at ho
      · simp only [Prod.mk.injEq, and_true] at ho; rw [← ho] at hp; exact hp rfl
      · split at ho
        · simp only [Prod.mk.injEq, and_true] at ho; rw [← ho] at hp; exact hp rfl
        · simp at ho
/-- A number is what its signed size says. -/
theorem of_sR {n : Dn} (h : Whole1 n) : tellV (decide (sR n < 0)) ((sR n).natAbs : Int) (-9999) = (n, true) := by
  rcases h with rfl | h
  · rw [sR_zed]; exact tellV_nought _ _
  · have h0 := valB_nonneg h.dig
    have h1 := oneForm_ok h
    rw [tellV_at _ _ h0 _ h.e0] at h1
    obtain ⟨s1, s2⟩ := sR_formed h
    have h2 : (0 : Int) ≤ valB n.dg * 10 ^ (n.ex + 9999).toNat := Int.mul_nonneg h0 (Int.pow_nonneg (by omega))
    have e1 : ((sR n).natAbs : Int) = valB n.dg * 10 ^ (n.ex + 9999).toNat := by
      unfold sR
      generalize valB n.dg * 10 ^ (n.ex + 9999).toNat = t at *
      cases n.neg <;> simp <;> omega
    have e2 : decide (sR n < 0) = n.neg := by
      cases hn : n.neg
      · have := s2 hn; simp; omega
      · have := s1 hn; simp; omega
    rw [e1, e2]
    exact h1
theorem sR_inj {p q : Dn} (hp : Whole1 p) (hq : Whole1 q) (h : sR p = sR q) : p = q := by
  have h1 := of_sR hp
  rw [h, of_sR hq] at h1
  exact (congrArg Prod.fst h1).symm
theorem addV_exact {p q r : Dn} (h : addV p q = (r, true)) : Whole1 r ∧ sR r = sR p + sR q := by
  unfold addV at h
  have h0 : (0 : Int) ≤ ((sR p + sR q).natAbs : Int) := by omega
  generalize sR p + sR q = V at *
  have hx := tellV_exact (decide (V < 0)) (V.natAbs : Int) (-9999) h0 (by rw [h])
  rw [h] at hx
  simp only at hx
  rcases hx with ⟨h1, h2⟩ | ⟨h1, h2, h3, h4⟩
  · refine ⟨.inl h1, ?_⟩
    rw [h1, sR_zed]; omega
  · refine ⟨.inr h1, ?_⟩
    unfold sR
    have e : (r.ex + 9999).toNat = (r.ex - -9999).toNat := by congr 1
    rw [e, h4, h2]
    by_cases q : V < 0
    · simp [q]; omega
    · simp [q]; omega
theorem addV_zed {p : Dn} (hp : Whole1 p) : addV p zed = (p, true) := by
  unfold addV
  rw [sR_zed, Int.add_zero]
  exact of_sR hp
theorem mulV_exact {p q r : Dn} (hp : Whole1 p) (hq : Whole1 q) (h : mulV p q = (r, true)) : Whole1 r ∧ sR r * 10 ^ 9999 = sR p * sR q := by
  have h0 := Int.mul_nonneg (valB_nonneg hp.dig) (valB_nonneg hq.dig)
  obtain ⟨p0, p1⟩ := (show -9999 ≤ p.ex ∧ p.ex ≤ 9999 by rcases hp with rfl | hp; (· exact ⟨by decide, by decide⟩); (· exact ⟨hp.e0, hp.e1⟩))
  obtain ⟨q0, q1⟩ := (show -9999 ≤ q.ex ∧ q.ex ≤ 9999 by rcases hq with rfl | hq; (· exact ⟨by decide, by decide⟩); (· exact ⟨hq.e0, hq.e1⟩))
  unfold mulV at h
  have hx := tellV_exact (p.neg != q.neg) (valB p.dg * valB q.dg) (p.ex + q.ex) h0 (by rw [h])
  rw [h] at hx
  simp only at hx
  have hpq : sR p * sR q = (if (p.neg != q.neg) = true then -1 else 1) * (valB p.dg * valB q.dg) * 10 ^ ((p.ex + 9999).toNat + (q.ex + 9999).toNat) := by
    unfold sR
    rw [Int.pow_add]
    generalize (10 : Int) ^ (p.ex + 9999).toNat = s
    generalize (10 : Int) ^ (q.ex + 9999).toNat = t
    cases p.neg <;> cases q.neg <;> simp <;> grind
  rcases hx with ⟨h1, h2⟩ | ⟨h1, h2, h3, h4⟩
  · refine ⟨.inl h1, ?_⟩
    rw [hpq, h1, sR_zed, h2, Int.mul_zero, Int.zero_mul, Int.zero_mul]
  · refine ⟨.inr h1, ?_⟩
    have e0 := h1.e0
    rw [hpq, ← h4]
    unfold sR
    rw [h2]
    have e : (r.ex + 9999).toNat + 9999 = (r.ex - (p.ex + q.ex)).toNat + ((p.ex + 9999).toNat + (q.ex + 9999).toNat) := by omega
    have e2 : (10 : Int) ^ (r.ex + 9999).toNat * 10 ^ 9999 = 10 ^ (r.ex - (p.ex + q.ex)).toNat * 10 ^ ((p.ex + 9999).toNat + (q.ex + 9999).toNat) := by
      rw [← Int.pow_add, ← Int.pow_add, e]
    generalize (10 : Int) ^ 9999 = t at *
    generalize (10 : Int) ^ (r.ex + 9999).toNat = a at *
    generalize (10 : Int) ^ (r.ex - (p.ex + q.ex)).toNat = b at *
    generalize (10 : Int) ^ ((p.ex + 9999).toNat + (q.ex + 9999).toNat) = c at *
    generalize (if (p.neg != q.neg) = true then (-1 : Int) else 1) = s
    have e3 : s * (valB r.dg * a) * t = s * valB r.dg * (a * t) := by grind
    rw [e3, e2]
    grind
theorem mulV_comm (p q : Dn) : mulV p q = mulV q p := by
  unfold mulV
  rw [Int.mul_comm, Int.add_comm]
  congr 1
  cases p.neg <;> cases q.neg <;> rfl
theorem add_assoc {p q c x z l n : Dn} (h1 : addV p q = (x, true)) (h2 : addV q c = (z, true)) (h3 : addV x c = (l, true)) (h4 : addV p z = (n, true)) : l = n := by
  obtain ⟨_, a2⟩ := addV_exact h1
  obtain ⟨_, b2⟩ := addV_exact h2
  obtain ⟨c1, c2⟩ := addV_exact h3
  obtain ⟨d1, d2⟩ := addV_exact h4
  apply sR_inj c1 d1
  rw [c2, d2, a2, b2]
  omega
theorem mul_add {a b c z r p t v : Dn} (ha : Whole1 a) (hb : Whole1 b) (hc : Whole1 c) (h1 : addV b c = (z, true)) (h2 : mulV a z = (r, true)) (h3 : mulV a b = (p, true)) (h4 : mulV a c = (t, true)) (h5 : addV p t = (v, true)) : r = v := by
  obtain ⟨z1, z2⟩ := addV_exact h1
  obtain ⟨r1, r2⟩ := mulV_exact ha z1 h2
  obtain ⟨p1, p2⟩ := mulV_exact ha hb h3
  obtain ⟨t1, t2⟩ := mulV_exact ha hc h4
  obtain ⟨v1, v2⟩ := addV_exact h5
  apply sR_inj r1 v1
  have e : sR r * 10 ^ 9999 = sR v * 10 ^ 9999 := by
    rw [r2, v2, z2, Int.add_mul, p2, t2, Int.mul_add]
  have h1 := scale_lt (sR r) (sR v)
  have h2 := scale_lt (sR v) (sR r)
  rw [e] at h1 h2
  have h3 : ¬ sR r < sR v := fun q => absurd (h1.2 q) (Int.lt_irrefl _)
  have h4 : ¬ sR v < sR r := fun q => absurd (h2.2 q) (Int.lt_irrefl _)
  omega
theorem refCmp_self (p : Dn) (h : Whole1 p) : refCmp p p = 0 := by
  have h1 := refCmp_lt p p h h
  have h2 := refCmp_gt p p h h
  omega
end Go.Proofs.YteenfgomanhjkaaDoor.rd
