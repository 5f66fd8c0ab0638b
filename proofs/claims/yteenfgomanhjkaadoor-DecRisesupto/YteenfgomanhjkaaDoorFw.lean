/- The reference's Int; what Of answers is that number; DecWholes. -/
import Derived.Test.YteenfgomanhjkaaDoorFt
namespace Go.Proofs.YteenfgomanhjkaaDoor.rd
open Go.RowKit

theorem decDigits_val (u : Nat) : valM (Lib.decDigits u) = u ∧ ∀ c ∈ Lib.decDigits u, nu.dig c = true := by
  induction u using Nat.strongRecOn with
  | ind u ih =>
    rw [Lib.decDigits]
    split
    · rename_i h
      have e : UInt8.ofNat (48 + u) = (48 + u).toUInt8 := rfl
      rw [e]
      refine ⟨?_, fun c hc => ?_⟩
      · rw [valM_one, fz_u8 u (by omega)]
      · rw [List.mem_singleton] at hc; subst hc; exact dig_u8 u (by omega)
    · rename_i h
      obtain ⟨h1, h2⟩ := ih (u / 10) (by omega)
      have e : UInt8.ofNat (48 + u % 10) = (48 + u % 10).toUInt8 := rfl
      rw [e]
      refine ⟨?_, fun c hc => ?_⟩
      · rw [valM_append, valM_one, fz_u8 _ (by omega), h1]
        simp only [List.length_cons, List.length_nil]
        omega
      · rcases List.mem_append.1 hc with q | q
        · exact h2 c q
        · rw [List.mem_singleton] at q; subst q; exact dig_u8 _ (by omega)

theorem digs_itoa (v : Int) : (digs (itoaB v)).data.toList = Lib.decDigits v.natAbs := by
  have h2 := (decDigits_val v.natAbs).2
  have e : (digs (itoaB v)).data.toList = (Lib.itoa v).filter nu.dig := by unfold digs itoaB; simp
  rw [e]
  unfold Lib.itoa
  split
  · rw [List.filter_cons, if_neg (by decide), List.filter_eq_self.2 h2]
  · have : v.toNat = v.natAbs := by omega
    rw [this, List.filter_eq_self.2 h2]

/-- What Of answers is that number, whole. -/
theorem of_exact (v : Int) (h0 : -9223372036854775808 ≤ v) (h1 : v ≤ 9223372036854775807) : Whole1 (ofN v) ∧ sR (ofN v) = v * 10 ^ 9999 ∧ 0 ≤ (ofN v).ex := by
  have hd := digs_dig (itoaB v)
  have hl := digs_itoa v
  have hv := (decDigits_val v.natAbs).1
  have e : ofN v = (told (decide (v < 0)) ((digs (itoaB v)).data.toList.map fz).reverse 0).1 := by
    unfold ofN norm
    simp only
    rw [form_val _ _ _ hd, told_tellV _ _ (row_dig10 hd)]
    rfl
  have hlen : ((digs (itoaB v)).data.toList.map fz).reverse.length ≤ 19 := by
    rw [List.length_reverse, List.length_map, hl]
    exact dec_len2 v.natAbs 18 (by omega)
  obtain ⟨h2, h3⟩ := told_short (decide (v < 0)) _ (row_dig10 hd) hlen
  rw [← e] at h2 h3
  refine ⟨h2, ?_, ?_⟩
  · rw [h3]
    congr 1
    have e2 : valL ((digs (itoaB v)).data.toList.map fz).reverse = (v.natAbs : Int) := by rw [hl]; exact hv
    rw [e2]
    unfold sgn
    by_cases q : v < 0
    · rw [if_pos (by simpa using q)]; omega
    · rw [if_neg (by simpa using q)]; omega
  · unfold ofN norm oneForm
    have l1 := trimR_le (trimL (digs (itoaB v)))
    simp only
    split
    · exact Int.le_refl _
    · split
      · exact Int.le_refl _
      · split
        · exact Int.le_refl _
        · simp only; omega
theorem sgn_cancel (a b : Int) (h : a * 10 ^ 9999 = b * 10 ^ 9999) : a = b := by
  have h1 := scale_lt a b
  have h2 := scale_lt b a
  rw [h] at h1 h2
  have h3 : ¬ a < b := fun q => absurd (h1.2 q) (Int.lt_irrefl _)
  have h4 : ¬ b < a := fun q => absurd (h2.2 q) (Int.lt_irrefl _)
  omega
theorem flo_of_exact (n : Dn) (v : Int) (h0 : -9223372036854775808 ≤ v) (h1 : v ≤ 9223372036854775807) (hx : 0 ≤ n.ex) (hs : sR n = v * 10 ^ 9999) : flo n = (v, true) := by
  have hb : bump n = wsize n := if_neg (fun q => by have := q.2; omega)
  rw [flo_of, hb]
  rw [sR_whole n hx] at hs
  rw [sgn_cancel _ _ hs]
  exact fitI_in v h0 h1
theorem int_of (v : Int) (h0 : -9223372036854775808 ≤ v) (h1 : v ≤ 9223372036854775807) : intV (norm (ofN v)) = (v, true) := by
  obtain ⟨a, b, c⟩ := of_exact v h0 h1
  rw [a.norm_id]
  unfold intV
  rw [if_neg (by omega)]
  exact flo_of_exact _ v h0 h1 c b
theorem ofN_size (v : Int) (h0 : -9223372036854775808 ≤ v) (h1 : v ≤ 9223372036854775807) : (ofN v).dg.size ≤ 20 ∧ -9999 ≤ (ofN v).ex ∧ (ofN v).ex ≤ 9999 := by
  obtain ⟨q1, q2, q3, _⟩ := norm_good ⟨decide (v < 0), itoaB v, 0⟩
  have := itoa_len v h0 h1
  unfold ofN
  simp only at q1
  exact ⟨by omega, q2, q3⟩
end Go.Proofs.YteenfgomanhjkaaDoor.rd
