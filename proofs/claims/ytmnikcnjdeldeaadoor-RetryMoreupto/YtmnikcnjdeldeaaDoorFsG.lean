/- Several texts in one. -/
import Derived.Test.YtmnikcnjdeldeaaDoorOcG
import Derived.Deep.CutBlock
/- The contracts of the reference's ends and Of. -/
namespace Go.Proofs.YtmnikcnjdeldeaaDoor.rd
open Go.RowKit

/-- While the reference's Floor goes: the number's block, the two ends'. -/
structure FlW (w wc : World) (a b c : Nat) (n L T : Dn) : Prop where
  n : DLies wc a n
  l : DLies wc b L
  t : DLies wc c T
  below : Below w.heap.size w wc
theorem FlW.call {w wc w' : World} {a b c : Nat} {n L T : Dn} (h : FlW w wc a b c n L T) (hb : Below wc.heap.size wc w') : FlW w w' a b c n L T where
  n := h.n.below hb (blk_lt h.n)
  l := h.l.below hb (blk_lt h.l)
  t := h.t.below hb (blk_lt h.t)
  below := h.below.trans (hb.mono h.below.size)
theorem FlW.alloc {w wc : World} {a b c : Nat} {n L T : Dn} (h : FlW w wc a b c n L T) (o : Obj) : FlW w (wc.alloc o) a b c n L T := ⟨h.n.alloc _, h.l.alloc _, h.t.alloc _, h.below.alloc h.below.size _⟩
theorem told_size (n : Bool) (zs : List Int) (e : Int) : (told n zs e).1.dg.size ≤ zs.length := by
  unfold told
  split
  · exact Nat.zero_le _
  · split
    · exact Nat.zero_le _
    · have h1 := tb_len (cutN zs) (lowN (cutN zs))
      have h2 := cutN_len zs
      have h3 : (⟨(tb (cutN zs) (lowN (cutN zs))).toArray⟩ : ByteArray).size = (tb (cutN zs) (lowN (cutN zs))).length := List.size_toArray
      simp only
      omega
theorem Whole1.exbd {n : Dn} (h : Whole1 n) : -9999 ≤ n.ex ∧ n.ex ≤ 9999 := by
  rcases h with rfl | h
  · exact ⟨by decide, by decide⟩
  · exact ⟨h.e0, h.e1⟩
theorem IntsO.alloc {w : World} {v : Value} {zs : List Int} (h : IntsO w v zs) (o : Obj) : IntsO (w.alloc o) v zs := h.keep ((Below.refl _ _).alloc (Nat.le_refl _) _)
theorem one_ints (w : World) : Ints (w.alloc (.cells #[.int .i64 1] 3)) (.slice (some ⟨w.heap.size, 0, none⟩) 1 1) [1] :=
  .inr ⟨w.heap.size, 1, rfl, by simp, by omega, fun j hj => by
    have : j = 0 := by simpa using hj
    subst this
    have h : (w.alloc (.cells #[.int .i64 1] 3)).heap[w.heap.size]? = some (.cells #[.int .i64 1] 3 (0, 0)) := by
      show (w.heap.push _)[w.heap.size]? = _
      rw [Array.getElem?_push_size]
    rw [blk_cell h]; rfl⟩
/-- One step of the cut at the point. -/
theorem IntsO.next {w : World} {g o cap n : Nat} {l : List Int} {t : Nat} (hn : n = (l.drop t).length) (h3 : cap ≤ 9223372036854775807) (h2 : n ≤ cap) (h4 : ∀ j, j < n → w.cell? ⟨g, o + j, none⟩ = some (.int .i64 ((l.drop t).getD j 0))) (hp : 0 < n) :
    IntsO w (.slice (some ⟨g, o + 1, none⟩) (n - 1) (cap - 1)) (l.drop (t + 1)) ∧ (cap = 1 → IntsO w (.slice (some ⟨g, o, none⟩) (n - 1) (cap - 1)) (l.drop (t + 1))) := by
  have e : (l.drop (t + 1)).length = n - 1 := by rw [List.length_drop] at *; omega
  have eg : ∀ j, (l.drop (t + 1)).getD j 0 = (l.drop t).getD (j + 1) 0 := fun j => by
    simp only [List.getD, List.getElem?_drop]
    congr 2
    omega
  refine ⟨.inr ⟨g, o + 1, cap - 1, by rw [e], by omega, by omega, fun j hj => ?_⟩, fun hc => .inr ⟨g, o, cap - 1, by rw [e], by omega, by omega, fun j hj => by omega⟩⟩
  rw [eg, show o + 1 + j = o + (j + 1) by omega]
  exact h4 (j + 1) (by omega)
end Go.Proofs.YtmnikcnjdeldeaaDoor.rd

/- The contract of the reference's Floor. -/
namespace Go.Proofs.YtmnikcnjdeldeaaDoor.rd
open Go.RowKit

theorem drop_le {l : List Int} (hd : Dig10 l) (k : Nat) : 0 ≤ valL (l.drop k) ∧ valL (l.drop k) ≤ valL l := by
  have h1 := valL_nonneg (hd.drop k)
  refine ⟨h1, ?_⟩
  rcases Nat.lt_or_ge k l.length with h | h
  · have h2 := split_val l k (by omega)
    have h3 := valL_nonneg (hd.take k)
    have h4 : (0 : Int) < 10 ^ k := Int.pow_pos (by omega)
    have h5 : 1 * valL (l.drop k) ≤ 10 ^ k * valL (l.drop k) := Int.mul_le_mul_of_nonneg_right (by omega) h1
    omega
  · rw [List.drop_eq_nil_of_le h]
    exact valL_nonneg hd

end Go.Proofs.YtmnikcnjdeldeaaDoor.rd

/- The reference's Int; what Of answers is that number; DecWholes. -/
namespace Go.Proofs.YtmnikcnjdeldeaaDoor.rd
open Go.RowKit

theorem decDigits_val (u : Nat) : valM (Lib.decDigits u) = u ∧ ∀ c ∈ Lib.decDigits u, nu.dig c = true := by
  induction u using Nat.strongRecOn with
  | ind u ih =>
    rw [Lib.decDigits]
    split
    · rename_i h
      have e : UInt8.ofNat (48 + u) = (48 + u).toUInt8 := rfl
      rw [e]
      refine ⟨?_, fun c hc => ?_⟩
      · rw [valM_one, fz_u8 u (by omega)]
      · rw [List.mem_singleton] at hc; subst hc; exact dig_u8 u (by omega)
    · rename_i h
      obtain ⟨h1, h2⟩ := ih (u / 10) (by omega)
      have e : UInt8.ofNat (48 + u % 10) = (48 + u % 10).toUInt8 := rfl
      rw [e]
      refine ⟨?_, fun c hc => ?_⟩
      · rw [valM_append, valM_one, fz_u8 _ (by omega), h1]
        simp only [List.length_cons, List.length_nil]
        omega
      · rcases List.mem_append.1 hc with q | q
        · exact h2 c q
        · rw [List.mem_singleton] at q; subst q; exact dig_u8 _ (by omega)

theorem digs_itoa (v : Int) : (digs (itoaB v)).data.toList = Lib.decDigits v.natAbs := by
  have h2 := (decDigits_val v.natAbs).2
  have e : (digs (itoaB v)).data.toList = (Lib.itoa v).filter nu.dig := by unfold digs itoaB; simp
  rw [e]
  unfold Lib.itoa
  split
  · rw [List.filter_cons, if_neg (by decide), List.filter_eq_self.2 h2]
  · have : v.toNat = v.natAbs := by omega
    rw [this, List.filter_eq_self.2 h2]

/-- What Of answers is that number, whole. -/
theorem of_exact (v : Int) (h0 : -9223372036854775808 ≤ v) (h1 : v ≤ 9223372036854775807) : Whole1 (ofN v) ∧ sR (ofN v) = v * 10 ^ 9999 ∧ 0 ≤ (ofN v).ex := by
  have hd := digs_dig (itoaB v)
  have hl := digs_itoa v
  have hv := (decDigits_val v.natAbs).1
  have e : ofN v = (told (decide (v < 0)) ((digs (itoaB v)).data.toList.map fz).reverse 0).1 := by
    unfold ofN norm
    simp only
    rw [form_val _ _ _ hd, told_tellV _ _ (row_dig10 hd)]
    rfl
  have hlen : ((digs (itoaB v)).data.toList.map fz).reverse.length ≤ 19 := by
    rw [List.length_reverse, List.length_map, hl]
    exact dec_len2 v.natAbs 18 (by omega)
  obtain ⟨h2, h3⟩ := told_short (decide (v < 0)) _ (row_dig10 hd) hlen
  rw [← e] at h2 h3
  refine ⟨h2, ?_, ?_⟩
  · rw [h3]
    congr 1
    have e2 : valL ((digs (itoaB v)).data.toList.map fz).reverse = (v.natAbs : Int) := by rw [hl]; exact hv
    rw [e2]
    unfold sgn
    by_cases q : v < 0
    · rw [if_pos (by simpa using q)]; omega
    · rw [if_neg (by simpa using q)]; omega
  · unfold ofN norm oneForm
    have l1 := trimR_le (trimL (digs (itoaB v)))
    simp only
    split
    · exact Int.le_refl _
    · split
      · exact Int.le_refl _
      · split
        · exact Int.le_refl _
        · simp only; omega
theorem sgn_cancel (a b : Int) (h : a * 10 ^ 9999 = b * 10 ^ 9999) : a = b := by
  have h1 := scale_lt a b
  have h2 := scale_lt b a
  rw [h] at h1 h2
  have h3 : ¬ a < b := fun q => absurd (h1.2 q) (Int.lt_irrefl _)
  have h4 : ¬ b < a := fun q => absurd (h2.2 q) (Int.lt_irrefl _)
  omega
theorem flo_of_exact (n : Dn) (v : Int) (h0 : -9223372036854775808 ≤ v) (h1 : v ≤ 9223372036854775807) (hx : 0 ≤ n.ex) (hs : sR n = v * 10 ^ 9999) : flo n = (v, true) := by
  have hb : bump n = wsize n := if_neg (fun q => by have := q.2; omega)
  rw [flo_of, hb]
  rw [sR_whole n hx] at hs
  rw [sgn_cancel _ _ hs]
  exact fitI_in v h0 h1
theorem int_of (v : Int) (h0 : -9223372036854775808 ≤ v) (h1 : v ≤ 9223372036854775807) : intV (norm (ofN v)) = (v, true) := by
  obtain ⟨a, b, c⟩ := of_exact v h0 h1
  rw [a.norm_id]
  unfold intV
  rw [if_neg (by omega)]
  exact flo_of_exact _ v h0 h1 c b
theorem ofN_size (v : Int) (h0 : -9223372036854775808 ≤ v) (h1 : v ≤ 9223372036854775807) : (ofN v).dg.size ≤ 20 ∧ -9999 ≤ (ofN v).ex ∧ (ofN v).ex ≤ 9999 := by
  obtain ⟨q1, q2, q3, _⟩ := norm_good ⟨decide (v < 0), itoaB v, 0⟩
  have := itoa_len v h0 h1
  unfold ofN
  simp only at q1
  exact ⟨by omega, q2, q3⟩
end Go.Proofs.YtmnikcnjdeldeaaDoor.rd
