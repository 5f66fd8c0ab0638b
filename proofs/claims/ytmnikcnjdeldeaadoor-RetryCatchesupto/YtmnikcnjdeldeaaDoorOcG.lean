/- Several texts in one. -/
import Derived.Test.YtmnikcnjdeldeaaDoorFmG
import Derived.Test.YtmnikcnjdeldeaaDoorRlG
/- The contracts of the reference's cut, told and plus for slices that begin anywhere in their row. -/
namespace Go.Proofs.YtmnikcnjdeldeaaDoor.rd
open Go.RowKit

/-- A slice of ints that begins anywhere in its row. -/
def IntsO (w : World) (v : Value) (zs : List Int) : Prop :=
  (v = .slice none 0 0 ∧ zs = []) ∨ ∃ g o cap, v = .slice (some ⟨g, o, none⟩) zs.length cap ∧ zs.length ≤ cap ∧ cap ≤ 9223372036854775807 ∧ ∀ j, j < zs.length → w.cell? ⟨g, o + j, none⟩ = some (.int .i64 (zs.getD j 0))
theorem IntsO.keep {w w' : World} {v : Value} {zs : List Int} (h : IntsO w v zs) (hb : Below w.heap.size w w') : IntsO w' v zs := by
  rcases h with h | ⟨g, o, cap, h1, h2, h3, h4⟩
  · exact .inl h
  · exact .inr ⟨g, o, cap, h1, h2, h3, fun j hj => keepC hb (h4 j hj)⟩
theorem Ints.any {w : World} {v : Value} {zs : List Int} (h : Ints w v zs) : IntsO w v zs := by
  rcases h with h | ⟨g, cap, h1, h2, h3, h4⟩
  · exact .inl h
  · exact .inr ⟨g, 0, cap, h1, h2, h3, fun j hj => by rw [Nat.zero_add]; exact h4 j hj⟩
theorem IntsO.form {w : World} {v : Value} {zs : List Int} (h : IntsO w v zs) : ∃ o cap, v = .slice o zs.length cap ∧ zs.length ≤ cap ∧ cap ≤ 9223372036854775807 ∧ ∀ j, j < zs.length → ∃ g b, o = some ⟨g, b, none⟩ ∧ w.cell? ⟨g, b + j, none⟩ = some (.int .i64 (zs.getD j 0)) := by
  rcases h with ⟨rfl, rfl⟩ | ⟨g, b, cap, rfl, h1, h2, h3⟩
  · exact ⟨none, 0, rfl, Nat.le_refl _, by omega, fun j hj => by simp at hj⟩
  · exact ⟨_, cap, rfl, h1, h2, fun j hj => ⟨g, b, rfl, h3 j hj⟩⟩

end Go.Proofs.YtmnikcnjdeldeaaDoor.rd

/- How numbers stand to each other by their values, and what the reference's Floor comes to: no program in it. -/
namespace Go.Proofs.YtmnikcnjdeldeaaDoor.rd
open Go.RowKit

theorem Formed.valpos {n : Dn} (h : Formed n) : 0 < valB n.dg := by
  have h1 := h.low
  have h2 : (0 : Int) < 10 ^ (n.dg.size - 1) := Int.pow_pos (by omega)
  omega
theorem sR_zed : sR zed = 0 := by
  have : valB zed.dg = 0 := rfl
  unfold sR; rw [this]; simp
theorem sR_formed {n : Dn} (h : Formed n) : (n.neg = true → sR n < 0) ∧ (n.neg = false → 0 < sR n) := by
  have h1 := h.valpos
  have h2 : (0 : Int) < 10 ^ (n.ex + 9999).toNat := Int.pow_pos (by omega)
  have h3 := Int.mul_pos h1 h2
  unfold sR
  refine ⟨fun q => ?_, fun q => ?_⟩
  · rw [q]; simp; omega
  · rw [q]; simp; omega

theorem sizeN_flip (p q : Dn) (hp : Formed p) (hq : Formed q) (e : Int) (h1 : e ≤ p.ex) (h2 : e ≤ q.ex) : sizeN (linedN p e) (linedN q e) = - sizeN (linedN q e) (linedN p e) := by
  rw [size_eq p q hp hq e h1 h2, size_eq q p hq hp e h2 h1]; exact cmpS_flip p q

theorem refCmp_lt (p q : Dn) (hp : Whole1 p) (hq : Whole1 q) : refCmp p q < 0 ↔ sR p < sR q := by
  unfold refCmp
  rcases hp with rfl | fp
  · rcases hq with rfl | fq
    · simp [sign_zed]
    · rw [sign_zed, sign_formed fq, sR_zed]
      obtain ⟨s1, s2⟩ := sR_formed fq
      cases hn : q.neg
      · have := s2 hn; simp; omega
      · have := s1 hn; simp; omega
  · rcases hq with rfl | fq
    · rw [sign_zed, sign_formed fp, sR_zed]
      obtain ⟨s1, s2⟩ := sR_formed fp
      cases hn : p.neg
      · have := s2 hn; simp; omega
      · have := s1 hn; simp; omega
    · obtain ⟨s1, s2⟩ := sR_formed fp
      obtain ⟨t1, t2⟩ := sR_formed fq
      rw [sign_formed fp, sign_formed fq]
      obtain ⟨l1, l2⟩ := lower_le p q fp.pos fq.pos
      have lo := (lowerN_bd p q fp.e0 fp.e1 fq.e0 fq.e1).1
      have hsp := lined_sR p (lowerN p q) lo fp.dig (.inr l1)
      have hsq := lined_sR q (lowerN p q) lo fq.dig (.inr l2)
      have d1 := linedN_dig p (lowerN p q)
      have d2 := linedN_dig q (lowerN p q)
      have c1 := sizeN_val d1 d2
      have c2 := sizeN_val d2 d1
      have c3 := sizeN_flip p q fp fq _ l1 l2
      have t0 : (0 : Int) < 10 ^ (lowerN p q + 9999).toNat := Int.pow_pos (by omega)
      generalize (10 : Int) ^ (lowerN p q + 9999).toNat = t at *
      generalize sizeN (linedN p (lowerN p q)) (linedN q (lowerN p q)) = z at *
      generalize sizeN (linedN q (lowerN p q)) (linedN p (lowerN p q)) = y at *
      generalize valL (linedN p (lowerN p q)) = X at *
      generalize valL (linedN q (lowerN p q)) = Y at *
      have m1 : X < Y ↔ X * t < Y * t := ⟨fun h => Int.mul_lt_mul_of_pos_right h t0, fun h => by
        rcases Int.lt_or_le X Y with q | q
        · exact q
        · have := Int.mul_le_mul_of_nonneg_right q (Int.le_of_lt t0); omega⟩
      have m2 : Y < X ↔ Y * t < X * t := ⟨fun h => Int.mul_lt_mul_of_pos_right h t0, fun h => by
        rcases Int.lt_or_le Y X with q | q
        · exact q
        · have := Int.mul_le_mul_of_nonneg_right q (Int.le_of_lt t0); omega⟩
      cases hn : p.neg <;> cases hm : q.neg
      · simp [hn, hm] at hsp hsq ⊢; rw [c1, m1, hsp, hsq]
      · have := s2 hn; have := t1 hm; simp; omega
      · have := s1 hn; have := t2 hm; simp; omega
      · simp [hn, hm] at hsp hsq ⊢; rw [hsp, hsq]; omega
theorem refCmp_flip (p q : Dn) (hp : Whole1 p) (hq : Whole1 q) : refCmp p q = - refCmp q p := by
  rw [← cmp_eq p q hp hq, ← cmp_eq q p hq hp]; exact decCmp_flip p q hp hq
theorem refCmp_gt (p q : Dn) (hp : Whole1 p) (hq : Whole1 q) : 0 < refCmp p q ↔ sR q < sR p := by
  rw [← refCmp_lt q p hq hp, refCmp_flip p q hp hq]; omega

def topD : Dn := ⟨false, ⟨#[57, 50, 50, 51, 51, 55, 50, 48, 51, 54, 56, 53, 52, 55, 55, 53, 56, 48, 55]⟩, 0⟩
def lowD : Dn := ⟨true, ⟨#[57, 50, 50, 51, 51, 55, 50, 48, 51, 54, 56, 53, 52, 55, 55, 53, 56, 48, 56]⟩, 0⟩
theorem norm_top : norm topD = topD := by kernel_rfl
theorem norm_low : norm lowD = lowD := by kernel_rfl
theorem whole_top : Whole1 topD := by have := norm_formed topD; rw [norm_top] at this; exact this
theorem whole_low : Whole1 lowD := by have := norm_formed lowD; rw [norm_low] at this; exact this
theorem val_top : valB topD.dg = 9223372036854775807 := by kernel_rfl
theorem val_low : valB lowD.dg = 9223372036854775808 := by kernel_rfl
theorem sR_top : sR topD = 9223372036854775807 * 10 ^ 9999 := by
  have e : sR topD = 1 * (valB topD.dg * 10 ^ ((0 : Int) + 9999).toNat) := rfl
  rw [e, val_top, show ((0 : Int) + 9999).toNat = 9999 from rfl, Int.one_mul]
theorem sR_low : sR lowD = -9223372036854775808 * 10 ^ 9999 := by
  have e : sR lowD = -1 * (valB lowD.dg * 10 ^ ((0 : Int) + 9999).toNat) := rfl
  rw [e, val_low, show ((0 : Int) + 9999).toNat = 9999 from rfl]
  generalize (10 : Int) ^ 9999 = t
  omega
theorem scale_lt (X Y : Int) : X * 10 ^ 9999 < Y * 10 ^ 9999 ↔ X < Y := by
  have t0 : (0 : Int) < 10 ^ 9999 := Int.pow_pos (by omega)
  generalize (10 : Int) ^ 9999 = t at *
  exact ⟨fun h => by
    rcases Int.lt_or_le X Y with q | q
    · exact q
    · have := Int.mul_le_mul_of_nonneg_right q (Int.le_of_lt t0); omega, fun h => Int.mul_lt_mul_of_pos_right h t0⟩
/-- A whole number's signed size. -/
def sgn (neg : Bool) (v : Int) : Int := if neg then -v else v
theorem sR_whole (n : Dn) (hx : 0 ≤ n.ex) : sR n = sgn n.neg (wsize n) * 10 ^ 9999 := by
  have hw : wsize n = valB n.dg * 10 ^ n.ex.toNat := if_neg (by omega)
  rw [hw]
  unfold sR sgn
  have e : (n.ex + 9999).toNat = n.ex.toNat + 9999 := by omega
  rw [e, Int.pow_add]
  generalize (10 : Int) ^ 9999 = t
  generalize (10 : Int) ^ n.ex.toNat = u
  cases n.neg
  · simp; grind
  · simp; grind
theorem cmp_top (n : Dn) (h : Whole1 n) (hx : 0 ≤ n.ex) : 0 < refCmp n topD ↔ 9223372036854775807 < sgn n.neg (wsize n) := by
  rw [refCmp_gt n topD h whole_top, sR_top, sR_whole n hx, scale_lt]

/-- What is told of a short list of digits is that number. -/
theorem told_short (neg : Bool) (l : List Int) (hd : Dig10 l) (hl : l.length ≤ 19) : Whole1 (told neg l 0).1 ∧ sR (told neg l 0).1 = sgn neg (valL l) * 10 ^ 9999 := by
  have hok : (told neg l 0).2 = true := by
    unfold told
    split
    · rfl
    · rename_i hne
      have hlen := cutN_len l
      have := (lowN_split (cutN l) (cutN_cut hd) hne).1
      rw [if_neg (by omega)]
  rw [told_tellV neg 0 hd] at hok ⊢
  have h0 := valL_nonneg hd
  rcases tellV_exact neg (valL l) 0 h0 hok with ⟨h1, h2⟩ | ⟨h1, h2, h3, h4⟩
  · rw [h1, h2, sR_zed]
    refine ⟨.inl rfl, ?_⟩
    have e : sgn neg 0 = 0 := by unfold sgn; cases neg <;> rfl
    rw [e, Int.zero_mul]
  · refine ⟨.inr h1, ?_⟩
    generalize (tellV neg (valL l) 0).1 = r at *
    rw [sR_whole r h3]
    congr 1
    rw [h2]
    congr 1
    unfold wsize
    rw [if_neg (by omega), ← h4]
    congr 2
    omega
theorem cmp_told (neg : Bool) (l : List Int) (hd : Dig10 l) (hl : l.length ≤ 19) :
    (refCmp (told neg l 0).1 lowD < 0 ↔ sgn neg (valL l) < -9223372036854775808) ∧ (0 < refCmp (told neg l 0).1 topD ↔ 9223372036854775807 < sgn neg (valL l)) := by
  obtain ⟨h1, h2⟩ := told_short neg l hd hl
  refine ⟨?_, ?_⟩
  · rw [refCmp_lt _ _ h1 whole_low, h2, sR_low, scale_lt]
  · rw [refCmp_gt _ _ h1 whole_top, h2, sR_top, scale_lt]

theorem lined_whole (n : Dn) (hd : AllDig n.dg) (hx : 0 ≤ n.ex) : valL (linedN n 0) = wsize n := by
  rw [linedN_val n 0 hd]
  unfold wsize
  rw [if_neg (by omega)]
  congr 2
  omega
theorem lined_part (n : Dn) (hd : AllDig n.dg) (hx : n.ex < 0) : linedN n 0 = cutN (dl n.dg 0) ∧ valL (linedN n 0) = valB n.dg := by
  have e : linedN n 0 = cutN (dl n.dg 0) := by
    unfold linedN
    rw [show (n.ex - 0).toNat = 0 by omega]
    rfl
  exact ⟨e, by rw [e, dl_val _ hd]⟩
theorem drop_part (l : List Int) (hd : Dig10 l) (k : Nat) : valL (l.drop k) = valL l / 10 ^ k := by
  have t0 : (0 : Int) < 10 ^ k := Int.pow_pos (by omega)
  rcases Nat.lt_or_ge k l.length with h | h
  · have h1 := split_val l k (by omega)
    have h2 := valL_nonneg (hd.take k)
    have h3 := valL_lt (hd.take k)
    rw [List.length_take, Nat.min_eq_left (by omega)] at h3
    rw [h1, Int.add_mul_ediv_left _ _ (by omega), Int.ediv_eq_zero_of_lt h2 h3]
    omega
  · rw [List.drop_eq_nil_of_le h]
    have h2 := valL_nonneg hd
    have h3 := valL_lt hd
    have h4 := pow_mono h
    rw [Int.ediv_eq_zero_of_lt h2 (by omega)]
    rfl
theorem lined_drop (n : Dn) (hd : AllDig n.dg) (hx : n.ex < 0) : valL ((linedN n 0).drop (-n.ex).toNat) = wsize n := by
  rw [drop_part _ (linedN_dig n 0), (lined_part n hd hx).2]
  unfold wsize
  rw [if_pos hx]
theorem lined_first (n : Dn) (h : Formed n) (hx : n.ex < 0) : 0 < (linedN n 0).length ∧ 0 < (linedN n 0).getD 0 0 := by
  rw [(lined_part n h.dig hx).1, h.list]
  have hne := h.ne
  have hla := h.la
  have hd := h.dig
  unfold AllDig at hd
  rw [← List.head?_reverse] at hla
  have e : (n.dg.data.toList.map fz).reverse = n.dg.data.toList.reverse.map fz := by rw [List.map_reverse]
  rw [e]
  cases hx : n.dg.data.toList.reverse with
  | nil => rw [List.reverse_eq_nil_iff] at hx; exact absurd hx hne
  | cons a r =>
    rw [hx] at hla
    refine ⟨by simp, ?_⟩
    have := fz_pos a (hd a (List.mem_reverse.1 (by rw [hx]; simp))) (hla a rfl)
    simpa using this
theorem flo_of (n : Dn) : flo n = fitI (sgn n.neg (bump n)) := rfl
theorem fitI_out (v : Int) (h : v < -9223372036854775808 ∨ 9223372036854775807 < v) : fitI v = (0, false) := if_neg (by omega)
theorem fitI_in (v : Int) (h0 : -9223372036854775808 ≤ v) (h1 : v ≤ 9223372036854775807) : fitI v = (v, true) := if_pos ⟨h0, h1⟩
theorem cut_long {l : List Int} (h : Dig10 l) (hl : 19 < (cutN l).length) : 10000000000000000000 ≤ valL l := by
  have h1 := cut_low h (by intro e; rw [e] at hl; simp at hl)
  have h2 := pow_mono (show 19 ≤ (cutN l).length - 1 by omega)
  rw [pow19] at h2
  omega
end Go.Proofs.YtmnikcnjdeldeaaDoor.rd
