/- The greatest whole number that isn't above: no program in it. -/
import Derived.Test.YteenfgomanhjkaaDoorRs
import Derived.Lib.ItoaNum
namespace Go.Proofs.YteenfgomanhjkaaDoor.rd
open Go.RowKit

theorem Formed.norm_id {n : Dn} (h : Formed n) : norm n = n := by
  have hd : digs n.dg = n.dg := by
    unfold digs
    rw [List.filter_eq_self.2 h.dig, Array.toArray_toList]
  have hl : trimL n.dg = n.dg := by
    have e : Lib.trimLeftB n.dg.data.toList 48 = n.dg.data.toList := by
      show n.dg.data.toList.dropWhile (· == 48) = _
      have hh := h.hd
      cases hx : n.dg.data.toList with
      | nil => rfl
      | cons a r =>
        rw [hx] at hh
        rw [List.dropWhile_cons, if_neg (by simpa using hh a rfl)]
    unfold trimL
    rw [e, Array.toArray_toList]
  have hr : trimR n.dg = n.dg := by
    have e : Lib.trimRightB n.dg.data.toList 48 = n.dg.data.toList := by
      show (n.dg.data.toList.reverse.dropWhile (· == 48)).reverse = _
      have hh := h.la
      rw [← List.head?_reverse] at hh
      cases hx : n.dg.data.toList.reverse with
      | nil => rw [List.reverse_eq_nil_iff] at hx; rw [hx]; rfl
      | cons a r =>
        rw [hx] at hh
        rw [List.dropWhile_cons, if_neg (by simpa using hh a rfl), ← hx, List.reverse_reverse]
    unfold trimR
    rw [e, Array.toArray_toList]
  have e0 := h.e0
  have e1 := h.e1
  unfold norm oneForm
  rw [hd, hl, hr, if_neg h.pos, if_neg (by omega), if_neg (by omega)]
  have : n.ex + ((n.dg.size : Int) - n.dg.size) = n.ex := by omega
  rw [this]
theorem norm_zed : norm zed = zed := by kernel_rfl
theorem Whole1.norm_id {n : Dn} (h : Whole1 n) : norm n = n := by
  rcases h with rfl | h
  · exact norm_zed
  · exact h.norm_id
theorem norm_norm (d : Dn) : norm (norm d) = norm d := Whole1.norm_id (norm_formed d)

theorem fz_toB (z : Int) (h0 : 0 ≤ z) (h1 : z ≤ 9) : fz (toB z) = z := by
  have := toB_nat z h0 h1
  unfold fz; omega
theorem dig_toB (z : Int) (h0 : 0 ≤ z) (h1 : z ≤ 9) : nu.dig (toB z) = true := by
  have := toB_nat z h0 h1
  have h2 : 48 ≤ (toB z).toNat ∧ (toB z).toNat ≤ 57 := by omega
  simp only [nu.dig]; simpa using h2
theorem map_fz_toB {l : List Int} (h : Dig10 l) : (l.map toB).map fz = l := by
  induction l with
  | nil => rfl
  | cons z r ih => rw [List.map_cons, List.map_cons, ih h.tail.2, fz_toB z h.tail.1.1 h.tail.1.2]
theorem lowN_split (u : List Int) (h : cutN u = u) (hne : u ≠ []) : lowN u < u.length ∧ u = List.replicate (lowN u) 0 ++ u.drop (lowN u) ∧ u.getD (lowN u) 0 ≠ 0 := by
  have hl : u.getD (u.length - 1) 0 ≠ 0 := by
    have := cutN_last u (by rw [h]; exact hne)
    rw [h] at this
    exact this
  clear h
  induction u with
  | nil => exact absurd rfl hne
  | cons z r ih =>
    by_cases hz : z = 0
    · have hr : r ≠ [] := by
        intro e; subst e
        simp at hl
        exact hl hz
      have hl' : r.getD (r.length - 1) 0 ≠ 0 := by
        cases r with
        | nil => exact absurd rfl hr
        | cons y s => simpa using hl
      obtain ⟨h1, h2, h3⟩ := ih hr hl'
      have e : lowN (z :: r) = lowN r + 1 := by simp [lowN, hz]
      rw [e]
      refine ⟨by simp only [List.length_cons]; omega, ?_, by simpa using h3⟩
      rw [List.replicate_succ, List.cons_append, List.drop_succ_cons, hz]
      congr 1
    · have e : lowN (z :: r) = 0 := by simp [lowN, hz]
      rw [e]
      exact ⟨by simp, by simp, by simpa using hz⟩
theorem cutN_cut {l : List Int} (h : Dig10 l) : cutN (cutN l) = cutN l := cutN_val h.cut h (valL_cutN l)

/-- What tellV tells where it tells a number: that number. -/
theorem tellV_exact (n : Bool) (v e : Int) (h0 : 0 ≤ v) (hok : (tellV n v e).2 = true) :
    ((tellV n v e).1 = zed ∧ v = 0) ∨ (Formed (tellV n v e).1 ∧ (tellV n v e).1.neg = n ∧ e ≤ (tellV n v e).1.ex ∧ valB (tellV n v e).1.dg * 10 ^ ((tellV n v e).1.ex - e).toNat = v) := by
  have hd := dgN_dig v.toNat
  have hv : valL (dgN v.toNat) = v := by rw [dgN_val]; omega
  unfold tellV told at *
  by_cases hc : cutN (dgN v.toNat) = []
  · rw [if_pos hc]
    refine .inl ⟨rfl, ?_⟩
    rw [← hv, ← valL_cutN, hc]; rfl
  · rw [if_neg hc] at hok ⊢
    have hdc := hd.cut
    have hcc := cutN_cut hd
    have hvc : valL (cutN (dgN v.toNat)) = v := by rw [valL_cutN, hv]
    have hla := cutN_last _ hc
    generalize cutN (dgN v.toNat) = u at *
    obtain ⟨l1, l2, l3⟩ := lowN_split u hcc hc
    generalize lowN u = m at *
    by_cases hb : e < -9999 - (m : Int) ∨ 9999 - (m : Int) < e
    · rw [if_pos hb] at hok; cases hok
    · rw [if_neg hb]
      refine .inr ⟨?_, rfl, by simp only; omega, ?_⟩
      · have hdd := hdc.drop m
        have et : tb u m = ((u.drop m).reverse).map toB := rfl
        have hr : Dig10 (u.drop m).reverse := fun z hz => hdd z (List.mem_reverse.1 hz)
        have hlen : 0 < (u.drop m).length := by rw [List.length_drop]; omega
        have hml : m < u.length := l1
        refine ⟨?_, ?_, ?_, ?_, by simp only; omega, by simp only; omega⟩
        · intro c hcm
          simp only at hcm
          rw [et, List.mem_map] at hcm
          obtain ⟨z, hz, rfl⟩ := hcm
          have := hr z hz
          exact dig_toB z this.1 this.2
        · simp only
          rw [et]
          intro q
          have := congrArg List.length q
          simp only [List.length_map, List.length_reverse, List.length_nil] at this
          omega
        · intro c hcm
          simp only at hcm
          rw [et, List.head?_map, List.head?_reverse] at hcm
          have e2 : (u.drop m).getLast? = some (u.getD (u.length - 1) 0) := by
            rw [List.getLast?_eq_getElem?, List.length_drop, List.getElem?_drop]
            have : m + (u.length - m - 1) = u.length - 1 := by omega
            rw [this, List.getElem?_eq_getElem (by omega)]
            simp [show u.length - 1 < u.length by omega]
          rw [e2] at hcm
          simp only [Option.map_some, Option.some.injEq] at hcm
          have hz := hdc.at (u.length - 1) (by omega)
          intro q
          rw [q] at hcm
          have := fz_toB _ hz.1 hz.2
          rw [hcm] at this
          apply hla
          rw [← this]; rfl
        · intro c hcm
          simp only at hcm
          rw [et, List.getLast?_map, List.getLast?_reverse] at hcm
          have e2 : (u.drop m).head? = some (u.getD m 0) := by
            rw [List.head?_drop, List.getElem?_eq_getElem hml]
            simp [hml]
          rw [e2] at hcm
          simp only [Option.map_some, Option.some.injEq] at hcm
          have hz := hdc.at m hml
          intro q
          rw [q] at hcm
          have := fz_toB _ hz.1 hz.2
          rw [hcm] at this
          apply l3
          rw [← this]; rfl
      · have e3 : e + (m : Int) - e = (m : Int) := by omega
        simp only
        rw [e3]
        have e4 : valB ⟨(tb u m).toArray⟩ = valL (u.drop m) := by
          unfold valB valM tb
          simp only
          rw [map_fz_toB (fun z hz => (hdc.drop m) z (List.mem_reverse.1 hz)), List.reverse_reverse]
        rw [e4, ← hvc]
        have := valL_append (List.replicate m 0) (u.drop m)
        rw [← l2, valL_zeros, List.length_replicate] at this
        rw [this]
        have e5 : ((m : Nat) : Int).toNat = m := by omega
        rw [e5]
        grind

/-- The whole part's size, and the greatest whole number that isn't above. -/
def wsize (n : Dn) : Int := if n.ex < 0 then valB n.dg / 10 ^ (-n.ex).toNat else valB n.dg * 10 ^ n.ex.toNat
def bump (n : Dn) : Int := if n.neg = true ∧ n.ex < 0 then wsize n + 1 else wsize n
def floorI (n : Dn) : Int := if n.neg then - bump n else bump n
def fitI (v : Int) : Int × Bool := if -9223372036854775808 ≤ v ∧ v ≤ 9223372036854775807 then (v, true) else (0, false)
def flo (n : Dn) : Int × Bool := fitI (floorI n)
def intV (n : Dn) : Int × Bool := if n.ex < 0 then (0, false) else flo n

theorem Formed.low {n : Dn} (h : Formed n) : (10 : Int) ^ (n.dg.size - 1) ≤ valB n.dg := by
  have hl := len_list n.dg
  unfold valB
  have hd := h.dig
  have hh := h.hd
  have hne := h.ne
  unfold AllDig at hd
  cases hx : n.dg.data.toList with
  | nil => exact absurd hx hne
  | cons a r =>
    rw [hx] at hd hh hl
    have h1 := fz_pos a (hd a (by simp)) (hh a rfl)
    have h2 := valM_nonneg (l := r) (fun c hc => hd c (by simp [hc]))
    have h3 : n.dg.size - 1 = r.length := by simp at hl; omega
    rw [h3, valM_cons]
    have h4 : (1 : Int) * 10 ^ r.length ≤ fz a * 10 ^ r.length := Int.mul_le_mul_of_nonneg_right (by omega) (Int.pow_nonneg (by omega))
    omega
theorem pow19 : (10 : Int) ^ 19 = 10000000000000000000 := by decide
theorem wsize_big (n : Dn) (h : Formed n) (ht : 19 < topN n) : 10000000000000000000 ≤ wsize n := by
  have hl := h.low
  have hp := h.pos
  unfold topN at ht
  rw [← pow19]
  unfold wsize
  split
  · have h1 : (10 : Int) ^ 19 * 10 ^ (-n.ex).toNat ≤ 10 ^ (n.dg.size - 1) := by
      rw [← Int.pow_add]; exact pow_mono (by omega)
    have h2 : (0 : Int) < 10 ^ (-n.ex).toNat := Int.pow_pos (by omega)
    exact (Int.le_ediv_iff_mul_le h2).2 (by omega)
  · have h1 : (10 : Int) ^ 19 ≤ 10 ^ (n.dg.size - 1) * 10 ^ n.ex.toNat := by
      rw [← Int.pow_add]; exact pow_mono (by omega)
    have h2 : (10 : Int) ^ (n.dg.size - 1) * 10 ^ n.ex.toNat ≤ valB n.dg * 10 ^ n.ex.toNat := Int.mul_le_mul_of_nonneg_right hl (Int.pow_nonneg (by omega))
    omega
theorem wsize_nonneg (n : Dn) (hd : AllDig n.dg) : 0 ≤ wsize n := by
  have h := valB_nonneg hd
  unfold wsize
  split
  · exact Int.ediv_nonneg h (Int.pow_nonneg (by omega))
  · exact Int.mul_nonneg h (Int.pow_nonneg (by omega))
theorem wsize_small (n : Dn) (hd : AllDig n.dg) (ht : topN n ≤ 19) : wsize n < 10000000000000000000 := by
  have h := valB_lt hd
  unfold topN at ht
  rw [← pow19]
  unfold wsize
  split
  · have h2 : (0 : Int) < 10 ^ (-n.ex).toNat := Int.pow_pos (by omega)
    apply Int.ediv_lt_of_lt_mul h2
    rw [← Int.pow_add]
    have := pow_mono (show n.dg.size ≤ 19 + (-n.ex).toNat by omega)
    omega
  · have h2 : (0 : Int) < 10 ^ n.ex.toNat := Int.pow_pos (by omega)
    have h3 : valB n.dg * 10 ^ n.ex.toNat < 10 ^ n.dg.size * 10 ^ n.ex.toNat := Int.mul_lt_mul_of_pos_right h h2
    rw [← Int.pow_add] at h3
    have := pow_mono (show n.dg.size + n.ex.toNat ≤ 19 by omega)
    omega
theorem flo_big (n : Dn) (h : Whole1 n) (ht : 19 < topN n) : flo n = (0, false) := by
  rcases h with rfl | h
  · have : topN zed = 0 := rfl
    omega
  · have h1 := wsize_big n h ht
    unfold flo fitI floorI bump
    apply if_neg
    split <;> split <;> omega

/-- What signed answers. -/
def sgV (neg : Bool) (s : Int) : Int × Bool := fitI (if neg then -s else s)
theorem flo_eq (n : Dn) : flo n = sgV n.neg (bump n) := rfl

/-- The digits that wholeSize adds up. -/
def wholeB (n : Dn) : ByteArray := if n.ex < 0 then n.dg.extract 0 (max 0 (topN n)).toNat else n.dg ++ zeros n.ex.toNat
theorem wholeB_val (n : Dn) (hd : AllDig n.dg) : valB (wholeB n) = wsize n := by
  unfold wholeB wsize
  split
  · rename_i hx
    have hl := len_list n.dg
    unfold topN
    rcases Int.lt_or_le 0 ((n.dg.size : Int) + n.ex) with h | h
    · have e : (max 0 ((n.dg.size : Int) + n.ex)).toNat = n.dg.size - (-n.ex).toNat := by omega
      rw [e]
      unfold valB
      rw [nu.ext_list, List.drop_zero, Nat.sub_zero]
      have h1 := valM_append (n.dg.data.toList.take (n.dg.size - (-n.ex).toNat)) (n.dg.data.toList.drop (n.dg.size - (-n.ex).toNat))
      rw [List.take_append_drop, List.length_drop, hl] at h1
      have e2 : n.dg.size - (n.dg.size - (-n.ex).toNat) = (-n.ex).toNat := by omega
      rw [e2] at h1
      have h2 := valM_nonneg (l := n.dg.data.toList.drop (n.dg.size - (-n.ex).toNat)) (fun c hc => hd c (List.mem_of_mem_drop hc))
      have h3 := valM_lt (l := n.dg.data.toList.drop (n.dg.size - (-n.ex).toNat)) (fun c hc => hd c (List.mem_of_mem_drop hc))
      rw [List.length_drop, hl, e2] at h3
      rw [h1]
      have h4 : (0 : Int) < 10 ^ (-n.ex).toNat := Int.pow_pos (by omega)
      generalize (10 : Int) ^ (-n.ex).toNat = t at *
      generalize valM (n.dg.data.toList.take (n.dg.size - (-n.ex).toNat)) = a at *
      generalize valM (n.dg.data.toList.drop (n.dg.size - (-n.ex).toNat)) = b at *
      rw [Int.add_comm, Int.add_mul_ediv_right _ _ (by omega), Int.ediv_eq_zero_of_lt h2 h3]
      omega
    · have e : (max 0 ((n.dg.size : Int) + n.ex)).toNat = 0 := by omega
      rw [e]
      have h1 := valB_lt hd
      have h2 := valB_nonneg hd
      have h3 := pow_mono (show n.dg.size ≤ (-n.ex).toNat by omega)
      rw [Int.ediv_eq_zero_of_lt h2 (by omega)]
      apply valB_none
      simp
  · rw [valB_app, zeros_size]
    have hz : valB (zeros n.ex.toNat) = 0 := by unfold valB; rw [zeros_list, valM_zeros]
    rw [hz]; omega
theorem wholeB_size (n : Dn) (ht : topN n ≤ 19) : (wholeB n).size ≤ 19 := by
  unfold wholeB
  unfold topN at *
  split
  · have : (n.dg.extract 0 (max 0 ((n.dg.size : Int) + n.ex)).toNat).size = min (max 0 ((n.dg.size : Int) + n.ex)).toNat n.dg.size - 0 := by simp
    omega
  · rw [ByteArray.size_append, zeros_size]; omega
theorem wholeB_dig (n : Dn) (hd : AllDig n.dg) : AllDig (wholeB n) := by
  unfold wholeB
  split
  · intro c hc
    rw [nu.ext_list] at hc
    exact hd c (List.mem_of_mem_drop (List.mem_of_mem_take hc))
  · exact cat_dig hd (zeros_dig _)
end Go.Proofs.YteenfgomanhjkaaDoor.rd
