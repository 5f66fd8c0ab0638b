/- Several texts in one. -/
import Derived.Test.YtmnikcnjdeldeaaDoorRaG
import Derived.Lib.ItoaNum
/- The greatest whole number that isn't above: no program in it. -/
namespace Go.Proofs.YtmnikcnjdeldeaaDoor.rd
open Go.RowKit

theorem Formed.norm_id {n : Dn} (h : Formed n) : norm n = n := by
  have hd : digs n.dg = n.dg := by
    unfold digs
    rw [List.filter_eq_self.2 h.dig, Array.toArray_toList]
  have hl : trimL n.dg = n.dg := by
    have e : Lib.trimLeftB n.dg.data.toList 48 = n.dg.data.toList := by
      show n.dg.data.toList.dropWhile (· == 48) = _
      have hh := h.hd
      cases hx : n.dg.data.toList with
      | nil => rfl
      | cons a r =>
        rw [hx] at hh
        rw [List.dropWhile_cons, if_neg (by simpa using hh a rfl)]
    unfold trimL
    rw [e, Array.toArray_toList]
  have hr : trimR n.dg = n.dg := by
    have e : Lib.trimRightB n.dg.data.toList 48 = n.dg.data.toList := by
      show (n.dg.data.toList.reverse.dropWhile (· == 48)).reverse = _
      have hh := h.la
      rw [← List.head?_reverse] at hh
      cases hx : n.dg.data.toList.reverse with
      | nil => rw [List.reverse_eq_nil_iff] at hx; rw [hx]; rfl
      | cons a r =>
        rw [hx] at hh
        rw [List.dropWhile_cons, if_neg (by simpa using hh a rfl), ← hx, List.reverse_reverse]
    unfold trimR
    rw [e, Array.toArray_toList]
  have e0 := h.e0
  have e1 := h.e1
  unfold norm oneForm
  rw [hd, hl, hr, if_neg h.pos, if_neg (by omega), if_neg (by omega)]
  have : n.ex + ((n.dg.size : Int) - n.dg.size) = n.ex := by omega
  rw [this]
theorem norm_zed : norm zed = zed := by kernel_rfl
theorem Whole1.norm_id {n : Dn} (h : Whole1 n) : norm n = n := by
  rcases h with rfl | h
  · exact norm_zed
  · exact h.norm_id
theorem norm_norm (d : Dn) : norm (norm d) = norm d := Whole1.norm_id (norm_formed d)

theorem fz_toB (z : Int) (h0 : 0 ≤ z) (h1 : z ≤ 9) : fz (toB z) = z := by
  have := toB_nat z h0 h1
  unfold fz; omega
theorem dig_toB (z : Int) (h0 : 0 ≤ z) (h1 : z ≤ 9) : nu.dig (toB z) = true := by
  have := toB_nat z h0 h1
  have h2 : 48 ≤ (toB z).toNat ∧ (toB z).toNat ≤ 57 := by omega
  simp only [nu.dig]; simpa using h2
theorem map_fz_toB {l : List Int} (h : Dig10 l) : (l.map toB).map fz = l := by
  induction l with
  | nil => rfl
  | cons z r ih => rw [List.map_cons, List.map_cons, ih h.tail.2, fz_toB z h.tail.1.1 h.tail.1.2]
theorem lowN_split (u : List Int) (h : cutN u = u) (hne : u ≠ []) : lowN u < u.length ∧ u = List.replicate (lowN u) 0 ++ u.drop (lowN u) ∧ u.getD (lowN u) 0 ≠ 0 := by
  have hl : u.getD (u.length - 1) 0 ≠ 0 := by
    have := cutN_last u (by rw [h]; exact hne)
    rw [h] at this
    exact this
  clear h
  induction u with
  | nil => exact absurd rfl hne
  | cons z r ih =>
    by_cases hz : z = 0
    · have hr : r ≠ [] := by
        intro e; subst e
        simp at hl
        exact hl hz
      have hl' : r.getD (r.length - 1) 0 ≠ 0 := by
        cases r with
        | nil => exact absurd rfl hr
        | cons y s => simpa using hl
      obtain ⟨h1, h2, h3⟩ := ih hr hl'
      have e : lowN (z :: r) = lowN r + 1 := by simp [lowN, hz]
      rw [e]
      refine ⟨by simp only [List.length_cons]; omega, ?_, by simpa using h3⟩
      rw [List.replicate_succ, List.cons_append, List.drop_succ_cons, hz]
      congr 1
    · have e : lowN (z :: r) = 0 := by simp [lowN, hz]
      rw [e]
      exact ⟨by simp, by simp, by simpa using hz⟩
theorem cutN_cut {l : List Int} (h : Dig10 l) : cutN (cutN l) = cutN l := cutN_val h.cut h (valL_cutN l)

/-- What tellV tells where it tells a number: that number. -/
theorem tellV_exact (n : Bool) (v e : Int) (h0 : 0 ≤ v) (hok : (tellV n v e).2 = true) :
    ((tellV n v e).1 = zed ∧ v = 0) ∨ (Formed (tellV n v e).1 ∧ (tellV n v e).1.neg = n ∧ e ≤ (tellV n v e).1.ex ∧ valB (tellV n v e).1.dg * 10 ^ ((tellV n v e).1.ex - e).toNat = v) := by
  have hd := dgN_dig v.toNat
  have hv : valL (dgN v.toNat) = v := by rw [dgN_val]; omega
  unfold tellV told at *
  by_cases hc : cutN (dgN v.toNat) = []
  · rw [if_pos hc]
    refine .inl ⟨rfl, ?_⟩
    rw [← hv, ← valL_cutN, hc]; rfl
  · rw [if_neg hc] at hok ⊢
    have hdc := hd.cut
    have hcc := cutN_cut hd
    have hvc : valL (cutN (dgN v.toNat)) = v := by rw [valL_cutN, hv]
    have hla := cutN_last _ hc
    generalize cutN (dgN v.toNat) = u at *
    obtain ⟨l1, l2, l3⟩ := lowN_split u hcc hc
    generalize lowN u = m at *
    by_cases hb : e < -9999 - (m : Int) ∨ 9999 - (m : Int) < e
    · rw [if_pos hb] at hok; cases hok
    · rw [if_neg hb]
      refine .inr ⟨?_, rfl, by simp only; omega, ?_⟩
      · have hdd := hdc.drop m
        have et : tb u m = ((u.drop m).reverse).map toB := rfl
        have hr : Dig10 (u.drop m).reverse := fun z hz => hdd z (List.mem_reverse.1 hz)
        have hlen : 0 < (u.drop m).length := by rw [List.length_drop]; omega
        have hml : m < u.length := l1
        refine ⟨?_, ?_, ?_, ?_, by simp only; omega, by simp only; omega⟩
        · intro c hcm
          simp only at hcm
          rw [et, List.mem_map] at hcm
          obtain ⟨z, hz, rfl⟩ := hcm
          have := hr z hz
          exact dig_toB z this.1 this.2
        · simp only
          rw [et]
          intro q
          have := congrArg List.length q
          simp only [List.length_map, List.length_reverse, List.length_nil] at this
          omega
        · intro c hcm
          simp only at hcm
          rw [et, List.head?_map, List.head?_reverse] at hcm
          have e2 : (u.drop m).getLast? = some (u.getD (u.length - 1) 0) := by
            rw [List.getLast?_eq_getElem?, List.length_drop, List.getElem?_drop]
            have : m + (u.length - m - 1) = u.length - 1 := by omega
            rw [this, List.getElem?_eq_getElem (by omega)]
            simp [show u.length - 1 < u.length by omega]
          rw [e2] at hcm
          simp only [Option.map_some, Option.some.injEq] at hcm
          have hz := hdc.at (u.length - 1) (by omega)
          intro q
          rw [q] at hcm
          have := fz_toB _ hz.1 hz.2
          rw [hcm] at this
          apply hla
          rw [← this]; rfl
        · intro c hcm
          simp only at hcm
          rw [et, List.getLast?_map, List.getLast?_reverse] at hcm
          have e2 : (u.drop m).head? = some (u.getD m 0) := by
            rw [List.head?_drop, List.getElem?_eq_getElem hml]
            simp [hml]
          rw [e2] at hcm
          simp only [Option.map_some, Option.some.injEq] at hcm
          have hz := hdc.at m hml
          intro q
          rw [q] at hcm
          have := fz_toB _ hz.1 hz.2
          rw [hcm] at this
          apply l3
          rw [← this]; rfl
      · have e3 : e + (m : Int) - e = (m : Int) := by omega
        simp only
        rw [e3]
        have e4 : valB ⟨(tb u m).toArray⟩ = valL (u.drop m) := by
          unfold valB valM tb
          simp only
          rw [map_fz_toB (fun z hz => (hdc.drop m) z (List.mem_reverse.1 hz)), List.reverse_reverse]
        rw [e4, ← hvc]
        have := valL_append (List.replicate m 0) (u.drop m)
        rw [← l2, valL_zeros, List.length_replicate] at this
        rw [this]
        have e5 : ((m : Nat) : Int).toNat = m := by omega
        rw [e5]
        grind

/-- The whole part's size, and the greatest whole number that isn't above. -/
def wsize (n : Dn) : Int := if n.ex < 0 then valB n.dg / 10 ^ (-n.ex).toNat else valB n.dg * 10 ^ n.ex.toNat
def bump (n : Dn) : Int := if n.neg = true ∧ n.ex < 0 then wsize n + 1 else wsize n
def floorI (n : Dn) : Int := if n.neg then - bump n else bump n
def fitI (v : Int) : Int × Bool := if -9223372036854775808 ≤ v ∧ v ≤ 9223372036854775807 then (v, true) else (0, false)
def flo (n : Dn) : Int × Bool := fitI (floorI n)
def intV (n : Dn) : Int × Bool := if n.ex < 0 then (0, false) else flo n

theorem Formed.low {n : Dn} (h : Formed n) : (10 : Int) ^ (n.dg.size - 1) ≤ valB n.dg := by
  have hl := len_list n.dg
  unfold valB
  have hd := h.dig
  have hh := h.hd
  have hne := h.ne
  unfold AllDig at hd
  cases hx : n.dg.data.toList with
  | nil => exact absurd hx hne
  | cons a r =>
    rw [hx] at hd hh hl
    have h1 := fz_pos a (hd a (by simp)) (hh a rfl)
    have h2 := valM_nonneg (l := r) (fun c hc => hd c (by simp [hc]))
    have h3 : n.dg.size - 1 = r.length := by simp at hl; omega
    rw [h3, valM_cons]
    have h4 : (1 : Int) * 10 ^ r.length ≤ fz a * 10 ^ r.length := Int.mul_le_mul_of_nonneg_right (by omega) (Int.pow_nonneg (by omega))
    omega
theorem pow19 : (10 : Int) ^ 19 = 10000000000000000000 := by decide
theorem wsize_big (n : Dn) (h : Formed n) (ht : 19 < topN n) : 10000000000000000000 ≤ wsize n := by
  have hl := h.low
  have hp := h.pos
  unfold topN at ht
  rw [← pow19]
  unfold wsize
  split
  · have h1 : (10 : Int) ^ 19 * 10 ^ (-n.ex).toNat ≤ 10 ^ (n.dg.size - 1) := by
      rw [← Int.pow_add]; exact pow_mono (by omega)
    have h2 : (0 : Int) < 10 ^ (-n.ex).toNat := Int.pow_pos (by omega)
    exact (Int.le_ediv_iff_mul_le h2).2 (by omega)
  · have h1 : (10 : Int) ^ 19 ≤ 10 ^ (n.dg.size - 1) * 10 ^ n.ex.toNat := by
      rw [← Int.pow_add]; exact pow_mono (by omega)
    have h2 : (10 : Int) ^ (n.dg.size - 1) * 10 ^ n.ex.toNat ≤ valB n.dg * 10 ^ n.ex.toNat := Int.mul_le_mul_of_nonneg_right hl (Int.pow_nonneg (by omega))
    omega
theorem wsize_nonneg (n : Dn) (hd : AllDig n.dg) : 0 ≤ wsize n := by
  have h := valB_nonneg hd
  unfold wsize
  split
  · exact Int.ediv_nonneg h (Int.pow_nonneg (by omega))
  · exact Int.mul_nonneg h (Int.pow_nonneg (by omega))
theorem wsize_small (n : Dn) (hd : AllDig n.dg) (ht : topN n ≤ 19) : wsize n < 10000000000000000000 := by
  have h := valB_lt hd
  unfold topN at ht
  rw [← pow19]
  unfold wsize
  split
  · have h2 : (0 : Int) < 10 ^ (-n.ex).toNat := Int.pow_pos (by omega)
    apply Int.ediv_lt_of_lt_mul h2
    rw [← Int.pow_add]
    have := pow_mono (show n.dg.size ≤ 19 + (-n.ex).toNat by omega)
    omega
  · have h2 : (0 : Int) < 10 ^ n.ex.toNat := Int.pow_pos (by omega)
    have h3 : valB n.dg * 10 ^ n.ex.toNat < 10 ^ n.dg.size * 10 ^ n.ex.toNat := Int.mul_lt_mul_of_pos_right h h2
    rw [← Int.pow_add] at h3
    have := pow_mono (show n.dg.size + n.ex.toNat ≤ 19 by omega)
    omega
theorem flo_big (n : Dn) (h : Whole1 n) (ht : 19 < topN n) : flo n = (0, false) := by
  rcases h with rfl | h
  · have : topN zed = 0 := rfl
    omega
  · have h1 := wsize_big n h ht
    unfold flo fitI floorI bump
    apply if_neg
    split <;> split <;> omega

/-- What signed answers. -/
def sgV (neg : Bool) (s : Int) : Int × Bool := fitI (if neg then -s else s)
theorem flo_eq (n : Dn) : flo n = sgV n.neg (bump n) := rfl

/-- The digits that wholeSize adds up. -/
def wholeB (n : Dn) : ByteArray := if n.ex < 0 then n.dg.extract 0 (max 0 (topN n)).toNat else n.dg ++ zeros n.ex.toNat
theorem wholeB_val (n : Dn) (hd : AllDig n.dg) : valB (wholeB n) = wsize n := by
  unfold wholeB wsize
  split
  · rename_i hx
    have hl := len_list n.dg
    unfold topN
    rcases Int.lt_or_le 0 ((n.dg.size : Int) + n.ex) with h | h
    · have e : (max 0 ((n.dg.size : Int) + n.ex)).toNat = n.dg.size - (-n.ex).toNat := by omega
      rw [e]
      unfold valB
      rw [nu.ext_list, List.drop_zero, Nat.sub_zero]
      have h1 := valM_append (n.dg.data.toList.take (n.dg.size - (-n.ex).toNat)) (n.dg.data.toList.drop (n.dg.size - (-n.ex).toNat))
      rw [List.take_append_drop, List.length_drop, hl] at h1
      have e2 : n.dg.size - (n.dg.size - (-n.ex).toNat) = (-n.ex).toNat := by omega
      rw [e2] at h1
      have h2 := valM_nonneg (l := n.dg.data.toList.drop (n.dg.size - (-n.ex).toNat)) (fun c hc => hd c (List.mem_of_mem_drop hc))
      have h3 := valM_lt (l := n.dg.data.toList.drop (n.dg.size - (-n.ex).toNat)) (fun c hc => hd c (List.mem_of_mem_drop hc))
      rw [List.length_drop, hl, e2] at h3
      rw [h1]
      have h4 : (0 : Int) < 10 ^ (-n.ex).toNat := Int.pow_pos (by omega)
      generalize (10 : Int) ^ (-n.ex).toNat = t at *
      generalize valM (n.dg.data.toList.take (n.dg.size - (-n.ex).toNat)) = a at *
      generalize valM (n.dg.data.toList.drop (n.dg.size - (-n.ex).toNat)) = b at *
      rw [Int.add_comm, Int.add_mul_ediv_right _ _ (by omega), Int.ediv_eq_zero_of_lt h2 h3]
      omega
    · have e : (max 0 ((n.dg.size : Int) + n.ex)).toNat = 0 := by omega
      rw [e]
      have h1 := valB_lt hd
      have h2 := valB_nonneg hd
      have h3 := pow_mono (show n.dg.size ≤ (-n.ex).toNat by omega)
      rw [Int.ediv_eq_zero_of_lt h2 (by omega)]
      apply valB_none
      simp
  · rw [valB_app, zeros_size]
    have hz : valB (zeros n.ex.toNat) = 0 := by unfold valB; rw [zeros_list, valM_zeros]
    rw [hz]; omega
theorem wholeB_size (n : Dn) (ht : topN n ≤ 19) : (wholeB n).size ≤ 19 := by
  unfold wholeB
  unfold topN at *
  split
  · have : (n.dg.extract 0 (max 0 ((n.dg.size : Int) + n.ex)).toNat).size = min (max 0 ((n.dg.size : Int) + n.ex)).toNat n.dg.size - 0 := by simp
    omega
  · rw [ByteArray.size_append, zeros_size]; omega
theorem wholeB_dig (n : Dn) (hd : AllDig n.dg) : AllDig (wholeB n) := by
  unfold wholeB
  split
  · intro c hc
    rw [nu.ext_list] at hc
    exact hd c (List.mem_of_mem_drop (List.mem_of_mem_take hc))
  · exact cat_dig hd (zeros_dig _)
end Go.Proofs.YtmnikcnjdeldeaaDoor.rd

/- The contracts of Of, wholeSize, signed, Floor and Int. -/
namespace Go.Proofs.YtmnikcnjdeldeaaDoor.rd
open Go.RowKit

theorem format_any (n : Int) (w : World) (h0 : -9223372036854775808 ≤ n) (h1 : n ≤ 9223372036854775807) (hp : Pow w) :
    Calls Tryd.prog 39 #[.int .i64 n, .int .i64 10] w fun e w' => e = .returned (.string (itoaB n)) ∧ Below w.heap.size w w' :=
  (Tryd.strconv_FormatInt_10 n h0 h1 w hp).mono fun _ _ ⟨he, k, os, hw⟩ => ⟨he, by subst hw; exact Lib.below_grow w.heap.size w (Nat.le_refl _) k os⟩

theorem dec_len2 (u k : Nat) (h : u < 10 ^ (k + 1)) : (Lib.decDigits u).length ≤ k + 1 := by
  induction k generalizing u with
  | zero =>
    rw [Lib.decDigits, dif_pos (by simpa using h)]
    simp
  | succ k ih =>
    rw [Lib.decDigits]
    split
    · simp
    · rw [List.length_append]
      have := ih (u / 10) (by rw [Nat.pow_succ] at h; omega)
      simp only [List.length_cons, List.length_nil]
      omega
theorem itoa_len (n : Int) (h0 : -9223372036854775808 ≤ n) (h1 : n ≤ 9223372036854775807) : (itoaB n).size ≤ 20 := by
  have e : (itoaB n).size = (Lib.itoa n).length := by unfold itoaB; exact List.size_toArray
  rw [e]
  unfold Lib.itoa
  split
  · have := dec_len2 n.natAbs 18 (by omega)
    simp only [List.length_cons]; omega
  · have := dec_len2 n.toNat 18 (by omega)
    omega

/-- What Of answers. -/
def ofN (v : Int) : Dn := norm ⟨decide (v < 0), itoaB v, 0⟩

theorem ret_of {m : Nat} (w : World) (d : Dn) (h : DLies w m d) (tmps : Array Value) (ht : tmps[2]?.getD undef = .pointer (some ⟨m, 0, none⟩)) :
    (results Tryd.f33 tmps).run Tryd.prog w = .ok (dv d) w := by
  obtain ⟨q0, q1, q2⟩ := h.cells
  simp [results, Tryd.results33, ht, go_sem, q0, q1, q2, dv]

set_option maxRecDepth 100000 in
set_option maxHeartbeats 1600000 in
theorem of_any (v : Int) (w : World) (h0 : -9223372036854775808 ≤ v) (h1 : v ≤ 9223372036854775807) (hp : Pow w) :
    Calls Tryd.prog 33 #[.int .i64 v] w fun e w' => e = .returned (dv (ofN v)) ∧ Below w.heap.size w w' := by
  have hl := itoa_len v h0 h1
  have C1 := hide (fun w hp => format_any v w h0 h1 hp)
  have c2 := fun w => norm_any ⟨decide (v < 0), itoaB v, 0⟩ w (by simp only; omega) (by simp only; omega) (by simp only; omega)
  have e : norm ⟨decide (v < 0), itoaB v, 0⟩ = ofN v := rfl
  rw [e] at c2
  generalize ofN v = r at *
  generalize itoaB v = s at *
  obtain ⟨rn, rg, rx⟩ := r
  simp only [dv] at c2 ⊢
  have C2 := hide c2
  have HP := hide hp
  clear c2 e hp
  go_enter Tryd.func33, Tryd.ntmps33
  go_wp2_with fail
  refine (unhide C1 _ ((unhide HP).keep ((Below.refl _ _).alloc (Nat.le_refl _) _))).mono ?_
  rintro e w1 ⟨rfl, hb1⟩
  have l1 : DLies w1 w.heap.size zed := (dlies_new w zed).below hb1 (by simp)
  have B1 : Below w.heap.size w w1 := ((Below.refl _ _).alloc (Nat.le_refl _) _).trans (hb1.mono (by simp))
  clear hb1
  go_wp2_with fail
  refine (unhide C2 _).mono ?_
  rintro e w2 ⟨rfl, hb2⟩
  have l2 := l1.below hb2 (blk_lt l1)
  have B2 : Below w.heap.size w w2 := B1.trans (hb2.mono B1.size)
  obtain ⟨q0, q1, q2⟩ := l2.cells
  obtain ⟨f0, f1, f2⟩ := l2.frees
  simp only [zed] at q0 q1 q2
  clear hb2 B1
  go_wp2
  exact bodyPost_ret (ret_of _ ⟨rn, rg, rx⟩ (l2.set rn rg rx) _ rfl) rfl ⟨rfl, below3 B2 (Nat.le_refl _) _ _ _⟩

theorem signed_any (neg : Bool) (s : Int) (w : World) (h0 : 0 ≤ s) (h1 : s ≤ 10000000000000000000) :
    Calls Tryd.prog 47 #[.bool neg, .int .u64 s] w fun e w' => e = .returned (.tuple #[.int .i64 (sgV neg s).1, .bool (sgV neg s).2]) ∧ w' = w := by
  have HS : Hid (sgV neg s = fitI (if neg then -s else s)) := rfl
  generalize sgV neg s = r at HS ⊢
  cases neg with
  | true =>
    by_cases hc : s ≤ 9223372036854775808
    · have hr : r = (-s, true) := by rw [HS.out]; exact if_pos (by simp only [if_true]; omega)
      subst hr
      have hw : IntKind.i64.wrap (IntKind.u64.wrap (-s)) = -s := by
        simp [IntKind.wrap, IntKind.bits, IntKind.signed]
        omega
      clear HS
      go_enter Tryd.func47, Tryd.ntmps47
      go_wp2
      go_ret2
      exact ⟨rfl, rfl⟩
    · have hr : r = (0, false) := by rw [HS.out]; exact if_neg (by simp only [if_true]; omega)
      subst hr
      clear HS
      go_enter Tryd.func47, Tryd.ntmps47
      go_wp2
      go_ret2
      exact ⟨rfl, rfl⟩
  | false =>
    by_cases hc : s < 9223372036854775808
    · have hr : r = (s, true) := by rw [HS.out]; exact if_pos (by simp only [Bool.false_eq_true, if_false]; omega)
      subst hr
      clear HS
      go_enter Tryd.func47, Tryd.ntmps47
      go_wp2
      go_ret2
      exact ⟨rfl, rfl⟩
    · have hr : r = (0, false) := by rw [HS.out]; exact if_neg (by simp only [Bool.false_eq_true, if_false]; omega)
      subst hr
      clear HS
      go_enter Tryd.func47, Tryd.ntmps47
      go_wp2
      go_ret2
      exact ⟨rfl, rfl⟩

set_option maxRecDepth 100000 in
set_option maxHeartbeats 1600000 in
/-- The loop that adds the digits up. -/
theorem addup (s : ByteArray) (hz : s.size ≤ 19) (hd : AllDig s) (i : Nat) (hi : i < s.size) : valM (s.data.toList.take (i + 1)) = valM (s.data.toList.take i) * 10 + ((s[i].toNat : Int) - 48) ∧ 0 ≤ valM (s.data.toList.take i) ∧ valM (s.data.toList.take i) < 1000000000000000000 := by
  have hl := len_list s
  have hi' : i < s.data.toList.length := by omega
  refine ⟨?_, ?_, ?_⟩
  · rw [List.take_succ_eq_append_getElem hi', valM_append, valM_one]
    have : s.data.toList[i] = s[i] := rfl
    rw [this]
    unfold fz
    simp only [List.length_cons, List.length_nil]
    omega
  · exact valM_nonneg (fun c hc => hd c (List.mem_of_mem_take hc))
  · have h1 := valM_lt (l := s.data.toList.take i) (fun c hc => hd c (List.mem_of_mem_take hc))
    rw [List.length_take, Nat.min_eq_left (by omega)] at h1
    have h2 := pow_mono (show i ≤ 18 by omega)
    have h3 : (10 : Int) ^ 18 = 1000000000000000000 := by decide
    omega

set_option maxRecDepth 100000 in
set_option maxHeartbeats 1600000 in
theorem wholeSize_any (n : Dn) (w : World) (hs : n.dg.size ≤ 1099511627776) (h0 : -9999 ≤ n.ex) (h1 : n.ex ≤ 9999) (ht : topN n ≤ 19) (hd : AllDig n.dg) :
    Calls Tryd.prog 46 #[dv n] w fun e w' => e = .returned (.int .u64 (wsize n)) ∧ Below w.heap.size w w' := by
  have hz := wholeB_size n ht
  have hdg := wholeB_dig n hd
  have hval := wholeB_val n hd
  have T1 := hide (fun w => top_any n w (by omega) (by omega) (by omega))
  have AU := hide (fun i hi => addup (wholeB n) hz hdg i hi)
  have AD := hide (fun i (hi : i < (wholeB n).size) => AllDig.at hdg i hi)
  have HB : Hid (wholeB n = if n.ex < 0 then n.dg.extract 0 (max 0 (topN n)).toNat else n.dg ++ zeros n.ex.toNat) := rfl
  have HV : Hid (valM ((wholeB n).data.toList.take (wholeB n).size) = wsize n) := by
    show valM _ = _
    rw [List.take_of_length_le (by rw [len_list]; omega)]
    exact hval
  generalize wsize n = res at *
  unfold topN at ht HB
  obtain ⟨nn, ng, nx⟩ := n
  simp only [dv] at T1 HB hs h0 h1 ht ⊢
  generalize wholeB ⟨nn, ng, nx⟩ = s at *
  clear hval hdg hd
  have R1 := hide (fun w (h : 0 ≤ nx) => repeat_any nx.toNat w (by omega))
  have fin : ∀ (w0 : World) (hb : Below w.heap.size w w0), True := fun _ _ => trivial
  clear fin
  by_cases hx : nx < 0
  · have hsB : s = ng.extract 0 (max 0 ((ng.size : Int) + nx)).toNat := by rw [HB.out, if_pos hx]
    have hsl : ∀ u : World, (Instr.slice 9 (.string ng) none (some (.int .i64 (max 0 ((ng.size : Int) + nx)))) none).run Tryd.prog u = .ok (.string s) u := fun u => by
      rw [hsB]
      have := run_slice_string_h u 9 ng Tryd.underlying9 .i64 (max 0 ((ng.size : Int) + nx)) (by omega) (by omega)
      exact this
    have HS := hide hsB
    clear hsB HB
    go_enter Tryd.func46, Tryd.ntmps46
    go_wp2_with fail
    refine (unhide T1 _).mono ?_
    rintro e w1 ⟨rfl, hb1⟩
    have B1 : Below w.heap.size w w1 := ((Below.refl _ _).alloc (Nat.le_refl _) _).trans (hb1.mono (by simp))
    clear hb1
    go_wp2
    go_loopw [4, 23] (fun t i wr => ∃ k : Nat, k ≤ s.size ∧ i = .int .i64 (k : Int) ∧ t = .int .u64 (valM (s.data.toList.take k)) ∧ Below w.heap.size w wr)
      (fun _ i _ => s.size - (intOf i).toNat)
    case atStart => exact ⟨0, by omega, rfl, rfl, B1⟩
    case round =>
      obtain ⟨k, hk, rfl, rfl, hbel⟩ := hrel
      by_cases hlt : k < s.size
      · have hlt' : (k : Int) < (s.size : Int) := by omega
        obtain ⟨a1, a2, a3⟩ := unhide AU k hlt
        obtain ⟨b1, b2⟩ := unhide AD k hlt
        have b1' : (48 : Int) ≤ (s[k].toNat : Int) := by omega
        have b2' : (s[k].toNat : Int) ≤ 57 := by omega
        have HA := hide a1
        generalize valM (s.data.toList.take k) = q at *
        clear a1 b1 b2
        go_wp2
        go_roundw
        case rel => exact ⟨k + 1, by omega, by go_num, by rw [unhide HA], hbel⟩
        case measure => simp [intOf]; omega
      · have hk2 : k = s.size := by omega
        have HE : Hid (valM (s.data.toList.take k) = res) := by
          show valM _ = _
          rw [hk2]; exact unhide HV
        have hlt' : ¬ (k : Int) < (s.size : Int) := by omega
        generalize valM (s.data.toList.take k) = q at *
        clear hk2
        go_wp2
        go_ret
        exact ⟨by rw [← unhide HE]; rfl, hbel⟩
  · have hsB : s = ng ++ zeros nx.toNat := by rw [HB.out, if_neg hx]
    have hz2 := zeros_size nx.toNat
    have hcat : ∀ u : World, (Op.stringOp .add ng (zeros nx.toNat)).run Tryd.prog u = .ok (.string s) u := fun u => by
      rw [hsB]; exact run_string_add_sum u _ _ (by omega)
    have HS := hide hsB
    have en : ((nx.toNat : Nat) : Int) = nx := by omega
    have R2 := hide (fun w => unhide R1 w (by omega))
    rw [en] at R2
    generalize zeros nx.toNat = zz at *
    clear hsB HB R1 en
    go_enter Tryd.func46, Tryd.ntmps46
    go_wp2_with fail
    refine (unhide R2 _).mono ?_
    rintro e w1 ⟨rfl, hb1⟩
    have B1 : Below w.heap.size w w1 := ((Below.refl _ _).alloc (Nat.le_refl _) _).trans (hb1.mono (by simp))
    clear hb1
    go_wp2
    go_loopw [4, 23] (fun t i wr => ∃ k : Nat, k ≤ s.size ∧ i = .int .i64 (k : Int) ∧ t = .int .u64 (valM (s.data.toList.take k)) ∧ Below w.heap.size w wr)
      (fun _ i _ => s.size - (intOf i).toNat)
    case atStart => exact ⟨0, by omega, rfl, rfl, B1⟩
    case round =>
      obtain ⟨k, hk, rfl, rfl, hbel⟩ := hrel
      by_cases hlt : k < s.size
      · have hlt' : (k : Int) < (s.size : Int) := by omega
        obtain ⟨a1, a2, a3⟩ := unhide AU k hlt
        obtain ⟨b1, b2⟩ := unhide AD k hlt
        have b1' : (48 : Int) ≤ (s[k].toNat : Int) := by omega
        have b2' : (s[k].toNat : Int) ≤ 57 := by omega
        have HA := hide a1
        generalize valM (s.data.toList.take k) = q at *
        clear a1 b1 b2
        go_wp2
        go_roundw
        case rel => exact ⟨k + 1, by omega, by go_num, by rw [unhide HA], hbel⟩
        case measure => simp [intOf]; omega
      · have hk2 : k = s.size := by omega
        have HE : Hid (valM (s.data.toList.take k) = res) := by
          show valM _ = _
          rw [hk2]; exact unhide HV
        have hlt' : ¬ (k : Int) < (s.size : Int) := by omega
        generalize valM (s.data.toList.take k) = q at *
        clear hk2
        go_wp2
        go_ret
        exact ⟨by rw [← unhide HE]; rfl, hbel⟩
end Go.Proofs.YtmnikcnjdeldeaaDoor.rd

/- The contracts of Floor and Int. -/
namespace Go.Proofs.YtmnikcnjdeldeaaDoor.rd
open Go.RowKit

set_option maxRecDepth 100000 in
set_option maxHeartbeats 1600000 in
theorem floor_any (d : Dn) (w : World) (hs : d.dg.size ≤ 1099511627776) (h0 : -9223372036854775808 ≤ d.ex) (h1 : d.ex ≤ 9223372036854775807) :
    Calls Tryd.prog 37 #[dv d] w fun e w' => e = .returned (.tuple #[.int .i64 (flo (norm d)).1, .bool (flo (norm d)).2]) ∧ Below w.heap.size w w' := by
  have c1 := fun w => norm_any d w (by omega) h0 h1
  have hw := norm_formed d
  obtain ⟨g1, g2, g3, g4⟩ := norm_good d
  obtain ⟨dn, dg, dx⟩ := d
  generalize norm ⟨dn, dg, dx⟩ = n at *
  simp only at g1 hs
  have T1 := hide (fun w => top_any n w (by omega) (by omega) (by omega))
  have WS := hide (fun w ht => wholeSize_any n w (by omega) g2 g3 ht g4)
  have hbig := flo_big n hw
  have w0 := wsize_nonneg n g4
  have w1 := wsize_small n g4
  have SG := hide (fun s w (h0 : 0 ≤ s) (h1 : s ≤ 10000000000000000000) => signed_any n.neg s w h0 h1)
  have HF : Hid (flo n = sgV n.neg (bump n)) := flo_eq n
  have HB : Hid (bump n = if n.neg = true ∧ n.ex < 0 then wsize n + 1 else wsize n) := rfl
  have HT : Hid (topN n = n.dg.size + n.ex) := rfl
  generalize flo n = res at *
  generalize bump n = bm at *
  generalize wsize n = ws at *
  generalize topN n = tp at *
  obtain ⟨nn, ng, nx⟩ := n
  simp only [dv] at c1 T1 WS SG HF HB HT ⊢
  have C1 := hide c1
  clear c1 hw g1 g2 g3 g4
  go_enter Tryd.func37, Tryd.ntmps37
  go_wp2_with fail
  refine (unhide C1 _).mono ?_
  rintro e u1 ⟨rfl, hb1⟩
  have B1 : Below w.heap.size w u1 := ((Below.refl _ _).alloc (Nat.le_refl _) _).trans (hb1.mono (by simp))
  have l1 : DLies (u1.alloc (.cells #[.bool nn, .string ng, .int .i64 nx] 47)) u1.heap.size ⟨nn, ng, nx⟩ := dlies_new u1 ⟨nn, ng, nx⟩
  have B1' : Below w.heap.size w (u1.alloc (.cells #[.bool nn, .string ng, .int .i64 nx] 47)) := B1.alloc B1.size _
  clear hb1 C1
  go_wp2_with fail
  refine (unhide T1 _).mono ?_
  rintro e u2 ⟨rfl, hb2⟩
  have l2 := l1.below hb2 (blk_lt l1)
  have B2 : Below w.heap.size w u2 := B1'.trans (hb2.mono B1'.size)
  obtain ⟨x0, x1, x2⟩ := l2.cells
  simp only at x0 x1 x2
  clear hb2 T1 l1 B1 B1'
  by_cases ht : 19 < tp
  · have hr := hbig ht
    subst hr
    have ht' : (19 : Int) < (ng.size : Int) + nx := by have := unhide HT; omega
    clear HF
    go_wp2
    go_ret2
    exact ⟨rfl, B2⟩
  · have ht' : ¬ (19 : Int) < (ng.size : Int) + nx := by have := unhide HT; omega
    have WS2 := hide (fun w => unhide WS w (by omega))
    have w1' := w1 (by omega)
    clear hbig WS w1
    go_wp2_with fail
    refine (unhide WS2 _).mono ?_
    rintro e u3 ⟨rfl, hb3⟩
    have l3 := l2.below hb3 (blk_lt l2)
    have B3 : Below w.heap.size w u3 := B2.trans (hb3.mono B2.size)
    clear x0 x1 x2
    obtain ⟨x0, x1, x2⟩ := l3.cells
    simp only at x0 x1 x2
    clear hb3 WS2 l2 B2
    cases nn with
    | true =>
      by_cases hx : nx < 0
      · have hbm : bm = ws + 1 := by rw [HB.out]; exact if_pos ⟨rfl, hx⟩
        have SG2 := hide (fun w => unhide SG (ws + 1) w (by omega) (by omega))
        rw [← hbm, ← unhide HF, hbm] at SG2
        clear HF HB hbm SG
        go_wp2_with fail
        refine (unhide SG2 _).mono ?_
        rintro e u4 ⟨rfl, rfl⟩
        go_wp2
        go_ret2
        exact ⟨rfl, B3⟩
      · have hbm : bm = ws := by rw [HB.out]; exact if_neg (fun q => hx q.2)
        have SG2 := hide (fun w => unhide SG ws w (by omega) (by omega))
        rw [← hbm, ← unhide HF, hbm] at SG2
        clear HF HB hbm SG
        go_wp2_with fail
        refine (unhide SG2 _).mono ?_
        rintro e u4 ⟨rfl, rfl⟩
        go_wp2
        go_ret2
        exact ⟨rfl, B3⟩
    | false =>
      have hbm : bm = ws := by rw [HB.out]; exact if_neg (fun q => by cases q.1)
      have SG2 := hide (fun w => unhide SG ws w (by omega) (by omega))
      rw [← hbm, ← unhide HF, hbm] at SG2
      clear HF HB hbm SG
      go_wp2_with fail
      refine (unhide SG2 _).mono ?_
      rintro e u4 ⟨rfl, rfl⟩
      go_wp2
      go_ret2
      exact ⟨rfl, B3⟩

end Go.Proofs.YtmnikcnjdeldeaaDoor.rd
