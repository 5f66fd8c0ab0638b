/- Frames one behind the other: a beginning of them, and a burst in them. No program in it. -/
import Derived.Test.YtgafjbgplcjnnaaDoorCc
namespace Go.Proofs.YtgafjbgplcjnnaaDoor.fr

theorem frms_append (l m : List (List UInt8)) : frms (l ++ m) = frms l ++ frms m := by simp [frms]
theorem frms_cons (p : List UInt8) (l : List (List UInt8)) : frms (p :: l) = frm p ++ frms l := by simp [frms]
/-- Where a frame begins. -/
def fat (l : List (List UInt8)) (i : Nat) : Nat := (frms (l.take i)).length
theorem fat_zero (l : List (List UInt8)) : fat l 0 = 0 := by simp [fat, frms]
theorem fat_succ (l : List (List UInt8)) (i : Nat) (h : i < l.length) : fat l (i + 1) = fat l i + l[i].length + 12 := by
  unfold fat
  rw [List.take_succ_eq_append_getElem h, frms_append, List.length_append]
  simp [frms, frm_length, Nat.add_assoc]
theorem fat_all (l : List (List UInt8)) : fat l l.length = (frms l).length := by simp [fat]
theorem frms_split (l : List (List UInt8)) (n : Nat) : frms l = frms (l.take n) ++ frms (l.drop n) := by
  rw [← frms_append, List.take_append_drop]
theorem fat_mono (l : List (List UInt8)) (i : Nat) : ∀ j, i ≤ j → j ≤ l.length → fat l i ≤ fat l j := by
  intro j hij hj
  induction j with
  | zero => have : i = 0 := by omega
            rw [this]; exact Nat.le_refl _
  | succ j ih =>
    by_cases h : i = j + 1
    · rw [h]; exact Nat.le_refl _
    · have := ih (by omega) (by omega)
      have := fat_succ l j (by omega)
      omega

/-- P11.4: of a beginning the payloads of the frames that are all in it. -/
theorem scan_cut (l : List (List UInt8)) (hl : ∀ p ∈ l, p.length ≤ 4194304) (k n : Nat) (hn : n ≤ l.length) (h1 : fat l n ≤ k) (h2 : n < l.length → k < fat l (n + 1)) :
    scan ((frms l).take k) = (l.take n, fat l n) := by
  have e : (frms l).take k = frms (l.take n) ++ (frms (l.drop n)).take (k - fat l n) := by
    conv => lhs; rw [frms_split l n]
    rw [List.take_append]
    rw [List.take_of_length_le (by exact h1)]; rfl
  have hr : scan ((frms (l.drop n)).take (k - fat l n)) = ([], 0) := by
    by_cases hc : n < l.length
    · have e2 : l.drop n = l[n] :: l.drop (n + 1) := List.drop_eq_getElem_cons hc
      have h3 := h2 hc
      have h4 := fat_succ l n hc
      rw [e2, frms_cons, List.take_append_of_le_length (by rw [frm_length]; omega)]
      exact scan_none _ (whole_cut _ _ (hl _ (List.getElem_mem hc)) (by omega))
    · have e2 : l.drop n = [] := List.drop_of_length_le (by omega)
      rw [e2]
      simp only [frms, List.flatMap_nil, List.take_nil]
      exact scan_none _ whole_nil
  rw [e, scan_frms _ _ (fun p hp => hl p (List.mem_of_mem_take hp)), hr]
  simp [fat]

theorem byte_zero (b : UInt8) (hq : true ∉ bits b) : b = 0 := by
  simp only [bits, List.mem_cons, List.not_mem_nil, or_false, not_or] at hq
  obtain ⟨q7, q6, q5, q4, q3, q2, q1, q0⟩ := hq
  apply UInt8.toBitVec_inj.mp
  apply BitVec.eq_of_getLsbD_eq
  intro i hi
  have : i = 0 ∨ i = 1 ∨ i = 2 ∨ i = 3 ∨ i = 4 ∨ i = 5 ∨ i = 6 ∨ i = 7 := by omega
  have z : (0 : UInt8).toBitVec.getLsbD i = false := by simp
  rw [z]
  rcases this with rfl | rfl | rfl | rfl | rfl | rfl | rfl | rfl
  · simpa using Ne.symm q0
  · simpa using Ne.symm q1
  · simpa using Ne.symm q2
  · simpa using Ne.symm q3
  · simpa using Ne.symm q4
  · simpa using Ne.symm q5
  · simpa using Ne.symm q6
  · simpa using Ne.symm q7
theorem xorL_zero : ∀ (l : List UInt8), true ∉ bitsL l → ∀ m : List UInt8, m.length = l.length → xorL m l = m
  | [], _, m, hm => by rw [List.length_nil] at hm; rw [List.eq_nil_of_length_eq_zero hm]; rfl
  | b :: l, hb, [], hm => by simp at hm
  | b :: l, hb, a :: m, hm => by
    rw [bitsL_cons, List.mem_append] at hb
    have e1 : xorL (a :: m) (b :: l) = (a ^^^ b) :: xorL m l := rfl
    rw [e1, xorL_zero l (fun q => hb (Or.inr q)) m (by simpa using hm), byte_zero b (fun q => hb (Or.inl q)), UInt8.xor_zero]
theorem xorL_append (a b c d : List UInt8) (h : a.length = c.length) : xorL (a ++ b) (c ++ d) = xorL a c ++ xorL b d := by
  unfold xorL; rw [List.zipWith_append h]
theorem bitsL_take (e : List UInt8) (k : Nat) (h : k ≤ e.length) : bitsL (e.take k) = (bitsL e).take (8 * k) := by
  conv => rhs; rw [← List.take_append_drop k e, bitsL_append]
  rw [List.take_left' (by rw [bitsL_length, List.length_take]; omega)]
theorem bitsL_drop (e : List UInt8) (k : Nat) (h : k ≤ e.length) : bitsL (e.drop k) = (bitsL e).drop (8 * k) := by
  conv => rhs; rw [← List.take_append_drop k e, bitsL_append]
  rw [List.drop_left' (by rw [bitsL_length, List.length_take]; omega)]

/-- P11.5: the first bit that is turned lies in the frame n. -/
theorem scan_burst (l : List (List UInt8)) (hl : ∀ p ∈ l, p.length ≤ 4194304) (e : List UInt8) (he : e.length = (frms l).length) (hw : Within (bitsL e)) (n : Nat) (hn : n < l.length)
    (f : Nat) (hf : (bitsL e)[f]? = some true) (hfirst : ∀ i, i < f → (bitsL e)[i]? ≠ some true) (h1 : 8 * fat l n ≤ f) (h2 : f < 8 * fat l (n + 1)) :
    scan (xorL (frms l) e) = (l.take n, fat l n) := by
  have hs := fat_succ l n hn
  have hm := fat_mono l (n + 1) l.length (by omega) (Nat.le_refl _)
  rw [fat_all] at hm
  have e1 : frms l = frms (l.take n) ++ (frm l[n] ++ frms (l.drop (n + 1))) := by
    conv => lhs; rw [frms_split l n, List.drop_eq_getElem_cons hn, frms_cons]
  have e2 : e = e.take (fat l n) ++ ((e.drop (fat l n)).take (l[n].length + 12) ++ (e.drop (fat l n)).drop (l[n].length + 12)) := by
    rw [List.take_append_drop, List.take_append_drop]
  have z : true ∉ bitsL (e.take (fat l n)) := by
    intro q
    rw [bitsL_take _ _ (by omega)] at q
    obtain ⟨i, hi⟩ := List.mem_iff_getElem?.mp q
    rw [List.getElem?_take] at hi
    split at hi
    · exact hfirst i (by omega) hi
    · cases hi
  have hb2 : bitsL ((e.drop (fat l n)).take (l[n].length + 12)) = ((bitsL e).drop (8 * fat l n)).take (8 * (l[n].length + 12)) := by
    rw [bitsL_take _ _ (by rw [List.length_drop]; omega), bitsL_drop _ _ (by omega)]
  have x : xorL (frms l) e = frms (l.take n) ++ (xorL (frm l[n]) ((e.drop (fat l n)).take (l[n].length + 12)) ++ xorL (frms (l.drop (n + 1))) ((e.drop (fat l n)).drop (l[n].length + 12))) := by
    conv => lhs; rw [e1, e2]
    rw [xorL_append _ _ _ _ (by rw [List.length_take]; unfold fat at *; omega), xorL_append _ _ _ _ (by rw [frm_length, List.length_take, List.length_drop]; omega),
      xorL_zero _ z _ (by rw [List.length_take]; unfold fat at *; omega)]
  rw [x, scan_frms _ _ (fun p hp => hl p (List.mem_of_mem_take hp)), scan_none]
  · simp [fat]
  · refine whole_burst _ _ _ (hl _ (List.getElem_mem hn)) (by rw [List.length_take, List.length_drop]; omega) ?_ ?_
    · rw [hb2]; exact (hw.drop _).take _
    · rw [hb2]
      apply List.mem_iff_getElem?.mpr
      refine ⟨f - 8 * fat l n, ?_⟩
      rw [List.getElem?_take, if_pos (by omega), List.getElem?_drop, ← hf]
      congr 1; omega
theorem scan_all (l : List (List UInt8)) (hl : ∀ p ∈ l, p.length ≤ 4194304) : scan (frms l) = (l, (frms l).length) := by
  have := scan_frms l [] hl
  rw [scan_none [] whole_nil, List.append_nil] at this
  simpa using this
theorem scan_same (l : List (List UInt8)) (hl : ∀ p ∈ l, p.length ≤ 4194304) (e : List UInt8) (he : e.length = (frms l).length) (hz : ∀ i : Nat, (bitsL e)[i]? ≠ some true) :
    scan (xorL (frms l) e) = (l, (frms l).length) := by
  rw [xorL_zero e (fun q => by obtain ⟨i, hi⟩ := List.mem_iff_getElem?.mp q; exact hz i hi) _ he.symm, scan_all l hl]

end Go.Proofs.YtgafjbgplcjnnaaDoor.fr
