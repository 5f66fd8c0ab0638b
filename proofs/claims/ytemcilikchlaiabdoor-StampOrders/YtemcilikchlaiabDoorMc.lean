/- The text of what was read is the text that was read, where it ends with Z and has no noughts at the end. No program in it. -/
import Derived.Test.YtemcilikchlaiabDoorKt
namespace Go.Proofs.YtemcilikchlaiabDoor.st

theorem getq (s : ByteArray) (i : Nat) (h : i < s.size) : s.data.toList[i]? = some s[i] := by
  have h2 : i < s.data.toList.length := by rw [Array.length_toList]; exact h
  rw [List.getElem?_eq_getElem h2]
  rfl
theorem dropq (s : ByteArray) (i : Nat) (b : UInt8) (h : s.data.toList[i]? = some b) : s.data.toList.drop i = b :: s.data.toList.drop (i + 1) := by
  obtain ⟨h1, h2⟩ := List.getElem?_eq_some_iff.1 h
  rw [List.drop_eq_getElem_cons h1, h2]
/-- What numI reads are digits. -/
theorem numI_back (s : ByteArray) (c i n : Nat) (h : numI s c i 0 = (n : Int)) : s.data.toList.drop i = digs c n ++ s.data.toList.drop (i + c) ∧ n < 10 ^ c := by
  induction c generalizing n with
  | zero =>
    have : (0 : Int) = (n : Int) := h
    obtain rfl : n = 0 := by omega
    exact ⟨rfl, by decide⟩
  | succ c ih =>
    rw [numI_split] at h
    by_cases hn : numI s c i 0 < 0
    · rw [if_pos hn] at h; omega
    · rw [if_neg hn] at h
      obtain ⟨m, hm⟩ : ∃ m : Nat, numI s c i 0 = (m : Int) := ⟨(numI s c i 0).toNat, by omega⟩
      obtain ⟨g1, g2⟩ := ih m hm
      rw [hm, show ((m : Int)).toNat = m by omega, numI_succ] at h
      cases hb : s.data.toList[i + c]? with
      | none => rw [hb] at h; simp only at h; omega
      | some b =>
        rw [hb] at h
        simp only at h
        by_cases hd : 48 ≤ b.toNat ∧ b.toNat ≤ 57
        · rw [if_pos hd, show numI s 0 (i + c + 1) (10 * m + (b.toNat - 48)) = ((10 * m + (b.toNat - 48) : Nat) : Int) from rfl] at h
          have hn2 : n = 10 * m + (b.toNat - 48) := by omega
          refine ⟨?_, by rw [Nat.pow_succ]; omega⟩
          rw [g1, dropq s (i + c) b hb]
          show _ = digs c (n / 10) ++ [UInt8.ofNat (48 + n % 10)] ++ _
          rw [show n / 10 = m by omega, show n % 10 = b.toNat - 48 by omega, show 48 + (b.toNat - 48) = b.toNat by omega, UInt8.ofNat_toNat, List.append_assoc]
          rfl
        · rw [if_neg hd] at h; omega
theorem isI_back (s : ByteArray) (i : Nat) (c : UInt8) (h : isI s i c = true) : s.data.toList.drop i = c :: s.data.toList.drop (i + 1) := dropq s i c (of_decide_eq_true h)
theorem frcV_scale (l : List UInt8) (q : Nat) (hl : ∀ x ∈ l, dgt x) : frcV l (10 ^ l.length * q) = q * frcV l (10 ^ l.length) := by
  induction l generalizing q with
  | nil => simp [frcV]
  | cons a l ih =>
    have hp : 10 ^ (a :: l).length * q / 10 = 10 ^ l.length * q := by
      rw [List.length_cons, Nat.pow_succ, Nat.mul_comm (10 ^ l.length) 10, Nat.mul_assoc, Nat.mul_div_cancel_left _ (by omega)]
    have hp1 : 10 ^ (a :: l).length / 10 = 10 ^ l.length := by
      have := hp
      rw [List.length_cons, Nat.pow_succ, Nat.mul_comm (10 ^ l.length) 10, Nat.mul_div_cancel_left _ (by omega)]
    unfold frcV
    rw [if_pos (hl a (List.mem_cons_self ..)), if_pos (hl a (List.mem_cons_self ..)), hp, hp1, ih q (fun x hx => hl x (List.mem_cons_of_mem _ hx)), Nat.mul_add, ← Nat.mul_assoc, Nat.mul_comm q (10 ^ l.length)]
/-- Digits are the digits of their value. -/
theorem digs_of (w : Nat) (l : List UInt8) (hw : l.length = w) (hl : ∀ x ∈ l, dgt x) : digs w (frcV l (10 ^ w)) = l ∧ frcV l (10 ^ w) < 10 ^ w := by
  induction w generalizing l with
  | zero =>
    have : l = [] := List.eq_nil_of_length_eq_zero hw
    subst this
    exact ⟨rfl, by decide⟩
  | succ w ih =>
    have hne : l ≠ [] := fun h => by subst h; cases hw
    have e := List.dropLast_concat_getLast hne
    generalize hc : l.getLast hne = c at e
    generalize hl0 : l.dropLast = l0 at e
    have hlen : l0.length = w := by rw [← hl0, List.length_dropLast, hw]; rfl
    have hd0 : ∀ x ∈ l0, dgt x := fun x hx => hl x (by rw [← e]; exact List.mem_append_left _ hx)
    have hdc : dgt c := hl c (by rw [← e]; exact List.mem_append_right _ (List.mem_singleton.2 rfl))
    obtain ⟨g1, g2⟩ := ih l0 hlen hd0
    have hv : frcV l (10 ^ (w + 1)) = 10 * frcV l0 (10 ^ w) + (c.toNat - 48) := by
      rw [← e, frcV_app _ _ _ hd0, hlen, Nat.pow_succ]
      have hs := frcV_scale l0 10 hd0
      rw [hlen] at hs
      rw [hs, Nat.mul_div_cancel_left _ (Nat.pow_pos (by omega))]
      unfold frcV
      rw [if_pos hdc]
      show _ + (10 / 10 * (c.toNat - 48) + 0) = _
      omega
    obtain ⟨q1, q2⟩ := hdc
    refine ⟨?_, by rw [hv, Nat.pow_succ]; omega⟩
    show digs w (frcV l (10 ^ (w + 1)) / 10) ++ [UInt8.ofNat (48 + frcV l (10 ^ (w + 1)) % 10)] = l
    rw [hv, show (10 * frcV l0 (10 ^ w) + (c.toNat - 48)) / 10 = frcV l0 (10 ^ w) by omega, show (10 * frcV l0 (10 ^ w) + (c.toNat - 48)) % 10 = c.toNat - 48 by omega, g1, show 48 + (c.toNat - 48) = c.toNat by omega, UInt8.ofNat_toNat]
    exact e
theorem cut0_rep (l : List UInt8) (k : Nat) : cut0 (l ++ List.replicate k 48) = cut0 l := by
  induction k with
  | zero => simp
  | succ k ih => rw [List.replicate_succ', ← List.append_assoc, cut0_48, ih]
theorem frcN_take (l : List UInt8) : ∀ x ∈ l.take (frcN l), dgt x := by
  induction l with
  | nil => intro x hx; simp at hx
  | cons a l ih =>
    intro x hx
    unfold frcN at hx
    split at hx
    · rename_i h
      rw [List.take_succ_cons] at hx
      rcases List.mem_cons.1 hx with q | q
      · subst q; exact h
      · exact ih x q
    · simp at hx
theorem frcV_take (l : List UInt8) (p : Nat) : frcV l p = frcV (l.take (frcN l)) p := by
  induction l generalizing p with
  | nil => rfl
  | cons a l ih =>
    by_cases h : dgt a
    · have e : frcN (a :: l) = frcN l + 1 := by
        conv => lhs; unfold frcN
        rw [if_pos h]
      rw [e, List.take_succ_cons]
      conv => lhs; unfold frcV
      conv => rhs; unfold frcV
      rw [if_pos h, if_pos h, ih]
    · have e : frcN (a :: l) = 0 := by unfold frcN; rw [if_neg h]
      rw [e, frcV_stop a l p h]
      rfl
/-- Part of a second, as it was read. -/
theorem frac_back (l : List UInt8) (hl : ∀ x ∈ l, dgt x) (h1 : 0 < l.length) (h9 : l.length ≤ 9) (hlast : ∀ c, l.getLast? = some c → c ≠ 48) : frD (frcV l 1000000000) = 46 :: l := by
  have hz : ∀ x ∈ l ++ List.replicate (9 - l.length) 48, dgt x := fun x hx => by
    rcases List.mem_append.1 hx with q | q
    · exact hl x q
    · rw [List.eq_of_mem_replicate q]; decide
  obtain ⟨g1, g2⟩ := digs_of 9 (l ++ List.replicate (9 - l.length) 48) (by simp; omega) hz
  have e9 : (10 : Nat) ^ 9 = 1000000000 := by decide
  rw [e9] at g1 g2
  have hv : frcV (l ++ List.replicate (9 - l.length) 48) 1000000000 = frcV l 1000000000 := by rw [frcV_app _ _ _ hl, frcV_zeros, Nat.add_zero]
  rw [hv] at g1 g2
  have hne : l ≠ [] := fun h => by subst h; cases h1
  have e := List.dropLast_concat_getLast hne
  have hc := hlast (l.getLast hne) (List.getLast?_eq_some_getLast hne)
  have hcut : cut0 (digs 9 (frcV l 1000000000)) = l := by
    rw [g1, cut0_rep, ← e]
    exact cut0_no _ _ hc
  have hnz : frcV l 1000000000 ≠ 0 := fun z => by
    rw [z] at hcut
    have : cut0 (digs 9 0) = [] := by decide
    rw [this] at hcut
    exact hne hcut.symm
  unfold frD
  rw [if_neg hnz, hcut]
  rfl
end Go.Proofs.YtemcilikchlaiabDoor.st
