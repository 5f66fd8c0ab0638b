/- What Parse reads of a text that Text tells: parts of a second, offsets. No program in it. -/
import Derived.Test.YtemcilikchlaiabDoorKw
namespace Go.Proofs.YtemcilikchlaiabDoor.st

abbrev dgt (c : UInt8) : Prop := 48 ≤ c.toNat ∧ c.toNat ≤ 57
theorem digs_dgt (w n : Nat) : ∀ c ∈ digs w n, dgt c := by
  induction w generalizing n with
  | zero => intro c hc; cases hc
  | succ w ih =>
    intro c hc
    unfold digs at hc
    rcases List.mem_append.1 hc with h | h
    · exact ih _ c h
    · rw [List.mem_singleton.1 h]
      unfold dgt
      rw [byte_of' (n % 10) (by omega)]
      omega
theorem frcN_app (l : List UInt8) (c : UInt8) (r : List UInt8) (hl : ∀ x ∈ l, dgt x) (hc : ¬ dgt c) : frcN (l ++ c :: r) = l.length := by
  induction l with
  | nil =>
    show frcN (c :: r) = 0
    unfold frcN
    rw [if_neg hc]
  | cons a l ih =>
    show frcN (a :: (l ++ c :: r)) = _
    conv => lhs; unfold frcN
    rw [if_pos (hl a (List.mem_cons_self ..)), ih (fun x hx => hl x (List.mem_cons_of_mem _ hx))]
    rfl
theorem frcV_app (l : List UInt8) (l2 : List UInt8) (p : Nat) (hl : ∀ x ∈ l, dgt x) : frcV (l ++ l2) p = frcV l p + frcV l2 (p / 10 ^ l.length) := by
  induction l generalizing p with
  | nil => simp [frcV]
  | cons a l ih =>
    show frcV (a :: (l ++ l2)) p = _
    conv => lhs; unfold frcV
    conv => rhs; arg 1; unfold frcV
    rw [if_pos (hl a (List.mem_cons_self ..)), if_pos (hl a (List.mem_cons_self ..)), ih (p / 10) (fun x hx => hl x (List.mem_cons_of_mem _ hx)), List.length_cons, Nat.pow_succ, Nat.mul_comm, Nat.div_div_eq_div_mul]
    rw [Nat.mul_comm (10 ^ l.length) 10]
    omega
theorem frcV_stop (c : UInt8) (r : List UInt8) (p : Nat) (hc : ¬ dgt c) : frcV (c :: r) p = 0 := by
  unfold frcV
  rw [if_neg hc]
theorem frcV_zeros (k p : Nat) : frcV (List.replicate k 48) p = 0 := by
  induction k generalizing p with
  | zero => rfl
  | succ k ih =>
    rw [List.replicate_succ]
    unfold frcV
    rw [if_pos (by decide), ih]
    show p / 10 * 0 + 0 = 0
    omega
theorem cut0_zeros (l : List UInt8) : ∃ k, l = cut0 l ++ List.replicate k 48 := by
  have h := List.takeWhile_append_dropWhile (p := fun c : UInt8 => c == 48) (l := l.reverse)
  refine ⟨(l.reverse.takeWhile (fun c => c == 48)).length, ?_⟩
  have h2 : l = (l.reverse.dropWhile (fun c => c == 48)).reverse ++ (l.reverse.takeWhile (fun c => c == 48)).reverse := by
    have := congrArg List.reverse h
    rw [List.reverse_append, List.reverse_reverse] at this
    exact this.symm
  have h3 : (l.reverse.takeWhile (fun c => c == 48)).reverse = List.replicate (l.reverse.takeWhile (fun c => c == 48)).length 48 := by
    rw [List.eq_replicate_iff]
    refine ⟨by simp, fun b hb => ?_⟩
    have h4 := List.all_eq_true.1 (List.all_takeWhile (p := fun c : UInt8 => c == 48) (l := l.reverse)) b (List.mem_reverse.1 hb)
    simpa using h4
  conv => lhs; rw [h2]
  rw [h3]
  rfl
theorem frcV_digs (w n q : Nat) : frcV (digs w n) (10 ^ w * q) = q * (n % 10 ^ w) := by
  induction w generalizing n q with
  | zero => simp [digs, frcV, Nat.mod_one]
  | succ w ih =>
    show frcV (digs w (n / 10) ++ [UInt8.ofNat (48 + n % 10)]) _ = _
    rw [frcV_app _ _ _ (digs_dgt w (n / 10)), digs_len, Nat.pow_succ, Nat.mul_assoc, ih]
    rw [Nat.mul_div_cancel_left _ (Nat.pow_pos (by omega))]
    unfold frcV
    have hb := byte_of' (n % 10) (by omega)
    rw [hb, if_pos (by omega), show frcV ([] : List UInt8) (10 * q / 10) = 0 from rfl, show 48 + n % 10 - 48 = n % 10 by omega, Nat.mul_div_cancel_left q (by omega : 0 < 10)]
    rw [Nat.mul_comm (10 ^ w) 10, Nat.mod_mul, Nat.mul_add, Nat.mul_comm 10 q, Nat.mul_assoc]
    omega
theorem cut0_sub (l : List UInt8) : ∀ x ∈ cut0 l, x ∈ l := fun x hx => by
  obtain ⟨k, h⟩ := cut0_zeros l
  rw [h]
  exact List.mem_append_left _ hx
/-- The billionths that are told are read. -/
theorem frc_cut (nn : Nat) (h : nn < 1000000000) (c : UInt8) (r : List UInt8) (hc : ¬ dgt c) : frcV (cut0 (digs 9 nn) ++ c :: r) 1000000000 = nn ∧ frcN (cut0 (digs 9 nn) ++ c :: r) = (cut0 (digs 9 nn)).length ∧ (cut0 (digs 9 nn)).length ≤ 9 := by
  have hd : ∀ x ∈ cut0 (digs 9 nn), dgt x := fun x hx => digs_dgt 9 nn x (cut0_sub _ x hx)
  obtain ⟨k, hk⟩ := cut0_zeros (digs 9 nn)
  have hlen := digs_len 9 nn
  rw [hk, List.length_append] at hlen
  refine ⟨?_, frcN_app _ c r hd hc, by omega⟩
  rw [frcV_app _ _ _ hd, frcV_stop c r _ hc]
  have h1 := frcV_digs 9 nn 1
  rw [hk, frcV_app _ _ _ hd, frcV_zeros] at h1
  have e : (10 : Nat) ^ 9 = 1000000000 := by decide
  rw [e, Nat.mul_one] at h1
  omega
/-- The part of a second. -/
def frD (nn : Nat) : List UInt8 := if nn = 0 then [] else [46] ++ cut0 (digs 9 nn)
theorem frac_read (s : ByteArray) (nn : Nat) (c : UInt8) (r : List UInt8) (h : s.data.toList.drop 19 = frD nn ++ c :: r) (hn : nn < 1000000000) (hpos : nn ≠ 0 → 0 < (cut0 (digs 9 nn)).length) (hc : ¬ dgt c) (hc2 : c ≠ 46) :
    ∃ k, 19 ≤ k ∧ k ≤ 29 ∧ fracI s = some (k, nn) ∧ s.data.toList.drop k = c :: r := by
  by_cases hz : nn = 0
  · subst hz
    have h' : s.data.toList.drop 19 = c :: r := h
    refine ⟨19, by omega, by omega, ?_, h'⟩
    unfold fracI
    rw [if_neg (by rw [isI_not s 19 46 c r h' hc2]; decide)]
  · have h' : s.data.toList.drop 19 = 46 :: (cut0 (digs 9 nn) ++ c :: r) := by
      rw [h]
      unfold frD
      rw [if_neg hz]
      simp
    have h20 : s.data.toList.drop 20 = cut0 (digs 9 nn) ++ c :: r := by
      rw [show (20 : Nat) = 19 + 1 from rfl, ← List.drop_drop, h']
      rfl
    obtain ⟨v, n1, n2⟩ := frc_cut nn hn c r hc
    have hp := hpos hz
    refine ⟨20 + (cut0 (digs 9 nn)).length, by omega, by omega, ?_, ?_⟩
    · unfold fracI
      rw [if_pos (isI_drop s 19 46 _ h'), h20, n1, v, if_neg (by omega)]
    · rw [← List.drop_drop, h20]
      exact drop_app _ _ _ 0 rfl
theorem size_drop (s : ByteArray) (k : Nat) (l : List UInt8) (h : s.data.toList.drop k = l) (hl : 0 < l.length) : s.size = k + l.length := by
  have := congrArg List.length h
  rw [List.length_drop, Array.length_toList] at this
  have e : s.data.size = s.size := rfl
  omega
theorem off_z (s : ByteArray) (k : Nat) (h : s.data.toList.drop k = [90]) : offI s k = some 0 := by
  have hs := size_drop s k _ h (by decide)
  unfold offI
  rw [if_pos ⟨isI_drop s k 90 [] h, by rw [hs]; rfl⟩]
/-- An offset that is told is read. -/
theorem off_told (s : ByteArray) (k hh mi : Nat) (east : Bool) (h : s.data.toList.drop k = (if east = true then 43 else 45) :: (digs 2 hh ++ ([58] ++ (digs 2 mi ++ [])))) (hh1 : hh ≤ 23) (hm1 : mi ≤ 59) :
    offI s k = some (if east = true then -((hh : Int) * 3600 + (mi : Int) * 60) else (hh : Int) * 3600 + (mi : Int) * 60) := by
  have hs := size_drop s k _ h (by simp)
  simp only [List.length_cons, List.length_append, digs_len, List.length_nil] at hs
  have d1 : s.data.toList.drop (k + 1) = digs 2 hh ++ ([58] ++ (digs 2 mi ++ [])) := by
    rw [← List.drop_drop, h]
    rfl
  have d3 : s.data.toList.drop (k + 1 + 2) = 58 :: (digs 2 mi ++ []) := drop_more d1 (digs_len 2 hh)
  have d4 : s.data.toList.drop (k + 4) = digs 2 mi ++ [] := by
    rw [show k + 4 = k + 1 + 2 + 1 from rfl, ← List.drop_drop, d3]
    rfl
  have e2 : (10 : Nat) ^ 2 = 100 := by decide
  have n1 : numI s 2 (k + 1) 0 = (hh : Int) := by rw [numI_digs s 2 (k + 1) 0 hh _ d1, e2]; omega
  have n2 : numI s 2 (k + 4) 0 = (mi : Int) := by rw [numI_digs s 2 (k + 4) 0 mi _ d4, e2]; omega
  have c1 : isI s (k + 3) 58 = true := isI_drop s (k + 3) 58 _ d3
  unfold offI
  rw [n1, n2]
  cases east
  · have i1 : isI s k 90 = false := isI_not s k 90 45 _ h (by decide)
    have i2 : isI s k 43 = false := isI_not s k 43 45 _ h (by decide)
    have i3 : isI s k 45 = true := isI_drop s k 45 _ h
    rw [i1, i2, i3, c1, if_neg (by simp), if_pos ⟨Or.inr rfl, rfl, by omega, by omega, by omega, by omega, by omega⟩]
  · have i1 : isI s k 90 = false := isI_not s k 90 43 _ h (by decide)
    have i2 : isI s k 43 = true := isI_drop s k 43 _ h
    rw [i1, i2, c1, if_neg (by simp), if_pos ⟨Or.inl rfl, rfl, by omega, by omega, by omega, by omega, by omega⟩]
end Go.Proofs.YtemcilikchlaiabDoor.st
