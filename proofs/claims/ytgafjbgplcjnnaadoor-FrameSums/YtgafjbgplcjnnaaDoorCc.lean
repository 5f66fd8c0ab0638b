/- Frames: a payload with its length and sums; what is whole at a place; a burst is told. No program in it. -/
import Derived.Test.YtgafjbgplcjnnaaDoorCa
namespace Go.Proofs.YtgafjbgplcjnnaaDoor.fr

/-- A byte's bits, the highest first. -/
def bits (b : UInt8) : List Bool :=
  [b.toBitVec.getLsbD 7, b.toBitVec.getLsbD 6, b.toBitVec.getLsbD 5, b.toBitVec.getLsbD 4, b.toBitVec.getLsbD 3, b.toBitVec.getLsbD 2, b.toBitVec.getLsbD 1, b.toBitVec.getLsbD 0]
def bitsL (l : List UInt8) : List Bool := l.flatMap bits
def ones : BitVec 32 := BitVec.allOnes 32
/-- P11.1. -/
def crc (l : List UInt8) : BitVec 32 := ~~~ (run ones (bitsL l))
/-- A number as four bytes. -/
def four (x : BitVec 32) : List UInt8 := [⟨x.extractLsb' 24 8⟩, ⟨x.extractLsb' 16 8⟩, ⟨x.extractLsb' 8 8⟩, ⟨x.extractLsb' 0 8⟩]
/-- Four bytes as a number. -/
def num (l : List UInt8) : BitVec 32 := word (bitsL (l.take 4))

theorem bits_length (b : UInt8) : (bits b).length = 8 := rfl
theorem bitsL_nil : bitsL [] = [] := rfl
theorem bitsL_cons (b : UInt8) (l : List UInt8) : bitsL (b :: l) = bits b ++ bitsL l := rfl
theorem bitsL_append (l m : List UInt8) : bitsL (l ++ m) = bitsL l ++ bitsL m := by simp [bitsL]
theorem bitsL_length (l : List UInt8) : (bitsL l).length = 8 * l.length := by
  induction l with
  | nil => rfl
  | cons b l ih => rw [bitsL_cons, List.length_append, ih, bits_length, List.length_cons]; omega
theorem bits_xor (a b : UInt8) : bits (a ^^^ b) = List.zipWith xor (bits a) (bits b) := by
  simp [bits, UInt8.toBitVec_xor]
def xorL (l m : List UInt8) : List UInt8 := List.zipWith (· ^^^ ·) l m
theorem xorL_length (l m : List UInt8) (h : l.length = m.length) : (xorL l m).length = l.length := by
  simp [xorL, h]
theorem bitsL_xor : ∀ (l m : List UInt8), l.length = m.length → bitsL (xorL l m) = List.zipWith xor (bitsL l) (bitsL m)
  | [], [], _ => rfl
  | a :: l, b :: m, h => by
    have ih := bitsL_xor l m (by simpa using h)
    have e : xorL (a :: l) (b :: m) = (a ^^^ b) :: xorL l m := rfl
    rw [e, bitsL_cons, bitsL_cons, bitsL_cons, ih, bits_xor, List.zipWith_append (by rw [bits_length, bits_length])]

/-- Which bit of a word stands where. -/
theorem word_at : ∀ (l : List Bool) (i : Nat), i < l.length → l.length ≤ 32 → (word l).getLsbD (31 - i) = l.getD i false
  | b :: l, i, h, hl => by
    simp only [List.length_cons] at h hl
    simp only [word, BitVec.getLsbD_xor, BitVec.getLsbD_ushiftRight]
    cases i with
    | zero =>
      have : (word l).getLsbD 32 = false := BitVec.getLsbD_of_ge _ _ (Nat.le_refl _)
      simp only [Nat.sub_zero, Nat.add_comm 1 31, this, List.getD_cons_zero]
      cases b <;> rfl
    | succ i =>
      have ih := word_at l i (by omega) (by omega)
      have e : 1 + (31 - (i + 1)) = 31 - i := by omega
      rw [hi_bit b _ (by omega), e, ih]
      simp
theorem bitsL_four (x : BitVec 32) (i : Nat) (h : i < 32) : (bitsL (four x)).getD i false = x.getLsbD (31 - i) := by
  have e : bitsL (four x) = (List.range 32).map fun i => x.getLsbD (31 - i) := by
    simp [bitsL, four, bits, List.range, List.range.loop]
  rw [e, List.getD_eq_getElem?_getD, List.getElem?_map, List.getElem?_range h]
  rfl
theorem word_four (x : BitVec 32) : word (bitsL (four x)) = x := by
  apply BitVec.eq_of_getLsbD_eq
  intro i hi
  have h1 := word_at (bitsL (four x)) (31 - i) (by rw [bitsL_length]; simp [four]; omega) (by rw [bitsL_length]; simp [four])
  have h2 := bitsL_four x (31 - i) (by omega)
  have e : 31 - (31 - i) = i := by omega
  rw [h2, e] at h1
  exact h1
theorem four_length (x : BitVec 32) : (four x).length = 4 := rfl
theorem num_four (x : BitVec 32) (l : List UInt8) : num (four x ++ l) = x := by
  unfold num
  rw [List.take_append_of_le_length (by simp [four_length]), List.take_of_length_le (by simp [four_length]), word_four]

/-- Told rightly: bytes with their sum behind them. -/
theorem run_num (s : BitVec 32) (l : List UInt8) (h : l.length = 4) : run s (bitsL l) = its 32 (s ^^^ num l) := by
  rw [run_word _ _ (by rw [bitsL_length]; omega), bitsL_length, h, num, List.take_of_length_le (by omega)]
theorem its_inj : ∀ (n : Nat) {x y : BitVec 32}, its n x = its n y → x = y
  | 0, _, _, h => h
  | n + 1, _, _, h => t0_inj2 (its_inj n h)
theorem crc_iff (m s : List UInt8) (h : s.length = 4) : num s = crc m ↔ run ones (bitsL (m ++ s)) = its 32 ones := by
  rw [bitsL_append, run_append, run_num _ s h]
  unfold crc
  constructor
  · intro e
    rw [e]
    congr 1
    rw [← BitVec.xor_allOnes, ← BitVec.xor_assoc, BitVec.xor_self, BitVec.zero_xor]; rfl
  · intro e
    have := its_inj 32 e
    have e2 : num s = run ones (bitsL m) ^^^ ones := by
      have := congrArg (fun v => run ones (bitsL m) ^^^ v) this
      simpa only [← BitVec.xor_assoc, BitVec.xor_self, BitVec.zero_xor] using this
    rw [e2]
    unfold ones
    rw [BitVec.xor_allOnes]

/-- All that is turned stands within 32 bits side by side. -/
def Within (l : List Bool) : Prop := ∃ k, ∀ i, l[i]? = some true → k ≤ i ∧ i < k + 32
theorem all_false : ∀ (l : List Bool), (∀ i : Nat, l[i]? ≠ some true) → l = List.replicate l.length false
  | [], _ => rfl
  | b :: l, h => by
    have h0 := h 0
    have ih := all_false l (fun i => by simpa using h (i + 1))
    cases b with
    | true => simp at h0
    | false => rw [List.length_cons, List.replicate_succ, ← ih]
theorem burst_in (l : List Bool) (h : Within l) (ht : true ∈ l) : run 0#32 l ≠ 0#32 := by
  obtain ⟨k, hk⟩ := h
  have e : l = l.take k ++ (l.drop k).take 32 ++ l.drop (k + 32) := by
    rw [List.append_assoc, ← List.drop_drop, List.take_append_drop, List.take_append_drop]
  have e1 : l.take k = List.replicate (l.take k).length false := by
    apply all_false
    intro i hi
    rw [List.getElem?_take] at hi
    split at hi
    · have := (hk i hi).1; omega
    · cases hi
  have e2 : l.drop (k + 32) = List.replicate (l.drop (k + 32)).length false := by
    apply all_false
    intro i hi
    rw [List.getElem?_drop] at hi
    have := (hk _ hi).2; omega
  have hm : true ∈ (l.drop k).take 32 := by
    obtain ⟨i, hi⟩ := List.mem_iff_getElem?.mp ht
    have := hk i hi
    apply List.mem_iff_getElem?.mpr
    refine ⟨i - k, ?_⟩
    rw [List.getElem?_take, if_pos (by omega), List.getElem?_drop]
    rw [← hi]; congr 1; omega
  rw [e, e1, e2]
  exact burst _ _ _ (by simp; omega) hm
theorem Within.take {l : List Bool} (h : Within l) (n : Nat) : Within (l.take n) := by
  obtain ⟨k, hk⟩ := h
  refine ⟨k, fun i hi => hk i ?_⟩
  rw [List.getElem?_take] at hi
  split at hi
  · exact hi
  · cases hi
theorem Within.drop {l : List Bool} (h : Within l) (n : Nat) : Within (l.drop n) := by
  obtain ⟨k, hk⟩ := h
  by_cases hn : n ≤ k
  · refine ⟨k - n, fun i hi => ?_⟩
    rw [List.getElem?_drop] at hi
    have := hk _ hi; omega
  · refine ⟨0, fun i hi => ?_⟩
    rw [List.getElem?_drop] at hi
    have := hk _ hi; omega

/-- Bytes told rightly, spoilt by a burst, aren't. -/
theorem spoilt (m s e f : List UInt8) (h : s.length = 4) (hf : f.length = 4) (he : e.length = m.length) (hg : num s = crc m)
    (hw : Within (bitsL (e ++ f))) (ht : true ∈ bitsL (e ++ f)) : num (xorL s f) ≠ crc (xorL m e) := by
  intro hc
  have h1 := (crc_iff m s h).mp hg
  have h2 := (crc_iff (xorL m e) (xorL s f) (by rw [xorL_length _ _ (by omega)]; exact h)).mp hc
  have e1 : xorL m e ++ xorL s f = xorL (m ++ s) (e ++ f) := by
    unfold xorL; rw [List.zipWith_append (by omega)]
  rw [e1, bitsL_xor _ _ (by simp; omega)] at h2
  have h3 := run_xor (bitsL (m ++ s)) (bitsL (e ++ f)) ones 0#32 (by rw [bitsL_length, bitsL_length]; simp; omega)
  rw [BitVec.xor_zero, h2, h1] at h3
  have : run 0#32 (bitsL (e ++ f)) = 0#32 := by
    have := congrArg (fun v => its 32 ones ^^^ v) h3
    simp only [BitVec.xor_self] at this
    rw [← BitVec.xor_assoc, BitVec.xor_self, BitVec.zero_xor] at this
    exact this.symm
  exact burst_in _ hw ht this

/-- P11.6. -/
theorem crc_three (a b c : List UInt8) (h1 : a.length = b.length) (h2 : a.length = c.length) :
    crc (xorL (xorL a b) c) = (crc a ^^^ crc b) ^^^ crc c := by
  unfold crc
  have l1 := xorL_length a b h1
  rw [bitsL_xor _ _ (by omega), bitsL_xor _ _ h1]
  have h3 := run_xor (List.zipWith xor (bitsL a) (bitsL b)) (bitsL c) 0#32 ones (by rw [List.length_zipWith, bitsL_length, bitsL_length, bitsL_length]; omega)
  have h4 := run_xor (bitsL a) (bitsL b) ones ones (by rw [bitsL_length, bitsL_length]; omega)
  rw [BitVec.xor_self] at h4
  rw [BitVec.zero_xor, h4] at h3
  rw [h3]
  simp only [← BitVec.xor_allOnes]
  have := BitVec.xor_self (x := BitVec.allOnes 32)
  generalize BitVec.allOnes 32 = o at this
  generalize run ones (bitsL a) = x, run ones (bitsL b) = y, run ones (bitsL c) = z
  have e : ((x ^^^ o) ^^^ (y ^^^ o)) ^^^ (z ^^^ o) = ((x ^^^ y) ^^^ z) ^^^ ((o ^^^ o) ^^^ o) := by ac_rfl
  rw [e, this, BitVec.zero_xor]

/-- P11.2. -/
def frm (p : List UInt8) : List UInt8 :=
  let n := four (BitVec.ofNat 32 p.length)
  n ++ four (crc n) ++ p ++ four (crc p)
theorem frm_length (p : List UInt8) : (frm p).length = p.length + 12 := by
  simp [frm, four_length]; omega
/-- How many bytes the whole frame has that stands at the beginning; 0: none. -/
def whole (b : List UInt8) : Nat :=
  if b.length < 12 ∨ num (b.drop 4) ≠ crc (b.take 4) then 0
  else if 4194304 < (num b).toNat ∨ b.length < (num b).toNat + 12 ∨ num (b.drop ((num b).toNat + 8)) ≠ crc ((b.drop 8).take (num b).toNat) then 0
  else (num b).toNat + 12
/-- P11.3. -/
def scanN : Nat → List UInt8 → List (List UInt8) × Nat
  | 0, _ => ([], 0)
  | k + 1, b => if whole b = 0 then ([], 0) else ((b.drop 8).take (whole b - 12) :: (scanN k (b.drop (whole b))).1, whole b + (scanN k (b.drop (whole b))).2)

theorem whole_le (b : List UInt8) : whole b ≤ b.length := by
  unfold whole; split
  · omega
  · split <;> omega
theorem whole_ge (b : List UInt8) (h : whole b ≠ 0) : 12 ≤ whole b := by
  unfold whole at h ⊢; split
  · simp_all
  · split
    · simp_all
    · omega
theorem scanN_more : ∀ (k j : Nat) (b : List UInt8), b.length ≤ k → b.length ≤ j → scanN k b = scanN j b
  | 0, 0, _, _, _ => rfl
  | 0, j + 1, b, h, _ => by
    have h0 : whole b = 0 := by have := whole_le b; omega
    simp [scanN, h0]
  | k + 1, 0, b, _, h => by
    have h0 : whole b = 0 := by have := whole_le b; omega
    simp [scanN, h0]
  | k + 1, j + 1, b, h1, h2 => by
    simp only [scanN]
    split
    · rfl
    · rename_i h
      have := whole_ge b h
      rw [scanN_more k j _ (by simp; omega) (by simp; omega)]
def scan (b : List UInt8) : List (List UInt8) × Nat := scanN b.length b
theorem scan_step (b : List UInt8) : scan b = if whole b = 0 then ([], 0) else ((b.drop 8).take (whole b - 12) :: (scan (b.drop (whole b))).1, whole b + (scan (b.drop (whole b))).2) := by
  unfold scan
  cases hb : b.length with
  | zero =>
    have h0 : whole b = 0 := by have := whole_le b; omega
    simp [scanN, h0]
  | succ n =>
    simp only [scanN]
    split
    · rfl
    · rename_i h
      have := whole_ge b h
      rw [scanN_more n (b.drop (whole b)).length (b.drop (whole b)) (by simp; omega) (Nat.le_refl _)]

theorem frm_head (p r : List UInt8) : frm p ++ r = four (BitVec.ofNat 32 p.length) ++ (four (crc (four (BitVec.ofNat 32 p.length))) ++ (p ++ (four (crc p) ++ r))) := by
  simp [frm]
theorem take4 (x : BitVec 32) (l : List UInt8) : (four x ++ l).take 4 = four x := by
  rw [List.take_append_of_le_length (by simp [four_length]), List.take_of_length_le (by simp [four_length])]
theorem drop4 (x : BitVec 32) (l : List UInt8) : (four x ++ l).drop 4 = l := by
  rw [List.drop_append_of_le_length (by simp [four_length]), List.drop_of_length_le (by simp [four_length]), List.nil_append]
theorem drop8 (x y : BitVec 32) (l : List UInt8) (n : Nat) : (four x ++ (four y ++ l)).drop (n + 8) = l.drop n := by
  have : n + 8 = 4 + (4 + n) := by omega
  rw [this, ← List.drop_drop, drop4, ← List.drop_drop, drop4]
theorem ofNat_len (n : Nat) (h : n ≤ 4194304) : (BitVec.ofNat 32 n).toNat = n := by
  rw [BitVec.toNat_ofNat]; omega
theorem whole_frm (p r : List UInt8) (h : p.length ≤ 4194304) : whole (frm p ++ r) = p.length + 12 := by
  have hn : (num (frm p ++ r)).toNat = p.length := by rw [frm_head, num_four, ofNat_len _ h]
  have e1 : num ((frm p ++ r).drop 4) = crc ((frm p ++ r).take 4) := by rw [frm_head, drop4, num_four, take4]
  have e2 : num ((frm p ++ r).drop (p.length + 8)) = crc (((frm p ++ r).drop 8).take p.length) := by
    rw [frm_head, drop8, show (8 : Nat) = 0 + 8 from rfl, drop8, List.drop_zero, List.take_left', List.drop_left', num_four] <;> rfl
  have hl : (frm p ++ r).length = p.length + 12 + r.length := by rw [List.length_append, frm_length]
  unfold whole
  rw [hn, hl, if_neg, if_neg]
  · intro q; rcases q with q | q | q
    · omega
    · omega
    · exact q e2
  · intro q; rcases q with q | q
    · omega
    · exact q e1
/-- A frame, and what stands behind it. -/
theorem scan_frm (p r : List UInt8) (h : p.length ≤ 4194304) : scan (frm p ++ r) = (p :: (scan r).1, p.length + 12 + (scan r).2) := by
  rw [scan_step, whole_frm p r h, if_neg (by omega)]
  have e1 : (frm p ++ r).drop (p.length + 12) = r := List.drop_left' (frm_length p)
  have e2 : ((frm p ++ r).drop 8).take (p.length + 12 - 12) = p := by
    rw [frm_head, show (8 : Nat) = 0 + 8 from rfl, drop8, List.drop_zero, List.take_left' (by omega)]
  rw [e1, e2]
def frms (l : List (List UInt8)) : List UInt8 := l.flatMap frm
theorem scan_frms : ∀ (l : List (List UInt8)) (r : List UInt8), (∀ p ∈ l, p.length ≤ 4194304) → scan (frms l ++ r) = (l ++ (scan r).1, (frms l).length + (scan r).2)
  | [], r, _ => by simp [frms]
  | p :: l, r, h => by
    have ih := scan_frms l r (fun q hq => h q (List.mem_cons_of_mem _ hq))
    have e : frms (p :: l) ++ r = frm p ++ (frms l ++ r) := by simp [frms]
    have e2 : (frms (p :: l)).length = p.length + 12 + (frms l).length := by simp [frms, frm_length]
    rw [e, scan_frm p _ (h p List.mem_cons_self), ih, e2]
    simp [Nat.add_assoc]
theorem scan_none (r : List UInt8) (h : whole r = 0) : scan r = ([], 0) := by rw [scan_step, if_pos h]
theorem whole_nil : whole [] = 0 := by simp [whole]
/-- What is cut off isn't whole. -/
theorem whole_cut (p : List UInt8) (k : Nat) (h : p.length ≤ 4194304) (hk : k < p.length + 12) : whole ((frm p).take k) = 0 := by
  unfold whole
  have hl : ((frm p).take k).length = k := by rw [List.length_take, frm_length]; omega
  rw [hl]
  split
  · rfl
  · rename_i hc
    have hk12 : 12 ≤ k := by omega
    have hn : (num ((frm p).take k)).toNat = p.length := by
      have e : num ((frm p).take k) = num (frm p) := by
        unfold num; rw [List.take_take, Nat.min_eq_left (by omega)]
      have e2 : frm p = frm p ++ [] := by simp
      rw [e, e2, frm_head, num_four, ofNat_len _ h]
    rw [if_pos]
    rw [hn]; right; left; omega
/-- P11.5: spoilt by a burst, a frame isn't whole, whatever stands behind it. -/
theorem whole_burst (p e r : List UInt8) (h : p.length ≤ 4194304) (he : e.length = p.length + 12) (hw : Within (bitsL e)) (ht : true ∈ bitsL e) :
    whole (xorL (frm p) e ++ r) = 0 := by
  have hfl := frm_length p
  have hx : (xorL (frm p) e).length = p.length + 12 := by rw [xorL_length _ _ (by omega)]; exact hfl
  -- the frame's head and the rest of it
  have split8 : ∀ l : List UInt8, l = l.take 8 ++ l.drop 8 := fun l => (List.take_append_drop 8 l).symm
  unfold whole
  by_cases h8 : true ∈ bitsL (e.take 8)
  · rw [if_pos]
    right
    have a1 : (xorL (frm p) e ++ r).take 4 = xorL (four (BitVec.ofNat 32 p.length)) (e.take 4) := by
      rw [List.take_append_of_le_length (by omega)]
      unfold xorL
      rw [List.take_zipWith]
      have : (frm p).take 4 = four (BitVec.ofNat 32 p.length) := by
        have e2 : frm p = frm p ++ [] := by simp
        rw [e2, frm_head, take4]
      rw [this]
    have a2 : num ((xorL (frm p) e ++ r).drop 4) = num (xorL (four (crc (four (BitVec.ofNat 32 p.length)))) ((e.drop 4).take 4)) := by
      unfold num
      congr 2
      rw [List.drop_append_of_le_length (by omega), List.take_append_of_le_length (by rw [List.length_drop]; omega)]
      unfold xorL
      rw [List.drop_zipWith, List.take_zipWith]
      have : ((frm p).drop 4).take 4 = four (crc (four (BitVec.ofNat 32 p.length))) := by
        have e2 : frm p = frm p ++ [] := by simp
        rw [e2, frm_head, drop4, take4]
      rw [this]
      exact (List.take_of_length_le (by rw [List.length_zipWith, four_length]; omega)).symm
    have e8 : e.take 8 = e.take 4 ++ (e.drop 4).take 4 := by
      rw [← List.take_add]
    rw [a1, a2]
    refine spoilt _ _ _ _ (four_length _) (by simp; omega) (by simp [four_length]; omega) ?_ ?_ ?_
    · have := num_four (crc (four (BitVec.ofNat 32 p.length))) []
      rwa [List.append_nil] at this
    · rw [← e8]
      have : bitsL (e.take 8) = (bitsL e).take 64 := by
        conv => rhs; rw [split8 e, bitsL_append]
        rw [List.take_left' (by rw [bitsL_length, List.length_take]; omega)]
      rw [this]; exact hw.take _
    · rw [← e8]; exact h8
  · -- the head is as it was
    have z8 : ∀ l : List UInt8, true ∉ bitsL l → ∀ m : List UInt8, m.length = l.length → xorL m l = m := by
      intro l
      induction l with
      | nil => intro _ m hm; rw [List.length_nil] at hm; rw [List.eq_nil_of_length_eq_zero hm]; rfl
      | cons b l ih =>
        intro hb m hm
        cases m with
        | nil => simp at hm
        | cons a m =>
          rw [bitsL_cons, List.mem_append] at hb
          have hb0 : b = 0 := by
            have hq : true ∉ bits b := fun q => hb (Or.inl q)
            simp only [bits, List.mem_cons, List.not_mem_nil, or_false, not_or] at hq
            obtain ⟨q7, q6, q5, q4, q3, q2, q1, q0⟩ := hq
            apply UInt8.toBitVec_inj.mp
            apply BitVec.eq_of_getLsbD_eq
            intro i hi
            have : i = 0 ∨ i = 1 ∨ i = 2 ∨ i = 3 ∨ i = 4 ∨ i = 5 ∨ i = 6 ∨ i = 7 := by omega
            have z : (0 : UInt8).toBitVec.getLsbD i = false := by simp
            rw [z]
            rcases this with rfl | rfl | rfl | rfl | rfl | rfl | rfl | rfl
            · simpa using Ne.symm q0
            · simpa using Ne.symm q1
            · simpa using Ne.symm q2
            · simpa using Ne.symm q3
            · simpa using Ne.symm q4
            · simpa using Ne.symm q5
            · simpa using Ne.symm q6
            · simpa using Ne.symm q7
          have e1 : xorL (a :: m) (b :: l) = (a ^^^ b) :: xorL m l := rfl
          rw [e1, ih (fun q => hb (Or.inr q)) m (by simpa using hm), hb0, UInt8.xor_zero]
    have xs : xorL (frm p) e = (frm p).take 8 ++ xorL ((frm p).drop 8) (e.drop 8) := by
      rw [← z8 (e.take 8) h8 ((frm p).take 8) (by simp; omega)]
      unfold xorL
      rw [← List.take_zipWith, ← List.drop_zipWith, List.take_append_drop]
    have fh : (frm p).take 8 = four (BitVec.ofNat 32 p.length) ++ four (crc (four (BitVec.ofNat 32 p.length))) := by
      unfold frm
      simp only [List.append_assoc]
      rw [← List.append_assoc, List.take_left' (by simp [four_length])]
    have ft : (frm p).drop 8 = p ++ four (crc p) := by
      have e2 : frm p = frm p ++ [] := by simp
      rw [e2, frm_head, show (8 : Nat) = 0 + 8 from rfl, drop8, List.drop_zero, List.append_nil]
    have hxl : (xorL (p ++ four (crc p)) (e.drop 8)).length = p.length + 4 := by
      rw [xorL_length _ _ (by simp [four_length]; omega)]; simp [four_length]
    rw [xs, fh, ft, List.append_assoc, List.append_assoc, num_four, ofNat_len _ h]
    split
    · rfl
    · rw [if_pos]
      right; right
      have d0 : ∀ (x y : BitVec 32) (l : List UInt8), (four x ++ (four y ++ l)).drop 8 = l := fun x y l => by
        have := drop8 x y l 0
        rwa [List.drop_zero] at this
      rw [drop8, d0, List.drop_append_of_le_length (by omega), List.take_append_of_le_length (by omega)]
      have hsp : xorL (p ++ four (crc p)) (e.drop 8) = xorL p ((e.drop 8).take p.length) ++ xorL (four (crc p)) ((e.drop 8).drop p.length) := by
        conv => lhs; rw [← List.take_append_drop p.length (e.drop 8)]
        unfold xorL; rw [List.zipWith_append (by simp; omega)]
      have hl1 : (xorL p ((e.drop 8).take p.length)).length = p.length := xorL_length _ _ (by simp; omega)
      rw [hsp, List.take_left' hl1, List.drop_left' hl1]
      have hnum : ∀ q : List UInt8, num (xorL (four (crc p)) ((e.drop 8).drop p.length) ++ q) = num (xorL (four (crc p)) ((e.drop 8).drop p.length)) := by
        intro q
        have : (xorL (four (crc p)) ((e.drop 8).drop p.length)).length = 4 := by rw [xorL_length _ _ (by simp [four_length]; omega)]; rfl
        unfold num
        rw [List.take_append_of_le_length (by omega)]
      rw [hnum]
      refine spoilt _ _ _ _ (four_length _) (by simp; omega) (by simp; omega) ?_ ?_ ?_
      · have := num_four (crc p) []
        rwa [List.append_nil] at this
      · rw [List.take_append_drop]
        have : bitsL (e.drop 8) = (bitsL e).drop 64 := by
          conv => rhs; rw [split8 e, bitsL_append]
          rw [List.drop_left' (by rw [bitsL_length, List.length_take]; omega)]
        rw [this]; exact hw.drop _
      · rw [List.take_append_drop]
        rw [split8 e, bitsL_append, List.mem_append] at ht
        exact ht.resolve_left h8

end Go.Proofs.YtgafjbgplcjnnaaDoor.fr
