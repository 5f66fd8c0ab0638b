/- Patterns: what they match, as plain functions; how a pattern's beginnings match a text's beginnings. No program in it. -/
import Derived.Lib.Bytealg
namespace Go.Proofs.YthpnclhfooileaaGreatDoor.ru

/-- A pattern's parts: any bytes, or one byte. -/
def prt : List UInt8 → List (Bool × UInt8)
  | [] => []
  | [c] => [(c == 42, c)]
  | c :: d :: l => if c = 92 ∧ (d = 42 ∨ d = 92) then (false, d) :: prt l else (c == 42, c) :: prt (d :: l)
/-- Does it hold of some end of a text? -/
def sfx (f : List UInt8 → Bool) : List UInt8 → Bool
  | [] => f []
  | c :: t => f (c :: t) || sfx f t
/-- Do these parts speak of this text? -/
def mch : List (Bool × UInt8) → List UInt8 → Bool
  | [], s => s.isEmpty
  | (a, c) :: p, s => if a = true then sfx (mch p) s else match s with
    | [] => false
    | d :: t => d == c && mch p t

theorem sfx_iff (f : List UInt8 → Bool) (s : List UInt8) : sfx f s = true ↔ ∃ a b, s = a ++ b ∧ f b = true := by
  induction s with
  | nil =>
    unfold sfx
    constructor
    · intro h; exact ⟨[], [], rfl, h⟩
    · rintro ⟨a, b, h, hf⟩
      have : b = [] := by
        have := congrArg List.length h
        rw [List.length_append, List.length_nil] at this
        exact List.eq_nil_of_length_eq_zero (by omega)
      rw [← this]; exact hf
  | cons c t ih =>
    unfold sfx
    rw [Bool.or_eq_true, ih]
    constructor
    · rintro (h | ⟨a, b, rfl, hf⟩)
      · exact ⟨[], _, rfl, h⟩
      · exact ⟨c :: a, b, rfl, hf⟩
    · rintro ⟨a, b, h, hf⟩
      cases a with
      | nil => left; rw [show c :: t = b from h]; exact hf
      | cons x a => right; injection h with h1 h2; exact ⟨a, b, h2, hf⟩
theorem mch_any (c : UInt8) (p : List (Bool × UInt8)) (s : List UInt8) : mch ((true, c) :: p) s = true ↔ ∃ a b, s = a ++ b ∧ mch p b = true := by
  have e : mch ((true, c) :: p) s = sfx (mch p) s := by simp [mch]
  rw [e]; exact sfx_iff _ _
theorem mch_lit (c : UInt8) (p : List (Bool × UInt8)) (s : List UInt8) : mch ((false, c) :: p) s = true ↔ ∃ t, s = c :: t ∧ mch p t = true := by
  cases s with
  | nil => simp [mch]
  | cons d t =>
    simp only [mch, Bool.false_eq_true, if_false, Bool.and_eq_true, beq_iff_eq]
    constructor
    · rintro ⟨rfl, h⟩; exact ⟨t, rfl, h⟩
    · rintro ⟨u, h, hm⟩; injection h with h1 h2; subst h1 h2; exact ⟨rfl, hm⟩
theorem mch_nil (s : List UInt8) : mch [] s = true ↔ s = [] := by unfold mch; simp
theorem mch_append (p q : List (Bool × UInt8)) (s : List UInt8) : mch (p ++ q) s = true ↔ ∃ a b, s = a ++ b ∧ mch p a = true ∧ mch q b = true := by
  induction p generalizing s with
  | nil =>
    rw [List.nil_append]
    constructor
    · intro h; exact ⟨[], s, rfl, (mch_nil _).2 rfl, h⟩
    · rintro ⟨a, b, rfl, ha, hb⟩
      rw [(mch_nil _).1 ha]; exact hb
  | cons x p ih =>
    obtain ⟨a, c⟩ := x
    rw [List.cons_append]
    cases a
    · rw [mch_lit]
      constructor
      · rintro ⟨t, rfl, h⟩
        obtain ⟨a, b, rfl, h1, h2⟩ := (ih t).1 h
        exact ⟨c :: a, b, rfl, (mch_lit c p _).2 ⟨a, rfl, h1⟩, h2⟩
      · rintro ⟨a, b, rfl, h1, h2⟩
        obtain ⟨t, rfl, h3⟩ := (mch_lit c p _).1 h1
        exact ⟨t ++ b, rfl, (ih _).2 ⟨t, b, rfl, h3, h2⟩⟩
    · rw [mch_any]
      constructor
      · rintro ⟨u, v, rfl, h⟩
        obtain ⟨a, b, rfl, h1, h2⟩ := (ih v).1 h
        exact ⟨u ++ a, b, by rw [List.append_assoc], (mch_any c p _).2 ⟨u, a, rfl, h1⟩, h2⟩
      · rintro ⟨a, b, rfl, h1, h2⟩
        obtain ⟨u, v, rfl, h3⟩ := (mch_any c p _).1 h1
        exact ⟨u, v ++ b, by rw [List.append_assoc], (ih _).2 ⟨v, b, rfl, h3, h2⟩⟩

def anyAt (l : List (Bool × UInt8)) (j : Nat) : Bool := match l[j]? with
  | some x => x.1
  | none => false
def litAt (l : List (Bool × UInt8)) (j : Nat) (c : UInt8) : Bool := match l[j]? with
  | some x => !x.1 && x.2 == c
  | none => false
/-- Do the first j parts speak of the first k bytes? -/
def pm (l : List (Bool × UInt8)) (s : List UInt8) (j k : Nat) : Bool := mch (l.take j) (s.take k)
theorem take_snoc {α : Type} (l : List α) (j : Nat) (h : j < l.length) : l.take (j + 1) = l.take j ++ [l[j]] := by
  rw [List.take_succ_eq_append_getElem h]
theorem pm_0 (l : List (Bool × UInt8)) (s : List UInt8) (k : Nat) (hk : k < s.length) : pm l s 0 (k + 1) = false := by
  unfold pm
  rw [List.take_zero]
  cases h : mch [] (s.take (k + 1)) with
  | false => rfl
  | true =>
    have := congrArg List.length ((mch_nil _).1 h)
    rw [List.length_take, List.length_nil] at this
    omega
theorem bool_iff {a b : Bool} (h : a = true ↔ b = true) : a = b := by cases a <;> cases b <;> simp_all
theorem pm_lit (l : List (Bool × UInt8)) (s : List UInt8) (j k : Nat) (hj : j < l.length) (hk : k < s.length) (ha : l[j].1 = false) : pm l s (j + 1) (k + 1) = (l[j].2 == s[k] && pm l s j k) := by
  unfold pm
  rw [take_snoc l j hj, take_snoc s k hk]
  apply bool_iff
  rw [mch_append, Bool.and_eq_true, beq_iff_eq]
  have ex : l[j] = (false, l[j].2) := by rw [← ha]
  rw [ex]
  constructor
  · rintro ⟨a, b, h, h1, h2⟩
    obtain ⟨t, rfl, h3⟩ := (mch_lit _ _ _).1 h2
    rw [(mch_nil _).1 h3] at h
    have := List.append_inj' h rfl
    injection this.2 with h4
    exact ⟨h4.symm, by rw [this.1]; exact h1⟩
  · rintro ⟨h1, h2⟩
    exact ⟨_, _, rfl, h2, (mch_lit _ _ _).2 ⟨[], by rw [← h1], (mch_nil _).2 rfl⟩⟩
theorem pm_any (l : List (Bool × UInt8)) (s : List UInt8) (j k : Nat) (hj : j < l.length) (hk : k < s.length) (ha : l[j].1 = true) : pm l s (j + 1) (k + 1) = (pm l s j (k + 1) || pm l s (j + 1) k) := by
  unfold pm
  rw [take_snoc l j hj, take_snoc s k hk]
  apply bool_iff
  have ex : l[j] = (true, l[j].2) := by rw [← ha]
  rw [mch_append, Bool.or_eq_true, mch_append, ex]
  constructor
  · rintro ⟨a, b, h, h1, h2⟩
    rcases List.eq_nil_or_concat b with rfl | ⟨b', x, rfl⟩
    · left; rw [h, List.append_nil]; exact h1
    · right
      rw [List.concat_eq_append, ← List.append_assoc] at h
      have := List.append_inj' h rfl
      exact ⟨a, b', this.1, h1, (mch_any _ _ _).2 ⟨b', [], by simp, (mch_nil _).2 rfl⟩⟩
  · rintro (h | ⟨a, b, h, h1, h2⟩)
    · exact ⟨_, [], by simp, h, (mch_any _ _ _).2 ⟨[], [], rfl, (mch_nil _).2 rfl⟩⟩
    · exact ⟨a, b ++ [s[k]], by rw [h, List.append_assoc], h1, (mch_any _ _ _).2 ⟨b ++ [s[k]], [], (List.append_nil _).symm, (mch_nil _).2 rfl⟩⟩
theorem pm_none (l : List (Bool × UInt8)) (s : List UInt8) (j : Nat) (hj : j < l.length) : pm l s (j + 1) 0 = (l[j].1 && pm l s j 0) := by
  unfold pm
  rw [take_snoc l j hj, List.take_zero]
  apply bool_iff
  rw [mch_append, Bool.and_eq_true]
  constructor
  · rintro ⟨a, b, h, h1, h2⟩
    have := congrArg List.length h
    rw [List.length_append, List.length_nil] at this
    have ea : a = [] := List.eq_nil_of_length_eq_zero (by omega)
    have eb : b = [] := List.eq_nil_of_length_eq_zero (by omega)
    subst ea eb
    refine ⟨?_, h1⟩
    cases hx : l[j].1 with
    | true => rfl
    | false =>
      have ex : l[j] = (false, l[j].2) := by rw [← hx]
      rw [ex] at h2
      obtain ⟨t, h3, _⟩ := (mch_lit _ _ _).1 h2
      cases h3
  · rintro ⟨h1, h2⟩
    have ex : l[j] = (true, l[j].2) := by rw [← h1]
    rw [ex]
    exact ⟨[], [], rfl, h2, (mch_any _ _ _).2 ⟨[], [], rfl, (mch_nil _).2 rfl⟩⟩

/-- What may have been met when k bytes were read: j parts, the next one of which may have begun, if it is any bytes. -/
def Mk (l : List (Bool × UInt8)) (s : List UInt8) (k j : Nat) : Bool := if anyAt l j = true then pm l s (j + 1) k else pm l s j k
def pasF (l : List (Bool × UInt8)) (m : Nat → Bool) : Nat → Bool
  | 0 => m 0
  | j + 1 => m (j + 1) || (pasF l m j && anyAt l j)
def stepF (l : List (Bool × UInt8)) (c : UInt8) (m : Nat → Bool) (j : Nat) : Bool := (anyAt l j && m j) || match j with
  | 0 => false
  | i + 1 => litAt l i c && m i
theorem anyAt_lt {l : List (Bool × UInt8)} {j : Nat} (h : anyAt l j = true) : ∃ hj : j < l.length, l[j].1 = true := by
  unfold anyAt at h
  rcases Nat.lt_or_ge j l.length with q | q
  · rw [List.getElem?_eq_getElem q] at h; exact ⟨q, h⟩
  · rw [List.getElem?_eq_none q] at h; cases h
theorem anyAt_no {l : List (Bool × UInt8)} {j : Nat} (hj : j < l.length) (h : anyAt l j = false) : l[j].1 = false := by
  unfold anyAt at h
  rw [List.getElem?_eq_getElem hj] at h; exact h
theorem Mk_end (l : List (Bool × UInt8)) (s : List UInt8) : Mk l s s.length l.length = mch l s := by
  unfold Mk anyAt pm
  rw [List.getElem?_eq_none (Nat.le_refl _), if_neg Bool.false_ne_true, List.take_length, List.take_length]
theorem Mk_0 (l : List (Bool × UInt8)) (s : List UInt8) (j : Nat) (hj : j ≤ l.length) : Mk l s 0 j = pasF l (fun j => j == 0) j := by
  have key : ∀ j, j ≤ l.length → (pasF l (fun j => j == 0) j = pm l s j 0) := by
    intro j
    induction j with
    | zero =>
      intro _
      unfold pasF pm
      simp [mch]
    | succ j ih =>
      intro h
      unfold pasF
      rw [ih (by omega), pm_none l s j (by omega)]
      unfold anyAt
      rw [List.getElem?_eq_getElem (by omega)]
      simp [Bool.and_comm]
  rw [key j hj]
  unfold Mk
  split
  · rename_i h
    obtain ⟨q, hq⟩ := anyAt_lt h
    rw [pm_none l s j q, hq, Bool.true_and]
  · rfl
theorem Mk_step (l : List (Bool × UInt8)) (s : List UInt8) (k : Nat) (hk : k < s.length) (j : Nat) (hj : j ≤ l.length) : Mk l s (k + 1) j = pasF l (stepF l s[k] (Mk l s k)) j := by
  -- what the first j parts may speak of
  have key : ∀ j, j ≤ l.length → pasF l (stepF l s[k] (Mk l s k)) j = (pm l s j (k + 1) || (anyAt l j && Mk l s k j)) := by
    intro j
    induction j with
    | zero =>
      intro _
      unfold pasF stepF
      rw [pm_0 l s k hk]
      simp
    | succ j ih =>
      intro h
      have hj' : j < l.length := by omega
      have e : pasF l (stepF l s[k] (Mk l s k)) (j + 1) = (((anyAt l (j + 1) && Mk l s k (j + 1)) || (litAt l j s[k] && Mk l s k j)) || (pasF l (stepF l s[k] (Mk l s k)) j && anyAt l j)) := rfl
      rw [e, ih (by omega)]
      cases ha : anyAt l j with
      | true =>
        obtain ⟨q, hq⟩ := anyAt_lt ha
        rw [pm_any l s j k hj' hk hq]
        have hl : litAt l j s[k] = false := by unfold litAt; rw [List.getElem?_eq_getElem hj']; simp [hq]
        have hm : Mk l s k j = pm l s (j + 1) k := by unfold Mk; rw [if_pos ha]
        rw [hl, hm]
        cases pm l s j (k + 1) <;> cases pm l s (j + 1) k <;> cases (anyAt l (j + 1) && Mk l s k (j + 1)) <;> rfl
      | false =>
        have hq := anyAt_no hj' ha
        rw [pm_lit l s j k hj' hk hq]
        have hl : litAt l j s[k] = (l[j].2 == s[k]) := by unfold litAt; rw [List.getElem?_eq_getElem hj']; simp [hq]
        have hm : Mk l s k j = pm l s j k := by unfold Mk; rw [if_neg (by rw [ha]; exact Bool.false_ne_true)]
        rw [hl, hm]
        cases (l[j].2 == s[k]) <;> cases pm l s j k <;> cases (anyAt l (j + 1) && Mk l s k (j + 1)) <;> simp
  rw [key j hj]
  cases ha : anyAt l j with
  | true =>
    obtain ⟨q, hq⟩ := anyAt_lt ha
    have h1 : Mk l s (k + 1) j = pm l s (j + 1) (k + 1) := by unfold Mk; rw [if_pos ha]
    have h2 : Mk l s k j = pm l s (j + 1) k := by unfold Mk; rw [if_pos ha]
    rw [h1, h2, pm_any l s j k q hk hq, Bool.true_and]
  | false =>
    have h1 : Mk l s (k + 1) j = pm l s j (k + 1) := by unfold Mk; rw [if_neg (by rw [ha]; exact Bool.false_ne_true)]
    rw [h1, Bool.false_and, Bool.or_false]
end Go.Proofs.YthpnclhfooileaaGreatDoor.ru
