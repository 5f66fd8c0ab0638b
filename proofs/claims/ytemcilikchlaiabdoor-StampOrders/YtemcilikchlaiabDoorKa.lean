/- The calendar: how many days years and months have, and which day a number of days means. No program in it. -/
import Derived.Lib.Bytealg
namespace Go.Proofs.YtemcilikchlaiabDoor.st

def leap (y : Int) : Bool := decide (y % 400 = 0 ∨ (y % 4 = 0 ∧ y % 100 ≠ 0))
/-- One day more in a leap year. -/
def lp (y : Int) : Int := if leap y = true then 1 else 0
theorem lp_le (y : Int) : 0 ≤ lp y ∧ lp y ≤ 1 := by unfold lp; split <;> omega
/-- How many days a month has. -/
def mon (y m : Int) : Int :=
  if m = 2 then 28 + lp y else if m = 4 ∨ m = 6 ∨ m = 9 ∨ m = 11 then 30 else if 1 ≤ m ∧ m ≤ 12 then 31 else 0
/-- How many days a year has. -/
def yr (y : Int) : Int := 365 + lp y
/-- From 1970-01-01 to a year's first day. -/
def dby (y : Int) : Int := 365 * (y - 1970) + (y - 1) / 4 - (y - 1) / 100 + (y - 1) / 400 - 477
/-- From a year's first day to a month's. -/
def cum (y m : Int) : Int := if m ≤ 2 then 31 * (m - 1) else (153 * m - 457) / 5 + 59 + lp y

theorem dby_0 : dby 1970 = 0 := by decide
theorem dby_succ (y : Int) : dby (y + 1) = dby y + yr y := by
  unfold dby yr lp leap
  split
  · rename_i h
    have h := of_decide_eq_true h
    omega
  · rename_i h
    have h : ¬ (y % 400 = 0 ∨ (y % 4 = 0 ∧ y % 100 ≠ 0)) := fun q => h (decide_eq_true q)
    omega
theorem dby_mono (y z : Int) (h : y ≤ z) : dby y + 365 * (z - y) ≤ dby z := by
  unfold dby
  omega
theorem cum_1 (y : Int) : cum y 1 = 0 := by unfold cum; rw [if_pos (by omega)]; omega
theorem cum_13 (y : Int) : cum y 13 = yr y := by
  unfold cum yr
  rw [if_neg (by omega)]
  omega
theorem twelve {m : Int} (h1 : 1 ≤ m) (h2 : m ≤ 12) : m = 1 ∨ m = 2 ∨ m = 3 ∨ m = 4 ∨ m = 5 ∨ m = 6 ∨ m = 7 ∨ m = 8 ∨ m = 9 ∨ m = 10 ∨ m = 11 ∨ m = 12 := by omega
theorem cum_succ (y m : Int) (h1 : 1 ≤ m) (h2 : m ≤ 12) : cum y (m + 1) = cum y m + mon y m := by
  unfold cum mon
  generalize lp y = l
  rcases twelve h1 h2 with rfl | rfl | rfl | rfl | rfl | rfl | rfl | rfl | rfl | rfl | rfl | rfl <;> simp <;> omega
theorem mon_ge (y m : Int) (h1 : 1 ≤ m) (h2 : m ≤ 12) : 28 ≤ mon y m ∧ mon y m ≤ 31 := by
  have hl := lp_le y
  unfold mon
  generalize lp y = l at *
  rcases twelve h1 h2 with rfl | rfl | rfl | rfl | rfl | rfl | rfl | rfl | rfl | rfl | rfl | rfl <;> simp <;> omega
theorem mon_none (y m : Int) (h : ¬ (1 ≤ m ∧ m ≤ 12)) : mon y m = 0 := by
  unfold mon
  rw [if_neg (by omega), if_neg (by omega), if_neg h]
theorem cum_mono (y m n : Int) (h1 : 1 ≤ m) (h2 : m < n) (h3 : n ≤ 13) : cum y (m + 1) ≤ cum y n := by
  have hl := lp_le y
  unfold cum
  split
  · split <;> omega
  · split <;> omega

/-- A day of the calendar. -/
def isD (y m d : Int) : Prop := 1 ≤ m ∧ m ≤ 12 ∧ 1 ≤ d ∧ d ≤ mon y m
/-- How many days it lies behind 1970-01-01. -/
def dn (y m d : Int) : Int := dby y + cum y m + (d - 1)

theorem dn_in {y m d : Int} (h : isD y m d) : dby y ≤ dn y m d ∧ dn y m d < dby (y + 1) := by
  obtain ⟨h1, h2, h3, h4⟩ := h
  have a := cum_succ y m h1 h2
  have b : cum y (m + 1) ≤ cum y 13 := cum_mono y m 13 h1 (by omega) (by omega)
  have c : 0 ≤ cum y m := by
    rcases Int.lt_or_le 1 m with q | q
    · have := cum_mono y 1 m (by omega) q (by omega)
      have e : cum y (1 + 1) = 31 := by unfold cum; rw [if_pos (by omega)]; omega
      omega
    · have : m = 1 := by omega
      subst this
      rw [cum_1]; omega
  rw [cum_13] at b
  rw [dby_succ]
  unfold dn
  omega
theorem dn_year {y m d y' m' d' : Int} (h : isD y m d) (h' : isD y' m' d') (e : dn y m d = dn y' m' d') : y = y' := by
  have a := dn_in h
  have b := dn_in h'
  rcases Int.lt_trichotomy y y' with q | q | q
  · have := dby_mono (y + 1) y' (by omega)
    omega
  · exact q
  · have := dby_mono (y' + 1) y (by omega)
    omega
theorem dn_inj {y m d y' m' d' : Int} (h : isD y m d) (h' : isD y' m' d') (e : dn y m d = dn y' m' d') : y = y' ∧ m = m' ∧ d = d' := by
  have hy := dn_year h h' e
  subst hy
  obtain ⟨h1, h2, h3, h4⟩ := h
  obtain ⟨g1, g2, g3, g4⟩ := h'
  have a := cum_succ y m h1 h2
  have b := cum_succ y m' g1 g2
  unfold dn at e
  have hm : m = m' := by
    rcases Int.lt_trichotomy m m' with q | q | q
    · have := cum_mono y m m' h1 q (by omega)
      omega
    · exact q
    · have := cum_mono y m' m g1 q (by omega)
      omega
  subst hm
  exact ⟨rfl, rfl, by omega⟩
/-- Which day a number of days means. -/
def isDate (n y m d : Int) : Prop := isD y m d ∧ dn y m d = n
theorem isDate_of (n y : Int) (h1 : dby y ≤ n) (h2 : n < dby (y + 1)) : ∃ m d, isDate n y m d := by
  rw [dby_succ, ← cum_13] at h2
  have key : ∀ k : Nat, (k : Int) ≤ 12 → n - dby y < cum y (k + 1) → ∃ m d, isDate n y m d := by
    intro k
    induction k with
    | zero =>
      intro _ h
      have e : cum y ((0 : Nat) + 1) = 0 := cum_1 y
      omega
    | succ k ih =>
      intro hk h
      rcases Int.lt_or_le (n - dby y) (cum y (k + 1)) with q | q
      · exact ih (by omega) q
      · have c := cum_succ y ((k : Int) + 1) (by omega) (by omega)
        have e : (((k + 1 : Nat) : Int) + 1) = (k : Int) + 1 + 1 := by omega
        rw [e] at h
        refine ⟨(k : Int) + 1, n - dby y - cum y ((k : Int) + 1) + 1, ⟨by omega, by omega, by omega, by omega⟩, ?_⟩
        unfold dn
        omega
  exact key 12 (by omega) (by simp; omega)
theorem isDate_ex (n : Int) : ∃ y m d, isDate n y m d := by
  have key : ∀ k : Nat, ∀ y : Int, dby y ≤ n → n < dby (y + k) → ∃ y, dby y ≤ n ∧ n < dby (y + 1) := by
    intro k
    induction k with
    | zero => intro y h1 h2; simp at h2; omega
    | succ k ih =>
      intro y h1 h2
      rcases Int.lt_or_le n (dby (y + 1)) with q | q
      · exact ⟨y, h1, q⟩
      · exact ih (y + 1) q (by rw [show y + 1 + (k : Int) = y + ((k + 1 : Nat) : Int) by omega]; exact h2)
  have a := dby_mono (1970 - (n.natAbs : Int)) 1970 (by omega)
  have b := dby_mono 1970 (1970 + (n.natAbs : Int) + 1) (by omega)
  rw [dby_0] at a b
  obtain ⟨y, h1, h2⟩ := key (2 * n.natAbs + 1) (1970 - (n.natAbs : Int)) (by omega) (by
    rw [show 1970 - (n.natAbs : Int) + ((2 * n.natAbs + 1 : Nat) : Int) = 1970 + (n.natAbs : Int) + 1 by omega]
    omega)
  obtain ⟨m, d, h⟩ := isDate_of n y h1 h2
  exact ⟨y, m, d, h⟩
theorem isDate_inj {n y m d y' m' d' : Int} (h : isDate n y m d) (h' : isDate n y' m' d') : y = y' ∧ m = m' ∧ d = d' := dn_inj h.1 h'.1 (h.2.trans h'.2.symm)
/-- The calendar's next day. -/
theorem isDate_next {n y m d : Int} (h : isDate n y m d) :
    (d < mon y m → isDate (n + 1) y m (d + 1)) ∧ (d = mon y m → m < 12 → isDate (n + 1) y (m + 1) 1) ∧ (d = mon y m → m = 12 → isDate (n + 1) (y + 1) 1 1) := by
  obtain ⟨⟨h1, h2, h3, h4⟩, h5⟩ := h
  have c := cum_succ y m h1 h2
  unfold dn at h5
  refine ⟨fun q => ⟨⟨h1, h2, by omega, by omega⟩, by unfold dn; omega⟩, fun q q2 => ⟨⟨by omega, by omega, by omega, ?_⟩, by unfold dn; omega⟩, fun q q2 => ⟨⟨by omega, by omega, by omega, ?_⟩, ?_⟩⟩
  · have := (mon_ge y (m + 1) (by omega) (by omega)).1
    omega
  · have := (mon_ge (y + 1) 1 (by omega) (by omega)).1
    omega
  · subst q2
    have c13 := cum_13 y
    unfold dn
    rw [dby_succ, cum_1]
    have : cum y (12 + 1) = cum y 13 := rfl
    omega
end Go.Proofs.YtemcilikchlaiabDoor.st
