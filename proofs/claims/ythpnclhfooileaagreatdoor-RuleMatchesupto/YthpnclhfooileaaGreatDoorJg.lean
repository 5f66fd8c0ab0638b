/- Patterns: laws of texts as patterns, stars, and patterns side by side. No program in it. -/
import Derived.Test.YthpnclhfooileaaGreatDoorJa
namespace Go.Proofs.YthpnclhfooileaaGreatDoor.ru

/-- A text as a pattern that speaks of it alone. -/
def esc (l : List UInt8) : List UInt8 := l.flatMap fun c => if c = 42 ∨ c = 92 then [92, c] else [c]
def lits (l : List UInt8) : List (Bool × UInt8) := l.map fun c => (false, c)
theorem prt_cons (c : UInt8) (l : List UInt8) (h : ¬ c = 92) : prt (c :: l) = (c == 42, c) :: prt l := by
  cases l with
  | nil => rfl
  | cons d l => conv => lhs; unfold prt; rw [if_neg (fun z => h z.1)]
theorem prt_esc_app (l q : List UInt8) : prt (esc l ++ q) = lits l ++ prt q := by
  induction l with
  | nil => rfl
  | cons c l ih =>
    have e : esc (c :: l) = (if c = 42 ∨ c = 92 then [92, c] else [c]) ++ esc l := rfl
    rw [e]
    by_cases h : c = 42 ∨ c = 92
    · rw [if_pos h]
      show prt (92 :: c :: (esc l ++ q)) = (false, c) :: (lits l ++ prt q)
      conv => lhs; unfold prt
      rw [if_pos ⟨rfl, h⟩, ih]
    · rw [if_neg h]
      show prt (c :: (esc l ++ q)) = (false, c) :: (lits l ++ prt q)
      rw [prt_cons c _ (fun z => h (Or.inr z)), ih]
      have : (c == 42) = false := by rw [beq_eq_false_iff_ne]; exact fun z => h (Or.inl z)
      rw [this]
theorem prt_esc_all (l : List UInt8) : prt (esc l) = lits l := by
  have := prt_esc_app l []
  rw [List.append_nil] at this
  rw [this]
  show lits l ++ [] = lits l
  exact List.append_nil _
theorem mch_lits (l s : List UInt8) : mch (lits l) s = true ↔ l = s := by
  induction l generalizing s with
  | nil => exact (mch_nil s).trans ⟨fun h => h.symm, fun h => h.symm⟩
  | cons c l ih =>
    show mch ((false, c) :: lits l) s = true ↔ _
    rw [mch_lit]
    constructor
    · rintro ⟨t, rfl, h⟩; rw [(ih t).1 h]
    · rintro rfl; exact ⟨l, rfl, (ih l).2 rfl⟩
theorem mch_star (s : List UInt8) : mch [(true, 42)] s = true := (mch_any _ _ _).2 ⟨s, [], (List.append_nil _).symm, (mch_nil _).2 rfl⟩
/-- Patterns side by side, where the first one doesn't end in a backslash. -/
theorem prt_append (p q : List UInt8) (h : p.getLast? ≠ some 92) : prt (p ++ q) = prt p ++ prt q := by
  have key : ∀ n, ∀ p : List UInt8, p.length ≤ n → p.getLast? ≠ some 92 → prt (p ++ q) = prt p ++ prt q := by
    intro n
    induction n with
    | zero => intro p hp _; have : p = [] := List.eq_nil_of_length_eq_zero (by omega); subst this; rfl
    | succ n ih =>
      intro p hp hl
      match p, hp, hl with
      | [], _, _ => rfl
      | [c], _, hl =>
        have hc : ¬ c = 92 := fun z => hl (by rw [z]; rfl)
        show prt (c :: q) = [(c == 42, c)] ++ prt q
        rw [prt_cons c q hc]; rfl
      | c :: d :: p, hp, hl =>
        have e : prt (c :: d :: p) = if c = 92 ∧ (d = 42 ∨ d = 92) then (false, d) :: prt p else (c == 42, c) :: prt (d :: p) := rfl
        have e2 : prt (c :: d :: (p ++ q)) = if c = 92 ∧ (d = 42 ∨ d = 92) then (false, d) :: prt (p ++ q) else (c == 42, c) :: prt (d :: (p ++ q)) := rfl
        show prt (c :: d :: (p ++ q)) = _
        rw [e, e2]
        simp only [List.length_cons] at hp
        by_cases h : c = 92 ∧ (d = 42 ∨ d = 92)
        · rw [if_pos h, if_pos h]
          have hl2 : p.getLast? ≠ some 92 ∨ p = [] := by
            cases p with
            | nil => exact Or.inr rfl
            | cons x p => left; intro z; exact hl (by simpa using z)
          rcases hl2 with q2 | q2
          · rw [ih p (by omega) q2]; rfl
          · subst q2; rfl
        · rw [if_neg h, if_neg h]
          have hl2 : (d :: p).getLast? ≠ some 92 := by
            intro z; exact hl (by simpa using z)
          have := ih (d :: p) (by simp only [List.length_cons]; omega) hl2
          show _ :: prt ((d :: p) ++ q) = _
          rw [this]; rfl
  exact key _ p (Nat.le_refl _) h
theorem bool_of {a b : Bool} (h : a = true ↔ b = true) : a = b := by cases a <;> cases b <;> simp_all
end Go.Proofs.YthpnclhfooileaaGreatDoor.ru
