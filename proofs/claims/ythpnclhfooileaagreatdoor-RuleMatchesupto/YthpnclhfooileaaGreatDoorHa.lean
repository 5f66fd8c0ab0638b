/- Patterns, cut at their stars: what stands ahead of the first star, and how a search that takes each piece where it is found first finds what there is. No program in it. -/
import Derived.Test.YthpnclhfooileaaGreatDoorJg
import Derived.Lib.IndexMore
import Derived.Lib.Strings
namespace Go.Proofs.YthpnclhfooileaaGreatDoor.ru

/-- What stands ahead of a pattern's first star, what behind it, and whether there is one. -/
def cs : List UInt8 → List UInt8 × List UInt8 × Bool
  | [] => ([], [], false)
  | [c] => if c = 42 then ([], [], true) else ([c], [], false)
  | c :: d :: l => if c = 42 then ([], d :: l, true) else if c = 92 ∧ (d = 42 ∨ d = 92) then (d :: (cs l).1, (cs l).2) else (c :: (cs (d :: l)).1, (cs (d :: l)).2)
theorem cs_star (l : List UInt8) : cs (42 :: l) = ([], l, true) := by
  cases l with
  | nil => rfl
  | cons d l => rfl
theorem cs_esc (d : UInt8) (l : List UInt8) (h : d = 42 ∨ d = 92) : cs (92 :: d :: l) = (d :: (cs l).1, (cs l).2) := by
  conv => lhs; unfold cs
  rw [if_neg (by decide), if_pos ⟨rfl, h⟩]
theorem cs_other (c : UInt8) (l : List UInt8) (h : ¬ c = 42) (h2 : ¬ (c = 92 ∧ (l.head? = some 42 ∨ l.head? = some 92))) : cs (c :: l) = (c :: (cs l).1, (cs l).2) := by
  cases l with
  | nil => show (if c = 42 then _ else _) = _; rw [if_neg h]; rfl
  | cons d l =>
    conv => lhs; unfold cs
    rw [if_neg h, if_neg]
    intro z
    refine h2 ⟨z.1, ?_⟩
    rcases z.2 with z2 | z2
    · left; rw [z2]; rfl
    · right; rw [z2]; rfl
/-- The rest of the pattern behind the first piece. -/
def tl (p : List UInt8) : List (Bool × UInt8) := if (cs p).2.2 = true then (true, 42) :: prt (cs p).2.1 else []
theorem prt_cs (p : List UInt8) : prt p = lits (cs p).1 ++ tl p := by
  have key : ∀ n, ∀ p : List UInt8, p.length ≤ n → prt p = lits (cs p).1 ++ tl p := by
    intro n
    induction n with
    | zero => intro p hp; have : p = [] := List.eq_nil_of_length_eq_zero (by omega); subst this; rfl
    | succ n ih =>
      intro p hp
      match p, hp with
      | [], _ => rfl
      | [c], _ =>
        unfold tl
        show [(c == 42, c)] = _
        by_cases h : c = 42
        · subst h; rfl
        · have e : cs [c] = ([c], [], false) := by show (if c = 42 then _ else _) = _; rw [if_neg h]
          have h2 : (c == 42) = false := by rw [beq_eq_false_iff_ne]; exact h
          rw [e, h2]; rfl
      | c :: d :: l, hp =>
        simp only [List.length_cons] at hp
        by_cases h : c = 42
        · subst h
          unfold tl
          rw [cs_star, prt_cons 42 _ (by decide)]
          rfl
        · by_cases h2 : c = 92 ∧ (d = 42 ∨ d = 92)
          · obtain ⟨rfl, hd⟩ := h2
            have e := ih l (by omega)
            have e3 : tl (92 :: d :: l) = tl l := by unfold tl; rw [cs_esc d l hd]
            rw [e3, cs_esc d l hd]
            conv => lhs; unfold prt
            rw [if_pos ⟨rfl, hd⟩, e]
            rfl
          · have e := ih (d :: l) (by simp only [List.length_cons]; omega)
            have ec : cs (c :: d :: l) = (c :: (cs (d :: l)).1, (cs (d :: l)).2) := by
              conv => lhs; unfold cs
              rw [if_neg h, if_neg h2]
            have e3 : tl (c :: d :: l) = tl (d :: l) := by unfold tl; rw [ec]
            have h3 : (c == 42) = false := by rw [beq_eq_false_iff_ne]; exact h
            rw [e3, ec]
            conv => lhs; unfold prt
            rw [if_neg h2, e, h3]
            rfl
  exact key _ p (Nat.le_refl _)
theorem cs_len (p : List UInt8) : (cs p).1.length ≤ p.length ∧ ((cs p).2.2 = true → (cs p).2.1.length < p.length) := by
  have key : ∀ n, ∀ p : List UInt8, p.length ≤ n → (cs p).1.length ≤ p.length ∧ ((cs p).2.2 = true → (cs p).2.1.length < p.length) := by
    intro n
    induction n with
    | zero => intro p hp; have : p = [] := List.eq_nil_of_length_eq_zero (by omega); subst this; exact ⟨Nat.le_refl _, fun h => by cases h⟩
    | succ n ih =>
      intro p hp
      match p, hp with
      | [], _ => exact ⟨Nat.le_refl _, fun h => by cases h⟩
      | [c], _ =>
        by_cases h : c = 42
        · subst h; exact ⟨by decide, fun _ => by decide⟩
        · have e : cs [c] = ([c], [], false) := by show (if c = 42 then _ else _) = _; rw [if_neg h]
          rw [e]; exact ⟨Nat.le_refl _, fun h => by cases h⟩
      | c :: d :: l, hp =>
        simp only [List.length_cons] at hp
        by_cases h : c = 42
        · subst h
          rw [cs_star]
          exact ⟨Nat.zero_le _, fun _ => by simp⟩
        · by_cases h2 : c = 92 ∧ (d = 42 ∨ d = 92)
          · obtain ⟨rfl, hd⟩ := h2
            have e := ih l (by omega)
            rw [cs_esc d l hd]
            simp only [List.length_cons]
            exact ⟨by omega, fun z => by have := e.2 z; omega⟩
          · have e := ih (d :: l) (by simp only [List.length_cons]; omega)
            have ec : cs (c :: d :: l) = (c :: (cs (d :: l)).1, (cs (d :: l)).2) := by
              conv => lhs; unfold cs
              rw [if_neg h, if_neg h2]
            rw [ec]
            simp only [List.length_cons] at e ⊢
            exact ⟨by omega, fun z => by have := e.2 z; omega⟩
  exact key _ p (Nat.le_refl _)

/-- No star: the text is the piece. -/
theorem mt_whole (p s : List UInt8) (h : (cs p).2.2 = false) : mch (prt p) s = decide (s = (cs p).1) := by
  have e : tl p = [] := by unfold tl; rw [h]; rfl
  rw [prt_cs p, e, List.append_nil]
  apply bool_of
  rw [mch_lits, decide_eq_true_iff]
  exact eq_comm
/-- A star: the text begins with the piece .. -/
theorem mt_first (p s : List UInt8) (h : (cs p).2.2 = true) (hp : Lib.hasPrefix s (cs p).1 = true) : mch (prt p) s = mch ((true, 42) :: prt (cs p).2.1) (Lib.trimPrefix s (cs p).1) := by
  have e : tl p = (true, 42) :: prt (cs p).2.1 := by unfold tl; rw [h]; rfl
  obtain ⟨t, ht⟩ := List.isPrefixOf_iff_prefix.1 hp
  have e2 : Lib.trimPrefix s (cs p).1 = t := by
    unfold Lib.trimPrefix; rw [if_pos hp, ← ht, List.drop_left]
  rw [prt_cs p, e, e2]
  apply bool_of
  rw [mch_append, ← ht]
  constructor
  · rintro ⟨a, b, hab, ha, hb⟩
    rw [← (mch_lits _ _).1 ha] at hab
    rw [List.append_cancel_left hab]; exact hb
  · intro hb; exact ⟨_, _, rfl, (mch_lits _ _).2 rfl, hb⟩
theorem mt_no (p s : List UInt8) (h : (cs p).2.2 = true) (hp : Lib.hasPrefix s (cs p).1 = false) : mch (prt p) s = false := by
  have e : tl p = (true, 42) :: prt (cs p).2.1 := by unfold tl; rw [h]; rfl
  rw [prt_cs p, e]
  rw [← Bool.not_eq_true, mch_append]
  rintro ⟨a, b, rfl, ha, hb⟩
  rw [← (mch_lits _ _).1 ha] at hp
  have := List.isPrefixOf_iff_prefix.2 (List.prefix_append (cs p).1 b)
  unfold Lib.hasPrefix at hp
  rw [this] at hp
  cases hp
/-- The last piece: the text ends with it. -/
theorem mt_last (p s : List UInt8) (h : (cs p).2.2 = false) : mch ((true, 42) :: prt p) s = Lib.hasSuffix s (cs p).1 := by
  have e : tl p = [] := by unfold tl; rw [h]; rfl
  rw [prt_cs p, e, List.append_nil]
  apply bool_of
  rw [mch_any]
  unfold Lib.hasSuffix
  rw [List.isSuffixOf_iff_suffix]
  constructor
  · rintro ⟨a, b, rfl, hb⟩
    rw [← (mch_lits _ _).1 hb]; exact List.suffix_append _ _
  · rintro ⟨t, rfl⟩; exact ⟨_, _, rfl, (mch_lits _ _).2 rfl⟩
theorem star_more (q : List (Bool × UInt8)) (a s : List UInt8) (h : mch ((true, 42) :: q) s = true) : mch ((true, 42) :: q) (a ++ s) = true := by
  obtain ⟨x, y, rfl, hy⟩ := (mch_any _ _ _).1 h
  exact (mch_any _ _ _).2 ⟨a ++ x, y, (List.append_assoc _ _ _).symm, hy⟩
/-- A piece between two stars: found first, it leaves the most. -/
theorem mt_mid (p s : List UInt8) (h : (cs p).2.2 = true) (hc : (Lib.cut s (cs p).1).2.2 = true) : mch ((true, 42) :: prt p) s = mch ((true, 42) :: prt (cs p).2.1) (Lib.cut s (cs p).1).2.1 := by
  have e : tl p = (true, 42) :: prt (cs p).2.1 := by unfold tl; rw [h]; rfl
  rw [prt_cs p, e]
  generalize (cs p).1 = a at *
  generalize prt (cs p).2.1 = q at *
  clear e h
  rcases Lib.index_spec s a with ⟨h1, _⟩ | ⟨i, h1, h2, h3, h4⟩
  · unfold Lib.cut at hc
    rw [h1, if_neg (by decide)] at hc
    cases hc
  · have ec : (Lib.cut s a).2.1 = s.drop (i + a.length) := by
      unfold Lib.cut
      rw [h1, if_pos (by omega)]
      rfl
    rw [ec]
    obtain ⟨t, ht⟩ := List.isPrefixOf_iff_prefix.1 h3
    have es : s = s.take i ++ (a ++ t) := by rw [ht, List.take_append_drop]
    have et : s.drop (i + a.length) = t := by
      rw [← List.drop_drop, ← ht, List.drop_left]
    rw [et]
    apply bool_of
    constructor
    · intro hm
      obtain ⟨x, y, hxy, hy⟩ := (mch_any _ _ _).1 hm
      obtain ⟨a', b, rfl, ha, hb⟩ := (mch_append _ _ _).1 hy
      rw [← (mch_lits _ _).1 ha] at hxy
      have ho : Lib.occAt s a x.length = true := by
        unfold Lib.occAt
        rw [hxy, List.drop_left]
        exact List.isPrefixOf_iff_prefix.2 (List.prefix_append _ _)
      have hi : i ≤ x.length := by
        rcases Nat.lt_or_ge x.length i with z | z
        · have := h4 _ z
          rw [this] at ho; cases ho
        · exact z
      have eb : b = s.drop (x.length + a.length) := by
        rw [hxy, ← List.drop_drop, List.drop_left, List.drop_left]
      have e3 : t = (t.take (x.length - i)) ++ b := by
        have e4 : b = t.drop (x.length - i) := by
          rw [eb, ← et, List.drop_drop]
          congr 1
          omega
        rw [e4, List.take_append_drop]
      rw [e3]
      exact star_more _ _ _ hb
    · intro hm
      rw [es]
      exact (mch_any _ _ _).2 ⟨_, _, rfl, (mch_append _ _ _).2 ⟨_, _, rfl, (mch_lits _ _).2 rfl, hm⟩⟩
theorem mt_none (p s : List UInt8) (h : (cs p).2.2 = true) (hc : (Lib.cut s (cs p).1).2.2 = false) : mch ((true, 42) :: prt p) s = false := by
  have e : tl p = (true, 42) :: prt (cs p).2.1 := by unfold tl; rw [h]; rfl
  rw [prt_cs p, e]
  generalize (cs p).1 = a at *
  rcases Lib.index_spec s a with ⟨h1, h2⟩ | ⟨i, h1, h2, h3, h4⟩
  · rw [← Bool.not_eq_true, mch_any]
    rintro ⟨x, y, rfl, hy⟩
    obtain ⟨a', b, rfl, ha, hb⟩ := (mch_append _ _ _).1 hy
    rw [← (mch_lits _ _).1 ha] at h2
    have := h2 x.length (by simp)
    unfold Lib.occAt at this
    rw [List.drop_left, List.isPrefixOf_iff_prefix.2 (List.prefix_append _ _)] at this
    cases this
  · unfold Lib.cut at hc
    rw [h1, if_pos (by omega)] at hc
    cases hc
theorem cut_len (s a : List UInt8) : (Lib.cut s a).2.1.length ≤ s.length := by
  unfold Lib.cut
  split
  · simp
  · exact Nat.zero_le _
theorem trim_len (s a : List UInt8) : (Lib.trimPrefix s a).length ≤ s.length := by
  unfold Lib.trimPrefix
  split
  · simp
  · exact Nat.le_refl _
end Go.Proofs.YthpnclhfooileaaGreatDoor.ru
