/- The order of texts of one length is the order of their moments. No program in it. -/
import Derived.Test.YtemcilikchlaiabDoorMd
namespace Go.Proofs.YtemcilikchlaiabDoor.st

/-- Lexical order. -/
def Lx : List UInt8 → List UInt8 → Prop
  | a :: x, b :: y => a.toNat < b.toNat ∨ (a = b ∧ Lx x y)
  | _, _ => False
theorem Lx.app {a b : List UInt8} (h : Lx a b) (c d : List UInt8) : Lx (a ++ c) (b ++ d) := by
  induction a generalizing b with
  | nil => cases b <;> cases h
  | cons x a ih =>
    cases b with
    | nil => cases h
    | cons y b =>
      rcases h with h | ⟨h1, h2⟩
      · exact Or.inl h
      · exact Or.inr ⟨h1, ih h2⟩
theorem Lx.pre (p : List UInt8) {a b : List UInt8} (h : Lx a b) : Lx (p ++ a) (p ++ b) := by
  induction p with
  | nil => exact h
  | cons x p ih => exact Or.inr ⟨rfl, ih⟩
theorem Lx.snoc {a b : List UInt8} {c d : UInt8} (h : Lx (a ++ [c]) (b ++ [d])) (hl : a.length = b.length) : Lx a b ∨ (a = b ∧ c.toNat < d.toNat) := by
  induction a generalizing b with
  | nil =>
    have : b = [] := List.eq_nil_of_length_eq_zero hl.symm
    subst this
    rcases h with h | ⟨_, h⟩
    · exact Or.inr ⟨rfl, h⟩
    · cases h
  | cons x a ih =>
    cases b with
    | nil => cases hl
    | cons y b =>
      rcases h with h | ⟨h1, h2⟩
      · exact Or.inl (Or.inl h)
      · rcases ih h2 (by simpa using hl) with q | ⟨q1, q2⟩
        · exact Or.inl (Or.inr ⟨h1, q⟩)
        · exact Or.inr ⟨by rw [q1, h1], q2⟩
theorem Lx.less {a b : List UInt8} (h : Lx a b) : Op.bytesLess a b = true ∧ Op.bytesLess b a = false := by
  induction a generalizing b with
  | nil => cases b <;> cases h
  | cons x a ih =>
    cases b with
    | nil => cases h
    | cons y b =>
      unfold Op.bytesLess
      rcases h with h | ⟨rfl, h2⟩
      · have e1 : x < y := UInt8.lt_iff_toNat_lt.2 h
        have e2 : ¬ y < x := fun z => by have := UInt8.lt_iff_toNat_lt.1 z; omega
        have e3 : ¬ y = x := fun z => by subst z; omega
        simp [e1, e2, e3]
      · obtain ⟨g1, g2⟩ := ih h2
        have e2 : ¬ x < x := fun z => by have := UInt8.lt_iff_toNat_lt.1 z; omega
        simp [g1, g2, e2]
theorem digs_lx (w n m : Nat) (h : n < m) (hm : m < 10 ^ w) : Lx (digs w n) (digs w m) := by
  induction w generalizing n m with
  | zero => simp at hm; omega
  | succ w ih =>
    show Lx (digs w (n / 10) ++ _) (digs w (m / 10) ++ _)
    rcases Nat.lt_or_ge (n / 10) (m / 10) with q | q
    · exact (ih _ _ q (by rw [Nat.pow_succ] at hm; omega)).app _ _
    · have e : n / 10 = m / 10 := by omega
      rw [e]
      apply Lx.pre
      refine Or.inl ?_
      rw [byte_of' _ (by omega), byte_of' _ (by omega)]
      omega
/-- Parts of a second that have one length. -/
theorem frD_lx (n m : Nat) (h : n < m) (hm : m < 1000000000) (hl : (frD n).length = (frD m).length) (r : List UInt8) : Lx (frD n ++ r) (frD m ++ r) := by
  have hm0 : m ≠ 0 := by omega
  have lm : frD m = 46 :: cut0 (digs 9 m) := by unfold frD; rw [if_neg hm0]; rfl
  by_cases hn0 : n = 0
  · subst hn0
    rw [lm] at hl
    cases hl
  · have ln : frD n = 46 :: cut0 (digs 9 n) := by unfold frD; rw [if_neg hn0]; rfl
    rw [ln, lm] at hl ⊢
    have hl' : (cut0 (digs 9 n)).length = (cut0 (digs 9 m)).length := by simpa using hl
    obtain ⟨k, hk⟩ := cut0_zeros (digs 9 n)
    obtain ⟨j, hj⟩ := cut0_zeros (digs 9 m)
    have e1 := congrArg List.length hk
    have e2 := congrArg List.length hj
    rw [digs_len, List.length_append, List.length_replicate] at e1 e2
    have ekj : k = j := by omega
    subst ekj
    have L := digs_lx 9 n m h (by exact hm)
    rw [hk, hj] at L
    refine Or.inr ⟨rfl, ?_⟩
    have key : ∀ (k : Nat) (a b : List UInt8), a.length = b.length → Lx (a ++ List.replicate k 48) (b ++ List.replicate k 48) → Lx a b := by
      intro k
      induction k with
      | zero => intro a b _ h; simpa using h
      | succ k ih =>
        intro a b hab h
        rw [List.replicate_succ', ← List.append_assoc, ← List.append_assoc] at h
        rcases h.snoc (by simp [hab]) with q | ⟨_, q⟩
        · exact ih a b hab q
        · omega
    exact (key k _ _ hl' L).app r r
theorem head_lx {y m d t nn y' m' d' t' nn' : Nat} (hy' : y' < 10000) (ht : t < 86400) (ht' : t' < 86400) (hd : isD y m d) (hd' : isD y' m' d') (hn' : nn' < 1000000000)
    (hlen : (headD y m d t (frD nn ++ [90])).length = (headD y' m' d' t' (frD nn' ++ [90])).length)
    (hlt : dn y m d * 86400 + (t : Int) < dn y' m' d' * 86400 + (t' : Int) ∨ (dn y m d * 86400 + (t : Int) = dn y' m' d' * 86400 + (t' : Int) ∧ nn < nn')) :
    Lx (headD y m d t (frD nn ++ [90])) (headD y' m' d' t' (frD nn' ++ [90])) := by
  have b1 := dn_in hd
  have b2 := dn_in hd'
  have hm2 := hd'.2.1
  have hm1 := hd.1
  have hm3 := hd.2.1
  have hdd := hd.2.2.1
  have hdd' := hd'.2.2
  have hmg := mon_ge y' m' hd'.1 hd'.2.1
  unfold headD
  have e2 : (10 : Nat) ^ 2 = 100 := by decide
  have e4 : (10 : Nat) ^ 4 = 10000 := by decide
  rcases Nat.lt_trichotomy y y' with q | q | q
  · exact (digs_lx 4 y y' q (by rw [e4]; exact hy')).app _ _
  · subst q
    refine Lx.pre _ (Lx.pre _ ?_)
    have u1 : dn y m d = dby y + cum y m + (d - 1) := rfl
    have u2 : dn y m' d' = dby y + cum y m' + (d' - 1) := rfl
    rcases Nat.lt_trichotomy m m' with q | q | q
    · exact (digs_lx 2 m m' q (by rw [e2]; omega)).app _ _
    · subst q
      refine Lx.pre _ (Lx.pre _ ?_)
      rcases Nat.lt_trichotomy d d' with q | q | q
      · exact (digs_lx 2 d d' q (by rw [e2]; omega)).app _ _
      · subst q
        refine Lx.pre _ (Lx.pre _ ?_)
        rcases Nat.lt_trichotomy (t / 3600) (t' / 3600) with q | q | q
        · exact (digs_lx 2 _ _ q (by rw [e2]; omega)).app _ _
        · rw [q]
          refine Lx.pre _ (Lx.pre _ ?_)
          rcases Nat.lt_trichotomy (t / 60 % 60) (t' / 60 % 60) with q2 | q2 | q2
          · exact (digs_lx 2 _ _ q2 (by rw [e2]; omega)).app _ _
          · rw [q2]
            refine Lx.pre _ (Lx.pre _ ?_)
            rcases Nat.lt_trichotomy (t % 60) (t' % 60) with q3 | q3 | q3
            · exact (digs_lx 2 _ _ q3 (by rw [e2]; omega)).app _ _
            · rw [q3]
              refine Lx.pre _ ?_
              have ett : t = t' := by omega
              have hnn : nn < nn' := by omega
              refine frD_lx nn nn' hnn hn' ?_ _
              unfold headD at hlen
              simp only [List.length_append, digs_len, List.length_singleton] at hlen
              omega
            · exfalso; omega
          · exfalso; omega
        · exfalso; omega
      · exfalso; omega
    · exfalso
      have c1 := cum_mono y m' m hd'.1 (by omega) (by omega)
      have c2 := cum_succ y m' hd'.1 hd'.2.1
      omega
  · exfalso
    have := dby_mono ((y' : Int) + 1) y (by omega)
    omega
/-- The order of two moments, and of their texts. -/
theorem text_order {s n s' n' : Int} {l l' : List UInt8} (h : isText s n (some l)) (h' : isText s' n' (some l')) (hlen : l.length = l'.length) :
    (nSec s n = nSec s' n' ∧ nNano s n = nNano s' n' → l = l') ∧ (nSec s n < nSec s' n' ∨ (nSec s n = nSec s' n' ∧ nNano s n < nNano s' n') → Lx l l') := by
  obtain ⟨y, m, d, t, nn, rfl, hy, ht, hd, hn, g1, g2⟩ := text_parts h
  obtain ⟨y', m', d', t', nn', rfl, hy', ht', hd', hn', g1', g2'⟩ := text_parts h'
  rw [← g1, ← g1', ← g2, ← g2']
  refine ⟨fun q => ?_, fun q => ?_⟩
  · obtain ⟨q1, q2⟩ := q
    have et : t = t' := by omega
    have ed : dn y m d = dn y' m' d' := by omega
    obtain ⟨j1, j2, j3⟩ := dn_inj hd hd' ed
    have j1' : y = y' := by omega
    have j2' : m = m' := by omega
    have j3' : d = d' := by omega
    have j4 : nn = nn' := by omega
    subst et j1' j2' j3' j4
    rfl
  · exact head_lx hy' ht ht' hd hd' hn' hlen (by omega)
end Go.Proofs.YtemcilikchlaiabDoor.st
