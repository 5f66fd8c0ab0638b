/- The reference of package rule: Match. -/
import Derived.Test.YthpnclhfooileaaGreatDoorJd
namespace Go.Proofs.YthpnclhfooileaaGreatDoor.ru
open Go.RowKit

/-- While a byte is read: what is met so far. -/
def stK (l : List (Bool × UInt8)) (c : UInt8) (m : Nat → Bool) (i j : Nat) : Bool := (decide (j < i) && (anyAt l j && m j)) || match j with
  | 0 => false
  | q + 1 => decide (q < i) && (litAt l q c && m q)
theorem stK_0 (l : List (Bool × UInt8)) (c : UInt8) (m : Nat → Bool) (j : Nat) : false = stK l c m 0 j := by
  unfold stK
  cases j <;> simp
theorem stK_end (l : List (Bool × UInt8)) (c : UInt8) (m : Nat → Bool) (j : Nat) (hj : j < l.length + 1) : stK l c m l.length j = stepF l c m j := by
  unfold stK stepF
  have h1 : (decide (j < l.length) && (anyAt l j && m j)) = (anyAt l j && m j) := by
    by_cases q : j < l.length
    · rw [decide_eq_true q, Bool.true_and]
    · have : anyAt l j = false := by unfold anyAt; rw [List.getElem?_eq_none (by omega)]
      rw [this]; simp
  rw [h1]
  cases j with
  | zero => rfl
  | succ q => simp only; rw [decide_eq_true (by omega), Bool.true_and]
theorem stK_next (l : List (Bool × UInt8)) (c : UInt8) (m : Nat → Bool) (i j : Nat) : stK l c m (i + 1) j = (stK l c m i j || (decide (j = i) && (anyAt l i && m i)) || (decide (j = i + 1) && (litAt l i c && m i))) := by
  unfold stK
  have d1 : decide (j < i + 1) = (decide (j < i) || decide (j = i)) := by
    rw [← Bool.decide_or]; exact decide_eq_decide.2 (by omega)
  rw [d1]
  cases j with
  | zero =>
    by_cases q : (0 : Nat) = i
    · subst q; simp
    · simp [q]
  | succ t =>
    have d2 : decide (t < i + 1) = (decide (t < i) || decide (t = i)) := by
      rw [← Bool.decide_or]; exact decide_eq_decide.2 (by omega)
    have d3 : decide (t + 1 = i + 1) = decide (t = i) := decide_eq_decide.2 (by omega)
    simp only [d2, d3]
    by_cases q1 : t + 1 = i
    · subst q1
      have : decide (t = t + 1) = false := decide_eq_false (by omega)
      rw [this]
      simp
      cases (litAt l t c && m t) <;> simp
    · by_cases q2 : t = i
      · subst q2
        simp
      · simp [q1, q2]
theorem rowA_new (n : Nat) : rowA n (fun _ => false) = Array.replicate n (.bool false) := by
  apply Array.ext_getElem?
  intro i
  by_cases hi : i < n
  · rw [rowA_get n _ i hi]; simp [hi]
  · have h1 : (rowA n (fun _ => false)).size = n := by unfold rowA; simp
    rw [Array.getElem?_eq_none (by omega), Array.getElem?_eq_none (by simp; omega)]
theorem QR.lt {w : World} {g n : Nat} {f : Nat → Bool} (h : QR w g n f) : g < w.heap.size := by
  rcases Nat.lt_or_ge g w.heap.size with q | q
  · exact q
  · unfold QR at h; rw [Array.getElem?_eq_none q] at h; cases h
theorem QR.below {w w' : World} {g n : Nat} {f : Nat → Bool} (h : QR w g n f) (hb : Below w.heap.size w w') : QR w' g n f := (hb.block g h.lt).trans h
theorem QR.upd {w w' : World} {g n q : Nat} {f : Nat → Bool} (h : QR w g n f) (hb : Upd q w w') (hq : g ≠ q) : QR w' g n f := (hb.block g hq).trans h
theorem PS.cells {w : World} {v : Value} {l : List (Bool × UInt8)} {p : Nat} (h : PS w v l p) (j : Nat) (hj : j < l.length) : w.cell? ⟨p, j * 2, none⟩ = some (.bool l[j].1) ∧ w.cell? ⟨p, j * 2 + 1, none⟩ = some (.int .u8 (l[j].2.toNat : Int)) := by
  rcases h with ⟨_, h0⟩ | ⟨cap, _, h2⟩
  · subst h0; exact absurd hj (by simp)
  · exact h2 j hj
theorem PS.form {w : World} {v : Value} {l : List (Bool × UInt8)} {p : Nat} (h : PS w v l p) : ∃ oa cap, v = .slice oa l.length cap ∧ (l.length = 0 ∨ oa = some ⟨p, 0, none⟩) := by
  rcases h with ⟨rfl, h0⟩ | ⟨cap, rfl, h2⟩
  · subst h0; exact ⟨none, 0, rfl, Or.inl rfl⟩
  · exact ⟨_, cap, rfl, Or.inr rfl⟩
theorem ps_of {w : World} {B : Nat} {v : Value} {l : List (Bool × UInt8)} (h : OP w B v l) : ∃ p, PS w v l p ∧ (l = [] ∨ p < w.heap.size) := by
  obtain ⟨hl, ⟨rfl, h0⟩ | ⟨g, cap, cur, rfl, hb, hg, hc, hm, hs, ht⟩⟩ := h
  · have : l = [] := List.eq_nil_of_length_eq_zero h0
    exact ⟨0, Or.inl ⟨rfl, this⟩, Or.inl this⟩
  · refine ⟨g, Or.inr ⟨cap, rfl, fun j hj => ?_⟩, Or.inr ?_⟩
    · have key : ∀ o x, (l.flatMap pc)[o]? = some x → w.cell? ⟨g, o, none⟩ = some x := by
        intro o x hx
        rw [blk_cell hg]
        have ho : o < (l.flatMap pc).length := (List.getElem?_eq_some_iff.1 hx).1
        rw [pc_len] at ho
        have h1 : (cur.toList.take (l.length * 2))[o]? = (l.flatMap pc)[o]? := by rw [ht]
        rw [List.getElem?_take, if_pos ho, hx] at h1
        simpa using h1
      have fm : ∀ (l : List (Bool × UInt8)) (j : Nat) (hj : j < l.length), (l.flatMap pc)[j * 2]? = some (.bool l[j].1) ∧ (l.flatMap pc)[j * 2 + 1]? = some (.int .u8 (l[j].2.toNat : Int)) := by
        intro l
        induction l with
        | nil => intro j hj; exact absurd hj (by simp)
        | cons x l ih =>
          intro j hj
          cases j with
          | zero => exact ⟨rfl, rfl⟩
          | succ j =>
            have := ih j (by simpa using hj)
            rw [List.flatMap_cons, show (j + 1) * 2 = j * 2 + 1 + 1 by omega]
            exact this
      exact ⟨key _ _ (fm l j hj).1, key _ _ (fm l j hj).2⟩
    · rcases Nat.lt_or_ge g w.heap.size with q | q
      · exact q
      · rw [Array.getElem?_eq_none q] at hg; cases hg
theorem prt_len (l : List UInt8) : (prt l).length ≤ l.length := by
  have key : ∀ n, ∀ l : List UInt8, l.length ≤ n → (prt l).length ≤ l.length := by
    intro n
    induction n with
    | zero => intro l h; have : l = [] := List.eq_nil_of_length_eq_zero (by omega); subst this; exact Nat.le_refl _
    | succ n ih =>
      intro l h
      match l, h with
      | [], _ => exact Nat.le_refl _
      | [c], _ => exact Nat.le_refl _
      | c :: d :: l, h =>
        unfold prt
        simp only [List.length_cons] at h ⊢
        split
        · have := ih l (by omega)
          simp only [List.length_cons]
          omega
        · have := ih (d :: l) (by simp only [List.length_cons]; omega)
          simp only [List.length_cons] at this ⊢
          omega
  exact key _ l (Nat.le_refl _)
end Go.Proofs.YthpnclhfooileaaGreatDoor.ru
