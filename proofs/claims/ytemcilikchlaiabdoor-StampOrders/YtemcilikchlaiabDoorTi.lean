/- Package stamp: what its reader reads is what the text says (no program in it). -/
import Derived.Test.YtemcilikchlaiabDoorTh
import Derived.Test.YtemcilikchlaiabDoorKp
import Derived.Test.YtemcilikchlaiabDoorKg
namespace Go.Proofs.YtemcilikchlaiabDoor.st
open Go.RowKit

theorem dropB_list (s : ByteArray) (p : Nat) : (dropB s p).data.toList = s.data.toList.drop p := rfl
theorem dropB_0 (s : ByteArray) : dropB s 0 = s := by unfold dropB; rw [List.drop_zero]
theorem dropB_drop (s : ByteArray) (p k : Nat) : dropB (dropB s p) k = dropB s (p + k) := by
  show (⟨((s.data.toList.drop p).drop k).toArray⟩ : ByteArray) = ⟨(s.data.toList.drop (p + k)).toArray⟩
  rw [List.drop_drop]
theorem dropB_size (s : ByteArray) (p : Nat) : (dropB s p).size = s.size - p := by
  rw [← blen, dropB_list, List.length_drop, blen]
theorem preB_0 (t : ByteArray) : preB t m0 = true := by unfold preB Lib.hasPrefix m0; simp
theorem cutP_0 (t : ByteArray) : cutP t m0 = t := by
  unfold cutP Lib.trimPrefix
  have h : Lib.hasPrefix t.data.toList m0.data.toList = true := preB_0 t
  rw [if_pos h]
  show (⟨(t.data.toList.drop 0).toArray⟩ : ByteArray) = t
  rw [List.drop_zero]
theorem preB_1 (s : ByteArray) (p : Nat) (c : UInt8) : preB (dropB s p) (m1 c) = isI s p c := by
  unfold preB Lib.hasPrefix isI
  rw [dropB_list, ← List.head?_drop]
  show List.isPrefixOf [c] _ = _
  cases h : s.data.toList.drop p with
  | nil => rfl
  | cons d l =>
    show ((c == d) && true) = decide (some d = some c)
    rw [Bool.and_true]
    by_cases q : c = d
    · subst q; simp
    · have : ¬ d = c := fun z => q z.symm
      simp [q, this]
theorem cutP_yes (s : ByteArray) (p : Nat) (c : UInt8) (h : isI s p c = true) : cutP (dropB s p) (m1 c) = dropB s (p + 1) := by
  rw [← preB_1] at h
  unfold cutP Lib.trimPrefix
  rw [if_pos (show Lib.hasPrefix (dropB s p).data.toList (m1 c).data.toList = true from h)]
  show (⟨((s.data.toList.drop p).drop 1).toArray⟩ : ByteArray) = ⟨(s.data.toList.drop (p + 1)).toArray⟩
  rw [List.drop_drop]
theorem cutP_no (s : ByteArray) (p : Nat) (c : UInt8) (h : isI s p c = false) : cutP (dropB s p) (m1 c) = dropB s p := by
  rw [← preB_1] at h
  unfold cutP Lib.trimPrefix
  have h' : ¬ (Lib.hasPrefix (dropB s p).data.toList (m1 c).data.toList = true) := by
    intro z
    have : preB (dropB s p) (m1 c) = true := z
    rw [h] at this
    cases this
  rw [if_neg h']

theorem dg_num (s : ByteArray) (k q acc : Nat) : (dgN k (s.data.toList.drop q) = k ∧ numI s k q acc = (dgV k acc (s.data.toList.drop q) : Nat)) ∨ (dgN k (s.data.toList.drop q) < k ∧ numI s k q acc = -1) := by
  induction k generalizing q acc with
  | zero => exact Or.inl ⟨rfl, rfl⟩
  | succ k ih =>
    by_cases h : q < s.size
    · have hd : s.data.toList.drop q = s[q] :: s.data.toList.drop (q + 1) := drop_get _ _ (by rw [blen]; exact h)
      rw [numI_at s k q acc h, hd]
      unfold dgN dgV
      by_cases c : 48 ≤ s[q].toNat ∧ s[q].toNat ≤ 57
      · rw [if_pos c, if_pos c, if_pos c, Nat.mul_comm acc 10]
        rcases ih (q + 1) (10 * acc + (s[q].toNat - 48)) with ⟨a, b⟩ | ⟨a, b⟩
        · exact Or.inl ⟨by omega, b⟩
        · exact Or.inr ⟨by omega, b⟩
      · rw [if_neg c, if_neg c, if_neg c]
        exact Or.inr ⟨by omega, rfl⟩
    · rw [numI_end s k q acc (by omega), List.drop_eq_nil_of_le (by rw [blen]; omega)]
      exact Or.inr ⟨by unfold dgN; omega, rfl⟩
theorem num_len (s : ByteArray) (k q acc : Nat) (h : 0 ≤ numI s k q acc) : k = 0 ∨ q + k ≤ s.size := by
  rcases dg_num s k q acc with ⟨a, b⟩ | ⟨a, b⟩
  · have := (dgN_le k (s.data.toList.drop q)).2
    rw [List.length_drop, blen, a] at this
    omega
  · omega
theorem part_0 (s : ByteArray) (p k : Nat) (x : Bool) :
    (0 ≤ numI s k p 0 → partS m0 k (dropB s p) = dropB s (p + k) ∧ (partV m0 k (dropB s p) : Int) = numI s k p 0 ∧ partX m0 k (dropB s p) x = x) ∧ (¬ 0 ≤ numI s k p 0 → partX m0 k (dropB s p) x = true) := by
  unfold partS partV partX
  rw [cutP_0, preB_0, dropB_list]
  rcases dg_num s k p 0 with ⟨a, b⟩ | ⟨a, b⟩
  · rw [a, b]
    refine ⟨fun _ => ⟨dropB_drop _ _ _, rfl, ?_⟩, fun h => absurd (by omega) h⟩
    rw [decide_eq_false (Nat.lt_irrefl k)]; simp
  · rw [b]
    exact ⟨fun h => by omega, fun _ => by rw [decide_eq_true a, Bool.or_true]⟩
theorem part_1 (s : ByteArray) (p k : Nat) (c : UInt8) (x : Bool) :
    (isI s p c = true ∧ 0 ≤ numI s k (p + 1) 0 → partS (m1 c) k (dropB s p) = dropB s (p + 1 + k) ∧ (partV (m1 c) k (dropB s p) : Int) = numI s k (p + 1) 0 ∧ partX (m1 c) k (dropB s p) x = x) ∧
    (¬ (isI s p c = true ∧ 0 ≤ numI s k (p + 1) 0) → partX (m1 c) k (dropB s p) x = true) := by
  unfold partS partV partX
  rw [preB_1]
  cases hi : isI s p c
  · refine ⟨fun h => absurd h.1 Bool.false_ne_true, fun _ => by simp⟩
  · rw [cutP_yes s p c hi, dropB_list]
    rcases dg_num s k (p + 1) 0 with ⟨a, b⟩ | ⟨a, b⟩
    · rw [a, b]
      refine ⟨fun _ => ⟨dropB_drop _ _ _, rfl, ?_⟩, fun h => absurd ⟨rfl, by omega⟩ h⟩
      rw [decide_eq_false (Nat.lt_irrefl k)]; simp
    · rw [b]
      exact ⟨fun h => by omega, fun _ => by rw [decide_eq_true a, Bool.or_true]⟩
theorem partX_true (m : ByteArray) (k : Nat) (t : ByteArray) : partX m k t true = true := by unfold partX; simp

/-- Behind k parts: how far, and what was read. -/
theorem st_first (s : ByteArray) : (rdX s 1 = false ↔ 0 ≤ numI s 4 0 0) ∧ (rdX s 1 = false → rdS s 1 = dropB s 4 ∧ (rdV s 0 : Int) = numI s 4 0 0) := by
  have e1 : rdX s 1 = partX m0 4 (dropB s 0) false := by rw [dropB_0]; rfl
  have e2 : rdS s 1 = partS m0 4 (dropB s 0) := by rw [dropB_0]; rfl
  have e3 : rdV s 0 = partV m0 4 (dropB s 0) := by rw [dropB_0]; rfl
  obtain ⟨a, b⟩ := part_0 s 0 4 false
  rw [e1, e2, e3]
  by_cases h : 0 ≤ numI s 4 0 0
  · obtain ⟨a1, a2, a3⟩ := a h
    exact ⟨⟨fun _ => h, fun _ => a3⟩, fun _ => ⟨a1, a2⟩⟩
  · have := b h
    rw [this]
    exact ⟨⟨(fun z => by cases z), fun z => absurd z h⟩, (fun z => by cases z)⟩
theorem st_next (s : ByteArray) (k p : Nat) (c : UInt8) (hM : lkM k = m1 c) (hK : lkK k = 2) (h : rdX s k = false → rdS s k = dropB s p) :
    (rdX s (k + 1) = false ↔ rdX s k = false ∧ isI s p c = true ∧ 0 ≤ numI s 2 (p + 1) 0) ∧ (rdX s (k + 1) = false → rdS s (k + 1) = dropB s (p + 3) ∧ (rdV s k : Int) = numI s 2 (p + 1) 0) := by
  have e1 : rdX s (k + 1) = partX (lkM k) (lkK k) (rdS s k) (rdX s k) := rfl
  have e2 : rdS s (k + 1) = partS (lkM k) (lkK k) (rdS s k) := rfl
  have e3 : rdV s k = partV (lkM k) (lkK k) (rdS s k) := rfl
  rw [hM, hK] at e1 e2 e3
  rw [e1, e2, e3]
  cases hx : rdX s k
  · rw [h hx]
    obtain ⟨a, b⟩ := part_1 s p 2 c false
    by_cases q : isI s p c = true ∧ 0 ≤ numI s 2 (p + 1) 0
    · obtain ⟨a1, a2, a3⟩ := a q
      exact ⟨⟨fun _ => ⟨rfl, q⟩, fun _ => a3⟩, fun _ => ⟨a1, a2⟩⟩
    · rw [b q]
      exact ⟨⟨(fun z => by cases z), fun z => absurd z.2 q⟩, (fun z => by cases z)⟩
  · rw [partX_true]
    exact ⟨⟨(fun z => by cases z), (fun z => by cases z.1)⟩, (fun z => by cases z)⟩
/-- Signs and numbers of the head. -/
def sgn (s : ByteArray) : Prop := 0 ≤ numI s 4 0 0 ∧ (isI s 4 45 = true ∧ 0 ≤ numI s 2 5 0) ∧ (isI s 7 45 = true ∧ 0 ≤ numI s 2 8 0) ∧ (isI s 10 84 = true ∧ 0 ≤ numI s 2 11 0) ∧ (isI s 13 58 = true ∧ 0 ≤ numI s 2 14 0) ∧ (isI s 16 58 = true ∧ 0 ≤ numI s 2 17 0)
theorem st_all (s : ByteArray) : (rdX s 6 = false ↔ sgn s) ∧ (rdX s 6 = false → rdS s 6 = dropB s 19 ∧ (rdV s 0 : Int) = numI s 4 0 0 ∧ (rdV s 1 : Int) = numI s 2 5 0 ∧ (rdV s 2 : Int) = numI s 2 8 0 ∧ (rdV s 3 : Int) = numI s 2 11 0 ∧ (rdV s 4 : Int) = numI s 2 14 0 ∧ (rdV s 5 : Int) = numI s 2 17 0) := by
  obtain ⟨a1, b1⟩ := st_first s
  obtain ⟨a2, b2⟩ := st_next s 1 4 45 rfl rfl (fun h => (b1 h).1)
  obtain ⟨a3, b3⟩ := st_next s 2 7 45 rfl rfl (fun h => (b2 h).1)
  obtain ⟨a4, b4⟩ := st_next s 3 10 84 rfl rfl (fun h => (b3 h).1)
  obtain ⟨a5, b5⟩ := st_next s 4 13 58 rfl rfl (fun h => (b4 h).1)
  obtain ⟨a6, b6⟩ := st_next s 5 16 58 rfl rfl (fun h => (b5 h).1)
  refine ⟨⟨fun h => ?_, fun h => ?_⟩, fun h => ?_⟩
  · have h6 := a6.1 h
    have h5 := a5.1 h6.1
    have h4 := a4.1 h5.1
    have h3 := a3.1 h4.1
    have h2 := a2.1 h3.1
    exact ⟨a1.1 h2.1, h2.2, h3.2, h4.2, h5.2, h6.2⟩
  · obtain ⟨g1, g2, g3, g4, g5, g6⟩ := h
    exact a6.2 ⟨a5.2 ⟨a4.2 ⟨a3.2 ⟨a2.2 ⟨a1.2 g1, g2⟩, g3⟩, g4⟩, g5⟩, g6⟩
  · have h6 := a6.1 h
    have h5 := a5.1 h6.1
    have h4 := a4.1 h5.1
    have h3 := a3.1 h4.1
    have h2 := a2.1 h3.1
    exact ⟨(b6 h).1, (b1 h2.1).2, (b2 h3.1).2, (b3 h4.1).2, (b4 h5.1).2, (b5 h6.1).2, (b6 h).2⟩

theorem frc_small (k : Nat) (l : List UInt8) (acc : Nat) (h : frcN l ≤ k) : dgN k l = frcN l ∧ dgV k acc l * 10 ^ (k - frcN l) = acc * 10 ^ k + frcV l (10 ^ k) := by
  induction k generalizing l acc with
  | zero =>
    cases l with
    | nil => exact ⟨rfl, rfl⟩
    | cons c l =>
      unfold frcN at h ⊢
      unfold frcV
      by_cases q : 48 ≤ c.toNat ∧ c.toNat ≤ 57
      · rw [if_pos q] at h; omega
      · rw [if_neg q, if_neg q]; exact ⟨rfl, rfl⟩
  | succ k ih =>
    cases l with
    | nil =>
      refine ⟨rfl, ?_⟩
      show acc * 10 ^ (k + 1 - 0) = acc * 10 ^ (k + 1) + 0
      rfl
    | cons c l =>
      unfold frcN dgN dgV frcV
      by_cases q : 48 ≤ c.toNat ∧ c.toNat ≤ 57
      · unfold frcN at h
        rw [if_pos q] at h
        rw [if_pos q, if_pos q, if_pos q, if_pos q]
        obtain ⟨a, b⟩ := ih l (acc * 10 + (c.toNat - 48)) (by omega)
        refine ⟨by rw [a], ?_⟩
        rw [show k + 1 - (frcN l + 1) = k - frcN l by omega, b, Nat.pow_succ, Nat.mul_div_cancel _ (by omega)]
        generalize 10 ^ k = p
        generalize frcV l p = v
        generalize c.toNat - 48 = d
        grind
      · rw [if_neg q, if_neg q, if_neg q, if_neg q]
        exact ⟨rfl, rfl⟩
theorem frc_great (k : Nat) (l : List UInt8) (h : k < frcN l) : dgN k l = k ∧ ∃ c, l[k]? = some c ∧ 48 ≤ c.toNat ∧ c.toNat ≤ 57 := by
  induction k generalizing l with
  | zero =>
    cases l with
    | nil => unfold frcN at h; omega
    | cons c l =>
      refine ⟨rfl, c, rfl, ?_⟩
      unfold frcN at h
      by_cases q : 48 ≤ c.toNat ∧ c.toNat ≤ 57
      · exact q
      · rw [if_neg q] at h; omega
  | succ k ih =>
    cases l with
    | nil => unfold frcN at h; omega
    | cons c l =>
      unfold frcN at h
      by_cases q : 48 ≤ c.toNat ∧ c.toNat ≤ 57
      · rw [if_pos q] at h
        obtain ⟨a, b⟩ := ih l (by omega)
        refine ⟨by unfold dgN; rw [if_pos q, a], ?_⟩
        simpa using b
      · rw [if_neg q] at h; omega
end Go.Proofs.YtemcilikchlaiabDoor.st
