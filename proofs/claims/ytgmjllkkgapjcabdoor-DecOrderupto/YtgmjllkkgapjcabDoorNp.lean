/- What a numeral's parts are: their lengths, and that a power is digits. -/
import Derived.Test.YtgmjllkkgapjcabDoorNu
import Derived.Lib.Strings
namespace Go.Proofs.YtgmjllkkgapjcabDoor.nu

theorem ext_size (s : ByteArray) (i j : Nat) : (s.extract i j).size ≤ s.size := by
  have : (s.extract i j).size = min j s.size - i := by simp
  omega

theorem ext_list (s : ByteArray) (i j : Nat) : (s.extract i j).data.toList = (s.data.toList.drop i).take (j - i) := by
  exact Lib.extract_data s i j

/-- The parts of a numeral. -/
structure Good (s : ByteArray) (x : Num) : Prop where
  wh : x.wh.size ≤ s.size
  fr : x.fr.size ≤ s.size
  pw : x.pw.size ≤ s.size
  dg : ∀ c ∈ x.pw.data.toList, dig c = true

theorem pw_list (s : ByteArray) (i : Nat) : (s.extract i (i + nd s i)).data.toList = (s.data.toList.drop i).takeWhile dig := by
  rw [ext_list, Nat.add_sub_cancel_left]
  exact (List.prefix_iff_eq_take.1 (List.takeWhile_prefix dig)).symm

theorem pwFirst_good (s : ByteArray) (ng : Bool) (i : Nat) (p : Bool × ByteArray) (h : pwFirst s ng i = some p) : p.2.size ≤ s.size ∧ ∀ c ∈ p.2.data.toList, dig c = true := by
  unfold pwFirst at h
  rcases Nat.lt_or_ge i s.size with hi | hi
  · rw [at_some s i hi] at h
    simp only at h
    by_cases hd : dig s[i] = true
    · rw [if_pos hd] at h
      unfold pwRest at h
      have e : i + 1 + nd s (i + 1) = i + nd s i := by rw [nd_yes s i hi hd]; omega
      rw [e] at h
      by_cases hz : i + nd s i = s.size
      · rw [if_pos hz] at h
        cases h
        refine ⟨ext_size _ _ _, fun c hc => ?_⟩
        rw [pw_list] at hc
        exact (List.all_takeWhile (p := dig) (l := s.data.toList.drop i) |> List.all_eq_true.1) c hc
      · rw [if_neg hz] at h; cases h
    · rw [if_neg hd] at h; cases h
  · have : at_ s i = none := by
      unfold at_; apply List.getElem?_eq_none; simpa using hi
    rw [this] at h; cases h

theorem power_good (s : ByteArray) (i : Nat) (p : Bool × ByteArray) (h : power s i = some p) : p.2.size ≤ s.size ∧ ∀ c ∈ p.2.data.toList, dig c = true := by
  unfold power at h
  cases hx : at_ s i with
  | none => rw [hx] at h; cases h
  | some c =>
    rw [hx] at h
    simp only at h
    split at h
    · exact pwFirst_good _ _ _ _ h
    · split at h
      · exact pwFirst_good _ _ _ _ h
      · exact pwFirst_good _ _ _ _ h

theorem measured_good (s : ByteArray) (k : Nat) (neg : Bool) (wh fr : ByteArray) (x : Num) (hw : wh.size ≤ s.size) (hf : fr.size ≤ s.size) (h : measured s k neg wh fr = some x) : Good s x := by
  unfold measured at h
  cases hx : at_ s k with
  | none => rw [hx] at h; cases h; exact ⟨hw, hf, by simp, fun c hc => by simp at hc⟩
  | some c =>
    rw [hx] at h
    simp only at h
    split at h
    · cases hp : power s (k + 1) with
      | none => rw [hp] at h; cases h
      | some p =>
        rw [hp] at h
        cases h
        have := power_good s _ _ hp
        exact ⟨hw, hf, this.1, this.2⟩
    · cases h

theorem point_good (s : ByteArray) (k : Nat) (neg : Bool) (wh : ByteArray) (x : Num) (hw : wh.size ≤ s.size) (h : point s k neg wh = some x) : Good s x := by
  unfold point at h
  cases hx : at_ s k with
  | none => rw [hx] at h; cases h
  | some c =>
    rw [hx] at h
    simp only at h
    split at h
    · exact measured_good s _ neg wh _ x hw (ext_size _ _ _) h
    · cases h

theorem counted_good (s : ByteArray) (i k : Nat) (neg : Bool) (x : Num) (h : counted s i k neg = some x) : Good s x := by
  unfold counted at h
  split at h
  · exact point_good s _ neg _ x (ext_size _ _ _) h
  · exact measured_good s _ neg _ _ x (ext_size _ _ _) (by simp) h

theorem first_good (s : ByteArray) (k : Nat) (neg : Bool) (x : Num) (h : first s k neg = some x) : Good s x := by
  unfold first at h
  cases hx : at_ s k with
  | none => rw [hx] at h; cases h
  | some c =>
    rw [hx] at h
    simp only at h
    split at h
    · exact counted_good s _ _ neg x h
    · split at h
      · exact counted_good s _ _ neg x h
      · cases h

theorem numeral_good (s : ByteArray) (x : Num) (h : numeral s = some x) : Good s x := by
  unfold numeral at h
  split at h
  · exact first_good s _ _ x h
  · exact first_good s _ _ x h
end Go.Proofs.YtgmjllkkgapjcabDoor.nu
