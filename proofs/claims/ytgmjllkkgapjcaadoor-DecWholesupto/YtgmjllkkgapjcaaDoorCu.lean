/- cut's contract. -/
import Derived.Test.YtgmjllkkgapjcaaDoorAw
namespace Go.Proofs.YtgmjllkkgapjcaaDoor.rd
open Go.RowKit

/-- Without noughts at the upper end (the list's end). -/
def cutN (l : List Int) : List Int := (l.reverse.dropWhile (· == 0)).reverse
theorem cutN_len (l : List Int) : (cutN l).length ≤ l.length := by
  unfold cutN
  rw [List.length_reverse]
  have := (List.dropWhile_suffix (l := l.reverse) (fun x : Int => x == 0)).length_le
  rw [List.length_reverse] at this
  exact this
theorem cutN_zero (l : List Int) (z : Int) (h : z = 0) : cutN (l ++ [z]) = cutN l := by
  unfold cutN; rw [List.reverse_append]; simp [h]
theorem cutN_other (l : List Int) (z : Int) (h : z ≠ 0) : cutN (l ++ [z]) = l ++ [z] := by
  unfold cutN; rw [List.reverse_append]; simp [h]
theorem take_getD (l : List Int) (k : Nat) (h : k < l.length) : l.take (k + 1) = l.take k ++ [l.getD k 0] := by
  rw [List.take_succ_eq_append_getElem h]; simp [h]
theorem cutN_take (l : List Int) : ∃ k, cutN l = l.take k := by
  unfold cutN
  have h := List.dropWhile_suffix (l := l.reverse) (fun x : Int => x == 0)
  have h2 := List.reverse_prefix.2 h
  rw [List.reverse_reverse] at h2
  exact ⟨_, List.prefix_iff_eq_take.1 h2⟩

theorem cut_nil (w : World) : Calls Tryd.prog 52 #[.slice none 0 0] w fun e w' => e = .returned (.slice none 0 0) ∧ w' = w := by
  go_enter Tryd.func52, Tryd.ntmps52
  go_wp2
  refine wp_loop_rounds 1 ?_
  rw [rounds_succ]
  go_wp2
  go_ret
  exact ⟨rfl, rfl⟩

set_option maxRecDepth 100000 in
set_option maxHeartbeats 800000 in
theorem cut_some (g cap : Nat) (zs : List Int) (w : World) (hlc : zs.length ≤ cap) (hcm : cap ≤ 9223372036854775807) (hc : ∀ j, j < zs.length → w.cell? ⟨g, j, none⟩ = some (.int .i64 (zs.getD j 0))) :
    Calls Tryd.prog 52 #[.slice (some ⟨g, 0, none⟩) zs.length cap] w fun e w' => e = .returned (.slice (some ⟨g, 0, none⟩) (cutN zs).length cap) ∧ w' = w := by
  have HC := hide hc
  clear hc
  go_enter Tryd.func52, Tryd.ntmps52
  go_wp2
  go_loop [3] (fun i => ∃ k : Nat, k ≤ zs.length ∧ i = .int .i64 k ∧ cutN (zs.take k) = cutN zs) (fun i => (intOf i).toNat)
  case atStart => exact ⟨zs.length, Nat.le_refl _, rfl, by rw [List.take_length]⟩
  case round =>
    obtain ⟨k, hk, rfl, hcut⟩ := hrel
    have HK := hide hcut
    clear hcut
    cases k with
    | zero =>
      have e : (cutN zs).length = 0 := by rw [← HK.out]; rfl
      have HE := hide e
      clear e
      go_wp2
      go_ret
      refine ⟨?_, rfl⟩
      rw [HE.out]
      rfl
    | succ j =>
      have hcell := unhide HC j (by omega)
      have hj : j < zs.length := by omega
      by_cases hz : zs.getD j 0 = 0
      · have HZ : Hid (cutN (zs.take j) = cutN zs) := by
          show cutN _ = _
          rw [← HK.out, take_getD zs j hj, cutN_zero _ _ hz]
        rw [hz] at hcell
        clear hz
        go_wp2
        go_round
        case rel => exact ⟨j, by omega, by go_num, HZ.out⟩
        case measure => simp [intOf]
      · have e : (cutN zs).length = j + 1 := by
          rw [← HK.out, take_getD zs j hj, cutN_other _ _ hz]
          simp; omega
        have HE := hide e
        have hz' : (zs.getD j 0 == 0) = false := by simpa using hz
        clear e hz
        generalize zs.getD j 0 = z at *
        go_wp2
        go_ret
        refine ⟨?_, rfl⟩
        rw [HE.out]
        rfl
end Go.Proofs.YtgmjllkkgapjcaaDoor.rd
