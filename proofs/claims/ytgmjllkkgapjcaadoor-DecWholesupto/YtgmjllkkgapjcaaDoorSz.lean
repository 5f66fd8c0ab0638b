/- The contract of the reference's size. -/
import Derived.Test.YtgmjllkkgapjcaaDoorRc
namespace Go.Proofs.YtgmjllkkgapjcaaDoor.rd
open Go.RowKit

/-- What cut answers of a slice of ints: of the same row the first ones. -/
theorem cut_any (v : Value) (zs : List Int) (w : World) (hv : Ints w v zs) :
    Calls Tryd.prog 52 #[v] w fun e w' => ∃ u, e = .returned u ∧ Ints w u (cutN zs) ∧ w' = w := by
  rcases hv with ⟨rfl, rfl⟩ | ⟨g, cap, rfl, h1, h2, h3⟩
  · exact (cut_nil w).mono fun e w' ⟨he, hw⟩ => ⟨_, he, .inl ⟨rfl, rfl⟩, hw⟩
  · refine (cut_some g cap zs w h1 h2 h3).mono fun e w' ⟨he, hw⟩ => ⟨_, he, .inr ⟨g, cap, rfl, Nat.le_trans (cutN_len _) h1, h2, fun j hj => ?_⟩, hw⟩
    rw [h3 j (Nat.lt_of_lt_of_le hj (cutN_len _)), cutN_getD _ _ hj]

theorem rev_take (l : List Int) (k : Nat) (h : k < l.length) : (l.take (k + 1)).reverse = l.getD k 0 :: (l.take k).reverse := by
  rw [take_getD l k h, List.reverse_append]; rfl

/-- A slice of ints, nil or not. -/
theorem Ints.form {w : World} {v : Value} {zs : List Int} (h : Ints w v zs) : ∃ o cap, v = .slice o zs.length cap ∧ zs.length ≤ cap ∧ cap ≤ 9223372036854775807 ∧ ∀ j, j < zs.length → ∃ g, o = some ⟨g, 0, none⟩ ∧ w.cell? ⟨g, j, none⟩ = some (.int .i64 (zs.getD j 0)) := by
  rcases h with ⟨rfl, rfl⟩ | ⟨g, cap, rfl, h1, h2, h3⟩
  · exact ⟨none, 0, rfl, Nat.le_refl _, by omega, fun j hj => by simp at hj⟩
  · exact ⟨_, cap, rfl, h1, h2, fun j hj => ⟨g, rfl, h3 j hj⟩⟩

set_option maxRecDepth 100000 in
set_option maxHeartbeats 1600000 in
theorem size_any (v1 v2 : Value) (ms ns : List Int) (w : World) (hv1 : Ints w v1 ms) (hv2 : Ints w v2 ns) :
    Calls Tryd.prog 44 #[v1, v2] w fun e w' => e = .returned (.int .i64 (sizeN ms ns)) ∧ Below w.heap.size w w' := by
  have k1 := cut_any v1 ms w hv1
  have k2 := cut_any v2 ns w hv2
  have HS : Hid (sizeN ms ns = if (cutN ms).length < (cutN ns).length then -1 else if (cutN ns).length < (cutN ms).length then 1 else cmpN (cutN ms).reverse (cutN ns).reverse) := rfl
  generalize sizeN ms ns = r at HS ⊢
  generalize cutN ms = xs at *
  generalize cutN ns = ys at *
  have K1 := hide k1
  have K2 := hide k2
  clear k1 k2 hv1 hv2
  go_enter Tryd.func44, Tryd.ntmps44
  go_wp2_with fail
  refine (unhide K1).mono ?_
  rintro e w1 ⟨u1, rfl, hu1, hw1⟩
  obtain rfl := hw1.symm
  obtain ⟨o1, c1, rfl, l1, m1, f1⟩ := hu1.form
  have F1 := hide f1
  clear f1 hu1
  go_wp2_with fail
  refine (unhide K2).mono ?_
  rintro e w2 ⟨u2, rfl, hu2, hw2⟩
  obtain rfl := hw2.symm
  obtain ⟨o2, c2, rfl, l2, m2, f2⟩ := hu2.form
  have F2 := hide f2
  clear f2 hu2 K1 K2
  rcases Nat.lt_trichotomy xs.length ys.length with h | h | h
  · have hr : r = -1 := by rw [HS.out, if_pos h]
    subst hr
    have hi : (xs.length : Int) < (ys.length : Int) := by omega
    have hn : (((xs.length : Int)) != (ys.length : Int)) = true := by simp; omega
    clear HS h
    go_wp2
    go_ret
    exact ⟨rfl, Below.refl _ _⟩
  · have hr : r = cmpN xs.reverse ys.reverse := by rw [HS.out, if_neg (by omega), if_neg (by omega)]
    have HR := hide hr
    have hn : (((xs.length : Int)) != (ys.length : Int)) = false := by simp; omega
    have HL := hide h
    clear HS h hr
    go_wp2
    go_loopw [7] (fun i wr => ∃ k : Nat, k ≤ xs.length ∧ i = .int .i64 ((k : Int) - 1) ∧ r = cmpN (xs.take k).reverse (ys.take k).reverse ∧ Below w.heap.size w wr) (fun i _ => (intOf i + 1).toNat)
    case atStart => exact ⟨xs.length, Nat.le_refl _, rfl, by rw [unhide HR, List.take_length, unhide HL, List.take_length], Below.refl _ _⟩
    case round =>
      obtain ⟨k, hk, rfl, hrk, hbel⟩ := hrel
      cases k with
      | zero =>
        have hr0 : r = 0 := by rw [hrk]; rfl
        subst hr0
        clear hrk HR
        go_wp2
        go_ret
        exact ⟨rfl, hbel⟩
      | succ j =>
        have hj1 : j < xs.length := by omega
        have hj2 : j < ys.length := by have := unhide HL; omega
        obtain ⟨g1, rfl, q1⟩ := unhide F1 j hj1
        obtain ⟨g2, rfl, q2⟩ := unhide F2 j hj2
        rw [rev_take xs j hj1, rev_take ys j hj2] at hrk
        have p1 := keepC hbel q1
        have p2 := keepC hbel q2
        generalize xs.getD j 0 = z1 at *
        generalize ys.getD j 0 = z2 at *
        clear q1 q2
        rw [show ((j + 1 : Nat) : Int) - 1 = (j : Int) by omega]
        by_cases hz1 : z1 < z2
        · have hr0 : r = -1 := by rw [hrk]; simp [cmpN, hz1]
          subst hr0
          clear hrk HR
          go_wp2
          go_quiet (fail)
          go_wp2
          go_ret
          exact ⟨rfl, hbel.trans ((Upd.drewN w.heap.size wr nq).below (Nat.le_refl _))⟩
        · by_cases hz2 : z2 < z1
          · have hr0 : r = 1 := by rw [hrk]; simp [cmpN, hz1, hz2]
            subst hr0
            clear hrk HR
            go_wp2
            go_quiet (fail)
            go_wp2
            go_quiet (fail)
            go_wp2
            go_ret
            exact ⟨rfl, (hbel.trans ((Upd.drewN w.heap.size wr _).below (Nat.le_refl _))).trans ((Upd.drewN w.heap.size _ _).below (Nat.le_refl _))⟩
          · have HRK : Hid (r = cmpN (xs.take j).reverse (ys.take j).reverse) := by
              show r = _
              rw [hrk]; simp [cmpN, hz1, hz2]
            clear hrk
            go_wp2
            go_quiet (fail)
            go_wp2
            go_quiet (fail)
            go_wp2
            go_roundw
            case rel => exact ⟨j, by omega, by go_num, unhide HRK, hbel.trans ((Upd.drewN w.heap.size wr _).below (Nat.le_refl _))⟩
            case measure => simp [intOf]
  · have hr : r = 1 := by rw [HS.out, if_neg (by omega), if_pos h]
    subst hr
    have hi : ¬ (xs.length : Int) < (ys.length : Int) := by omega
    have hn : (((xs.length : Int)) != (ys.length : Int)) = true := by simp; omega
    clear HS h
    go_wp2
    go_ret
    exact ⟨rfl, Below.refl _ _⟩
end Go.Proofs.YtgmjllkkgapjcaaDoor.rd
