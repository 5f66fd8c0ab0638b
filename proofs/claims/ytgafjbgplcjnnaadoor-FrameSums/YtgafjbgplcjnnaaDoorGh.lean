/- The reference of package frame: Scan. -/
import Derived.Test.YtgafjbgplcjnnaaDoorGg
namespace Go.Proofs.YtgafjbgplcjnnaaDoor.fr
open Go.RowKit

theorem mid (l : List UInt8) (k n : Nat) (h : 12 ≤ n) : (l.take (k + n - 4)).drop (k + 8) = ((l.drop k).drop 8).take (n - 12) := by
  rw [List.drop_take, List.drop_drop]
  congr 1
  omega
theorem OBB.of_drew {w : World} {B : Nat} {v : Value} {ls : List (List UInt8)} (h : OBB w B v ls) (n : Nat) : OBB (w.drewN n) B v ls := h

set_option maxRecDepth 100000 in
set_option maxHeartbeats 1600000 in
theorem rscan_any (l : List UInt8) (v : Value) (w : World) (h : BS w v l) (hl : l.length ≤ 1000000000) :
    Calls Tryd.prog 19 #[v] w fun e w' => ∃ r, e = .returned (.tuple #[r, .int .i64 ((scan l).2 : Int)]) ∧ OBB w' w.heap.size r (scan l).1 ∧ Below w.heap.size w w' := by
  have HB := hide h
  obtain ⟨oa, c, rfl, h1, h2, h3, h4⟩ := h
  clear h3 h4
  obtain ⟨rs, hrs⟩ : ∃ r, (scan l).1 = r := ⟨_, rfl⟩
  obtain ⟨ra, hra⟩ : ∃ r, (scan l).2 = r := ⟨_, rfl⟩
  rw [hrs, hra]
  have HS1 := hide hrs
  have HS2 := hide hra
  clear hrs hra
  go_enter Tryd.func19, Tryd.ntmps19
  go_wp2
  go_loopw [4, 5] (fun ov av wr => ∃ (k : Nat) (ds : List (List UInt8)), k ≤ l.length ∧ av = .int .i64 (k : Int) ∧ Hid (OBB wr w.heap.size ov ds) ∧ Hid (Below w.heap.size w wr) ∧ ds.length * 12 ≤ k ∧
      Hid (ds ++ (scan (l.drop k)).1 = rs ∧ k + (scan (l.drop k)).2 = ra)) (fun _ av _ => l.length - (intOf av).toNat)
  case atStart => exact ⟨0, [], by omega, rfl, OBB.nil _ _, Below.refl _ _, by simp, by rw [List.drop_zero, unhide HS1, unhide HS2]; exact ⟨rfl, by simp⟩⟩
  case round =>
    obtain ⟨k, ds, hk, rfl, hO, hBl, hd, hR⟩ := hrel
    obtain ⟨v1, s1, b1⟩ := (unhide HB).l k hk (k : Int) rfl
    have W1 := hide (rwhole_any _ v1 wr (b1.keep (unhide hBl)))
    rw [scan_step] at hR
    have hwl := whole_le (l.drop k)
    have hwg := whole_ge (l.drop k)
    rw [List.length_drop] at hwl
    have hk0 : (0 : Int) ≤ (k : Int) := by omega
    have hk1 : (k : Int) ≤ (l.length : Int) := by omega
    clear b1 HS1 HS2
    generalize whole (l.drop k) = n at *
    go_wp2_with fail
    refine (unhide W1).mono ?_
    rintro e w1 ⟨rfl, m1, hw1⟩
    have k1 : Hid (Below wr.heap.size wr w1) := by rw [hw1]; exact below_drewN _ _ _
    have O1 := hide ((unhide hO).keep (unhide k1) (Nat.le_refl _))
    have HB1 := hide ((unhide hBl).trans ((unhide k1).mono (unhide hBl).size))
    clear hO hBl k1 hw1 W1
    by_cases hn : n = 0
    · have hn' : ((n : Int) == 0) = true := by rw [beq_iff_eq]; omega
      rw [if_pos hn] at hR
      obtain ⟨r1, r2⟩ := unhide hR
      have R1 := hide r1
      have R2 := hide r2
      clear r1 r2 hR hn
      go_wp2
      refine bodyPost_ret (results_tmp2 rfl _ _ _) rfl ?_
      refine ⟨_, ?_, by rw [← unhide R1, List.append_nil]; exact unhide O1, unhide HB1⟩
      rw [← unhide R2]
      rfl
    · have hn' : ((n : Int) == 0) = false := by rw [beq_eq_false_iff_ne]; omega
      have hn12 := hwg hn
      rw [if_neg hn] at hR
      obtain ⟨v2, s2, b2⟩ := (unhide HB).lh (k + 8) (k + n - 4) (by omega) (by omega) ((k : Int) + 8) ((k : Int) + (n : Int) - 4) (by omega) (by omega)
      rw [mid l k n hn12] at b2
      simp only [List.drop_drop] at hR b2
      have S2 := hide (b2.keep (unhide HB1))
      have hpl : (List.take (n - 12) (List.drop (k + 8) l)).length ≤ l.length := by rw [List.length_take, List.length_drop]; omega
      have n2 : Hid (OB w1 w1.heap.size (.slice none 0 0) []) := OB.nil _ _
      clear b2 hwg hn
      generalize List.take (n - 12) (List.drop (k + 8) l) = pl at *
      go_wp2_with (at_builtin; refine wpList_append_bytes rfl _ _ rfl w1.heap.size _ _ _ _ rfl rfl (unhide n2) (unhide S2) ?a1 (Nat.le_refl _) ?_)
      case a1 => simp; omega
      intro v3 w3 o3 g3 _
      obtain ⟨oa3, c3, rfl⟩ := o3.form
      have k3 : Hid (Below w1.heap.size w1 w3) := (Below.refl _ _).grown g3 (Nat.le_refl _) (fun k hk => by cases hk)
      have O3 := hide (o3.mono (unhide HB1).size)
      have F3 := hide o3.ge
      clear o3 g3 S2 n2
      go_wp2_with (at_builtin; refine wpList_append_bl rfl _ _ rfl w1 w3 w.heap.size u4 _ _ _ rfl rfl rfl (unhide O1) (unhide k3) (unhide O3) (unhide F3) ?a1 (unhide HB1).size ?_)
      case a1 => omega
      intro v4 w4 o4 g4
      have k4 := hide (((unhide HB1).trans ((unhide k3).mono (unhide HB1).size)).alloc (Nat.le_trans (unhide HB1).size (unhide k3).size) (.cells #[.slice oa3 pl.length c3] 22))
      have hr : ∀ q, u4.ownBlock = some q → w.heap.size ≤ q := by
        obtain ⟨vs, _, q2, _⟩ := unhide O1
        exact fun q hq => (row_lt q2 q hq).1
      have HB4 := hide ((unhide k4).grown g4 (unhide k4).size hr)
      have O4 := hide o4
      clear o4 g4 k4 k3 O3 F3 O1 HB1
      go_wp2
      refine ⟨⟨k + n, ds ++ [pl], by omega, by go_num, O4, HB4, by simp; omega, ?_⟩, by simp [intOf]; omega⟩
      show _ ∧ _
      have hR' := unhide hR
      exact ⟨by rw [← hR'.1]; simp, by rw [← hR'.2]; omega⟩

end Go.Proofs.YtgafjbgplcjnnaaDoor.fr
