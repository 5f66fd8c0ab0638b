/- path's find and follow, at one name. -/
import Derived.Test.YthpnclhfooileaaGreatDoorJp
namespace Go.Proofs.YthpnclhfooileaaGreatDoor.ru
open Go.RowKit

set_option maxRecDepth 100000 in
set_option maxHeartbeats 1600000 in
theorem find_yes {G : World → Prop} (hK : ∀ w w', G w → Below w.heap.size w w' → G w') (fn : ByteArray) (hv : ValidOK fn G) (vb fb c : Nat) (w : World) (hG : G w) (h0 : w.cell? ⟨vb, 0, none⟩ = some (.int .i64 5)) (h7 : w.cell? ⟨vb, 7, none⟩ = some (.slice (some ⟨fb, 0, none⟩) 1 c)) (hn : w.cell? ⟨fb, 0, none⟩ = some (.string fn)) :
    Calls Tryz.prog 73 #[.agg #[.string fn, .int .i64 0, .bool false], .pointer (some ⟨vb, 0, none⟩)] w fun e w' => e = .returned (.pointer (some ⟨fb, 1, none⟩)) ∧ Below w.heap.size w w' := by
  have ha : Below w.heap.size w (w.alloc (.cells #[.string fn, .int .i64 0, .bool false] 122)) := (Below.refl _ _).alloc (Nat.le_refl _) _
  have HM := hide (meant_ok fn hv _ (hK _ _ hG ha))
  have HA := hide ha
  have HG := hide hG
  have HK := hide hK
  have HR := hide (fun u hu a b d => member_yes fn hv vb fb c u hu a b d)
  clear ha hG hK
  go_enter Tryz.func73, Tryz.ntmps73
  go_wp2_with fail
  refine (unhide HM).mono ?_
  rintro e w1 ⟨rfl, hb⟩
  have hb1 := (unhide HA).trans (hb.mono (unhide HA).size)
  have R := hide (unhide HR w1 (unhide HK _ _ (unhide HG) hb1) (keepC' hb1 h0) (keepC' hb1 h7) (keepC' hb1 hn))
  have HB := hide hb1
  clear HM hb hb1 HR
  go_wp2_with fail
  refine (unhide R).mono ?_
  rintro e w2 ⟨rfl, hb2⟩
  have HB2 := hide ((unhide HB).trans (hb2.mono (unhide HB).size))
  clear R hb2 HB
  go_wp2
  go_ret
  exact ⟨rfl, unhide HB2⟩
set_option maxRecDepth 100000 in
set_option maxHeartbeats 1600000 in
theorem find_no {G : World → Prop} (hK : ∀ w w', G w → Below w.heap.size w w' → G w') (fn : ByteArray) (hv : ValidOK fn G) (nm : ByteArray) (hvn : ValidOK nm G) (hne : (fn.toList == nm.toList) = false) (vb fb c : Nat) (w : World) (hG : G w) (h0 : w.cell? ⟨vb, 0, none⟩ = some (.int .i64 5)) (h7 : w.cell? ⟨vb, 7, none⟩ = some (.slice (some ⟨fb, 0, none⟩) 1 c)) (hn : w.cell? ⟨fb, 0, none⟩ = some (.string fn)) :
    Calls Tryz.prog 73 #[.agg #[.string nm, .int .i64 0, .bool false], .pointer (some ⟨vb, 0, none⟩)] w fun e w' => e = .returned (.pointer none) ∧ Below w.heap.size w w' := by
  have ha : Below w.heap.size w (w.alloc (.cells #[.string nm, .int .i64 0, .bool false] 122)) := (Below.refl _ _).alloc (Nat.le_refl _) _
  have HM := hide (meant_ok nm hvn _ (hK _ _ hG ha))
  have HA := hide ha
  have HG := hide hG
  have HK := hide hK
  have HR := hide (fun u hu a b d => member_no nm fn hv hne vb fb c u hu a b d)
  clear ha hG hK
  go_enter Tryz.func73, Tryz.ntmps73
  go_wp2_with fail
  refine (unhide HM).mono ?_
  rintro e w1 ⟨rfl, hb⟩
  have hb1 := (unhide HA).trans (hb.mono (unhide HA).size)
  have R := hide (unhide HR w1 (unhide HK _ _ (unhide HG) hb1) (keepC' hb1 h0) (keepC' hb1 h7) (keepC' hb1 hn))
  have HB := hide hb1
  clear HM hb hb1 HR
  go_wp2_with fail
  refine (unhide R).mono ?_
  rintro e w2 ⟨rfl, hb2⟩
  have HB2 := hide ((unhide HB).trans (hb2.mono (unhide HB).size))
  clear R hb2 HB
  go_wp2
  go_ret
  exact ⟨rfl, unhide HB2⟩
set_option maxRecDepth 100000 in
set_option maxHeartbeats 1600000 in
theorem follow_yes {G : World → Prop} (hK : ∀ w w', G w → Below w.heap.size w w' → G w') (fn : ByteArray) (hv : ValidOK fn G) (vb fb c ab ac : Nat) (w : World) (hG : G w) (h0 : w.cell? ⟨vb, 0, none⟩ = some (.int .i64 5)) (h7 : w.cell? ⟨vb, 7, none⟩ = some (.slice (some ⟨fb, 0, none⟩) 1 c)) (hn : w.cell? ⟨fb, 0, none⟩ = some (.string fn))
    (ha : w.cell? ⟨ab, 0, none⟩ = some (.func (.func 73) #[.agg #[.string fn, .int .i64 0, .bool false]] #[])) :
    Calls Tryz.prog 74 #[.pointer (some ⟨vb, 0, none⟩), .slice (some ⟨ab, 0, none⟩) 1 ac] w fun e w' => e = .returned (.pointer (some ⟨fb, 1, none⟩)) ∧ Below w.heap.size w w' := by
  have HF := hide (find_yes hK fn hv vb fb c w hG h0 h7 hn)
  clear hv hG hK h0 h7 hn
  go_enter Tryz.func74, Tryz.ntmps74
  go_wp2
  go_loopw [0, 9] (fun v i wr => ∃ k : Nat, i = .int .i64 (k : Int) ∧ ((k = 0 ∧ v = .pointer (some ⟨vb, 0, none⟩) ∧ wr = w) ∨ (k = 1 ∧ v = .pointer (some ⟨fb, 1, none⟩) ∧ Below w.heap.size w wr))) (fun _ i _ => 1 - (intOf i).toNat)
  case atStart => exact ⟨0, rfl, Or.inl ⟨rfl, rfl, rfl⟩⟩
  case round =>
    obtain ⟨k, rfl, ⟨rfl, rfl, hwr⟩ | ⟨rfl, rfl, hb⟩⟩ := hrel
    · obtain rfl := hwr.symm
      clear hwr
      go_wp2_with fail
      refine (unhide HF).mono ?_
      rintro e w1 ⟨rfl, hb⟩
      clear HF
      have HB := hide hb
      clear hb
      go_wp2
      exact ⟨⟨1, rfl, Or.inr ⟨rfl, rfl, unhide HB⟩⟩, by simp [intOf]⟩
    · clear HF
      have HB := hide hb
      clear hb
      go_wp2
      go_ret
      exact ⟨rfl, unhide HB⟩
set_option maxRecDepth 100000 in
set_option maxHeartbeats 1600000 in
theorem follow_no {G : World → Prop} (hK : ∀ w w', G w → Below w.heap.size w w' → G w') (fn : ByteArray) (hv : ValidOK fn G) (nm : ByteArray) (hvn : ValidOK nm G) (hne : (fn.toList == nm.toList) = false) (vb fb c ab ac : Nat) (w : World) (hG : G w) (h0 : w.cell? ⟨vb, 0, none⟩ = some (.int .i64 5)) (h7 : w.cell? ⟨vb, 7, none⟩ = some (.slice (some ⟨fb, 0, none⟩) 1 c)) (hn : w.cell? ⟨fb, 0, none⟩ = some (.string fn))
    (ha : w.cell? ⟨ab, 0, none⟩ = some (.func (.func 73) #[.agg #[.string nm, .int .i64 0, .bool false]] #[])) :
    Calls Tryz.prog 74 #[.pointer (some ⟨vb, 0, none⟩), .slice (some ⟨ab, 0, none⟩) 1 ac] w fun e w' => e = .returned (.pointer none) ∧ Below w.heap.size w w' := by
  have HF := hide (find_no hK fn hv nm hvn hne vb fb c w hG h0 h7 hn)
  clear hv hG hK h0 h7 hn
  go_enter Tryz.func74, Tryz.ntmps74
  go_wp2
  go_loopw [0, 9] (fun v i wr => ∃ k : Nat, i = .int .i64 (k : Int) ∧ (k = 0 ∧ v = .pointer (some ⟨vb, 0, none⟩) ∧ wr = w)) (fun _ i _ => 1 - (intOf i).toNat)
  case atStart => exact ⟨0, rfl, rfl, rfl, rfl⟩
  case round =>
    obtain ⟨k, rfl, rfl, rfl, hwr⟩ := hrel
    · obtain rfl := hwr.symm
      clear hwr
      go_wp2_with fail
      refine (unhide HF).mono ?_
      rintro e w1 ⟨rfl, hb⟩
      clear HF
      have HB := hide hb
      clear hb
      go_wp2
      go_ret
      exact ⟨rfl, unhide HB⟩
end Go.Proofs.YthpnclhfooileaaGreatDoor.ru
