/- path.Get of one name in an object of one field that is a number. -/
import Derived.Test.YthpnclhfooileaaGreatDoorJo
namespace Go.Proofs.YthpnclhfooileaaGreatDoor.ru
open Go.RowKit

def ValidOK (nm : ByteArray) (G : World → Prop) : Prop := ∀ w, G w → Calls Tryz.prog 108 #[.string nm] w fun e w' => e = .returned (.bool true) ∧ Below w.heap.size w w'
theorem meant_ok {G : World → Prop} (nm : ByteArray) (hv : ValidOK nm G) (w : World) (hG : G w) : Calls Tryz.prog 96 #[.string nm] w fun e w' => e = .returned (.string nm) ∧ Below w.heap.size w w' := by
  have HV := hide (hv w hG)
  clear hv hG
  go_enter Tryz.func96, Tryz.ntmps96
  go_wp2_with fail
  refine (unhide HV).mono ?_
  rintro e w1 ⟨rfl, hb⟩
  clear HV
  go_wp2
  go_ret
  exact ⟨rfl, hb⟩
theorem keepC' {W w1 : World} (hb : Below W.heap.size W w1) {b o : Nat} {v : Value} (h : W.cell? ⟨b, o, none⟩ = some v) : w1.cell? ⟨b, o, none⟩ = some v := by
  rw [hb.cell (p := ⟨b, o, none⟩) (World.block_lt_of_cell? _ _ h)]; exact h

set_option maxRecDepth 100000 in
set_option maxHeartbeats 1600000 in
theorem member_yes {G : World → Prop} (fn : ByteArray) (hv : ValidOK fn G) (vb fb c : Nat) (w : World) (hG : G w) (h0 : w.cell? ⟨vb, 0, none⟩ = some (.int .i64 5)) (h7 : w.cell? ⟨vb, 7, none⟩ = some (.slice (some ⟨fb, 0, none⟩) 1 c)) (hn : w.cell? ⟨fb, 0, none⟩ = some (.string fn)) :
    Calls Tryz.prog 95 #[.pointer (some ⟨vb, 0, none⟩), .string fn] w fun e w' => e = .returned (.pointer (some ⟨fb, 1, none⟩)) ∧ Below w.heap.size w w' := by
  have HM := hide (meant_ok fn hv w hG)
  clear hv hG
  go_enter Tryz.func95, Tryz.ntmps95
  go_wp2
  go_loopw [16] (fun i wr => i = .int .i64 0 ∧ wr = w) (fun _ _ => 0)
  case atStart => exact ⟨rfl, rfl⟩
  case round =>
    obtain ⟨rfl, hwr⟩ := hrel
    obtain rfl := hwr.symm
    clear hwr
    go_wp2_with fail
    refine (unhide HM).mono ?_
    rintro e w1 ⟨rfl, hb⟩
    clear HM
    have k7 := keepC' hb h7
    have k0 := keepC' hb h0
    have HB := hide hb
    clear hb
    go_wp2
    go_ret
    exact ⟨rfl, unhide HB⟩
set_option maxRecDepth 100000 in
set_option maxHeartbeats 1600000 in
theorem member_no {G : World → Prop} (nm fn : ByteArray) (hv : ValidOK fn G) (hne : (fn.toList == nm.toList) = false) (vb fb c : Nat) (w : World) (hG : G w) (h0 : w.cell? ⟨vb, 0, none⟩ = some (.int .i64 5)) (h7 : w.cell? ⟨vb, 7, none⟩ = some (.slice (some ⟨fb, 0, none⟩) 1 c)) (hn : w.cell? ⟨fb, 0, none⟩ = some (.string fn)) :
    Calls Tryz.prog 95 #[.pointer (some ⟨vb, 0, none⟩), .string nm] w fun e w' => e = .returned (.pointer none) ∧ Below w.heap.size w w' := by
  have HM := hide (meant_ok fn hv w hG)
  clear hv hG
  go_enter Tryz.func95, Tryz.ntmps95
  go_wp2
  go_loopw [16] (fun i wr => ∃ k : Nat, i = .int .i64 (k : Int) ∧ ((k = 0 ∧ wr = w) ∨ (k = 1 ∧ Below w.heap.size w wr))) (fun i _ => 1 - (intOf i).toNat)
  case atStart => exact ⟨0, rfl, Or.inl ⟨rfl, rfl⟩⟩
  case round =>
    obtain ⟨k, rfl, ⟨rfl, hwr⟩ | ⟨rfl, hb⟩⟩ := hrel
    · obtain rfl := hwr.symm
      clear hwr
      go_wp2_with fail
      refine (unhide HM).mono ?_
      rintro e w1 ⟨rfl, hb⟩
      clear HM
      have HB := hide hb
      clear hb
      go_wp2
      exact ⟨⟨1, rfl, Or.inr ⟨rfl, unhide HB⟩⟩, by simp [intOf]⟩
    · clear HM
      have HB := hide hb
      clear hb
      go_wp2
      go_ret
      exact ⟨rfl, unhide HB⟩
end Go.Proofs.YthpnclhfooileaaGreatDoor.ru
