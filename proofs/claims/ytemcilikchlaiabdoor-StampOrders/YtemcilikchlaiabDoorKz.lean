/- Package stamp answers as is asked. -/
import Derived.Test.YtemcilikchlaiabDoorTm
import Derived.Test.YtemcilikchlaiabDoorTj
import Derived.Test.YtemcilikchlaiabDoorKy
namespace Go.Proofs.YtemcilikchlaiabDoor.st
open Go.RowKit

theorem text_any (s n : Int) (r : Option (List UInt8)) (w : World) (a : Addr) (hs : inI s) (hn : inI n) (ht : isText s n r) (hS : Sent w a) :
    Calls Tryd.prog 8 #[iv s n] w fun e w' => e = .returned (texE a r) ∧ Below w.heap.size w w' := by
  rcases ht with ⟨rfl, h⟩ | ⟨R, nn, y, m, d, h1, h2, h3, h4, rfl⟩
  · obtain ⟨y, m, d, hd⟩ := isDate_ex (nSec s n / 86400)
    have g1 := year_lo hd 0
    have g2 := year_lo hd 10000
    rw [lo0] at g1
    rw [hi4] at g2
    have hy : ¬ (0 ≤ y ∧ y ≤ 9999) := by omega
    exact text_head s n w a hs hn hS y m d hd _ (fun _ w' hb => ⟨rfl, hb⟩) (fun z1 z2 => absurd ⟨z1, z2⟩ hy)
  · have e1 : nSec s n / 86400 = (R : Int) / 86400 - 719528 := by omega
    have e2 : nSec s n % 86400 = ((R % 86400 : Nat) : Int) := by omega
    rw [← e1] at h4
    have g1 := year_lo h4 0
    have g2 := year_lo h4 10000
    rw [lo0] at g1
    rw [hi4] at g2
    have hy : (0 : Int) ≤ y ∧ (y : Int) ≤ 9999 := by omega
    refine text_head s n w a hs hn hS y m d h4 _ (fun z => absurd hy z) (fun _ _ w' hb => ⟨?_, hb⟩)
    rw [e2, h3]
    simp only [Int.toNat_natCast]
    rfl

theorem stampOK : StampOK where
  parse := fun s w a hs hS => by
    have := parse_any s w a hs hS
    rw [prs_eq] at this
    exact this
  text := fun s n r w a hs hn ht hS => text_any s n r w a hs hn ht hS
  cmp := fun s n s' n' w hs hn hs' hn' => cmp_any s n s' n' w hs hn hs' hn'
  days := fun y m d w a _ _ _ hS => sdays_any y m d w a hS
theorem normOK : NormOK := fun s n w hs hn => norm_any s n w hs hn
theorem dateOK : DateOK := fun n y m d w a _ hd hS => date_any n y m d w a hd hS
end Go.Proofs.YtemcilikchlaiabDoor.st
