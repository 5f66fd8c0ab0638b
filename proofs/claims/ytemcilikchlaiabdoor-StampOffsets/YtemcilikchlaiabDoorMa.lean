/- StampOffsets: it answers true, if the calls answer as is asked. -/
import Derived.Test.YtemcilikchlaiabDoorKt
import Derived.Test.YtemcilikchlaiabDoorKq
import Derived.Deep.Cut
namespace Go.Proofs.YtemcilikchlaiabDoor.st
open Go.RowKit

/-- Hours and minutes of an offset, as bytes. -/
def offB (hh mi : Nat) : ByteArray := ⟨#[UInt8.ofNat (48 + hh / 10), UInt8.ofNat (48 + hh % 10), 58, UInt8.ofNat (48 + mi / 10), UInt8.ofNat (48 + mi % 10)]⟩
theorem offB_list (hh mi : Nat) (h1 : hh ≤ 23) (h2 : mi ≤ 59) : (offB hh mi).data.toList = digs 2 hh ++ ([58] ++ digs 2 mi) := by
  have e : ∀ n : Nat, n < 100 → digs 2 n = [UInt8.ofNat (48 + n / 10), UInt8.ofNat (48 + n % 10)] := fun n hn => by
    show ([] ++ [UInt8.ofNat (48 + n / 10 % 10)]) ++ [UInt8.ofNat (48 + n % 10)] = _
    rw [Nat.mod_eq_of_lt (show n / 10 < 10 by omega)]
    rfl
  rw [e hh (by omega), e mi (by omega)]
  rfl
theorem conv_five (w : World) (c0 c1 c2 c3 c4 : UInt8) (i0 i1 i2 i3 i4 : Int) (h0 : i0 = (c0.toNat : Int)) (h1 : i1 = (c1.toNat : Int)) (h2 : i2 = (c2.toNat : Int)) (h3 : i3 = (c3.toNat : Int)) (h4 : i4 = (c4.toNat : Int)) :
    (convert 32 9 (.slice (some ⟨w.heap.size, 0, none⟩) 5 5)).run Tryd.prog (w.alloc (.cells #[.int .u8 i0, .int .u8 i1, .int .u8 i2, .int .u8 i3, .int .u8 i4] 5)) = .ok (.string ⟨#[c0, c1, c2, c3, c4]⟩) (w.alloc (.cells #[.int .u8 i0, .int .u8 i1, .int .u8 i2, .int .u8 i3, .int .u8 i4] 5)) := by
  subst h0 h1 h2 h3 h4
  refine run_convert_bytes_back _ 32 9 5 ⟨w.heap.size, 0, none⟩ 5 [c0, c1, c2, c3, c4] Tryd.underlying32 Tryd.underlying5 Tryd.underlying9 (fun j hj => ?_)
  have hj0 : j = 0 ∨ j = 1 ∨ j = 2 ∨ j = 3 ∨ j = 4 := by simp at hj; omega
  rcases hj0 with rfl | rfl | rfl | rfl | rfl
  all_goals
    show World.cell? _ ⟨w.heap.size, _, none⟩ = _
    rw [blk_cell (heap_alloc_new w _)]
    rfl
theorem off_bytes (hh : Nat) (h : hh < 100) : (48 + (hh : Int) / 10) = ((UInt8.ofNat (48 + hh / 10)).toNat : Int) ∧ (48 + (hh : Int) % 10) = ((UInt8.ofNat (48 + hh % 10)).toNat : Int) := by
  rw [byte_of (hh / 10) (by omega), byte_of (hh % 10) (by omega)]
  omega

set_option maxRecDepth 100000 in
set_option maxHeartbeats 1600000 in
theorem offsets_none (K : StampOK) (s n h mi : Int) (w : World) (a : Addr) (hS : Sent w a) (hs : inI s) (hn : inI n) (r : Option (List UInt8)) (hr : isText s n r) (hb : r = none ∨ h < 0 ∨ 23 < h ∨ mi < 0 ∨ 59 < mi) :
    Calls Tryd.prog 4 #[iv s n, .int .i64 h, .int .i64 mi] w fun e w' => e = .returned (.bool true) ∧ Below w.heap.size w w' := by
  have C0 := hide (fun u hu => shown_any K u a hu)
  have C1 := hide (fun u hu => K.text s n r u a hs hn hr hu)
  have HS := hide (hS.alloc (.cells #[.int .i64 s, .int .i64 n] 23))
  have HB := hide ((Below.refl w.heap.size w).alloc (Nat.le_refl _) (.cells #[.int .i64 s, .int .i64 n] 23))
  have HT := hide (IL.new w s n)
  simp only [iv] at C1 ⊢
  clear K hS hs hn hr
  go_enter Tryd.func4, Tryd.ntmps4
  go_wp2_with fail
  refine (unhide C0 _ (unhide HS)).mono ?_
  rintro e w1 ⟨rfl, hb1⟩
  have HB1 := hide ((unhide HB).trans (hb1.mono (unhide HB).size))
  have HS1 := hide ((unhide HS).keep hb1)
  obtain ⟨t0, t1⟩ := ((unhide HT).below hb1 (unhide HT).lt).cells
  clear hb1 HS C0 HB HT
  go_wp2_with fail
  refine (unhide C1 _ (unhide HS1)).mono ?_
  rintro e w2 ⟨rfl, hb2⟩
  have HB2 := hide ((unhide HB1).trans (hb2.mono (unhide HB1).size))
  clear hb2 HB1 HS1 C1 t0 t1
  cases r with
  | none =>
    clear hb
    simp only [texE, eT]
    go_wp2
    go_ret
    exact ⟨rfl, unhide HB2⟩
  | some l =>
    simp only [texE]
    by_cases c1 : h < 0
    · clear hb
      go_wp2
      go_ret
      exact ⟨rfl, unhide HB2⟩
    · have f1 : decide (h < 0) = false := decide_eq_false c1
      by_cases c2 : 23 < h
      · clear hb c1
        go_wp2
        go_ret
        exact ⟨rfl, unhide HB2⟩
      · have f2 : decide (23 < h) = false := decide_eq_false c2
        by_cases c3 : mi < 0
        · clear hb c1 c2
          go_wp2
          go_ret
          exact ⟨rfl, unhide HB2⟩
        · have f3 : decide (mi < 0) = false := decide_eq_false c3
          have c4 : 59 < mi := by
            rcases hb with hb | hb | hb | hb | hb
            · cases hb
            all_goals omega
          clear hb c1 c2 c3
          go_wp2
          go_ret
          exact ⟨rfl, unhide HB2⟩
end Go.Proofs.YtemcilikchlaiabDoor.st
