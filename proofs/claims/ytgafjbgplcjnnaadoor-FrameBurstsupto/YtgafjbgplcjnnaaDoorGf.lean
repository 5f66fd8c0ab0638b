/- The reference of package frame: Wrap. -/
import Derived.Test.YtgafjbgplcjnnaaDoorGe
namespace Go.Proofs.YtgafjbgplcjnnaaDoor.fr
open Go.RowKit

theorem rfour_own (x : BitVec 32) (w : World) :
    Calls Tryd.prog 28 #[.int .u32 (x.toNat : Int)] w fun e w' => ∃ v, e = .returned v ∧ OB w' w.heap.size v (four x) ∧ Below w.heap.size w w' := by
  refine (rfour_any x w).mono ?_
  rintro e w' ⟨rfl, rfl⟩
  refine ⟨_, rfl, ⟨rfl, Or.inr ⟨w.heap.size, 4, fourCells x, rfl, Nat.le_refl _, heap_alloc_new w _, by simp [four], by unfold maxLen; omega, by rfl, ?_⟩⟩, (Below.refl _ _).alloc (Nat.le_refl _) _⟩
  rfl
theorem OB.bl {w : World} {B : Nat} {v : Value} {l : List UInt8} (h : OB w B v l) {w' : World} (hg : w.grownBy w' v.ownBlock) {B0 : Nat} {w0 : World} (h0 : Below B0 w0 w) (hB : B0 ≤ w.heap.size) (hBB : B0 ≤ B) : Below B0 w0 w' :=
  h0.grown hg hB (fun k hk => Nat.le_trans hBB (h.ge k hk))

set_option maxRecDepth 100000 in
set_option maxHeartbeats 1600000 in
theorem rwrap_long (l : List UInt8) (v : Value) (w : World) (h : BS w v l) (hl : 4194304 < l.length) :
    Calls Tryd.prog 12 #[v] w fun e w' => e = .returned (.tuple #[.slice none 0 0, .int .i64 2]) ∧ w' = w := by
  obtain ⟨oa, c, rfl, h1, h2, h3, h4⟩ := h
  have hl' : (4194304 : Int) < (l.length : Int) := by omega
  go_enter Tryd.func12, Tryd.ntmps12
  go_wp2
  refine bodyPost_ret (results_tmp2 rfl _ _ _) rfl ?_
  exact ⟨rfl, rfl⟩

set_option maxRecDepth 100000 in
set_option maxHeartbeats 1600000 in
theorem rwrap_any (l : List UInt8) (v : Value) (w : World) (h : BS w v l) (hl : l.length ≤ 4194304) :
    Calls Tryd.prog 12 #[v] w fun e w' => ∃ r, e = .returned (.tuple #[r, .int .i64 0]) ∧ OB w' w.heap.size r (frm l) ∧ Below w.heap.size w w' := by
  have HB := hide h
  obtain ⟨oa, c, rfl, h1, h2, h3, h4⟩ := h
  have hl' : decide ((4194304 : Int) < (l.length : Int)) = false := decide_eq_false (by omega)
  have hlu : IntKind.u32.wrap (l.length : Int) = (l.length : Int) := IntWalk.u32_in _ ⟨by omega, by omega⟩
  have C1 : Hid (Calls Tryd.prog 28 #[.int .u32 (l.length : Int)] w fun e w' => ∃ v, e = .returned v ∧ OB w' w.heap.size v (four (BitVec.ofNat 32 l.length)) ∧ Below w.heap.size w w') := by
    have := rfour_own (BitVec.ofNat 32 l.length) w
    rw [ofNat_len _ hl] at this
    exact this
  have HF := hide (show frm l = four (BitVec.ofNat 32 l.length) ++ four (crc (four (BitVec.ofNat 32 l.length))) ++ l ++ four (crc l) from rfl)
  generalize frm l = res at HF ⊢
  generalize hx : BitVec.ofNat 32 l.length = x at *
  clear h3 h4 hx
  go_enter Tryd.func12, Tryd.ntmps12
  go_wp2_with fail
  refine (unhide C1).mono ?_
  rintro e w1 ⟨v1, rfl, o1, b1⟩
  have HB1 := hide b1
  have S1 := hide o1.bs
  clear C1 o1 b1
  have n1 : Hid (OB w1 w.heap.size (.slice none 0 0) []) := OB.nil _ _
  go_wp2_with (at_builtin; refine wpList_append_bytes rfl _ _ rfl w.heap.size _ _ _ _ rfl rfl (unhide n1) (unhide S1) ?a1 (unhide HB1).size ?_)
  case a1 => simp [four]
  intro v2 w2 o2 g2 _
  have k2 : Hid (Below w1.heap.size w1 w2) := (Below.refl _ _).grown g2 (Nat.le_refl _) (fun k hk => by cases hk)
  have HB2 := hide ((unhide HB1).trans ((unhide k2).mono (unhide HB1).size))
  have S2 := hide ((unhide S1).keep (unhide k2))
  have O2 := hide o2
  clear o2 g2 k2 S1 n1 HB1
  have C2 := hide (rsum_any _ _ _ (unhide S2))
  simp only [u32] at C2
  go_wp2_with fail
  refine (unhide C2).mono ?_
  rintro e w3 ⟨rfl, rfl⟩
  have C3 := hide (rfour_own (crc (four x)) w3)
  clear C2
  go_wp2_with fail
  refine (unhide C3).mono ?_
  rintro e w4 ⟨v4, rfl, o4, b4⟩
  have HB4 := hide ((unhide HB2).trans (b4.mono (unhide HB2).size))
  have S4 := hide o4.bs
  have O4 := hide ((unhide O2).keep b4 (unhide O2).lt)
  clear C3 o4 b4 HB2 O2 S2
  go_wp2_with (at_builtin; refine wpList_append_bytes rfl _ _ rfl w.heap.size _ _ _ _ rfl rfl (unhide O4) (unhide S4) ?a1 (unhide HB4).size ?_)
  case a1 => simp [four]
  intro v5 w5 o5 g5 _
  have HB5 := hide ((unhide O4).bl g5 (unhide HB4) (unhide HB4).size (Nat.le_refl _))
  have O5 := hide o5
  have S5 := hide ((unhide HB).keep (unhide HB5))
  clear HB4 O4 S4 o5 g5
  go_wp2_with (at_builtin; refine wpList_append_bytes rfl _ _ rfl w.heap.size _ _ _ _ rfl rfl (unhide O5) (unhide S5) ?a1 (unhide HB5).size ?_)
  case a1 => simp [four]; omega
  intro v6 w6 o6 g6 _
  have HB6 := hide ((unhide O5).bl g6 (unhide HB5) (unhide HB5).size (Nat.le_refl _))
  have O6 := hide o6
  have S6 := hide ((unhide HB).keep (unhide HB6))
  clear HB5 O5 S5 o6 g6
  have C4 := hide (rsum_any _ _ _ (unhide S6))
  simp only [u32] at C4
  go_wp2_with fail
  refine (unhide C4).mono ?_
  rintro e w7 ⟨rfl, rfl⟩
  have C5 := hide (rfour_own (crc l) w7)
  clear C4
  go_wp2_with fail
  refine (unhide C5).mono ?_
  rintro e w8 ⟨v8, rfl, o8, b8⟩
  have HB8 := hide ((unhide HB6).trans (b8.mono (unhide HB6).size))
  have S8 := hide o8.bs
  have O8 := hide ((unhide O6).keep b8 (unhide O6).lt)
  clear C5 o8 b8 HB6 O6 S6
  go_wp2_with (at_builtin; refine wpList_append_bytes rfl _ _ rfl w.heap.size _ _ _ _ rfl rfl (unhide O8) (unhide S8) ?a1 (unhide HB8).size ?_)
  case a1 => simp [four]; omega
  intro v9 w9 o9 g9 _
  have HB9 := hide ((unhide O8).bl g9 (unhide HB8) (unhide HB8).size (Nat.le_refl _))
  have O9 := hide (show OB w9 w.heap.size v9 res by rw [unhide HF]; exact o9)
  clear HB8 O8 S8 o9 g9 HF
  go_wp2
  refine bodyPost_ret (results_tmp2 rfl _ _ _) rfl ?_
  exact ⟨_, rfl, unhide O9, unhide HB9⟩

end Go.Proofs.YtgafjbgplcjnnaaDoor.fr
