/- What is asked of package frame's calls; the laws' head. -/
import Derived.Test.YtgafjbgplcjnnaaDoorGj
import Derived.LaidEql
namespace Go.Proofs.YtgafjbgplcjnnaaDoor.fr
open Go.RowKit Go.Joins

/-- What the error's variable holds: a pointer to a block that isn't frozen. -/
structure Sent (w : World) (a : Addr) : Prop where
  n : w.cell? ⟨0, 0, none⟩ = some (.iface 59 (.pointer (some a)))
  la : ∃ c t, w.heap[a.block]? = some (.cells c t (0, 0))
def eL (a : Addr) : Value := .iface 59 (.pointer (some a))
theorem Sent.keep {w w' : World} {a : Addr} (h : Sent w a) (hb : Below w.heap.size w w') : Sent w' a := by
  obtain ⟨ca, ta, ha⟩ := h.la
  refine ⟨?_, ca, ta, (hb.block _ (blk_lt ha)).trans ha⟩
  rw [hb.cell (cell_lt' h.n)]; exact h.n

/-- What is asked of the package: G is what the package's variables hold. -/
structure FrameOK (a : Addr) (G : World → Prop) : Prop where
  keep : ∀ w w', G w → Below w.heap.size w w' → G w'
  sent : ∀ w, G w → Sent w a
  sum : ∀ l v w, G w → BS w v l → l.length ≤ 1000000000 → Calls Tryd.prog 10 #[v] w fun e w' => e = .returned (.int .u32 ((crc l).toNat : Int)) ∧ Below w.heap.size w w'
  wrap : ∀ l v w, G w → BS w v l → l.length ≤ 4194304 → Calls Tryd.prog 11 #[v] w fun e w' => ∃ r, e = .returned (.tuple #[r, .nilIface]) ∧ OB w' w.heap.size r (frm l) ∧ Below w.heap.size w w'
  long : ∀ l v w, G w → BS w v l → 4194304 < l.length → l.length ≤ 1000000000 → Calls Tryd.prog 11 #[v] w fun e w' => ∃ r, e = .returned (.tuple #[r, eL a]) ∧ OB w' w.heap.size r [] ∧ Below w.heap.size w w'
  scan : ∀ l v w, G w → BS w v l → l.length ≤ 1000000000 → Calls Tryd.prog 18 #[v] w fun e w' => ∃ r, e = .returned (.tuple #[r, .int .i64 ((scan l).2 : Int)]) ∧ OBB w' w.heap.size r (scan l).1 ∧ Below w.heap.size w w'

theorem BS.nil (w : World) : BS w (.slice none 0 0) [] := ⟨none, 0, rfl, Nat.le_refl _, by unfold maxLen; omega, fun _ => ⟨rfl, rfl⟩, fun a ha => by cases ha⟩
def nine : List UInt8 := [49, 50, 51, 52, 53, 54, 55, 56, 57]
theorem crc_nine : ((crc nine).toNat : Int) = 4236843288 := by kernel_rfl
theorem scan_two : scan (frm [] ++ (frm [97] ++ [0, 0])) = ([[], [97]], 25) := by
  rw [scan_frm [] _ (by decide), scan_frm [97] _ (by decide), scan_none [0, 0] (by unfold whole; rw [if_pos (Or.inl (by decide))])]
  rfl
/-- Two elements of such a list. -/
theorem LS.two {w : World} {v : Value} {l m : List UInt8} (h : LS w v [l, m]) : ∃ a c x y, v = .slice (some a) 2 c ∧ 2 ≤ c ∧ w.cell? a = some x ∧ w.cell? ⟨a.block, a.off + 1, none⟩ = some y ∧ BS w x l ∧ BS w y m := by
  obtain ⟨vs, h1, ⟨oa, c, rfl, q1, q2, q3, q4⟩, h3⟩ := h
  match vs, h1 with
  | [x, y], _ =>
    cases oa with
    | none => cases (q3 rfl).1
    | some a => exact ⟨a, c, x, y, rfl, q1, q4 a rfl 0 x rfl, q4 a rfl 1 y rfl, h3 0 x l rfl rfl, h3 1 y m rfl rfl⟩

set_option maxRecDepth 100000 in
set_option maxHeartbeats 1600000 in
theorem awake_any {a : Addr} {G : World → Prop} (K : FrameOK a G) (w : World) (hG : G w) :
    Calls Tryd.prog 8 #[] w fun e w' => e = .returned (.bool true) ∧ Below w.heap.size w w' := by
  have HK := hide K
  have C1 := hide (K.wrap [] (.slice none 0 0) w hG (BS.nil w) (by simp))
  clear K
  go_enter Tryd.func8, Tryd.ntmps8
  go_wp2_with fail
  refine (unhide C1).mono ?_
  rintro e w1 ⟨r1, rfl, o1, b1⟩
  obtain ⟨oa1, c1, f1⟩ := o1.form
  rw [show (frm []).length = 12 from frm_length []] at f1
  subst f1
  have HG := hide hG
  have B1 := hide b1
  have O1 := hide o1
  clear C1 o1 b1 hG
  have hcv := run_convert_bytes_const_at (P := Tryd.prog) w1 22 5 #[.int .u8 97] 1 1 w1.heap.size rfl Tryd.underlying22 Tryd.underlying5
  have S2 : Hid (BS (w1.alloc (.cells #[.int .u8 97] 5 (1, 2))) (.slice (some ⟨w1.heap.size, 0, none⟩) 1 1) [97]) := bs_cells (heap_alloc_new w1 _) [97] rfl (by unfold maxLen; decide)
  have k2 := hide ((Below.refl w1.heap.size w1).alloc (Nat.le_refl _) (.cells #[.int .u8 97] 5 (1, 2)))
  have B2 := hide ((unhide B1).trans ((unhide k2).mono (unhide B1).size))
  have C2 := hide ((unhide HK).wrap [97] _ _ ((unhide HK).keep _ _ (unhide HG) (unhide B2)) (unhide S2) (by simp))
  have O2 := hide ((unhide O1).keep (unhide k2) (unhide O1).lt)
  go_wp2_with fail
  refine (unhide C2).mono ?_
  rintro e w3 ⟨r3, rfl, o3, b3⟩
  rw [World.size_alloc] at o3 b3
  have B3 := hide ((unhide B2).trans (b3.mono (by have := (unhide B1).size; omega)))
  have O3 := hide ((unhide O2).keep b3 (fun k hk => by have := (unhide O1).lt k hk; omega))
  have P3 := hide (o3.mono (show w.heap.size ≤ w1.heap.size + 1 by have := (unhide B1).size; omega))
  clear C2 o3 b3 hcv S2 k2 B2 O2 B1 O1
  have n4 := hide (ob_empty w3 w.heap.size (unhide B3).size)
  have k4 := hide ((Below.refl w3.heap.size w3).alloc (Nat.le_refl _) (.cells #[] 5))
  have B4 := hide ((unhide B3).trans ((unhide k4).mono (unhide B3).size))
  have O4 := hide ((unhide O3).keep (unhide k4) (unhide O3).lt).bs
  go_wp2_with (at_builtin; refine wpList_append_bytes rfl _ _ rfl w.heap.size _ _ _ _ rfl rfl (unhide n4) (unhide O4) ?a1 (unhide B4).size ?_)
  case a1 => simp [frm_length]
  intro v5 w5 o5 g5 _
  have k5 := hide ((unhide k4).grown g5 (unhide k4).size (fun k hk => by cases hk; exact Nat.le_refl _))
  have B5 := hide ((unhide B3).trans ((unhide k5).mono (unhide B3).size))
  have S5 := hide ((unhide P3).keep (unhide k5) (unhide P3).lt).bs
  have O5 := hide o5
  clear o5 g5 n4 k4 B4 O4
  go_wp2_with (at_builtin; refine wpList_append_bytes rfl _ _ rfl w.heap.size _ _ _ _ rfl rfl (unhide O5) (unhide S5) ?a1 (unhide B5).size ?_)
  case a1 => simp [frm_length]
  intro v6 w6 o6 g6 _
  have b6 := (unhide O5).bl g6 (unhide B5) (unhide B5).size (Nat.le_refl _)
  have B6 := hide (b6.alloc b6.size (.cells #[.int .u8 0, .int .u8 0] 5))
  have O6 := hide (o6.keep ((Below.refl w6.heap.size w6).alloc (Nat.le_refl _) (.cells #[.int .u8 0, .int .u8 0] 5)) o6.lt)
  have S6 : Hid (BS (w6.alloc (.cells #[.int .u8 0, .int .u8 0] 5)) (.slice (some ⟨w6.heap.size, 0, none⟩) 2 2) [0, 0]) := bs_cells (heap_alloc_new w6 _) [0, 0] rfl (by unfold maxLen; decide)
  clear o6 g6 S5 O5 B5 k5 b6
  go_wp2_with (at_builtin; refine wpList_append_bytes rfl _ _ rfl w.heap.size _ _ _ _ rfl rfl (unhide O6) (unhide S6) ?a1 (unhide B6).size ?_)
  case a1 => simp [frm_length]
  intro v8 w8 o8 g8 _
  have B8 := hide ((unhide O6).bl g8 (unhide B6) (unhide B6).size (Nat.le_refl _))
  have S8 := hide o8.bs
  clear o8 g8 O6 S6 B6 B3 O3 P3
  have C8 := hide ((unhide HK).scan _ _ _ ((unhide HK).keep _ _ (unhide HG) (unhide B8)) (unhide S8) (by simp [frm_length]))
  rw [scan_two] at C8
  go_wp2_with fail
  refine (unhide C8).mono ?_
  rintro e w9 ⟨r9, rfl, o9, b9⟩
  obtain ⟨a9, c9, x9, y9, rfl, z1, z2, z3, z4, z5⟩ := o9.ls.two
  have B9 := hide ((unhide B8).trans (b9.mono (unhide B8).size))
  obtain ⟨ox, cx, fx, _⟩ := z4
  subst fx
  have Z5 := hide z5
  obtain ⟨oy, cy, fy, _⟩ := z5
  subst fy
  have L2 := hide (cell_lt' z2)
  have Z2 := hide z2
  have Z3 := hide z3
  clear C8 o9 b9 B8 S8 z2 z3
  have hcv := run_convert_bytes_const_at (P := Tryd.prog) w9 22 5 #[.int .u8 49, .int .u8 50, .int .u8 51, .int .u8 52, .int .u8 53, .int .u8 54, .int .u8 55, .int .u8 56, .int .u8 57] 9 9 w9.heap.size rfl Tryd.underlying22 Tryd.underlying5
  have S10 : Hid (BS (w9.alloc (.cells #[.int .u8 49, .int .u8 50, .int .u8 51, .int .u8 52, .int .u8 53, .int .u8 54, .int .u8 55, .int .u8 56, .int .u8 57] 5 (9, 10))) (.slice (some ⟨w9.heap.size, 0, none⟩) 9 9) nine) := bs_cells (heap_alloc_new w9 _) nine rfl (by unfold maxLen; decide)
  have k10 := hide ((Below.refl w9.heap.size w9).alloc (Nat.le_refl _) (.cells #[.int .u8 49, .int .u8 50, .int .u8 51, .int .u8 52, .int .u8 53, .int .u8 54, .int .u8 55, .int .u8 56, .int .u8 57] 5 (9, 10)))
  have B10 := hide ((unhide B9).trans ((unhide k10).mono (unhide B9).size))
  have C10 := hide ((unhide HK).sum _ _ _ ((unhide HK).keep _ _ (unhide HG) (unhide B10)) (unhide S10) (by decide))
  rw [crc_nine] at C10
  go_wp2_with fail
  refine (unhide C10).mono ?_
  rintro e w11 ⟨rfl, b11⟩
  have k11 := hide ((unhide k10).trans (b11.mono (unhide k10).size))
  have B11 := hide ((unhide B10).trans (b11.mono (unhide B10).size))
  have z2 : w11.cell? a9 = some (.slice ox 0 cx) := by rw [(unhide k11).cell (unhide L2)]; exact unhide Z2
  have z3 : w11.cell? ⟨a9.block, a9.off + 1, none⟩ = some (.slice oy 1 cy) := by rw [(unhide k11).cell (p := ⟨a9.block, a9.off + 1, none⟩) (unhide L2)]; exact unhide Z3
  have zs : (convert 22 9 (.slice oy 1 cy)).run Tryd.prog w11 = .ok (.string (str [97])) w11 := bs_str ((unhide Z5).keep (unhide k11))
  clear C10 b11 k10 B10 S10 hcv Z2 Z3 Z5 L2 k11 HK HG
  have ht : (str [97]).toList = [97] := by rw [ByteArray.toList_eq]; rfl
  go_wp2
  go_ret
  exact ⟨rfl, unhide B11⟩

end Go.Proofs.YtgafjbgplcjnnaaDoor.fr
