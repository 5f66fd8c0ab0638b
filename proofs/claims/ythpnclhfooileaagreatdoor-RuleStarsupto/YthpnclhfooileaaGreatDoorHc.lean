/- Package rule: escapes, cutStar. -/
import Derived.Test.YthpnclhfooileaaGreatDoorHa
import Derived.Test.YthpnclhfooileaaGreatDoorHb
import Derived.Test.YthpnclhfooileaaGreatDoorJi
import Derived.BigQuiet
import Derived.Deep.RegionHeld3
namespace Go.Proofs.YthpnclhfooileaaGreatDoor.ru
open Go.RowKit

theorem at_cons (s : ByteArray) (k : Nat) (h : k < s.size) : (bl s).drop k = s[k] :: (bl s).drop (k + 1) := by
  unfold bl
  rw [List.drop_eq_getElem_cons (by rw [blen]; exact h)]
  rfl
theorem ext_bl (s : ByteArray) (k : Nat) : s.extract k s.size = ⟨((bl s).drop k).toArray⟩ := by
  apply ByteArray.ext
  rw [ByteArray.data_extract]
  apply Array.ext'
  rw [Array.toList_extract]
  show List.extract s.data.toList k s.data.size = _
  rw [List.extract_eq_take_drop, List.take_of_length_le (by rw [List.length_drop, Array.length_toList]; exact Nat.le_refl _)]
  rfl
theorem bl_ext (s : ByteArray) (k : Nat) : bl (s.extract k s.size) = (bl s).drop k := by rw [ext_bl]; rfl
/-- Does a pattern begin with a backslash that makes a star, or a backslash, stand for itself? -/
def esb : List UInt8 → Bool
  | c :: d :: _ => c == 92 && (d == 42 || d == 92)
  | _ => false

set_option maxRecDepth 100000 in
theorem escapes_any (s : ByteArray) (w : World) : Calls Tryz.prog 35 #[.string s] w fun e w' => e = .returned (.bool (esb (bl s))) ∧ w' = w := by
  by_cases h1 : 1 < s.size
  · have e : esb (bl s) = (s[0] == 92 && (s[1] == 42 || s[1] == 92)) := by
      rw [show bl s = (bl s).drop 0 from rfl, at_cons s 0 (by omega), at_cons s 1 (by omega)]
      rfl
    have h1' : (1 : Int) < (s.size : Int) := by omega
    have h0' : (0 : Int) < (s.size : Int) := by omega
    by_cases q0 : s[0] = 92
    · have q0' : ((s[0].toNat : Int) == 92) = true := by rw [q0]; rfl
      by_cases q1 : s[1] = 42
      · have q1' : ((s[1].toNat : Int) == 42) = true := by rw [q1]; rfl
        rw [show esb (bl s) = true by rw [e, q0, q1]; rfl]
        clear e q0 q1
        go_enter Tryz.func35, Tryz.ntmps35
        go_wp2
        go_ret
        exact ⟨rfl, rfl⟩
      · have q1' : ((s[1].toNat : Int) == 42) = false := bne42 _ q1
        by_cases q2 : s[1] = 92
        · have q2' : ((s[1].toNat : Int) == 92) = true := by rw [q2]; rfl
          rw [show esb (bl s) = true by rw [e, q0, q2]; rfl]
          clear e q0 q1 q2
          go_enter Tryz.func35, Tryz.ntmps35
          go_wp2
          go_ret
          exact ⟨rfl, rfl⟩
        · have q2' : ((s[1].toNat : Int) == 92) = false := bne92 _ q2
          rw [show esb (bl s) = false by rw [e, q0, beq_eq_false_iff_ne.2 q1, beq_eq_false_iff_ne.2 q2]; rfl]
          clear e q0 q1 q2
          go_enter Tryz.func35, Tryz.ntmps35
          go_wp2
          go_ret
          exact ⟨rfl, rfl⟩
    · have q0' : ((s[0].toNat : Int) == 92) = false := bne92 _ q0
      rw [show esb (bl s) = false by rw [e, beq_eq_false_iff_ne.2 q0]; rfl]
      clear e q0
      go_enter Tryz.func35, Tryz.ntmps35
      go_wp2
      go_ret
      exact ⟨rfl, rfl⟩
  · have e : esb (bl s) = false := by
      have hl : (bl s).length ≤ 1 := by rw [bl_len]; omega
      match bl s, hl with
      | [], _ => rfl
      | [_], _ => rfl
    rw [e]
    have h1' : ¬ (1 : Int) < (s.size : Int) := by omega
    clear e
    go_enter Tryz.func35, Tryz.ntmps35
    go_wp2
    go_ret
    exact ⟨rfl, rfl⟩

theorem esb_yes (s : ByteArray) (k : Nat) (h : k < s.size) (he : esb ((bl s).drop k) = true) : ∃ h2 : k + 1 < s.size, s[k] = 92 ∧ (s[k + 1] = 42 ∨ s[k + 1] = 92) := by
  rcases Nat.lt_or_ge (k + 1) s.size with h2 | h2
  · refine ⟨h2, ?_⟩
    rw [at_cons s k h, at_cons s (k + 1) h2] at he
    simpa [esb] using he
  · exfalso
    rw [at_cons s k h, List.drop_of_length_le (by rw [bl_len]; exact h2)] at he
    cases he
theorem esb_no (s : ByteArray) (k : Nat) (h : k < s.size) (he : esb ((bl s).drop k) = false) : ¬ (s[k] = 92 ∧ (((bl s).drop (k + 1)).head? = some 42 ∨ ((bl s).drop (k + 1)).head? = some 92)) := by
  rintro ⟨h1, h2⟩
  rw [at_cons s k h, h1] at he
  generalize (bl s).drop (k + 1) = l at *
  cases l with
  | nil => rcases h2 with h2 | h2 <;> cases h2
  | cons d l =>
    rcases h2 with h2 | h2
    · injection h2 with h2; subst h2; cases he
    · injection h2 with h2; subst h2; cases he

theorem Below.drewN {B : Nat} {w w' : World} (h : Below B w w') (n : Nat) : Below B w (w'.drewN n) := h.trans ⟨rfl, rfl, rfl, Nat.le_refl _, fun _ _ => rfl⟩
/-- What cutStar answers. -/
def csV (r : List UInt8 × List UInt8 × Bool) : Value := .tuple #[.string ⟨r.1.toArray⟩, .string ⟨r.2.1.toArray⟩, .bool r.2.2]
set_option maxRecDepth 100000 in
set_option maxHeartbeats 3200000 in
theorem cutStar_any (s : ByteArray) (w : World) (hs : s.size ≤ 35184372088832) :
    Calls Tryz.prog 15 #[.string s] w fun e w' => e = .returned (csV (cs (bl s))) ∧ Below w.heap.size w w' := by
  have hB0 : Hid (Bld w.heap.size w.heap.size [] (w.alloc (.cells #[.pointer none, .slice none 0 0] 77))) := Lib.IsBuilderF.of (Lib.fresh_isBuilder 77 5 w)
  have hM0 := hide ((Below.refl w.heap.size w).alloc (Nat.le_refl _) (.cells #[.pointer none, .slice none 0 0] 77))
  have HL : Hid (cs (bl s) = ([] ++ (cs ((bl s).drop 0)).1, (cs ((bl s).drop 0)).2)) := rfl
  generalize cs (bl s) = R at HL ⊢
  obtain ⟨V, hV⟩ : ∃ V, V = csV R := ⟨_, rfl⟩
  have HV := hide hV
  rw [← hV]
  clear hV
  go_enter Tryz.func15, Tryz.ntmps15
  go_wp2
  go_loopw [6] (fun i wr => ∃ (k : Nat) (acc : List UInt8), k ≤ s.size ∧ i = .int .i64 (k : Int) ∧ Hid (Bld w.heap.size w.heap.size acc wr) ∧ Hid (Below w.heap.size w wr) ∧ Hid (R = (acc ++ (cs ((bl s).drop k)).1, (cs ((bl s).drop k)).2)) ∧ acc.length ≤ k) (fun i _ => s.size - (intOf i).toNat)
  case atStart => exact ⟨0, [], Nat.zero_le _, rfl, hB0, hM0, HL, by simp⟩
  case round =>
    clear hB0 hM0 HL
    obtain ⟨k, acc, hk, rfl, hBd, hM, hL, hacc⟩ := hrel
    have hz := (unhide hM).size
    by_cases hlt : k < s.size
    · have hlt' : (k : Int) < (s.size : Int) := by omega
      have hsl1 : ∀ u : World, (Instr.slice 9 (.string s) (some (.int .i64 ((k : Int) + 1))) none none).run Tryz.prog u = .ok (.string (s.extract (k + 1) s.size)) u := fun u => run_slice_string_l u 9 s Tryz.underlying9 .i64 ((k : Int) + 1) (by omega) (by omega)
      have hsl0 : ∀ u : World, (Instr.slice 9 (.string s) (some (.int .i64 (k : Int))) none none).run Tryz.prog u = .ok (.string (s.extract k s.size)) u := fun u => run_slice_string_l u 9 s Tryz.underlying9 .i64 k (by omega) (by omega)
      have HC := hide (at_cons s k hlt)
      by_cases q : s[k] = 42
      · have q' : ((s[k].toNat : Int) == 42) = true := by rw [q]; rfl
        have hR : Hid (V = csV (acc, (bl s).drop (k + 1), true)) := by
          show V = _
          rw [unhide HV, unhide hL, unhide HC, q, cs_star]
          simp
        clear HC hL HV q
        have hx := ext_bl s (k + 1)
        rw [hx] at hsl1
        clear hx
        have hwr : IntKind.i64.wrap ((k : Int) + 1) = (k : Int) + 1 := IntWalk.i64_in _ ⟨by omega, by omega⟩
        go_wp2_with fail
        go_region_held3 (fun _ => True) (trivial) (first
          | (go_at_call 34; refine (Tryz.Builder_String_any_k w.heap.size w.heap.size acc _ (Bld.drewN (unhide hBd) 1) hz).mono ?_; rintro e u2 ⟨rfl, _, hb, _⟩))
        all_goals go_wp2
        all_goals go_ret3
        all_goals exact ⟨by rw [unhide hR]; rfl, (Below.drewN (unhide hM) 1).trans hb⟩
      · have q' : ((s[k].toNat : Int) == 42) = false := bne42 _ q
        have CE := hide (escapes_any (s.extract k s.size))
        rw [bl_ext] at CE
        cases he : esb ((bl s).drop k) with
        | true =>
          obtain ⟨h2, h92, hd⟩ := esb_yes s k hlt he
          have h2' : (k : Int) + 1 < (s.size : Int) := by omega
          have h3' : (0 : Int) ≤ (k : Int) + 1 := by omega
          rw [he] at CE
          have hR : Hid (R = ((acc ++ [s[k + 1]]) ++ (cs ((bl s).drop (k + 2))).1, (cs ((bl s).drop (k + 2))).2)) := by
            show R = _
            rw [unhide hL, unhide HC, h92, at_cons s (k + 1) h2, cs_esc _ _ hd]
            simp
          clear hL HC q he h92 hd hsl1
          go_wp2_with fail
          refine (unhide CE _).mono ?_
          rintro e u1 ⟨rfl, rfl⟩
          clear CE
          go_wp2_with fail
          refine (writeByte_any w.heap.size w.heap.size acc s[k + 1] _ (unhide hBd) (by omega) hz).mono ?_
          rintro e u2 ⟨rfl, hBd2, hb, _⟩
          have hBd2' := hide hBd2
          have hM2 := hide ((unhide hM).trans hb)
          clear hBd2 hb hBd hM
          go_wp2
          go_roundw
          case rel => exact ⟨k + 2, acc ++ [s[k + 1]], by omega, by go_num, hBd2', hM2, hR, by simp; omega⟩
          case measure => simp [intOf]; omega
        | false =>
          have hn := esb_no s k hlt he
          rw [he] at CE
          have hR : Hid (R = ((acc ++ [s[k]]) ++ (cs ((bl s).drop (k + 1))).1, (cs ((bl s).drop (k + 1))).2)) := by
            show R = _
            rw [unhide hL, unhide HC, cs_other _ _ q hn]
            simp
          clear hL HC q he hn hsl1
          go_wp2_with fail
          refine (unhide CE _).mono ?_
          rintro e u1 ⟨rfl, rfl⟩
          clear CE
          go_wp2_with fail
          refine (writeByte_any w.heap.size w.heap.size acc s[k] _ (unhide hBd) (by omega) hz).mono ?_
          rintro e u2 ⟨rfl, hBd2, hb, _⟩
          have hBd2' := hide hBd2
          have hM2 := hide ((unhide hM).trans hb)
          clear hBd2 hb hBd hM
          go_wp2
          go_roundw
          case rel => exact ⟨k + 1, acc ++ [s[k]], by omega, by go_num, hBd2', hM2, hR, by simp; omega⟩
          case measure => simp [intOf]; omega
    · have hlt' : ¬ (k : Int) < (s.size : Int) := by omega
      have hR : Hid (V = csV (acc, [], false)) := by
        show V = _
        rw [unhide HV, unhide hL, List.drop_of_length_le (by rw [bl_len]; omega)]
        simp [cs]
      clear hL HV
      go_wp2_with fail
      refine (Tryz.Builder_String_any_k w.heap.size w.heap.size acc _ (unhide hBd) hz).mono ?_
      rintro e u2 ⟨rfl, _, hb, _⟩
      go_wp2
      go_ret3
      exact ⟨by rw [unhide hR]; rfl, (unhide hM).trans hb⟩
end Go.Proofs.YthpnclhfooileaaGreatDoor.ru
