/- The contracts of Of, wholeSize, signed, Floor and Int. -/
import Derived.Test.YteenfgomanhjkaaDoorFm
namespace Go.Proofs.YteenfgomanhjkaaDoor.rd
open Go.RowKit

theorem format_any (n : Int) (w : World) (h0 : -9223372036854775808 ≤ n) (h1 : n ≤ 9223372036854775807) (hp : Pow w) :
    Calls Tryd.prog 24 #[.int .i64 n, .int .i64 10] w fun e w' => e = .returned (.string (itoaB n)) ∧ Below w.heap.size w w' :=
  (Tryd.strconv_FormatInt_10 n h0 h1 w hp).mono fun _ _ ⟨he, k, os, hw⟩ => ⟨he, by subst hw; exact Lib.below_grow w.heap.size w (Nat.le_refl _) k os⟩

theorem dec_len2 (u k : Nat) (h : u < 10 ^ (k + 1)) : (Lib.decDigits u).length ≤ k + 1 := by
  induction k generalizing u with
  | zero =>
    rw [Lib.decDigits, dif_pos (by simpa using h)]
    simp
  | succ k ih =>
    rw [Lib.decDigits]
    split
    · simp
    · rw [List.length_append]
      have := ih (u / 10) (by rw [Nat.pow_succ] at h; omega)
      simp only [List.length_cons, List.length_nil]
      omega
theorem itoa_len (n : Int) (h0 : -9223372036854775808 ≤ n) (h1 : n ≤ 9223372036854775807) : (itoaB n).size ≤ 20 := by
  have e : (itoaB n).size = (Lib.itoa n).length := by unfold itoaB; exact List.size_toArray
  rw [e]
  unfold Lib.itoa
  split
  · have := dec_len2 n.natAbs 18 (by omega)
    simp only [List.length_cons]; omega
  · have := dec_len2 n.toNat 18 (by omega)
    omega

/-- What Of answers. -/
def ofN (v : Int) : Dn := norm ⟨decide (v < 0), itoaB v, 0⟩

theorem ret_of {m : Nat} (w : World) (d : Dn) (h : DLies w m d) (tmps : Array Value) (ht : tmps[2]?.getD undef = .pointer (some ⟨m, 0, none⟩)) :
    (results Tryd.f9 tmps).run Tryd.prog w = .ok (dv d) w := by
  obtain ⟨q0, q1, q2⟩ := h.cells
  simp [results, Tryd.results9, ht, go_sem, q0, q1, q2, dv]

set_option maxRecDepth 100000 in
set_option maxHeartbeats 1600000 in
theorem of_any (v : Int) (w : World) (h0 : -9223372036854775808 ≤ v) (h1 : v ≤ 9223372036854775807) (hp : Pow w) :
    Calls Tryd.prog 9 #[.int .i64 v] w fun e w' => e = .returned (dv (ofN v)) ∧ Below w.heap.size w w' := by
  have hl := itoa_len v h0 h1
  have C1 := hide (fun w hp => format_any v w h0 h1 hp)
  have c2 := fun w => norm_any ⟨decide (v < 0), itoaB v, 0⟩ w (by simp only; omega) (by simp only; omega) (by simp only; omega)
  have e : norm ⟨decide (v < 0), itoaB v, 0⟩ = ofN v := rfl
  rw [e] at c2
  generalize ofN v = r at *
  generalize itoaB v = s at *
  obtain ⟨rn, rg, rx⟩ := r
  simp only [dv] at c2 ⊢
  have C2 := hide c2
  have HP := hide hp
  clear c2 e hp
  go_enter Tryd.func9, Tryd.ntmps9
  go_wp2_with fail
  refine (unhide C1 _ ((unhide HP).keep ((Below.refl _ _).alloc (Nat.le_refl _) _))).mono ?_
  rintro e w1 ⟨rfl, hb1⟩
  have l1 : DLies w1 w.heap.size zed := (dlies_new w zed).below hb1 (by simp)
  have B1 : Below w.heap.size w w1 := ((Below.refl _ _).alloc (Nat.le_refl _) _).trans (hb1.mono (by simp))
  clear hb1
  go_wp2_with fail
  refine (unhide C2 _).mono ?_
  rintro e w2 ⟨rfl, hb2⟩
  have l2 := l1.below hb2 (blk_lt l1)
  have B2 : Below w.heap.size w w2 := B1.trans (hb2.mono B1.size)
  obtain ⟨q0, q1, q2⟩ := l2.cells
  obtain ⟨f0, f1, f2⟩ := l2.frees
  simp only [zed] at q0 q1 q2
  clear hb2 B1
  go_wp2
  exact bodyPost_ret (ret_of _ ⟨rn, rg, rx⟩ (l2.set rn rg rx) _ rfl) rfl ⟨rfl, below3 B2 (Nat.le_refl _) _ _ _⟩

theorem signed_any (neg : Bool) (s : Int) (w : World) (h0 : 0 ≤ s) (h1 : s ≤ 10000000000000000000) :
    Calls Tryd.prog 27 #[.bool neg, .int .u64 s] w fun e w' => e = .returned (.tuple #[.int .i64 (sgV neg s).1, .bool (sgV neg s).2]) ∧ w' = w := by
  have HS : Hid (sgV neg s = fitI (if neg then -s else s)) := rfl
  generalize sgV neg s = r at HS ⊢
  cases neg with
  | true =>
    by_cases hc : s ≤ 9223372036854775808
    · have hr : r = (-s, true) := by rw [HS.out]; exact if_pos (by simp only [if_true]; omega)
      subst hr
      have hw : IntKind.i64.wrap (IntKind.u64.wrap (-s)) = -s := by
        simp [IntKind.wrap, IntKind.bits, IntKind.signed]
        omega
      clear HS
      go_enter Tryd.func27, Tryd.ntmps27
      go_wp2
      go_ret2
      exact ⟨rfl, rfl⟩
    · have hr : r = (0, false) := by rw [HS.out]; exact if_neg (by simp only [if_true]; omega)
      subst hr
      clear HS
      go_enter Tryd.func27, Tryd.ntmps27
      go_wp2
      go_ret2
      exact ⟨rfl, rfl⟩
  | false =>
    by_cases hc : s < 9223372036854775808
    · have hr : r = (s, true) := by rw [HS.out]; exact if_pos (by simp only [Bool.false_eq_true, if_false]; omega)
      subst hr
      clear HS
      go_enter Tryd.func27, Tryd.ntmps27
      go_wp2
      go_ret2
      exact ⟨rfl, rfl⟩
    · have hr : r = (0, false) := by rw [HS.out]; exact if_neg (by simp only [Bool.false_eq_true, if_false]; omega)
      subst hr
      clear HS
      go_enter Tryd.func27, Tryd.ntmps27
      go_wp2
      go_ret2
      exact ⟨rfl, rfl⟩

set_option maxRecDepth 100000 in
set_option maxHeartbeats 1600000 in
/-- The loop that adds the digits up. -/
theorem addup (s : ByteArray) (hz : s.size ≤ 19) (hd : AllDig s) (i : Nat) (hi : i < s.size) : valM (s.data.toList.take (i + 1)) = valM (s.data.toList.take i) * 10 + ((s[i].toNat : Int) - 48) ∧ 0 ≤ valM (s.data.toList.take i) ∧ valM (s.data.toList.take i) < 1000000000000000000 := by
  have hl := len_list s
  have hi' : i < s.data.toList.length := by omega
  refine ⟨?_, ?_, ?_⟩
  · rw [List.take_succ_eq_append_getElem hi', valM_append, valM_one]
    have : s.data.toList[i] = s[i] := rfl
    rw [this]
    unfold fz
    simp only [List.length_cons, List.length_nil]
    omega
  · exact valM_nonneg (fun c hc => hd c (List.mem_of_mem_take hc))
  · have h1 := valM_lt (l := s.data.toList.take i) (fun c hc => hd c (List.mem_of_mem_take hc))
    rw [List.length_take, Nat.min_eq_left (by omega)] at h1
    have h2 := pow_mono (show i ≤ 18 by omega)
    have h3 : (10 : Int) ^ 18 = 1000000000000000000 := by decide
    omega

set_option maxRecDepth 100000 in
set_option maxHeartbeats 1600000 in
theorem wholeSize_any (n : Dn) (w : World) (hs : n.dg.size ≤ 1099511627776) (h0 : -9999 ≤ n.ex) (h1 : n.ex ≤ 9999) (ht : topN n ≤ 19) (hd : AllDig n.dg) :
    Calls Tryd.prog 26 #[dv n] w fun e w' => e = .returned (.int .u64 (wsize n)) ∧ Below w.heap.size w w' := by
  have hz := wholeB_size n ht
  have hdg := wholeB_dig n hd
  have hval := wholeB_val n hd
  have T1 := hide (fun w => top_any n w (by omega) (by omega) (by omega))
  have AU := hide (fun i hi => addup (wholeB n) hz hdg i hi)
  have AD := hide (fun i (hi : i < (wholeB n).size) => AllDig.at hdg i hi)
  have HB : Hid (wholeB n = if n.ex < 0 then n.dg.extract 0 (max 0 (topN n)).toNat else n.dg ++ zeros n.ex.toNat) := rfl
  have HV : Hid (valM ((wholeB n).data.toList.take (wholeB n).size) = wsize n) := by
    show valM _ = _
    rw [List.take_of_length_le (by rw [len_list]; omega)]
    exact hval
  generalize wsize n = res at *
  unfold topN at ht HB
  obtain ⟨nn, ng, nx⟩ := n
  simp only [dv] at T1 HB hs h0 h1 ht ⊢
  generalize wholeB ⟨nn, ng, nx⟩ = s at *
  clear hval hdg hd
  have R1 := hide (fun w (h : 0 ≤ nx) => repeat_any nx.toNat w (by omega))
  have fin : ∀ (w0 : World) (hb : Below w.heap.size w w0), True := fun _ _ => trivial
  clear fin
  by_cases hx : nx < 0
  · have hsB : s = ng.extract 0 (max 0 ((ng.size : Int) + nx)).toNat := by rw [HB.out, if_pos hx]
    have hsl : ∀ u : World, (Instr.slice 9 (.string ng) none (some (.int .i64 (max 0 ((ng.size : Int) + nx)))) none).run Tryd.prog u = .ok (.string s) u := fun u => by
      rw [hsB]
      have := run_slice_string_h u 9 ng Tryd.underlying9 .i64 (max 0 ((ng.size : Int) + nx)) (by omega) (by omega)
      exact this
    have HS := hide hsB
    clear hsB HB
    go_enter Tryd.func26, Tryd.ntmps26
    go_wp2_with fail
    refine (unhide T1 _).mono ?_
    rintro e w1 ⟨rfl, hb1⟩
    have B1 : Below w.heap.size w w1 := ((Below.refl _ _).alloc (Nat.le_refl _) _).trans (hb1.mono (by simp))
    clear hb1
    go_wp2
    go_loopw [4, 23] (fun t i wr => ∃ k : Nat, k ≤ s.size ∧ i = .int .i64 (k : Int) ∧ t = .int .u64 (valM (s.data.toList.take k)) ∧ Below w.heap.size w wr)
      (fun _ i _ => s.size - (intOf i).toNat)
    case atStart => exact ⟨0, by omega, rfl, rfl, B1⟩
    case round =>
      obtain ⟨k, hk, rfl, rfl, hbel⟩ := hrel
      by_cases hlt : k < s.size
      · have hlt' : (k : Int) < (s.size : Int) := by omega
        obtain ⟨a1, a2, a3⟩ := unhide AU k hlt
        obtain ⟨b1, b2⟩ := unhide AD k hlt
        have b1' : (48 : Int) ≤ (s[k].toNat : Int) := by omega
        have b2' : (s[k].toNat : Int) ≤ 57 := by omega
        have HA := hide a1
        generalize valM (s.data.toList.take k) = q at *
        clear a1 b1 b2
        go_wp2
        go_roundw
        case rel => exact ⟨k + 1, by omega, by go_num, by rw [unhide HA], hbel⟩
        case measure => simp [intOf]; omega
      · have hk2 : k = s.size := by omega
        have HE : Hid (valM (s.data.toList.take k) = res) := by
          show valM _ = _
          rw [hk2]; exact unhide HV
        have hlt' : ¬ (k : Int) < (s.size : Int) := by omega
        generalize valM (s.data.toList.take k) = q at *
        clear hk2
        go_wp2
        go_ret
        exact ⟨by rw [← unhide HE]; rfl, hbel⟩
  · have hsB : s = ng ++ zeros nx.toNat := by rw [HB.out, if_neg hx]
    have hz2 := zeros_size nx.toNat
    have hcat : ∀ u : World, (Op.stringOp .add ng (zeros nx.toNat)).run Tryd.prog u = .ok (.string s) u := fun u => by
      rw [hsB]; exact run_string_add_sum u _ _ (by omega)
    have HS := hide hsB
    have en : ((nx.toNat : Nat) : Int) = nx := by omega
    have R2 := hide (fun w => unhide R1 w (by omega))
    rw [en] at R2
    generalize zeros nx.toNat = zz at *
    clear hsB HB R1 en
    go_enter Tryd.func26, Tryd.ntmps26
    go_wp2_with fail
    refine (unhide R2 _).mono ?_
    rintro e w1 ⟨rfl, hb1⟩
    have B1 : Below w.heap.size w w1 := ((Below.refl _ _).alloc (Nat.le_refl _) _).trans (hb1.mono (by simp))
    clear hb1
    go_wp2
    go_loopw [4, 23] (fun t i wr => ∃ k : Nat, k ≤ s.size ∧ i = .int .i64 (k : Int) ∧ t = .int .u64 (valM (s.data.toList.take k)) ∧ Below w.heap.size w wr)
      (fun _ i _ => s.size - (intOf i).toNat)
    case atStart => exact ⟨0, by omega, rfl, rfl, B1⟩
    case round =>
      obtain ⟨k, hk, rfl, rfl, hbel⟩ := hrel
      by_cases hlt : k < s.size
      · have hlt' : (k : Int) < (s.size : Int) := by omega
        obtain ⟨a1, a2, a3⟩ := unhide AU k hlt
        obtain ⟨b1, b2⟩ := unhide AD k hlt
        have b1' : (48 : Int) ≤ (s[k].toNat : Int) := by omega
        have b2' : (s[k].toNat : Int) ≤ 57 := by omega
        have HA := hide a1
        generalize valM (s.data.toList.take k) = q at *
        clear a1 b1 b2
        go_wp2
        go_roundw
        case rel => exact ⟨k + 1, by omega, by go_num, by rw [unhide HA], hbel⟩
        case measure => simp [intOf]; omega
      · have hk2 : k = s.size := by omega
        have HE : Hid (valM (s.data.toList.take k) = res) := by
          show valM _ = _
          rw [hk2]; exact unhide HV
        have hlt' : ¬ (k : Int) < (s.size : Int) := by omega
        generalize valM (s.data.toList.take k) = q at *
        clear hk2
        go_wp2
        go_ret
        exact ⟨by rw [← unhide HE]; rfl, hbel⟩
end Go.Proofs.YteenfgomanhjkaaDoor.rd
