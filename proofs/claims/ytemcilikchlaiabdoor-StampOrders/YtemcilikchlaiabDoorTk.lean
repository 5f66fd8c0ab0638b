/- Package stamp: padded, fractionText. -/
import Derived.Test.YtemcilikchlaiabDoorTb
import Derived.Test.YtemcilikchlaiabDoorShelf
import Derived.Lib.ItoaNum
import Derived.Lib.Repeat
namespace Go.Proofs.YtemcilikchlaiabDoor.st
open Go.RowKit

theorem rep_one (c : UInt8) (k : Nat) : Lib.repeatL [c] k = List.replicate k c := by
  induction k with
  | zero => rfl
  | succ k ih => unfold Lib.repeatL; rw [ih]; rfl
theorem digs_nought (k : Nat) : digs k 0 = List.replicate k 48 := by
  induction k with
  | zero => rfl
  | succ k ih =>
    unfold digs
    rw [show 0 / 10 = 0 from rfl, ih, List.replicate_succ']
    rfl
theorem dec_fits (k n : Nat) (h : n < 10 ^ (k + 1)) : (Lib.decDigits n).length ≤ k + 1 ∧ List.replicate (k + 1 - (Lib.decDigits n).length) 48 ++ Lib.decDigits n = digs (k + 1) n := by
  induction k generalizing n with
  | zero =>
    rw [Lib.decDigits_one (by omega)]
    refine ⟨by simp, ?_⟩
    unfold digs digs
    rw [show n % 10 = n by omega]
    rfl
  | succ k ih =>
    rcases Nat.lt_or_ge n 10 with q | q
    · rw [Lib.decDigits_one q]
      refine ⟨by simp, ?_⟩
      conv => rhs; unfold digs
      rw [show n / 10 = 0 by omega, digs_nought, show n % 10 = n by omega]
      rfl
    · have e : Lib.decDigits n = Lib.decDigits (n / 10) ++ [UInt8.ofNat (48 + n % 10)] := by
        conv => lhs; rw [Lib.decDigits, dif_neg (by omega)]
      obtain ⟨a, b⟩ := ih (n / 10) (by rw [Nat.pow_succ] at h; omega)
      rw [e, List.length_append]
      simp only [List.length_cons, List.length_nil]
      refine ⟨by omega, ?_⟩
      conv => rhs; unfold digs
      rw [← b, ← List.append_assoc, show k + 1 + 1 - ((Lib.decDigits (n / 10)).length + (0 + 1)) = k + 1 - (Lib.decDigits (n / 10)).length by omega]

set_option maxRecDepth 100000 in
set_option maxHeartbeats 3200000 in
theorem padded_any (n k : Nat) (ni ki : Int) (hni : ni = (n : Int)) (hki : ki = (k : Int)) (hk1 : 1 ≤ k) (hk9 : k ≤ 9) (hn : n < 10 ^ k) (w : World) (hP : Pow w) :
    Calls Tryd.prog 29 #[.int .i64 ni, .int .i64 ki] w fun e w' => e = .returned (.string ⟨(digs k n).toArray⟩) ∧ Below w.heap.size w w' := by
  subst hni hki
  obtain ⟨j, rfl⟩ : ∃ j, k = j + 1 := ⟨k - 1, by omega⟩
  obtain ⟨hl, he⟩ := dec_fits j n hn
  have hn9 : n < 1000000000 := Nat.lt_of_lt_of_le hn (Nat.pow_le_pow_right (n := 10) (by omega) hk9)
  have T := hide (Tryd.strconv_Itoa n (by omega) (by omega) w hP)
  have e0 : Lib.itoa (n : Int) = Lib.decDigits n := by unfold Lib.itoa; rw [if_neg (by omega)]; rfl
  rw [e0] at T
  clear e0 hn hP
  have R := hide (fun w => Tryd.strings_Repeat ⟨#[48]⟩ (j + 1 - (Lib.decDigits n).length) w (by omega) (by show 1 * _ ≤ _; omega))
  rw [show (⟨#[48]⟩ : ByteArray).data.toList = [48] from rfl, rep_one] at R
  have hsz : (⟨(Lib.decDigits n).toArray⟩ : ByteArray).size = (Lib.decDigits n).length := List.size_toArray
  have hsz2 : (⟨(List.replicate (j + 1 - (Lib.decDigits n).length) (48 : UInt8)).toArray⟩ : ByteArray).size = j + 1 - (Lib.decDigits n).length := by
    show (List.replicate _ _).toArray.size = _
    simp
  have hcat : (⟨(List.replicate (j + 1 - (Lib.decDigits n).length) (48 : UInt8)).toArray⟩ : ByteArray) ++ ⟨(Lib.decDigits n).toArray⟩ = ⟨(digs (j + 1) n).toArray⟩ := by
    rw [← he]
    apply ByteArray.ext
    simp
  obtain ⟨z, hz⟩ : ∃ z, j + 1 - (Lib.decDigits n).length = z := ⟨_, rfl⟩
  rw [hz] at R hsz2 hcat
  generalize (Lib.decDigits n).length = m at *
  generalize (⟨(List.replicate z (48 : UInt8)).toArray⟩ : ByteArray) = zs at *
  generalize (⟨(Lib.decDigits n).toArray⟩ : ByteArray) = ds at *
  generalize (⟨(digs (j + 1) n).toArray⟩ : ByteArray) = out at *
  have hmax : max (0 : Int) ((j + 1 : Nat) - (ds.size : Int)) = (z : Int) := by omega
  have hcc : ∀ u : World, (Op.stringOp .add zs ds).run Tryd.prog u = .ok (.string out) u := fun u => by rw [← hcat]; exact run_string_add_sum u _ _ (by omega)
  clear he hcat
  go_enter Tryd.func29, Tryd.ntmps29
  go_wp2_with fail
  refine (unhide T).mono ?_
  rintro e w1 ⟨rfl, q, os, hw⟩
  have HB := hide (show Below w.heap.size w w1 by subst hw; exact Lib.below_grow w.heap.size w (Nat.le_refl _) q os)
  clear hw T
  go_wp2_with fail
  rw [show max (0 : Int) ((j : Int) + 1 - (m : Int)) = (z : Int) by omega]
  refine (unhide R _).mono ?_
  rintro e w2 ⟨rfl, hb2⟩
  have HB2 := hide ((unhide HB).trans (hb2.mono (unhide HB).size))
  clear R HB hb2
  go_wp2
  go_ret
  exact ⟨rfl, unhide HB2⟩

def fracB (n : Nat) : ByteArray := ⟨(if n = 0 then [] else [46] ++ cut0 (digs 9 n)).toArray⟩
theorem cut0_le (l : List UInt8) : (cut0 l).length ≤ l.length := by
  unfold cut0
  rw [List.length_reverse]
  have := (List.dropWhile_sublist (fun c => c == 48) (l := l.reverse)).length_le
  rwa [List.length_reverse] at this
set_option maxRecDepth 100000 in
set_option maxHeartbeats 3200000 in
theorem fractionText_any (n : Nat) (ni : Int) (hni : ni = (n : Int)) (hn : n < 1000000000) (w : World) (hP : Pow w) :
    Calls Tryd.prog 17 #[.int .i64 ni] w fun e w' => e = .returned (.string (fracB n)) ∧ Below w.heap.size w w' := by
  subst hni
  unfold fracB
  by_cases h0 : n = 0
  · subst h0
    rw [if_pos rfl]
    go_enter Tryd.func17, Tryd.ntmps17
    go_wp2
    go_ret
    exact ⟨rfl, Below.refl _ _⟩
  · rw [if_neg h0]
    have h0' : ((n : Int) == 0) = false := by rw [beq_eq_false_iff_ne]; omega
    have Pd := hide (padded_any n 9 n 9 rfl rfl (by omega) (by omega) hn w hP)
    have hlen := digs_len 9 n
    have hc := cut0_le (digs 9 n)
    have T := hide (fun w => Tryd.strings_TrimRight_one ⟨(digs 9 n).toArray⟩ 48 (by decide) w (by show (digs 9 n).toArray.size ≤ _; rw [List.size_toArray]; omega))
    rw [show Lib.trimRightB (⟨(digs 9 n).toArray⟩ : ByteArray).data.toList 48 = cut0 (digs 9 n) from rfl] at T
    have hsz : (⟨(cut0 (digs 9 n)).toArray⟩ : ByteArray).size ≤ 9 := by show (cut0 (digs 9 n)).toArray.size ≤ _; rw [List.size_toArray]; omega
    have i1 : (⟨#[46]⟩ : ByteArray).size = 1 := rfl
    have hcat : (⟨#[46]⟩ : ByteArray) ++ ⟨(cut0 (digs 9 n)).toArray⟩ = ⟨([46] ++ cut0 (digs 9 n)).toArray⟩ := by
      apply ByteArray.ext
      simp
    generalize (⟨([46] ++ cut0 (digs 9 n)).toArray⟩ : ByteArray) = out at *
    generalize (⟨(cut0 (digs 9 n)).toArray⟩ : ByteArray) = cs at *
    generalize (⟨(digs 9 n).toArray⟩ : ByteArray) = ds at *
    have hcc : ∀ u : World, (Op.stringOp .add ⟨#[46]⟩ cs).run Tryd.prog u = .ok (.string out) u := fun u => by rw [← hcat]; exact run_string_add_sum u _ _ (by omega)
    clear hcat hc hlen h0 hsz i1 hP
    go_enter Tryd.func17, Tryd.ntmps17
    go_wp2_with fail
    refine (unhide Pd).mono ?_
    rintro e w1 ⟨rfl, hb1⟩
    have HB := hide hb1
    clear Pd hb1
    go_wp2_with fail
    refine (unhide T _).mono ?_
    rintro e w2 ⟨rfl, hw2⟩
    obtain rfl := hw2.symm
    clear T hw2
    go_wp2
    go_ret
    exact ⟨rfl, unhide HB⟩
end Go.Proofs.YtemcilikchlaiabDoor.st
