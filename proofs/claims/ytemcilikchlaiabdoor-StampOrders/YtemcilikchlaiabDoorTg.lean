/- Package stamp: the reader: fraction, offset. -/
import Derived.Test.YtemcilikchlaiabDoorTf
namespace Go.Proofs.YtemcilikchlaiabDoor.st
open Go.RowKit

def frV (s : ByteArray) : Nat := if preB s (m1 46) = true then dgV 9 0 (cutP s (m1 46)).data.toList * 10 ^ (9 - dgN 9 (cutP s (m1 46)).data.toList) else 0
def frS (s : ByteArray) : ByteArray := if preB s (m1 46) = true then dropB (cutP s (m1 46)) (dgN 9 (cutP s (m1 46)).data.toList) else cutP s (m1 46)
def frX (s : ByteArray) (x : Bool) : Bool := if preB s (m1 46) = true then x || decide (dgN 9 (cutP s (m1 46)).data.toList = 0) else x

set_option maxRecDepth 100000 in
set_option maxHeartbeats 3200000 in
theorem fraction_any (rb : Nat) (s : ByteArray) (x : Bool) (w : World) (h : RL w rb s x) (hs : s.size ≤ 9223372036854775807) :
    Calls Tryd.prog 19 #[.pointer (some ⟨rb, 0, none⟩)] w fun e w' => e = .returned (.int .i64 (frV s : Nat)) ∧ RL w' rb (frS s) (frX s x) ∧ Mv rb w w' := by
  have T := hide (take_any rb s ⟨#[46]⟩ x w h)
  have hs1 := cutP_le s (m1 46)
  have M := hide (fun w1 (h1 : RL w1 rb (cutP s (m1 46)) x) => number_any rb (cutP s (m1 46)) x 9 9 rfl (by omega) w1 h1 (by omega))
  have hdn := (dgN_le 9 (cutP s (m1 46)).data.toList).1
  have hdv := dgV_lt 9 0 (cutP s (m1 46)).data.toList
  clear h
  unfold frV frS frX
  have e1 : cutP s ⟨#[46]⟩ = cutP s (m1 46) := rfl
  have e2 : preB s ⟨#[46]⟩ = preB s (m1 46) := rfl
  rw [e1, e2] at T
  clear e1 e2
  generalize cutP s (m1 46) = s1 at *
  generalize dgV 9 0 s1.data.toList = v at *
  generalize dgN 9 s1.data.toList = c at *
  rw [show (0 + 1) * 10 ^ 9 = 1000000000 from rfl] at hdv
  cases hb : preB s (m1 46)
  · rw [hb] at T
    simp only [Bool.false_eq_true, if_false]
    clear hb M
    go_enter Tryd.func19, Tryd.ntmps19
    go_wp2_with fail
    refine (unhide T).mono ?_
    rintro e w1 ⟨rfl, h1, hu1⟩
    have HL := hide h1
    have HU := hide hu1
    clear T h1 hu1
    go_wp2
    go_ret
    exact ⟨rfl, unhide HL, Mv.of_upd (unhide HU)⟩
  · rw [hb] at T
    simp only [if_true]
    clear hb
    obtain ⟨res, hres⟩ : ∃ r, v * 10 ^ (9 - c) = r := ⟨_, rfl⟩
    have HR := hide hres
    rw [hres]
    clear hres
    have HX : Hid (∃ x2 : Bool, (x || decide (c = 0)) = x2 ∧ x2 = (if c = 0 then true else x)) := ⟨_, rfl, by by_cases q : c = 0 <;> simp [q]⟩
    obtain ⟨x2, hx2, hx3⟩ := unhide HX
    rw [hx2]
    clear hx2 HX
    have HX3 := hide hx3
    clear hx3
    go_enter Tryd.func19, Tryd.ntmps19
    go_wp2_with fail
    refine (unhide T).mono ?_
    rintro e w1 ⟨rfl, h1, hu1⟩
    have M1 := hide (unhide M w1 h1)
    have HU := hide hu1
    clear T h1 hu1 M
    go_wp2_with fail
    refine (unhide M1).mono ?_
    rintro e w2 ⟨rfl, h2, hu2⟩
    have HU2 := hide ((unhide HU).trans hu2)
    obtain ⟨f0, f1⟩ := h2.frees
    obtain ⟨r0, r1⟩ := h2.cells
    have HL := hide h2
    clear M1 hu2 h2 HU
    have hmul : ∀ k : Nat, c ≤ k → k < 9 → v * 10 ^ (k - c) * 10 = v * 10 ^ (k + 1 - c) := fun k h1 h2 => by rw [show k + 1 - c = k - c + 1 by omega, Nat.pow_succ, Nat.mul_assoc]
    have hbd : ∀ k : Nat, k < 9 → v * 10 ^ (k - c) ≤ 100000000000000000 := fun k h1 => by
      have a := Nat.pow_le_pow_right (n := 10) (by omega) (show k - c ≤ 8 by omega)
      have b := Nat.mul_le_mul (show v ≤ 1000000000 by omega) a
      exact Nat.le_trans b (by decide)
    have HM := hide hmul
    have HD := hide hbd
    clear hmul hbd
    by_cases hc : c = 0
    · subst hc
      rw [if_pos rfl] at HX3
      have HL2 := hide (show RL (w2.setCell ⟨rb, 1, none⟩ (.bool true)) rb (dropB s1 0) x2 by rw [unhide HX3]; exact (unhide HL).set1 true)
      have HU3 := hide ((unhide HU2).trans (Upd.setCell rb 1 w2 (.bool true)))
      clear HX3 HL HU2
      go_wp2
      go_loop [3, 4] (fun vv i => ∃ k : Nat, 0 ≤ k ∧ k ≤ 9 ∧ i = .int .i64 (k : Int) ∧ vv = .int .i64 (v * 10 ^ (k - 0) : Nat)) (fun _ i => 9 - (intOf i).toNat)
      case atStart => exact ⟨0, by omega, by omega, rfl, by rw [Nat.sub_self]; simp⟩
      case round =>
        obtain ⟨k, hk1, hk2, rfl, rfl⟩ := hrel
        by_cases hk : k < 9
        · have e1 : (k : Int) < 9 := by omega
          have h1 := unhide HM k hk1 hk
          have h2 := unhide HD k hk
          have H1 := hide h1
          clear h1
          generalize v * 10 ^ (k - 0) = z at *
          go_wp2
          exact ⟨⟨k + 1, by omega, by omega, by go_num, by rw [← unhide H1]; congr 1⟩, by simp [intOf]; omega⟩
        · have e1 : ¬ (k : Int) < 9 := by omega
          have hk9 : k = 9 := by omega
          have HR2 := hide (show v * 10 ^ (k - 0) = res by rw [hk9]; exact unhide HR)
          clear HR HM HD hk9
          generalize v * 10 ^ (k - 0) = z at *
          go_wp2
          go_ret
          exact ⟨by rw [← unhide HR2]; rfl, unhide HL2, Mv.of_upd (unhide HU3)⟩
    · have hc' : ((c : Int) == 0) = false := by rw [beq_eq_false_iff_ne]; omega
      rw [if_neg hc] at HX3
      have HL2 := hide (show RL w2 rb (dropB s1 c) x2 by rw [unhide HX3]; exact (unhide HL))
      clear HX3 HL
      go_wp2
      go_loop [3, 4] (fun vv i => ∃ k : Nat, c ≤ k ∧ k ≤ 9 ∧ i = .int .i64 (k : Int) ∧ vv = .int .i64 (v * 10 ^ (k - c) : Nat)) (fun _ i => 9 - (intOf i).toNat)
      case atStart => exact ⟨c, by omega, by omega, rfl, by rw [Nat.sub_self]; simp⟩
      case round =>
        obtain ⟨k, hk1, hk2, rfl, rfl⟩ := hrel
        by_cases hk : k < 9
        · have e1 : (k : Int) < 9 := by omega
          have h1 := unhide HM k hk1 hk
          have h2 := unhide HD k hk
          have H1 := hide h1
          clear h1
          generalize v * 10 ^ (k - c) = z at *
          go_wp2
          exact ⟨⟨k + 1, by omega, by omega, by go_num, by rw [← unhide H1]; congr 1⟩, by simp [intOf]; omega⟩
        · have e1 : ¬ (k : Int) < 9 := by omega
          have hk9 : k = 9 := by omega
          have HR2 := hide (show v * 10 ^ (k - c) = res by rw [hk9]; exact unhide HR)
          clear HR HM HD hk9
          generalize v * 10 ^ (k - c) = z at *
          go_wp2
          go_ret
          exact ⟨by rw [← unhide HR2]; rfl, unhide HL2, Mv.of_upd (unhide HU2)⟩

def ofA (s : ByteArray) : Bool := preB (cutP s (m1 90)) (m1 43)
def ofS (s : ByteArray) : ByteArray := if ofA s = true then cutP (cutP s (m1 90)) (m1 43) else cutP (cutP (cutP s (m1 90)) (m1 43)) (m1 45)
def ofX (s : ByteArray) (x : Bool) : Bool := if ofA s = true then x else x || !(preB (cutP (cutP s (m1 90)) (m1 43)) (m1 45))
def ofH (s : ByteArray) : Nat := partV m0 2 (ofS s)
def ofT (s : ByteArray) : ByteArray := partS m0 2 (ofS s)
def ofM (s : ByteArray) : Nat := partV (m1 58) 2 (ofT s)
def ofO (s : ByteArray) : Int := if ofH s ≤ 23 ∧ ofM s ≤ 59 then ofH s * 3600 + ofM s * 60 else 0
def offV (s : ByteArray) : Int := if preB s (m1 90) = true then 0 else if ofA s = true then ofO s else -(ofO s)
def offS (s : ByteArray) : ByteArray := if preB s (m1 90) = true then cutP s (m1 90) else partS (m1 58) 2 (ofT s)
def offX (s : ByteArray) (x : Bool) : Bool := if preB s (m1 90) = true then x else partX (m1 58) 2 (ofT s) (partX m0 2 (ofS s) (ofX s x)) || !decide (ofH s ≤ 23 ∧ ofM s ≤ 59)
theorem partV_lt (m : ByteArray) (s : ByteArray) : partV m 2 s < 100 := by
  have := dgV_lt 2 0 (cutP s m).data.toList
  exact this
theorem secV_of (h m : Nat) : secV h m 0 = if h ≤ 23 ∧ m ≤ 59 then .tuple #[.int .i64 ((h : Int) * 3600 + (m : Int) * 60), .bool true] else .tuple #[.int .i64 0, .bool false] := by
  unfold secV
  by_cases q : h ≤ 23 ∧ m ≤ 59
  · rw [if_pos q, if_pos (by omega), Int.add_zero]
  · rw [if_neg q, if_neg (by omega)]

set_option maxRecDepth 100000 in
set_option maxHeartbeats 3200000 in
theorem offset_tail (rb : Nat) (s : ByteArray) (x : Bool) (w : World) (h : RL w rb s x) (hs : s.size ≤ 9223372036854775807) (hz : preB s (m1 90) = false) :
    Calls Tryd.prog 20 #[.pointer (some ⟨rb, 0, none⟩)] w fun e w' => e = .returned (.int .i64 (offV s)) ∧ RL w' rb (offS s) (offX s x) ∧ Mv rb w w' := by
  have T := hide (take_any rb s ⟨#[90]⟩ x w h)
  rw [show preB s ⟨#[90]⟩ = false from hz] at T
  rw [show cutP s ⟨#[90]⟩ = cutP s (m1 90) from rfl] at T
  have T2 := hide (fun w1 (h1 : RL w1 rb (cutP s (m1 90)) x) => take_any rb (cutP s (m1 90)) ⟨#[43]⟩ x w1 h1)
  rw [show preB (cutP s (m1 90)) ⟨#[43]⟩ = ofA s from rfl, show cutP (cutP s (m1 90)) ⟨#[43]⟩ = cutP (cutP s (m1 90)) (m1 43) from rfl] at T2
  have T3 := hide (fun w1 (h1 : RL w1 rb (cutP (cutP s (m1 90)) (m1 43)) x) => need_any rb (cutP (cutP s (m1 90)) (m1 43)) ⟨#[45]⟩ x w1 h1)
  rw [show preB (cutP (cutP s (m1 90)) (m1 43)) ⟨#[45]⟩ = preB (cutP (cutP s (m1 90)) (m1 43)) (m1 45) from rfl, show cutP (cutP (cutP s (m1 90)) (m1 43)) ⟨#[45]⟩ = cutP (cutP (cutP s (m1 90)) (m1 43)) (m1 45) from rfl] at T3
  have hs0 := cutP_le s (m1 90)
  have hs1 := cutP_le (cutP s (m1 90)) (m1 43)
  have hs2 := cutP_le (cutP (cutP s (m1 90)) (m1 43)) (m1 45)
  have hsS : (ofS s).size ≤ 9223372036854775807 := by unfold ofS; split <;> omega
  have hsT : (ofT s).size ≤ 9223372036854775807 := Nat.le_trans (partS_le _ _ _) hsS
  have P1 := hide (fun w1 (h1 : RL w1 rb (ofS s) (ofX s x)) => part_any rb (ofS s) ⟨#[]⟩ (ofX s x) 2 2 rfl (by omega) w1 h1 hsS)
  rw [show partV ⟨#[]⟩ 2 (ofS s) = ofH s from rfl, show partS ⟨#[]⟩ 2 (ofS s) = ofT s from rfl, show partX ⟨#[]⟩ 2 (ofS s) (ofX s x) = partX m0 2 (ofS s) (ofX s x) from rfl] at P1
  have P2 := hide (fun w1 (h1 : RL w1 rb (ofT s) (partX m0 2 (ofS s) (ofX s x))) => part_any rb (ofT s) ⟨#[58]⟩ (partX m0 2 (ofS s) (ofX s x)) 2 2 rfl (by omega) w1 h1 hsT)
  rw [show partV ⟨#[58]⟩ 2 (ofT s) = ofM s from rfl, show partS ⟨#[58]⟩ 2 (ofT s) = partS (m1 58) 2 (ofT s) from rfl, show partX ⟨#[58]⟩ 2 (ofT s) (partX m0 2 (ofS s) (ofX s x)) = partX (m1 58) 2 (ofT s) (partX m0 2 (ofS s) (ofX s x)) from rfl] at P2
  have Q := hide (fun w1 => seconds_any (ofH s) (ofM s) 0 w1 (by omega) (by omega) (by omega))
  simp only [secV_of] at Q
  have hH := partV_lt m0 (ofS s)
  have hM := partV_lt (m1 58) (ofT s)
  rw [show partV m0 2 (ofS s) = ofH s from rfl] at hH
  rw [show partV (m1 58) 2 (ofT s) = ofM s from rfl] at hM
  have HS : Hid (ofS s = if ofA s = true then cutP (cutP s (m1 90)) (m1 43) else cutP (cutP (cutP s (m1 90)) (m1 43)) (m1 45)) := rfl
  have HX : Hid (ofX s x = if ofA s = true then x else x || !(preB (cutP (cutP s (m1 90)) (m1 43)) (m1 45))) := rfl
  unfold offV offS offX ofO
  rw [hz]
  simp only [Bool.false_eq_true, if_false]
  generalize partX (m1 58) 2 (ofT s) (partX m0 2 (ofS s) (ofX s x)) = x4 at *
  generalize partX m0 2 (ofS s) (ofX s x) = x3 at *
  generalize partS (m1 58) 2 (ofT s) = s4 at *
  generalize ofT s = s3 at *
  generalize ofM s = mi at *
  generalize ofH s = ho at *
  generalize ofX s x = x2 at *
  generalize ofS s = s2 at *
  generalize preB (cutP (cutP s (m1 90)) (m1 43)) (m1 45) = b2 at *
  generalize cutP (cutP (cutP s (m1 90)) (m1 43)) (m1 45) = s1' at *
  generalize cutP (cutP s (m1 90)) (m1 43) = s1 at *
  generalize cutP s (m1 90) = s0 at *
  generalize ofA s = ah at *
  clear h hz hs0 hs1 hs2 hsS hsT hs
  have HV : Hid (∃ (o : Int) (ok : Bool), (if ho ≤ 23 ∧ mi ≤ 59 then (ho : Int) * 3600 + mi * 60 else 0) = o ∧ decide (ho ≤ 23 ∧ mi ≤ 59) = ok ∧ (0 ≤ o ∧ o ≤ 1000000) ∧ (if ho ≤ 23 ∧ mi ≤ 59 then (Value.tuple #[.int .i64 ((ho : Int) * 3600 + (mi : Int) * 60), .bool true]) else Value.tuple #[.int .i64 0, .bool false]) = Value.tuple #[.int .i64 o, .bool ok]) := by
    by_cases q : ho ≤ 23 ∧ mi ≤ 59
    · exact ⟨_, _, rfl, rfl, by rw [if_pos q]; omega, by rw [if_pos q, if_pos q, decide_eq_true q]⟩
    · exact ⟨_, _, rfl, rfl, by rw [if_neg q]; omega, by rw [if_neg q, if_neg q, decide_eq_false q]⟩
  obtain ⟨o, ok, ho1, ho2, ho3, ho4⟩ := unhide HV
  rw [ho1, ho2]
  simp only [ho4] at Q
  clear HV ho1 ho2 ho4
  cases ah
  · simp only [Bool.false_eq_true, if_false] at HS HX ⊢
    go_enter Tryd.func20, Tryd.ntmps20
    go_wp2_with fail
    refine (unhide T).mono ?_
    rintro e w1 ⟨rfl, h1, hu1⟩
    have T2' := hide (unhide T2 w1 h1)
    have HU1 := hide (Mv.of_upd hu1)
    clear T T2 h1 hu1
    go_wp2_with fail
    refine (unhide T2').mono ?_
    rintro e w2 ⟨rfl, h2, hu2⟩
    have HU2 := hide ((unhide HU1).trans (Mv.of_upd hu2))
    have T3' := hide (unhide T3 w2 h2)
    clear T2' HU1 h2 hu2 T3
    go_wp2_with fail
    refine (unhide T3').mono ?_
    rintro e w3 ⟨rfl, h3, hu3⟩
    have HU3 := hide ((unhide HU2).trans (Mv.of_upd hu3))
    rw [← unhide HS, ← unhide HX] at h3
    have P1' := hide (unhide P1 w3 h3)
    clear T3' HU2 h3 hu3 P1
    go_wp2_with fail
    refine (unhide P1').mono ?_
    rintro e w4 ⟨rfl, h4, hm4⟩
    have HU4 := hide ((unhide HU3).trans hm4)
    have P2' := hide (unhide P2 w4 h4)
    clear P1' HU3 h4 hm4 P2
    go_wp2_with fail
    refine (unhide P2').mono ?_
    rintro e w5 ⟨rfl, h5, hm5⟩
    have HU5 := hide ((unhide HU4).trans hm5)
    obtain ⟨f0, f1⟩ := h5.frees
    obtain ⟨r0, r1⟩ := h5.cells
    have HL := hide h5
    clear P2' HU4 h5 hm5
    go_wp2_with fail
    refine (unhide Q _).mono ?_
    rintro e w6 ⟨rfl, hw6⟩
    obtain rfl := hw6.symm
    clear hw6 Q
    cases ok
    · go_wp2
      go_ret
      exact ⟨rfl, by rw [Bool.not_false, Bool.or_true]; exact (unhide HL).set1 true, (unhide HU5).trans (Mv.of_upd (Upd.setCell rb 1 w5 _))⟩
    · go_wp2
      go_ret
      exact ⟨rfl, by rw [Bool.not_true, Bool.or_false]; exact unhide HL, unhide HU5⟩
  · simp only [if_true] at HS HX ⊢
    go_enter Tryd.func20, Tryd.ntmps20
    go_wp2_with fail
    refine (unhide T).mono ?_
    rintro e w1 ⟨rfl, h1, hu1⟩
    have T2' := hide (unhide T2 w1 h1)
    have HU1 := hide (Mv.of_upd hu1)
    clear T T2 h1 hu1
    go_wp2_with fail
    refine (unhide T2').mono ?_
    rintro e w2 ⟨rfl, h2, hu2⟩
    have HU2 := hide ((unhide HU1).trans (Mv.of_upd hu2))
    rw [← unhide HS] at h2
    have h2' : RL w2 rb s2 x2 := by rw [unhide HX]; exact h2
    have P1' := hide (unhide P1 w2 h2')
    have HU3 := HU2
    clear T2' HU1 h2 hu2 T3 h2' P1 HU2
    go_wp2_with fail
    refine (unhide P1').mono ?_
    rintro e w4 ⟨rfl, h4, hm4⟩
    have HU4 := hide ((unhide HU3).trans hm4)
    have P2' := hide (unhide P2 w4 h4)
    clear P1' HU3 h4 hm4 P2
    go_wp2_with fail
    refine (unhide P2').mono ?_
    rintro e w5 ⟨rfl, h5, hm5⟩
    have HU5 := hide ((unhide HU4).trans hm5)
    obtain ⟨f0, f1⟩ := h5.frees
    obtain ⟨r0, r1⟩ := h5.cells
    have HL := hide h5
    clear P2' HU4 h5 hm5
    go_wp2_with fail
    refine (unhide Q _).mono ?_
    rintro e w6 ⟨rfl, hw6⟩
    obtain rfl := hw6.symm
    clear hw6 Q
    cases ok
    · go_wp2
      go_ret
      exact ⟨rfl, by rw [Bool.not_false, Bool.or_true]; exact (unhide HL).set1 true, (unhide HU5).trans (Mv.of_upd (Upd.setCell rb 1 w5 _))⟩
    · go_wp2
      go_ret
      exact ⟨rfl, by rw [Bool.not_true, Bool.or_false]; exact unhide HL, unhide HU5⟩

theorem offset_any (rb : Nat) (s : ByteArray) (x : Bool) (w : World) (h : RL w rb s x) (hs : s.size ≤ 9223372036854775807) :
    Calls Tryd.prog 20 #[.pointer (some ⟨rb, 0, none⟩)] w fun e w' => e = .returned (.int .i64 (offV s)) ∧ RL w' rb (offS s) (offX s x) ∧ Mv rb w w' := by
  cases hz : preB s (m1 90)
  · exact offset_tail rb s x w h hs hz
  · have T := hide (take_any rb s ⟨#[90]⟩ x w h)
    rw [show preB s ⟨#[90]⟩ = true from hz] at T
    rw [show cutP s ⟨#[90]⟩ = cutP s (m1 90) from rfl] at T
    unfold offV offS offX
    rw [hz]
    simp only [if_true]
    clear h hz
    generalize cutP s (m1 90) = s0 at *
    go_enter Tryd.func20, Tryd.ntmps20
    go_wp2_with fail
    refine (unhide T).mono ?_
    rintro e w1 ⟨rfl, h1, hu1⟩
    have HL := hide h1
    have HU := hide hu1
    clear T h1 hu1
    go_wp2
    go_ret
    exact ⟨rfl, unhide HL, Mv.of_upd (unhide HU)⟩
end Go.Proofs.YtemcilikchlaiabDoor.st
