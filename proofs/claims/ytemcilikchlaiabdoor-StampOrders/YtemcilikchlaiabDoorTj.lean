/- Package stamp: Parse gives the moment that the text says. -/
import Derived.Test.YtemcilikchlaiabDoorTi
namespace Go.Proofs.YtemcilikchlaiabDoor.st
open Go.RowKit

theorem isI_one {s : ByteArray} {k : Nat} {c d : UInt8} (h : isI s k c = true) (hd : c ≠ d) : isI s k d = false := by
  unfold isI at *
  have := of_decide_eq_true h
  rw [this]
  exact decide_eq_false (fun z => hd (Option.some.inj z))
theorem isI_lt {s : ByteArray} {k : Nat} {c : UInt8} (h : isI s k c = true) : k < s.size := by
  unfold isI at h
  have := of_decide_eq_true h
  rcases Nat.lt_or_ge k s.size with q | q
  · exact q
  · rw [List.getElem?_eq_none (by rw [blen]; exact q)] at this; cases this

/-- With a sign: what stands behind it. -/
theorem off_signed (s : ByteArray) (k : Nat) (t : ByteArray) (hz : isI s k 90 = false) (ht : t = dropB s k) (hsg : isI s k 43 = true ∨ isI s k 45 = true) :
    ofS t = dropB s (k + 1) ∧ ofX t false = false ∧ ofA t = isI s k 43 := by
  subst ht
  have hA : ofA (dropB s k) = isI s k 43 := by unfold ofA; rw [cutP_no s k 90 hz, preB_1]
  unfold ofS ofX
  rw [hA, cutP_no s k 90 hz]
  cases hp : isI s k 43
  · have hm : isI s k 45 = true := by
      rcases hsg with q | q
      · rw [hp] at q; cases q
      · exact q
    rw [cutP_no s k 43 hp, preB_1, hm, cutP_yes s k 45 hm]
    exact ⟨rfl, rfl, rfl⟩
  · rw [cutP_yes s k 43 hp]
    exact ⟨rfl, rfl, rfl⟩
theorem off_any (s : ByteArray) (k : Nat) : (∀ o, offI s k = some o → offX (dropB s k) false = false ∧ (offS (dropB s k)).size = 0 ∧ offV (dropB s k) = -o) ∧ (offI s k = none → ¬ (offX (dropB s k) false = false ∧ (offS (dropB s k)).size = 0)) := by
  cases hz : isI s k 90
  · -- no Z
    have hpz : preB (dropB s k) (m1 90) = false := by rw [preB_1]; exact hz
    have hoff : offI s k = if (isI s k 43 = true ∨ isI s k 45 = true) ∧ isI s (k + 3) 58 = true ∧ s.size = k + 6 ∧ 0 ≤ numI s 2 (k + 1) 0 ∧ numI s 2 (k + 1) 0 ≤ 23 ∧ 0 ≤ numI s 2 (k + 4) 0 ∧ numI s 2 (k + 4) 0 ≤ 59 then
        some (if isI s k 43 = true then -(numI s 2 (k + 1) 0 * 3600 + numI s 2 (k + 4) 0 * 60) else numI s 2 (k + 1) 0 * 3600 + numI s 2 (k + 4) 0 * 60) else none := by
      unfold offI
      rw [hz]
      rw [if_neg (fun z => Bool.false_ne_true z.1)]
    have hX : offX (dropB s k) false = (partX (m1 58) 2 (ofT (dropB s k)) (partX m0 2 (ofS (dropB s k)) (ofX (dropB s k) false)) || !decide (ofH (dropB s k) ≤ 23 ∧ ofM (dropB s k) ≤ 59)) := by
      unfold offX; rw [hpz, if_neg Bool.false_ne_true]
    have hS : offS (dropB s k) = partS (m1 58) 2 (ofT (dropB s k)) := by unfold offS; rw [hpz, if_neg Bool.false_ne_true]
    have hV : offV (dropB s k) = if ofA (dropB s k) = true then ofO (dropB s k) else -(ofO (dropB s k)) := by unfold offV; rw [hpz, if_neg Bool.false_ne_true]
    by_cases hsg : isI s k 43 = true ∨ isI s k 45 = true
    · obtain ⟨g1, g2, g3⟩ := off_signed s k _ hz rfl hsg
      obtain ⟨a1, b1⟩ := part_0 s (k + 1) 2 false
      rw [g1, g2] at hX
      by_cases h1 : 0 ≤ numI s 2 (k + 1) 0
      · obtain ⟨c1, c2, c3⟩ := a1 h1
        have hT : ofT (dropB s k) = dropB s (k + 3) := by unfold ofT; rw [g1, c1]
        have hH : (ofH (dropB s k) : Int) = numI s 2 (k + 1) 0 := by unfold ofH; rw [g1]; exact c2
        rw [c3, hT] at hX
        rw [hT] at hS
        obtain ⟨a2, b2⟩ := part_1 s (k + 3) 2 58 false
        by_cases h2 : isI s (k + 3) 58 = true ∧ 0 ≤ numI s 2 (k + 3 + 1) 0
        · obtain ⟨d1, d2, d3⟩ := a2 h2
          have hM : (ofM (dropB s k) : Int) = numI s 2 (k + 4) 0 := by unfold ofM; rw [hT]; exact d2
          rw [d3, Bool.false_or] at hX
          rw [d1] at hS
          have hlen := num_len s 2 (k + 3 + 1) 0 h2.2
          have hsz : (offS (dropB s k)).size = 0 ↔ s.size = k + 6 := by rw [hS, dropB_size]; omega
          have hx : offX (dropB s k) false = false ↔ (numI s 2 (k + 1) 0 ≤ 23 ∧ numI s 2 (k + 4) 0 ≤ 59) := by
            rw [hX, ← hH, ← hM]
            simp
            omega
          refine ⟨fun o ho => ?_, fun hn => ?_⟩
          · rw [hoff] at ho
            split at ho
            · rename_i q
              have e := Option.some.inj ho
              refine ⟨hx.2 ⟨q.2.2.2.2.1, q.2.2.2.2.2.2⟩, hsz.2 q.2.2.1, ?_⟩
              have hO : ofO (dropB s k) = numI s 2 (k + 1) 0 * 3600 + numI s 2 (k + 4) 0 * 60 := by
                unfold ofO
                have q5 := q.2.2.2.2.1
                have q7 := q.2.2.2.2.2.2
                rw [if_pos (by omega), hH, hM]
              rw [hV, g3, hO, ← e]
              cases isI s k 43 <;> simp
            · cases ho
          · intro z
            have z1 := hx.1 z.1
            have z2 := hsz.1 z.2
            rw [hoff, if_pos ⟨hsg, h2.1, z2, h1, z1.1, h2.2, z1.2⟩] at hn
            cases hn
        · rw [b2 h2, Bool.true_or] at hX
          have hn : offI s k = none := by rw [hoff, if_neg (fun z => h2 ⟨z.2.1, z.2.2.2.2.2.1⟩)]
          rw [hn, hX]
          exact ⟨(fun o ho => by cases ho), (fun _ z => by cases z.1)⟩
      · rw [b1 h1, partX_true, Bool.true_or] at hX
        have hn : offI s k = none := by rw [hoff, if_neg (fun z => h1 z.2.2.2.1)]
        rw [hn, hX]
        exact ⟨(fun o ho => by cases ho), (fun _ z => by cases z.1)⟩
    · have hp : isI s k 43 = false := by cases q : isI s k 43 <;> simp_all
      have hm : isI s k 45 = false := by cases q : isI s k 45 <;> simp_all
      have hA : ofA (dropB s k) = false := by unfold ofA; rw [cutP_no s k 90 hz, preB_1]; exact hp
      have hOX : ofX (dropB s k) false = true := by
        unfold ofX
        rw [hA, if_neg Bool.false_ne_true, cutP_no s k 90 hz, cutP_no s k 43 hp, preB_1, hm]
        rfl
      rw [hOX, partX_true, partX_true, Bool.true_or] at hX
      have hn : offI s k = none := by rw [hoff, if_neg (fun z => hsg z.1)]
      rw [hn, hX]
      exact ⟨(fun o ho => by cases ho), (fun _ z => by cases z.1)⟩
  · have hpz : preB (dropB s k) (m1 90) = true := by rw [preB_1]; exact hz
    have hX : offX (dropB s k) false = false := by unfold offX; rw [hpz, if_pos rfl]
    have hS : offS (dropB s k) = dropB s (k + 1) := by unfold offS; rw [hpz, if_pos rfl, cutP_yes s k 90 hz]
    have hV : offV (dropB s k) = 0 := by unfold offV; rw [hpz, if_pos rfl]
    have hlt := isI_lt hz
    have hsz : (offS (dropB s k)).size = 0 ↔ k + 1 = s.size := by rw [hS, dropB_size]; omega
    have n1 := isI_one hz (show (90 : UInt8) ≠ 43 by decide)
    have n2 := isI_one hz (show (90 : UInt8) ≠ 45 by decide)
    by_cases q : k + 1 = s.size
    · have ho : offI s k = some 0 := by unfold offI; rw [if_pos ⟨hz, q⟩]
      rw [ho]
      refine ⟨fun o e => ?_, (fun e => by cases e)⟩
      have e' := Option.some.inj e
      subst e'
      exact ⟨hX, hsz.2 q, hV⟩
    · have ho : offI s k = none := by
        unfold offI
        rw [if_neg (fun z => q z.2), if_neg]
        intro z
        rw [n1, n2] at z
        rcases z.1 with y | y <;> cases y
      rw [ho]
      exact ⟨(fun o e => by cases e), fun _ z => q (hsz.1 z.2)⟩

theorem frX_true (s : ByteArray) : frX s true = true := by unfold frX; split <;> simp
theorem offX_true (s : ByteArray) : offX s true = true := by
  unfold offX ofX
  split
  · rfl
  · split
    · rw [partX_true, partX_true]; rfl
    · rw [Bool.true_or, partX_true, partX_true]; rfl
/-- What the fraction leaves. -/
theorem frac_any (s : ByteArray) (hs : rdS s 6 = dropB s 19) :
    (∀ k n, fracI s = some (k, n) → frX (rdS s 6) false = false ∧ e7 s = dropB s k ∧ frV (rdS s 6) = n) ∧ (fracI s = none → offX (e7 s) (frX (rdS s 6) false) = true) := by
  unfold e7
  rw [hs]
  unfold fracI
  cases hd : isI s 19 46
  · rw [if_neg Bool.false_ne_true]
    have hp : preB (dropB s 19) (m1 46) = false := by rw [preB_1]; exact hd
    refine ⟨fun k n e => ?_, (fun e => by cases e)⟩
    have e' := Option.some.inj e
    obtain ⟨rfl, rfl⟩ := Prod.mk.inj e'
    unfold frX frS frV
    rw [hp, if_neg Bool.false_ne_true, if_neg Bool.false_ne_true, if_neg Bool.false_ne_true, cutP_no s 19 46 hd]
    exact ⟨rfl, rfl, rfl⟩
  · rw [if_pos rfl]
    have hp : preB (dropB s 19) (m1 46) = true := by rw [preB_1]; exact hd
    have hX : frX (dropB s 19) false = decide (dgN 9 (s.data.toList.drop 20) = 0) := by
      unfold frX; rw [hp, if_pos rfl, cutP_yes s 19 46 hd, dropB_list, Bool.false_or]
    have hS : frS (dropB s 19) = dropB s (20 + dgN 9 (s.data.toList.drop 20)) := by
      unfold frS; rw [hp, if_pos rfl, cutP_yes s 19 46 hd, dropB_list, dropB_drop]
    have hV : frV (dropB s 19) = dgV 9 0 (s.data.toList.drop 20) * 10 ^ (9 - dgN 9 (s.data.toList.drop 20)) := by
      unfold frV; rw [hp, if_pos rfl, cutP_yes s 19 46 hd, dropB_list]
    rw [hX, hS, hV]
    clear hX hS hV
    by_cases h9 : frcN (s.data.toList.drop 20) ≤ 9
    · obtain ⟨a, b⟩ := frc_small 9 _ 0 h9
      rw [a]
      by_cases h0 : frcN (s.data.toList.drop 20) = 0
      · rw [if_pos (Or.inl h0), decide_eq_true h0]
        exact ⟨(fun k n e => by cases e), fun _ => offX_true _⟩
      · rw [if_neg (by omega)]
        refine ⟨fun k n e => ?_, (fun e => by cases e)⟩
        obtain ⟨rfl, rfl⟩ := Prod.mk.inj (Option.some.inj e)
        refine ⟨decide_eq_false h0, rfl, ?_⟩
        rw [b]
        show 0 * 10 ^ 9 + frcV _ 1000000000 = _
        omega
    · obtain ⟨a, c, hc, c1, c2⟩ := frc_great 9 (s.data.toList.drop 20) (by omega)
      rw [if_pos (Or.inr (by omega)), a]
      refine ⟨(fun k n e => by cases e), fun _ => ?_⟩
      rw [List.getElem?_drop] at hc
      have hne : ∀ d : UInt8, d.toNat < 48 ∨ 57 < d.toNat → isI s (20 + 9) d = false := fun d hd => by
        unfold isI
        rw [hc]
        exact decide_eq_false (fun z => by have := Option.some.inj z; subst this; omega)
      have e9 : decide (9 = 0) = false := rfl
      rw [e9]
      have hn : offI s (20 + 9) = none := by
        unfold offI
        rw [hne 90 (by decide), hne 43 (by decide), hne 45 (by decide)]
        simp
      have hz := hne 90 (by decide)
      have hp3 := hne 43 (by decide)
      have hm5 := hne 45 (by decide)
      have hA : ofA (dropB s (20 + 9)) = false := by unfold ofA; rw [cutP_no s _ 90 hz, preB_1]; exact hp3
      have hOX : ofX (dropB s (20 + 9)) false = true := by
        unfold ofX
        rw [hA, if_neg Bool.false_ne_true, cutP_no s _ 90 hz, cutP_no s _ 43 hp3, preB_1, hm5]
        rfl
      unfold offX
      rw [preB_1, hz, if_neg Bool.false_ne_true, hOX, partX_true, partX_true, Bool.true_or]

theorem prs_eq (a : Addr) (s : ByteArray) : prsV a s = parE a (parseT s) := by
  obtain ⟨hx, hr⟩ := st_all s
  have none_of : ¬ okP s → parseT s = none → prsV a s = parE a (parseT s) := fun h1 h2 => by
    unfold prsV; rw [if_neg h1, h2]; rfl
  cases h6 : rdX s 6
  · obtain ⟨r1, v0, v1, v2, v3, v4, v5⟩ := hr h6
    obtain ⟨g1, g2, g3, g4, g5, g6⟩ := hx.1 h6
    by_cases hh : headI s
    · obtain ⟨q1, q2, q3, q4, q5⟩ := hh
      have hh : headI s := ⟨q1, q2, q3, q4, q5⟩
      obtain ⟨fa, fb⟩ := frac_any s r1
      cases hf : fracI s with
      | none =>
        refine none_of ?_ (by unfold parseT; rw [if_pos hh, hf])
        intro z
        have z1 := z.1
        unfold x8 at z1
        rw [h6, fb hf] at z1
        cases z1
      | some kn =>
        obtain ⟨k, n⟩ := kn
        obtain ⟨f1, f2, f3⟩ := fa k n hf
        obtain ⟨oa, ob⟩ := off_any s k
        have e8x : x8 s = offX (dropB s k) false := by unfold x8; rw [h6, f1, f2]
        have e8s : e8 s = offS (dropB s k) := by unfold e8; rw [f2]
        cases ho : offI s k with
        | none =>
          refine none_of ?_ (by unfold parseT; rw [if_pos hh, hf]; show (match offI s k with | none => none | some o => some (secI s + o, (n : Int))) = none; rw [ho])
          intro z
          refine ob ho ⟨?_, ?_⟩
          · rw [← e8x]; exact z.1
          · rw [← e8s]; exact z.2.1
        | some o =>
          obtain ⟨o1, o2, o3⟩ := oa o ho
          have hok : okP s := ⟨by rw [e8x]; exact o1, by rw [e8s]; exact o2, by rw [v0, v1, v2]; exact q2.2, by omega, by omega, by omega⟩
          have hp : parseT s = some (secI s + o, (n : Int)) := by unfold parseT; rw [if_pos hh, hf]; show (match offI s k with | none => none | some o => some (secI s + o, (n : Int))) = _; rw [ho]
          have eS : dn (rdV s 0) (rdV s 1) (rdV s 2) * 86400 + ((rdV s 3 : Int) * 3600 + (rdV s 4 : Int) * 60 + (rdV s 5 : Int) - offV (e7 s)) = secI s + o := by
            rw [f2, o3, v0, v1, v2, v3, v4, v5]
            unfold secI
            generalize dn (numI s 4 0 0) (numI s 2 5 0) (numI s 2 8 0) = D
            omega
          unfold prsV
          rw [if_pos hok, hp, eS, f3]
          exact rfl
    · refine none_of ?_ (by unfold parseT; rw [if_neg hh])
      intro z
      obtain ⟨_, _, z3, z4, z5, z6⟩ := z
      rw [v0, v1, v2] at z3
      exact hh ⟨⟨g2.1, g3.1, g4.1, g5.1, g6.1⟩, ⟨g1, z3⟩, ⟨g4.2, by omega⟩, ⟨g5.2, by omega⟩, ⟨g6.2, by omega⟩⟩
  · refine none_of ?_ ?_
    · intro z
      have z1 := z.1
      unfold x8 at z1
      rw [h6, frX_true, offX_true] at z1
      cases z1
    · unfold parseT
      rw [if_neg]
      intro hh
      obtain ⟨⟨s1, s2, s3, s4, s5⟩, ⟨n1, n2⟩, n3, n4, n5⟩ := hh
      have : rdX s 6 = false := hx.2 ⟨n1, ⟨s1, by have := n2.1; omega⟩, ⟨s2, by have := n2.2.2.1; omega⟩, ⟨s3, n3.1⟩, ⟨s4, n4.1⟩, ⟨s5, n5.1⟩⟩
      rw [h6] at this
      cases this
end Go.Proofs.YtemcilikchlaiabDoor.st
