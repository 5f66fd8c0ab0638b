/- The text of what was read: StampBack's second half, pure. -/
import Derived.Test.YtemcilikchlaiabDoorMc
namespace Go.Proofs.YtemcilikchlaiabDoor.st

theorem parse_parts {s : ByteArray} {a b : Int} (h : parseT s = some (a, b)) : headI s ∧ ∃ (k n : Nat) (o : Int), fracI s = some (k, n) ∧ offI s k = some o ∧ a = secI s + o ∧ b = (n : Int) := by
  unfold parseT at h
  split at h
  · rename_i hh
    refine ⟨hh, ?_⟩
    cases hf : fracI s with
    | none => rw [hf] at h; cases h
    | some kn =>
      obtain ⟨k, n⟩ := kn
      rw [hf] at h
      simp only at h
      cases ho : offI s k with
      | none => rw [ho] at h; cases h
      | some o =>
        rw [ho] at h
        simp only [Option.some.injEq, Prod.mk.injEq] at h
        exact ⟨k, n, o, rfl, ho, h.1.symm, h.2.symm⟩
  · cases h
theorem frac_in {s : ByteArray} {k n : Nat} (h : fracI s = some (k, n)) : n < 1000000000 ∧ 19 ≤ k ∧ k ≤ 29 := by
  unfold fracI at h
  split at h
  · split at h
    · cases h
    · simp only [Option.some.injEq, Prod.mk.injEq] at h
      have := frcV_lt (s.data.toList.drop 20) 1000000000 (by omega)
      omega
  · simp only [Option.some.injEq, Prod.mk.injEq] at h
    omega
theorem off_in {s : ByteArray} {k : Nat} {o : Int} (h : offI s k = some o) : -86400 < o ∧ o < 86400 := by
  unfold offI at h
  split at h
  · simp only [Option.some.injEq] at h; omega
  · split at h
    · rename_i q
      simp only [Option.some.injEq] at h
      split at h <;> omega
    · cases h
/-- The head of a text that is read. -/
theorem head_back (s : ByteArray) (h : headI s) : ∃ y m d t : Nat, s.data.toList = headD y m d t (s.data.toList.drop 19) ∧ y < 10000 ∧ t < 86400 ∧ isD y m d ∧ secI s = dn y m d * 86400 + t := by
  obtain ⟨⟨a1, a2, a3, a4, a5⟩, ⟨b1, b2⟩, ⟨c1, c2⟩, ⟨d1, d2⟩, ⟨e1, e2⟩⟩ := h
  have b3 := b2.1
  have b4 := b2.2.2.1
  obtain ⟨y, hy⟩ : ∃ y : Nat, numI s 4 0 0 = (y : Int) := ⟨(numI s 4 0 0).toNat, by omega⟩
  obtain ⟨m, hm⟩ : ∃ y : Nat, numI s 2 5 0 = (y : Int) := ⟨(numI s 2 5 0).toNat, by omega⟩
  obtain ⟨d, hd⟩ : ∃ y : Nat, numI s 2 8 0 = (y : Int) := ⟨(numI s 2 8 0).toNat, by omega⟩
  obtain ⟨hh, hhh⟩ : ∃ y : Nat, numI s 2 11 0 = (y : Int) := ⟨(numI s 2 11 0).toNat, by omega⟩
  obtain ⟨mi, hmi⟩ : ∃ y : Nat, numI s 2 14 0 = (y : Int) := ⟨(numI s 2 14 0).toNat, by omega⟩
  obtain ⟨ss, hss⟩ : ∃ y : Nat, numI s 2 17 0 = (y : Int) := ⟨(numI s 2 17 0).toNat, by omega⟩
  obtain ⟨p1, q1⟩ := numI_back s 4 0 y hy
  obtain ⟨p2, q2⟩ := numI_back s 2 5 m hm
  obtain ⟨p3, q3⟩ := numI_back s 2 8 d hd
  obtain ⟨p4, q4⟩ := numI_back s 2 11 hh hhh
  obtain ⟨p5, q5⟩ := numI_back s 2 14 mi hmi
  obtain ⟨p6, q6⟩ := numI_back s 2 17 ss hss
  have r1 := isI_back s 4 45 a1
  have r2 := isI_back s 7 45 a2
  have r3 := isI_back s 10 84 a3
  have r4 := isI_back s 13 58 a4
  have r5 := isI_back s 16 58 a5
  rw [hhh] at c1 c2
  rw [hmi] at d1 d2
  rw [hss] at e1 e2
  rw [hy, hm, hd] at b2
  have e4 : (10 : Nat) ^ 4 = 10000 := by decide
  rw [e4] at q1
  refine ⟨y, m, d, hh * 3600 + mi * 60 + ss, ?_, q1, by omega, b2, ?_⟩
  · unfold headD
    rw [show (hh * 3600 + mi * 60 + ss) / 3600 = hh by omega, show (hh * 3600 + mi * 60 + ss) / 60 % 60 = mi by omega, show (hh * 3600 + mi * 60 + ss) % 60 = ss by omega]
    have p1' : s.data.toList = digs 4 y ++ s.data.toList.drop 4 := p1
    have p2' : s.data.toList.drop 5 = digs 2 m ++ s.data.toList.drop 7 := p2
    have p3' : s.data.toList.drop 8 = digs 2 d ++ s.data.toList.drop 10 := p3
    have p4' : s.data.toList.drop 11 = digs 2 hh ++ s.data.toList.drop 13 := p4
    have p5' : s.data.toList.drop 14 = digs 2 mi ++ s.data.toList.drop 16 := p5
    have p6' : s.data.toList.drop 17 = digs 2 ss ++ s.data.toList.drop 19 := p6
    have r1' : s.data.toList.drop 4 = [45] ++ s.data.toList.drop 5 := r1
    have r2' : s.data.toList.drop 7 = [45] ++ s.data.toList.drop 8 := r2
    have r3' : s.data.toList.drop 10 = [84] ++ s.data.toList.drop 11 := r3
    have r4' : s.data.toList.drop 13 = [58] ++ s.data.toList.drop 14 := r4
    have r5' : s.data.toList.drop 16 = [58] ++ s.data.toList.drop 17 := r5
    rw [← p6', ← r5', ← p5', ← r4', ← p4', ← r3', ← p3', ← r2', ← p2', ← r1', ← p1']
  · unfold secI
    rw [hy, hm, hd, hhh, hmi, hss]
    omega
theorem sec_in {y m d t : Nat} (hy : y < 10000) (ht : t < 86400) (hd : isD y m d) : -62169000000 ≤ dn y m d * 86400 + (t : Int) ∧ dn y m d * 86400 + (t : Int) ≤ 253404000000 := by
  have a1 := dn_in hd
  have a2 := dby_near y
  have a3 := dby_near ((y : Int) + 1)
  omega
theorem read_in {s : ByteArray} {a b : Int} (h : parseT s = some (a, b)) : inI a ∧ 0 ≤ b ∧ b < 1000000000 := by
  obtain ⟨hh, k, n, o, h1, h2, rfl, rfl⟩ := parse_parts h
  obtain ⟨y, m, d, t, _, hy, ht, hd, hs⟩ := head_back s hh
  have := sec_in hy ht hd
  have := off_in h2
  have := frac_in h1
  exact ⟨⟨by omega, by omega⟩, by omega, by omega⟩
theorem text_back (s : ByteArray) (a b : Int) (l : List UInt8) (h : parseT s = some (a, b)) (ht : isText a b (some l)) (hz : s.data.toList[s.size - 1]? = some 90)
    (hsh : s.size ≤ 20 ∨ s.data.toList[s.size - 2]? ≠ some 48) : l = s.data.toList := by
  obtain ⟨ia, ib0, ib1⟩ := read_in h
  obtain ⟨hh, k, n, o, h1, h2, rfl, rfl⟩ := parse_parts h
  obtain ⟨y, m, d, t, hs, hy, htt, hd, hsec⟩ := head_back s hh
  have hk := frac_in h1
  have hZ : isI s k 90 = true ∧ k + 1 = s.size ∧ o = 0 := by
    unfold offI at h2
    split at h2
    · rename_i q
      simp only [Option.some.injEq] at h2
      exact ⟨q.1, q.2, h2.symm⟩
    · split at h2
      · rename_i q
        obtain ⟨_, _, q3, _, _, q6, _⟩ := q
        obtain ⟨mi, hmi⟩ : ∃ y : Nat, numI s 2 (k + 4) 0 = (y : Int) := ⟨(numI s 2 (k + 4) 0).toNat, by omega⟩
        obtain ⟨p1, _⟩ := numI_back s 2 (k + 4) mi hmi
        exfalso
        rw [show s.size - 1 = k + 4 + 1 by omega] at hz
        have e : s.data.toList[k + 4 + 1]? = (s.data.toList.drop (k + 4))[1]? := by rw [List.getElem?_drop]
        rw [e, p1, List.getElem?_append_left (by rw [digs_len]; omega)] at hz
        have hm := digs_dgt 2 mi 90 (List.mem_of_getElem? hz)
        exact absurd hm (by decide)
      · cases h2
  obtain ⟨z1, z2, rfl⟩ := hZ
  have zd := isI_back s k 90 z1
  have znil : s.data.toList.drop (k + 1) = [] := List.drop_eq_nil_of_le (by rw [Array.length_toList]; exact Nat.le_of_eq z2.symm)
  rw [znil] at zd
  have h19 : s.data.toList.drop 19 = frD n ++ [90] := by
    unfold fracI at h1
    split at h1
    · rename_i q46
      split at h1
      · cases h1
      · rename_i qN
        simp only [Option.some.injEq, Prod.mk.injEq] at h1
        obtain ⟨rfl, rfl⟩ := h1
        have r46 := isI_back s 19 46 q46
        have T1 := frcN_take (s.data.toList.drop 20)
        have T2 := frcV_take (s.data.toList.drop 20) 1000000000
        have T3 := frcN_le (s.data.toList.drop 20)
        have r46' : s.data.toList.drop 19 = 46 :: s.data.toList.drop 20 := r46
        clear r46
        generalize hN : frcN (s.data.toList.drop 20) = N at *
        generalize hL : s.data.toList.drop 20 = L at *
        have e : L.drop N = [90] := by rw [← hL, List.drop_drop]; exact zd
        have hsplit : L = L.take N ++ [90] := by
          conv => lhs; rw [← List.take_append_drop N L]
          rw [e]
        have hlen : (L.take N).length = N := by rw [List.length_take]; omega
        have hlast : ∀ c, (L.take N).getLast? = some c → c ≠ 48 := fun c hc hq => by
          subst hq
          rcases hsh with q | q
          · omega
          · apply q
            have e1 : s.data.toList[s.size - 2]? = L[N - 1]? := by
              rw [← hL, List.getElem?_drop]
              congr 1
              omega
            rw [e1]
            rw [List.getLast?_eq_getElem?, hlen, List.getElem?_take, if_pos (by omega)] at hc
            exact hc
        have F := frac_back (L.take N) T1 (by omega) (by omega) hlast
        rw [r46', T2, F]
        show 46 :: L = 46 :: (L.take N ++ [90])
        rw [← hsplit]
    · simp only [Option.some.injEq, Prod.mk.injEq] at h1
      obtain ⟨rfl, rfl⟩ := h1
      exact zd
  obtain ⟨y', m', d', t', nn', rfl, hy', ht', hd', hn', g1, g2⟩ := text_parts ht
  obtain ⟨N1, N2⟩ := norm_id _ _ ia ib0 ib1
  rw [N1, Int.add_zero, hsec] at g1
  rw [N2] at g2
  have et : t' = t := by omega
  have ed : dn y' m' d' = dn y m d := by omega
  obtain ⟨j1, j2, j3⟩ := dn_inj hd' hd ed
  have j1' : y' = y := by omega
  have j2' : m' = m := by omega
  have j3' : d' = d := by omega
  have j4 : nn' = n := by omega
  subst et j1' j2' j3' j4
  rw [hs, h19]
end Go.Proofs.YtemcilikchlaiabDoor.st
