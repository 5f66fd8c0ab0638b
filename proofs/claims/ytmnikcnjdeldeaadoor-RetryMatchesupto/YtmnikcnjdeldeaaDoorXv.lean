/- The landed package retry: speaks, Matches, first at retriers and at catchers, Catch. -/
import Derived.Test.YtmnikcnjdeldeaaDoorMrG
namespace Go.Proofs.YtmnikcnjdeldeaaDoor.rt
open Go.RowKit Go.Joins mm

/-- A name of a retrier or catcher, as the landed switch asks it. -/
theorem one_sw (n name : List UInt8) : one n name = if n == sTF then !(name == sTO) else if n == sALL then true else n == name := by
  unfold one
  cases h1 : (n == sTF) <;> cases h2 : (n == sALL) <;> cases h3 : (name == sTO) <;> cases h4 : (n == name) <;> simp [bne, h3]
  · rw [LawfulBEq.eq_of_beq h1, LawfulBEq.eq_of_beq h3] at h4
    cases h4
  · rw [LawfulBEq.eq_of_beq h1] at h2
    cases h2
  · rw [LawfulBEq.eq_of_beq h1] at h2
    cases h2

set_option maxRecDepth 100000 in
set_option maxHeartbeats 1600000 in
theorem speaks_any (word name : ByteArray) (w : World) :
    Calls Tryd.prog 24 #[.string word, .string name] w fun e w' => e = .returned (.bool (one word.toList name.toList)) ∧ w' = w := by
  have HO := hide (one_sw word.toList name.toList)
  generalize one word.toList name.toList = res at HO ⊢
  cases h1 : (word.toList == sTF) with
  | true =>
    cases h3 : (name.toList == sTO) with
    | true =>
      have HR := hide (show res = false by rw [unhide HO, h1, h3]; rfl)
      clear HO
      unfold sTF at h1
      unfold sTO at h3
      go_enter Tryd.func24, Tryd.ntmps24
      go_wp2
      go_ret
      exact ⟨by rw [unhide HR]; rfl, rfl⟩
    | false =>
      have HR := hide (show res = true by rw [unhide HO, h1, h3]; rfl)
      clear HO
      unfold sTF at h1
      unfold sTO at h3
      go_enter Tryd.func24, Tryd.ntmps24
      go_wp2
      go_ret
      exact ⟨by rw [unhide HR]; rfl, rfl⟩
  | false =>
    cases h2 : (word.toList == sALL) with
    | true =>
      have HR := hide (show res = true by rw [unhide HO, h1, h2]; rfl)
      clear HO
      unfold sTF at h1
      unfold sALL at h2
      go_enter Tryd.func24, Tryd.ntmps24
      go_wp2
      go_ret
      exact ⟨by rw [unhide HR]; rfl, rfl⟩
    | false =>
      have hr : res = (word.toList == name.toList) := by rw [unhide HO, h1, h2]; rfl
      subst hr
      clear HO
      unfold sTF at h1
      unfold sALL at h2
      cases h4 : (word.toList == name.toList)
      · go_enter Tryd.func24, Tryd.ntmps24
        go_wp2
        go_ret
        exact ⟨rfl, rfl⟩
      · go_enter Tryd.func24, Tryd.ntmps24
        go_wp2
        go_ret
        exact ⟨rfl, rfl⟩

set_option maxRecDepth 100000 in
set_option maxHeartbeats 1600000 in
theorem matches1_any (word name : ByteArray) (b : Nat) (w : World) (h : w.cell? ⟨b, 0, none⟩ = some (.string name)) :
    Calls Tryd.prog 23 #[.string word, .pointer (some ⟨b, 0, none⟩)] w fun e w' => e = .returned (.bool (one word.toList name.toList)) ∧ w' = w := by
  have C := hide (speaks_any word name w)
  generalize one word.toList name.toList = res at C ⊢
  go_enter Tryd.func23, Tryd.ntmps23
  go_wp2_with fail
  refine (unhide C).mono ?_
  rintro e u ⟨rfl, hu⟩
  obtain rfl := hu.symm
  go_wp2
  go_ret
  exact ⟨rfl, rfl⟩

set_option maxRecDepth 100000 in
set_option maxHeartbeats 1600000 in
theorem index_any (l : List ByteArray) (name : ByteArray) (b : Nat) (v : Value) (w : World) (h : SS w v l) (hb : w.cell? ⟨b, 0, none⟩ = some (.string name)) :
    Calls Tryd.prog 32 #[v, .func (.func 23) #[] #[.pointer (some ⟨b, 0, none⟩)]] w fun e w' => (∃ r : Int, e = .returned (.int .i64 r) ∧ (decide (0 ≤ r) = l.any (fun n => one n.toList name.toList))) ∧ w' = w := by
  have H := hide h
  obtain ⟨oa, c, rfl, h1, h2⟩ := SV.form h
  clear h
  have HB := hide hb
  clear hb
  go_enter Tryd.func32, Tryd.ntmps32
  go_wp2
  go_loopw [8] (fun iv wr => ∃ k : Nat, k ≤ l.length ∧ iv = .int .i64 (k : Int) ∧ Hid (∀ (j : Nat) (u : ByteArray), j < k → l[j]? = some u → one u.toList name.toList = false) ∧ wr = w) (fun iv _ => l.length - (intOf iv).toNat)
  case atStart => exact ⟨0, by omega, rfl, (fun j u hj => by omega), rfl⟩
  case round =>
    obtain ⟨k, hk, rfl, hn, rfl⟩ := hrel
    by_cases hc : k < l.length
    · have e1 : (k : Int) < (l.length : Int) := by omega
      have e2 : (k : Int) < 9223372036854775807 := by unfold maxLen at h2; omega
      obtain ⟨a, c', e, _, _, hcell⟩ := SS.at (unhide H) (by omega)
      cases e
      obtain ⟨u, hu⟩ : ∃ u, l[k]? = some u := ⟨l[k], List.getElem?_eq_getElem hc⟩
      have hcu := hcell k u hu
      have HU := hide hu
      have C := hide (matches1_any u name b wr (unhide HB))
      clear hcell hu H
      cases ho : one u.toList name.toList with
      | true =>
        have HO := hide (any_some l (fun n => one n.toList name.toList) k u (unhide HU) ho)
        rw [ho] at C
        clear ho hn
        go_wp2_with fail
        refine (unhide C).mono ?_
        rintro e w1 ⟨rfl, hw1⟩
        obtain rfl := hw1.symm
        go_wp2
        go_ret
        exact ⟨⟨(k : Int), rfl, by rw [unhide HO]; simp⟩, rfl⟩
      | false =>
        have HO : Hid (∀ (j : Nat) (x : ByteArray), j < k + 1 → l[j]? = some x → one x.toList name.toList = false) := fun j x hj hx => by
          by_cases e : j = k
          · subst e; rw [unhide HU] at hx; cases hx; exact ho
          · exact unhide hn j x (by omega) hx
        rw [ho] at C
        clear ho hn
        go_wp2_with fail
        refine (unhide C).mono ?_
        rintro e w1 ⟨rfl, hw1⟩
        obtain rfl := hw1.symm
        go_wp2
        exact ⟨⟨k + 1, by omega, by go_num, HO, trivial⟩, by simp [intOf]; omega⟩
    · obtain rfl : k = l.length := by omega
      have HO := hide (any_none l (fun n => one n.toList name.toList) (unhide hn))
      clear hn H
      go_wp2
      go_ret
      exact ⟨⟨-1, rfl, by rw [unhide HO]; rfl⟩, rfl⟩

set_option maxRecDepth 100000 in
set_option maxHeartbeats 1600000 in
theorem contains_any (l : List ByteArray) (name : ByteArray) (b : Nat) (v : Value) (w : World) (h : SS w v l) (hb : w.cell? ⟨b, 0, none⟩ = some (.string name)) :
    Calls Tryd.prog 22 #[v, .func (.func 23) #[] #[.pointer (some ⟨b, 0, none⟩)]] w fun e w' => e = .returned (.bool (l.any (fun n => one n.toList name.toList))) ∧ w' = w := by
  have C := hide (index_any l name b v w h hb)
  obtain ⟨oa, c, rfl, h1, h2⟩ := SV.form h
  clear h hb
  generalize l.any (fun n => one n.toList name.toList) = res at C ⊢
  go_enter Tryd.func22, Tryd.ntmps22
  go_wp2_with fail
  refine (unhide C).mono ?_
  rintro e w1 ⟨⟨r, rfl, hr⟩, hw1⟩
  obtain rfl := hw1.symm
  have HR := hide hr
  clear hr
  by_cases hr : 0 ≤ r
  · go_wp2
    go_ret
    exact ⟨by rw [← unhide HR]; simp [hr], rfl⟩
  · go_wp2
    go_ret
    exact ⟨by rw [← unhide HR]; simp, rfl⟩

set_option maxRecDepth 100000 in
set_option maxHeartbeats 1600000 in
theorem matches_any (l : List ByteArray) (name : ByteArray) (v : Value) (w : World) (h : SS w v l) :
    Calls Tryd.prog 10 #[v, .string name] w fun e w' => e = .returned (.bool (mat l name)) ∧ Below w.heap.size w w' := by
  have hB := (Below.refl w.heap.size w).alloc (Nat.le_refl _) (.cells #[.string name] 9)
  have C := hide (contains_any l name w.heap.size v _ (h.keep hB) (by rw [World.cell?_alloc_new]; rfl))
  have HB := hide hB
  clear hB
  obtain ⟨oa, c, rfl, h1, h2⟩ := SV.form h
  clear h
  cases h0 : (name.toList == sOOF) with
  | true =>
    have HM := hide (mat_oof l name h0)
    generalize mat l name = res at *
    unfold sOOF at h0
    go_enter Tryd.func10, Tryd.ntmps10
    go_wp2
    go_ret
    exact ⟨by rw [unhide HM]; rfl, unhide HB⟩
  | false =>
    have HM := hide (show mat l name = l.any (fun n => one n.toList name.toList) by unfold mat; rw [h0]; rfl)
    rw [← unhide HM] at C
    clear HM
    generalize mat l name = res at *
    unfold sOOF at h0
    go_enter Tryd.func10, Tryd.ntmps10
    go_wp2_with fail
    refine (unhide C).mono ?_
    rintro e w1 ⟨rfl, hw1⟩
    obtain rfl := hw1.symm
    go_wp2
    go_ret
    exact ⟨rfl, unhide HB⟩
end Go.Proofs.YtmnikcnjdeldeaaDoor.rt
