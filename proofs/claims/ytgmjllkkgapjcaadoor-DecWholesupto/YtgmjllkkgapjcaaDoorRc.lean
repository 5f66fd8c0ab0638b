/- The contracts of the reference's signed, lower, lined, size and Cmp. -/
import Derived.Test.YtgmjllkkgapjcaaDoorCp
import Derived.Laws.AppendOwnNone
namespace Go.Proofs.YtgmjllkkgapjcaaDoor.rd
open Go.RowKit

theorem rsigned_any (d : Dn) (w : World) : Calls Tryd.prog 42 #[dv d] w fun e w' => e = .returned (.int .i64 (signN d)) ∧ Below w.heap.size w w' := by
  obtain ⟨n, g, x⟩ := d
  simp only [dv]
  have HS : Hid (signN ⟨n, g, x⟩ = if g.size = 0 then 0 else if n then -1 else 1) := rfl
  generalize signN ⟨n, g, x⟩ = r at HS ⊢
  by_cases hz : g.size = 0
  · have hz' : g.toList.isEmpty = true := by rw [empty_iff]; simpa using hz
    have hr : r = 0 := by rw [HS.out, if_pos hz]
    subst hr
    clear hz HS
    go_enter Tryd.func42, Tryd.ntmps42
    go_wp2
    go_ret
    exact ⟨rfl, (Below.refl _ _).alloc (Nat.le_refl _) _⟩
  · have hz' : g.toList.isEmpty = false := by rw [empty_iff]; simpa using hz
    have hr : r = if n then -1 else 1 := by rw [HS.out, if_neg hz]
    subst hr
    clear hz HS
    cases n
    all_goals go_enter Tryd.func42, Tryd.ntmps42
    all_goals go_wp2
    all_goals go_ret
    all_goals exact ⟨rfl, (Below.refl _ _).alloc (Nat.le_refl _) _⟩

theorem rlower_any (p q : Dn) (w : World) : Calls Tryd.prog 43 #[dv p, dv q] w fun e w' => e = .returned (.int .i64 (lowerN p q)) ∧ Below w.heap.size w w' := by
  obtain ⟨pn, pg, px⟩ := p
  obtain ⟨qn, qg, qx⟩ := q
  simp only [dv]
  have HS : Hid (lowerN ⟨pn, pg, px⟩ ⟨qn, qg, qx⟩ = if pg.size = 0 then qx else if qg.size = 0 ∨ px < qx then px else qx) := rfl
  generalize lowerN ⟨pn, pg, px⟩ ⟨qn, qg, qx⟩ = r at HS ⊢
  have B := hide (((Below.refl w.heap.size w).alloc (Nat.le_refl _) (.cells #[.bool pn, .string pg, .int .i64 px] 23)).alloc (by simp) (.cells #[.bool qn, .string qg, .int .i64 qx] 23))
  by_cases hz : pg.size = 0
  · have hz' : pg.toList.isEmpty = true := by rw [empty_iff]; simpa using hz
    have hr : r = qx := by rw [HS.out, if_pos hz]
    subst hr
    clear hz HS
    go_enter Tryd.func43, Tryd.ntmps43
    go_wp2
    go_ret
    exact ⟨rfl, unhide B⟩
  · have hz' : pg.toList.isEmpty = false := by rw [empty_iff]; simpa using hz
    by_cases hy : qg.size = 0
    · have hy' : qg.toList.isEmpty = true := by rw [empty_iff]; simpa using hy
      have hr : r = px := by rw [HS.out, if_neg hz, if_pos (.inl hy)]
      subst hr
      clear hz HS hy
      go_enter Tryd.func43, Tryd.ntmps43
      go_wp2
      go_ret
      exact ⟨rfl, unhide B⟩
    · have hy' : qg.toList.isEmpty = false := by rw [empty_iff]; simpa using hy
      by_cases hx : px < qx
      · have hr : r = px := by rw [HS.out, if_neg hz, if_pos (.inr hx)]
        subst hr
        clear hz HS hy
        go_enter Tryd.func43, Tryd.ntmps43
        go_wp2
        go_ret
        exact ⟨rfl, unhide B⟩
      · have hr : r = qx := by rw [HS.out, if_neg hz, if_neg (by omega)]
        subst hr
        clear hz HS hy
        go_enter Tryd.func43, Tryd.ntmps43
        go_wp2
        go_ret
        exact ⟨rfl, unhide B⟩

theorem own_keep {w w' : World} {B n : Nat} {e : TypeId} {v : Value} {xs : List Value} (h : w.ownsRow B e 1 v n xs) (hb : Below w.heap.size w w') : w'.ownsRow B e 1 v n xs := by
  refine ⟨h.1, ?_⟩
  rcases h.2 with h' | ⟨g, cap, cur, h1, h2, h3, h4⟩
  · exact .inl h'
  · exact .inr ⟨g, cap, cur, h1, h2, (hb.block g (blk_lt h3)).trans h3, h4⟩

theorem linedN_len (n : Dn) (e : Int) : (linedN n e).length ≤ (n.ex - e).toNat + n.dg.size := by
  unfold linedN
  rw [List.length_append, List.length_replicate]
  have := dl_short n.dg
  omega
theorem linedN_dig (n : Dn) (e : Int) : Dig10 (linedN n e) := by
  intro z hz
  unfold linedN at hz
  rcases List.mem_append.1 hz with h | h
  · rw [List.mem_replicate] at h; omega
  · exact dl_dig10 _ z h

set_option maxRecDepth 100000 in
set_option maxHeartbeats 1600000 in
theorem lined_any (n : Dn) (ex : Int) (w : World) (hs : n.dg.size ≤ 1099511627776) (h0 : -1000000 ≤ n.ex) (h1 : n.ex ≤ 1000000) (e0 : -1000000 ≤ ex) (e1 : ex ≤ 1000000) :
    Calls Tryd.prog 45 #[dv n, .int .i64 ex] w fun e w' => ∃ v, e = .returned v ∧ Ints w' v (linedN n ex) ∧ Below w.heap.size w w' := by
  obtain ⟨i0, hi, hz0, hz1, hz2⟩ := info_parts info3
  have c1 := fun w => digits_any n.dg w hs
  have hl := dl_short n.dg
  have HL : Hid (linedN n ex = List.replicate (n.ex - ex).toNat 0 ++ cutN (dl n.dg 0)) := rfl
  generalize linedN n ex = res at HL ⊢
  obtain ⟨nn, ng, nx⟩ := n
  simp only [dv] at c1 hl HL hs h0 h1 ⊢
  generalize cutN (dl ng 0) = dg at *
  have C1 := hide c1
  clear c1
  go_enter Tryd.func45, Tryd.ntmps45
  go_wp2
  go_loopw [5, 6] (fun v i wr => ∃ k : Nat, k ≤ (nx - ex).toNat ∧ i = .int .i64 (ex + k) ∧ wr.ownsRow (w.heap.size + 1) 3 1 v k (List.replicate k (iv 0)) ∧ Below (w.heap.size + 1) (w.alloc (.cells #[.bool nn, .string ng, .int .i64 nx] 23)) wr)
    (fun _ i _ => (nx - intOf i).toNat)
  case atStart => exact ⟨0, by omega, by simp, World.ownsRow_nil _ _ _ _, Below.refl _ _⟩
  case round =>
    obtain ⟨k, hk, rfl, hown, hbel⟩ := hrel
    have l1 : DLies wr w.heap.size ⟨nn, ng, nx⟩ := (hbel.block _ (by omega)).trans (dlies_new w ⟨nn, ng, nx⟩)
    obtain ⟨q0, q1, q2⟩ := l1.cells
    simp only at q0 q1 q2
    have hsz := hbel.size
    simp at hsz
    by_cases hlt : ex + (k : Int) < nx
    · go_wp2_with (at_builtin; refine wpList_append_own _ rfl _ _ 49 rfl (w.heap.size + 1) 3 i0 (.int .i64 0) 1 8 Tryd.underlying49 hi hz0 hz1 hz2 rfl (by decide) _ _ _ rfl (hown.alloc _) ⟨wr.heap.size, 0, none⟩ 1 1 [iv 0] rfl rfl ?c1 ?c2 ?c3 ?c4 ?c5 ?_)
      case c1 =>
        intro i u hi
        match i, hi with
        | 0, hi => simp at hi; subst hi; simp [Addr.add, iv]
      case c2 => intro u hu; simp at hu; subst hu; rfl
      case c3 => unfold maxLen; omega
      case c4 => omega
      case c5 => simp; omega
      intro v' w1 hown1 hgrow1 _
      go_wp2
      go_roundw
      case rel =>
        have e2 : List.replicate (k + 1) (iv 0) = List.replicate k (iv 0) ++ [iv 0] := List.replicate_succ'
        refine ⟨k + 1, by omega, by go_num, by rw [e2]; exact hown1, (hbel.alloc hsz _).grown hgrow1 (by simp; omega) (own_ge hown)⟩
      case measure => simp [intOf]; omega
    · have hkk : k = (nx - ex).toNat := by omega
      have HR : Hid (res = List.replicate k 0 ++ dg) := by show res = _; rw [HL.out, hkk]
      have hbb : Below w.heap.size w wr := ((Below.refl _ _).alloc (Nat.le_refl _) _).trans (hbel.mono (by omega))
      have hk2 : k ≤ 2000000 := by omega
      clear hkk HL hk
      go_wp2_with fail
      refine (unhide C1 _).mono ?_
      rintro e w1 ⟨v, rfl, hI, hb1⟩
      have hown1 : w1.ownsRow (w.heap.size + 1) 3 1 _ k (List.replicate k (iv 0)) := own_keep hown hb1
      have hb2 : Below (w.heap.size + 1) (w.alloc (.cells #[.bool nn, .string ng, .int .i64 nx] 23)) w1 := hbel.trans (hb1.mono (by omega))
      have hbb1 : Below w.heap.size w w1 := hbb.trans (hb1.mono hbb.size)
      have hs1 := hb2.size
      simp at hs1
      rcases hI with ⟨rfl, hn⟩ | ⟨g, cap, rfl, g2, g3, g4⟩
      · go_wp2_with (at_builtin; refine wpList_append_own_none rfl _ _ 49 rfl (w.heap.size + 1) 3 i0 1 Tryd.underlying49 hi _ _ _ rfl hown1 rfl ?_)
        go_wp2
        go_ret
        refine ⟨_, rfl, ?_, hbb1⟩
        rw [HR.out, hn, List.append_nil]
        apply ints_of_own (B := w.heap.size + 1)
        rw [List.length_replicate, List.map_replicate]
        exact hown1
      · have G4 := hide g4
        clear g4
        go_wp2_with (at_builtin; refine wpList_append_own _ rfl _ _ 49 rfl (w.heap.size + 1) 3 i0 (.int .i64 0) 1 8 Tryd.underlying49 hi hz0 hz1 hz2 rfl (by decide) _ _ _ rfl hown1 ⟨g, 0, none⟩ dg.length cap (dg.map iv) rfl (by simp) ?c1 ?c2 ?c3 ?c4 ?c5 ?_)
        case c1 =>
          intro j u hj
          have hlt : j < dg.length := by
            rcases Nat.lt_or_ge j dg.length with h' | h'
            · exact h'
            · rw [List.getElem?_eq_none (by simpa using h')] at hj; cases hj
          have e : (⟨g, 0, none⟩ : Addr).add j = ⟨g, j, none⟩ := by unfold Addr.add; split <;> simp_all
          rw [e, unhide G4 j hlt]
          rw [List.getElem?_map, List.getElem?_eq_getElem hlt] at hj
          simp at hj
          subst hj
          simp [iv, hlt]
        case c2 => intro u hu; simp at hu; obtain ⟨z, _, rfl⟩ := hu; rfl
        case c3 => unfold maxLen; omega
        case c4 => omega
        case c5 => omega
        intro v' w2 hown2 hgrow2 _
        go_wp2
        go_ret
        refine ⟨_, rfl, ?_, ?_⟩
        · rw [HR.out]
          apply ints_of_own (B := w.heap.size + 1)
          rw [List.map_append, List.length_append, List.length_replicate, List.map_replicate]
          exact hown2
        · have := hb2.grown hgrow2 (by omega) (own_ge hown1)
          exact ((Below.refl _ _).alloc (Nat.le_refl _) _).trans (this.mono (by omega))
end Go.Proofs.YtgmjllkkgapjcaaDoor.rd
