/- The laws' small functions: kept, same. -/
import Derived.Test.YtgafjbgplcjnnaaDoorGi
namespace Go.Proofs.YtgafjbgplcjnnaaDoor.fr
open Go.RowKit

set_option maxRecDepth 100000 in
set_option maxHeartbeats 1600000 in
theorem kept_any (l : List UInt8) (v u : Value) (w : World) (h : BS w v (l ++ mark)) (k : BS w u l) (hl : l.length ≤ 1000000000) :
    Calls Tryd.prog 13 #[v, u] w fun e w' => e = .returned (.bool true) ∧ w' = w := by
  have hlen : (l ++ mark).length = l.length + 3 := by simp [mark]
  obtain ⟨v1, s1, b1⟩ := h.h l.length (by omega) (l.length : Int) rfl
  rw [List.take_left] at b1
  have C1 := hide (equal_any l l v1 u w b1 k)
  rw [decide_eq_true rfl] at C1
  obtain ⟨oa, c, rfl, h1, h2, h3, h4⟩ := h
  obtain ⟨ob, d, rfl, k1, k2, k3, k4⟩ := k
  cases oa with
  | none => have := congrArg List.length (h3 rfl).1; rw [hlen] at this; simp at this
  | some a =>
    have e0 : w.cell? (a.add l.length) = some (.int .u8 165) := h4 a rfl l.length 165 (by simp [mark])
    have e1 : w.cell? ⟨a.block, a.off + (l.length + 1), none⟩ = some (.int .u8 90) := h4 a rfl (l.length + 1) 90 (by simp [mark])
    have e2 : w.cell? ⟨a.block, a.off + (l.length + 2), none⟩ = some (.int .u8 165) := h4 a rfl (l.length + 2) 165 (by simp [mark])
    rw [hlen] at h1 s1 ⊢
    clear h3 h4 k3 k4 b1 hlen
    generalize l.length = n at *
    go_enter Tryd.func13, Tryd.ntmps13
    go_wp2_with fail
    refine (unhide C1).mono ?_
    rintro e w1 ⟨rfl, rfl⟩
    clear C1
    go_wp2
    go_ret
    exact ⟨rfl, rfl⟩

/-- A list of lists of bytes in memory. -/
def LS (w : World) (v : Value) (ls : List (List UInt8)) : Prop :=
  ∃ vs : List Value, vs.length = ls.length ∧
    (∃ oa c, v = .slice oa ls.length c ∧ ls.length ≤ c ∧ c ≤ maxLen ∧ (oa = none → ls = [] ∧ c = 0) ∧ ∀ a, oa = some a → ∀ (j : Nat) (u : Value), vs[j]? = some u → w.cell? (a.add j) = some u) ∧
    ∀ (j : Nat) (x : Value) (l : List UInt8), vs[j]? = some x → ls[j]? = some l → BS w x l
theorem OBB.ls {w : World} {B : Nat} {v : Value} {ls : List (List UInt8)} (h : OBB w B v ls) : LS w v ls := by
  obtain ⟨vs, h1, h2, h3, _⟩ := h
  refine ⟨vs, h1, ?_, fun j x l hx hl => (h3 j x l hx hl).bs⟩
  obtain ⟨hl, ⟨rfl, h0⟩ | ⟨g, cap, cur, rfl, hb, hg, hc, hm, hs, ht⟩⟩ := h2
  · have : ls = [] := List.eq_nil_of_length_eq_zero h0
    subst this
    exact ⟨none, 0, rfl, by simp, by unfold maxLen; omega, fun _ => ⟨rfl, rfl⟩, fun a ha => by cases ha⟩
  · refine ⟨_, cap, rfl, hc, hm, (fun q => by cases q), fun a ha j u hu => ?_⟩
    cases ha
    obtain ⟨hj, hju⟩ := List.getElem?_eq_some_iff.mp hu
    have e : (⟨g, 0, none⟩ : Addr).add j = ⟨g, j, none⟩ := by unfold Addr.add; split <;> simp_all
    rw [e, blk_cell hg]
    have h1' : (cur.toList.take (ls.length * 1))[j]? = vs[j]? := by rw [ht]
    rw [List.getElem?_take, if_pos (by omega), hu] at h1'
    simpa using h1'
theorem LS.keep {w w' : World} {v : Value} {ls : List (List UInt8)} (h : LS w v ls) (hb : Below w.heap.size w w') : LS w' v ls := by
  obtain ⟨vs, h1, ⟨oa, c, rfl, q1, q2, q3, q4⟩, h3⟩ := h
  refine ⟨vs, h1, ⟨oa, c, rfl, q1, q2, q3, fun a ha j u hu => ?_⟩, fun j x l hx hl => (h3 j x l hx hl).keep hb⟩
  have := q4 a ha j u hu
  rw [hb.cell (cell_lt' this)]; exact this
theorem LS.drewN {w : World} {v : Value} {ls : List (List UInt8)} (h : LS w v ls) (n : Nat) : LS (w.drewN n) v ls := h

theorem dec_lists (ls ms : List (List UInt8)) (h : ls.length = ms.length) (k : Nat) (hk : ∀ j, j < k → ls[j]? = ms[j]?) (hn : k = ls.length) : ls = ms := by
  apply List.ext_getElem?
  intro i
  by_cases q : i < k
  · exact hk i q
  · rw [List.getElem?_eq_none (by omega), List.getElem?_eq_none (by omega)]

set_option maxRecDepth 100000 in
set_option maxHeartbeats 1600000 in
theorem same_any (ls ms : List (List UInt8)) (v u : Value) (w : World) (h : LS w v ls) (k : LS w u ms) :
    Calls Tryd.prog 20 #[v, u] w fun e w' => e = .returned (.bool (decide (ls = ms))) ∧ ∃ n, w' = w.drewN n := by
  obtain ⟨vs, h1, ⟨oa, c, rfl, q1, q2, q3, q4⟩, h3⟩ := h
  obtain ⟨us, k1, ⟨ob, d, rfl, r1, r2, r3, r4⟩, k3⟩ := k
  by_cases hl : ls.length = ms.length
  · have hb : ((ls.length : Int) != (ms.length : Int)) = false := by rw [bne_eq_false_iff_eq]; omega
    have HD : Hid (decide (ls = ms) = true ↔ ls = ms) := decide_eq_true_iff
    generalize decide (ls = ms) = res at *
    have HL := hide hl
    have H3 := hide h3
    have K3 := hide k3
    have Q3 := hide q3
    have Q4 := hide q4
    have R3 := hide r3
    have R4 := hide r4
    have mx : ls.length ≤ 9223372036854775807 := by unfold maxLen at q2; omega
    clear hl h3 k3 q3 q4 r3 r4
    go_enter Tryd.func20, Tryd.ntmps20
    go_wp2
    go_loopw [5] (fun iv wr => ∃ k : Nat, k ≤ ls.length ∧ iv = .int .i64 (k : Int) ∧ Hid (∀ j : Nat, j < k → ls[j]? = ms[j]?) ∧ Hid (∃ n, wr = w.drewN n)) (fun iv _ => ls.length - (intOf iv).toNat)
    case atStart => exact ⟨0, by omega, rfl, fun j hj => by omega, 0, rfl⟩
    case round =>
      obtain ⟨k, hk, rfl, hE, hW⟩ := hrel
      by_cases hc : k < ls.length
      · have e1 : (k : Int) < (ls.length : Int) := by omega
        have e2 : (k : Int) < (ms.length : Int) := by have := unhide HL; omega
        have e0 : (0 : Int) ≤ (k : Int) := by omega
        have e3 : (k : Int) < 9223372036854775807 := by omega
        have hm : k < ms.length := by have := unhide HL; omega
        obtain ⟨a, rfl⟩ : ∃ a, oa = some a := by
          cases oa with
          | none => have := (unhide Q3 rfl).1; rw [this] at hc; simp at hc
          | some a => exact ⟨a, rfl⟩
        obtain ⟨b, rfl⟩ : ∃ b, ob = some b := by
          cases ob with
          | none => have := (unhide R3 rfl).1; rw [this] at hm; simp at hm
          | some a => exact ⟨a, rfl⟩
        obtain ⟨x, hx⟩ : ∃ x, vs[k]? = some x := ⟨vs[k]'(by omega), List.getElem?_eq_getElem (by omega)⟩
        obtain ⟨y, hy⟩ : ∃ y, us[k]? = some y := ⟨us[k]'(by omega), List.getElem?_eq_getElem (by omega)⟩
        obtain ⟨lx, hlx⟩ := getl h1 hx
        obtain ⟨ly, hly⟩ := getl k1 hy
        have cx : wr.cell? (a.add k) = some x := by obtain ⟨n, hn⟩ := unhide hW; rw [hn]; exact unhide Q4 a rfl k x hx
        have cy : wr.cell? (b.add k) = some y := by obtain ⟨n, hn⟩ := unhide hW; rw [hn]; exact unhide R4 b rfl k y hy
        have C : ∀ n, Hid (Calls Tryd.prog 15 #[x, y] (wr.drewN n) fun e w' => e = .returned (.bool (decide (lx = ly))) ∧ w' = wr.drewN n) := fun n => by
          obtain ⟨m, hm⟩ := unhide hW
          rw [hm]
          exact equal_any lx ly x y ((w.drewN m).drewN n) (((unhide H3 k x lx hx hlx).drewN m).drewN n) (((unhide K3 k y ly hy hly).drewN m).drewN n)
        obtain ⟨ox, cx', fx⟩ : ∃ o c, x = .slice o lx.length c := by obtain ⟨o, c, q, _⟩ := unhide H3 k x lx hx hlx; exact ⟨o, c, q⟩
        obtain ⟨oy, cy', fy⟩ : ∃ o c, y = .slice o ly.length c := by obtain ⟨o, c, q, _⟩ := unhide K3 k y ly hy hly; exact ⟨o, c, q⟩
        rw [fx] at cx C
        rw [fy] at cy C
        have HX := hide hlx
        have HY := hide hly
        clear hx hy hlx hly Q3 Q4 R3 R4 H3 K3 fx fy
        by_cases he : lx = ly
        · subst he
          rw [decide_eq_true rfl] at C
          go_wp2
          go_quiet ((go_at_call 15; exact Calls.quiet_of_same (unhide (C _))))
          go_wp2
          refine ⟨⟨k + 1, by omega, by go_num, fun j hj => ?_, ?_⟩, by simp [intOf]; omega⟩
          · by_cases q : j < k
            · exact unhide hE j q
            · obtain rfl : j = k := by omega
              rw [unhide HX, unhide HY]
          · obtain ⟨m, hm⟩ := unhide hW
            exact ⟨_, by rw [hm]; exact World.drewN_drewN _ _ _⟩
        · rw [decide_eq_false he] at C
          have HE := hide he
          clear he
          go_wp2
          go_quiet ((go_at_call 15; exact Calls.quiet_of_same (unhide (C _))))
          go_wp2
          go_ret
          obtain ⟨m, hm⟩ := unhide hW
          refine ⟨?_, _, by rw [hm]; exact World.drewN_drewN _ _ _⟩
          have : res = false := by
            cases res with
            | false => rfl
            | true =>
              have := (unhide HD).1 rfl
              rw [this, unhide HY] at HX
              exact absurd (Option.some.inj (unhide HX)).symm (unhide HE)
          rw [this]
          rfl
      · have e1 : ¬ (k : Int) < (ls.length : Int) := by omega
        have hr : res = true := (unhide HD).2 (dec_lists ls ms (unhide HL) k (unhide hE) (by omega))
        subst hr
        clear Q3 Q4 R3 R4 H3 K3
        go_wp2
        go_ret
        exact ⟨rfl, unhide hW⟩
  · have hb : ((ls.length : Int) != (ms.length : Int)) = true := by rw [bne_iff_ne]; omega
    rw [decide_eq_false (fun q : ls = ms => hl (by rw [q]))]
    clear hl h3 k3 q3 q4 r3 r4
    go_enter Tryd.func20, Tryd.ntmps20
    go_wp2
    go_ret
    exact ⟨rfl, 0, rfl⟩

end Go.Proofs.YtgafjbgplcjnnaaDoor.fr
