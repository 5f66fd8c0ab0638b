/- The laws' small functions: pick, heavy. -/
import Derived.Test.YtgafjbgplcjnnaaDoorGk
namespace Go.Proofs.YtgafjbgplcjnnaaDoor.fr
open Go.RowKit Go.Joins

/-- Which of n things a raw number speaks of. -/
def pk (c n : Int) : Int := (if c < 0 then -(c + 1) else c) % n
theorem pk_in (c n : Int) (h : 0 < n) : 0 ≤ pk c n ∧ pk c n < n := by
  unfold pk
  exact ⟨Int.emod_nonneg _ (by omega), Int.emod_lt_of_pos _ h⟩
set_option maxRecDepth 100000 in
set_option maxHeartbeats 1600000 in
theorem pick_any (c n : Int) (w : World) (h0 : -9223372036854775808 ≤ c) (h1 : c ≤ 9223372036854775807) (h2 : 0 < n) (h3 : n ≤ 9223372036854775807) :
    Calls Tryd.prog 24 #[.int .i64 c, .int .i64 n] w fun e w' => e = .returned (.int .i64 (pk c n)) ∧ w' = w := by
  have hn : (n == 0) = false := by rw [beq_eq_false_iff_ne]; omega
  have hn0 : n ≠ 0 := by omega
  by_cases hc : c < 0
  · have HP : Hid (pk c n = (-(c + 1)) % n) := by show _ = _; unfold pk; rw [if_pos hc]
    have w1 : IntKind.i64.wrap (c + 1) = c + 1 := IntWalk.i64_in _ ⟨by omega, by omega⟩
    have w2 : IntKind.i64.wrap (-(c + 1)) = -(c + 1) := IntWalk.i64_in _ ⟨by omega, by omega⟩
    have p1 : 0 ≤ -(c + 1) := by omega
    have hr : Int.tmod (-(c + 1)) n = (-(c + 1)) % n := Int.tmod_eq_emod_of_nonneg p1
    have hb := Int.emod_lt_of_pos (-(c + 1)) h2
    have hb0 := Int.emod_nonneg (-(c + 1)) hn0
    generalize pk c n = r at *
    go_enter Tryd.func24, Tryd.ntmps24
    go_wp2
    go_ret
    refine ⟨?_, rfl⟩
    rw [unhide HP]
    rfl
  · have HP : Hid (pk c n = c % n) := by show _ = _; unfold pk; rw [if_neg hc]
    have p1 : 0 ≤ c := by omega
    have hc' : decide (c < 0) = false := decide_eq_false hc
    have hr : Int.tmod c n = c % n := Int.tmod_eq_emod_of_nonneg p1
    have hb := Int.emod_lt_of_pos c h2
    have hb0 := Int.emod_nonneg c hn0
    generalize pk c n = r at *
    go_enter Tryd.func24, Tryd.ntmps24
    go_wp2
    go_ret
    refine ⟨?_, rfl⟩
    rw [unhide HP]
    rfl

theorem LS.form {w : World} {v : Value} {ls : List (List UInt8)} (h : LS w v ls) : ∃ oa c, v = .slice oa ls.length c ∧ ls.length ≤ c ∧ c ≤ maxLen ∧
    ∀ k, k < ls.length → ∃ a x ox cx, oa = some a ∧ ls[k]? = some x ∧ w.cell? (a.add k) = some (.slice ox x.length cx) ∧ BS w (.slice ox x.length cx) x := by
  obtain ⟨vs, h1, ⟨oa, c, rfl, q1, q2, q3, q4⟩, h3⟩ := h
  refine ⟨oa, c, rfl, q1, q2, fun k hk => ?_⟩
  cases oa with
  | none => have := (q3 rfl).1; rw [this] at hk; simp at hk
  | some a =>
    obtain ⟨x, hx⟩ : ∃ x, vs[k]? = some x := ⟨vs[k]'(by omega), List.getElem?_eq_getElem (by omega)⟩
    obtain ⟨l, hl⟩ := getl h1 hx
    have hb := h3 k x l hx hl
    have hc := q4 a rfl k x hx
    obtain ⟨ox, cx, rfl, r⟩ := hb
    exact ⟨a, l, ox, cx, rfl, hl, hc, ox, cx, rfl, r⟩
theorem getE {ls : List (List UInt8)} {k : Nat} {x : List UInt8} (hk : k < ls.length) (h : ls[k]? = some x) : ls[k] = x := by
  rw [List.getElem?_eq_getElem hk] at h; exact Option.some.inj h

/-- What heavy answers. -/
def HvP (ls : List (List UInt8)) (e : Ending) : Prop := ∃ b, e = .returned (.bool b) ∧ (b = false → (∀ p ∈ ls, p.length ≤ 4194304) ∧ (frms ls).length < 134217728)
set_option maxRecDepth 100000 in
set_option maxHeartbeats 1600000 in
theorem heavy_any (ls : List (List UInt8)) (v : Value) (w : World) (h : LS w v ls) :
    Calls Tryd.prog 22 #[v] w fun e w' => HvP ls e ∧ w' = w := by
  obtain ⟨oa, c, rfl, h1, h2, h3⟩ := h.form
  have H3 := hide h3
  have mx : ls.length ≤ 9223372036854775807 := by unfold maxLen at h2; omega
  clear h h3
  go_enter Tryd.func22, Tryd.ntmps22
  go_wp2
  go_loopw [3, 4] (fun nv iv wr => ∃ (k n : Nat), k ≤ ls.length ∧ iv = .int .i64 (k : Int) ∧ nv = .int .i64 (n : Int) ∧ n ≤ 138412044 ∧ Hid (n = fat ls k ∧ ∀ j, j < k → ∀ x, ls[j]? = some x → x.length ≤ 4194304) ∧ wr = w) (fun _ iv _ => ls.length - (intOf iv).toNat)
  case atStart => exact ⟨0, 0, by omega, rfl, rfl, by omega, ⟨(fat_zero ls).symm, fun j hj => by omega⟩, rfl⟩
  case round =>
    obtain ⟨k, n, hk, rfl, rfl, hn, hE, rfl⟩ := hrel
    by_cases hc : k < ls.length
    · have e1 : (k : Int) < (ls.length : Int) := by omega
      have e0 : (0 : Int) ≤ (k : Int) := by omega
      have e3 : (k : Int) < 9223372036854775807 := by omega
      obtain ⟨a, x, ox, cx, rfl, hx, hcell, _⟩ := unhide H3 k hc
      have HX := hide hx
      clear hx H3
      by_cases q1 : 4194304 < x.length
      · have q1' : decide ((4194304 : Int) < (x.length : Int)) = true := decide_eq_true (by omega)
        go_wp2
        go_ret
        exact ⟨⟨true, rfl, fun q => by cases q⟩, rfl⟩
      · have q1' : decide ((4194304 : Int) < (x.length : Int)) = false := decide_eq_false (by omega)
        by_cases q2 : 134217728 ≤ n
        · have q2' : decide ((134217728 : Int) ≤ (n : Int)) = true := decide_eq_true (by omega)
          go_wp2
          go_ret
          exact ⟨⟨true, rfl, fun q => by cases q⟩, rfl⟩
        · have q2' : decide ((134217728 : Int) ≤ (n : Int)) = false := decide_eq_false (by omega)
          go_wp2
          refine ⟨⟨k + 1, n + x.length + 12, by omega, by go_num, by go_num, by omega, ⟨?_, fun j hj y hy => ?_⟩, trivial⟩, by simp [intOf]; omega⟩
          · rw [fat_succ ls k hc, ← (unhide hE).1, getE hc (unhide HX)]
          · by_cases q : j < k
            · exact (unhide hE).2 j q y hy
            · obtain rfl : j = k := by omega
              have := Option.some.inj ((unhide HX).symm.trans hy)
              rw [← this]; omega
    · have e1 : ¬ (k : Int) < (ls.length : Int) := by omega
      clear H3
      go_wp2
      go_ret
      refine ⟨⟨_, rfl, fun q => ?_⟩, rfl⟩
      have hkl : k = ls.length := by omega
      obtain ⟨E1, E2⟩ := unhide hE
      rw [hkl, fat_all] at E1
      refine ⟨fun p hp => ?_, ?_⟩
      · obtain ⟨j, hj⟩ := List.mem_iff_getElem?.mp hp
        exact E2 j (by obtain ⟨z, _⟩ := List.getElem?_eq_some_iff.mp hj; omega) p hj
      · have : ¬ (134217728 : Int) ≤ (n : Int) := by simpa using q
        omega

end Go.Proofs.YtgafjbgplcjnnaaDoor.fr
