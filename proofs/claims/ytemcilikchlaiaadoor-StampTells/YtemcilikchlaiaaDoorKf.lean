/- The reference of package stamp: Norm and Cmp; a moment in its block. -/
import Derived.Test.YtemcilikchlaiaaDoorKe
import Derived.Laws.StructEq
namespace Go.Proofs.YtemcilikchlaiaaDoor.st
open Go.RowKit

theorem rdate_any (n y m d : Int) (w : World) (hd : isDate n y m d) :
    Calls Tryd.prog 22 #[.int .i64 n] w fun e w' => e = .returned (dateV y m d) ∧ w' = w := by
  by_cases h : -400000000 ≤ n ∧ n ≤ 400000000
  · exact rdate_near n y m d w h.1 h.2 hd
  · have hb := dn_in hd.1
    rw [hd.2] at hb
    have h1 := dby_near y
    have h2 := dby_near (y + 1)
    rw [dateV_out (show ¬ (-999999 ≤ y ∧ y ≤ 999999) by omega)]
    exact rdate_far n w (by omega)

/-- A moment as a value. -/
def iv (s n : Int) : Value := .agg #[.int .i64 s, .int .i64 n]
/-- A moment lies in block m. -/
def IL (w : World) (m : Nat) (s n : Int) : Prop := w.heap[m]? = some (.cells #[.int .i64 s, .int .i64 n] 24 (0, 0))
theorem IL.cells {w : World} {m : Nat} {s n : Int} (h : IL w m s n) : w.cell? ⟨m, 0, none⟩ = some (.int .i64 s) ∧ w.cell? ⟨m, 1, none⟩ = some (.int .i64 n) := ⟨blk_cell h 0, blk_cell h 1⟩
theorem IL.frees {w : World} {m : Nat} {s n : Int} (h : IL w m s n) : w.frozen? ⟨m, 0, none⟩ = false ∧ w.frozen? ⟨m, 1, none⟩ = false := ⟨blk_free h 0, blk_free h 1⟩
theorem IL.set {w : World} {m : Nat} {s n : Int} (h : IL w m s n) (a b : Int) : IL ((w.setCell ⟨m, 0, none⟩ (.int .i64 a)).setCell ⟨m, 1, none⟩ (.int .i64 b)) m a b := blk_set (blk_set h 0 _) 1 _
theorem IL.below {B : Nat} {w w' : World} {m : Nat} {s n : Int} (h : IL w m s n) (hb : Below B w w') (hm : m < B) : IL w' m s n := (hb.block m hm).trans h
theorem IL.lt {w : World} {m : Nat} {s n : Int} (h : IL w m s n) : m < w.heap.size := by
  rcases Nat.lt_or_ge m w.heap.size with q | q
  · exact q
  · unfold IL at h; rw [Array.getElem?_eq_none q] at h; cases h
theorem IL.alloc {w : World} {m : Nat} {s n : Int} (h : IL w m s n) (o : Obj) : IL (w.alloc o) m s n := (Below.heap_alloc w o m h.lt).trans h
theorem IL.new (w : World) (s n : Int) : IL (w.alloc (.cells #[.int .i64 s, .int .i64 n] 24)) w.heap.size s n := by
  show (w.heap.push _)[w.heap.size]? = _
  rw [Array.getElem?_push_size]
theorem below2 {B : Nat} {a w : World} (h : Below B a w) {m : Nat} (hB : B ≤ m) (u v : Value) : Below B a ((w.setCell ⟨m, 0, none⟩ u).setCell ⟨m, 1, none⟩ v) :=
  (h.setCell hB _).setCell hB _

theorem norm_of (s n c m : Int) (h : n = c * 1000000000 + m) (h0 : 0 ≤ m) (h1 : m < 1000000000) :
    (9223372036854775807 < s + c → nSec s n = 9223372036854775807 ∧ nNano s n = 999999999) ∧ (s + c < -9223372036854775808 → nSec s n = -9223372036854775808 ∧ nNano s n = 0) ∧
    (-9223372036854775808 ≤ s + c → s + c ≤ 9223372036854775807 → nSec s n = s + c ∧ nNano s n = m) := by
  have ht : tot s n = (s + c) * 1000000000 + m := by unfold tot; omega
  unfold nSec nNano
  rw [ht]
  generalize s + c = k
  refine ⟨fun q => ?_, fun q => ?_, fun q q2 => ?_⟩
  · rw [if_pos (by omega), if_pos (by omega)]; exact ⟨rfl, rfl⟩
  · rw [if_neg (by omega), if_pos (by omega), if_neg (by omega), if_pos (by omega)]; exact ⟨rfl, rfl⟩
  · rw [if_neg (by omega), if_neg (by omega), if_neg (by omega), if_neg (by omega)]
    omega
theorem t_parts (n : Int) : n = n.tdiv 1000000000 * 1000000000 + n.tmod 1000000000 ∧ -1000000000 < n.tmod 1000000000 ∧ n.tmod 1000000000 < 1000000000 ∧ (n.tmod 1000000000 < 0 → n < 0) := by
  have h3 : 0 ≤ n → 0 ≤ n.tmod 1000000000 := fun q => Int.tmod_nonneg _ q
  have h := Int.mul_tdiv_add_tmod n 1000000000
  have h1 := Int.tmod_lt_of_pos n (b := 1000000000) (by omega)
  have h2 := Int.lt_tmod_of_pos n (b := 1000000000) (by omega)
  omega

theorem ret_rnorm {m : Nat} (w : World) (s n : Int) (h : IL w m s n) (tmps : Array Value) (ht : tmps[2]?.getD undef = .pointer (some ⟨m, 0, none⟩)) :
    (results Tryd.f14 tmps).run Tryd.prog w = .ok (iv s n) w := by
  obtain ⟨q0, q1⟩ := h.cells
  simp [results, Tryd.results14, ht, go_sem, q0, q1, iv]

set_option maxRecDepth 100000 in
set_option maxHeartbeats 1600000 in
theorem rnorm_any (s n : Int) (w : World) (hs0 : -9223372036854775808 ≤ s) (hs1 : s ≤ 9223372036854775807) (hn0 : -9223372036854775808 ≤ n) (hn1 : n ≤ 9223372036854775807) :
    Calls Tryd.prog 14 #[iv s n] w fun e w' => e = .returned (iv (nSec s n) (nNano s n)) ∧ Below w.heap.size w w' := by
  obtain ⟨p1, p2, p3, p4⟩ := t_parts n
  have HN := hide (norm_of s n)
  generalize hq : n.tdiv 1000000000 = q at *
  generalize hr : n.tmod 1000000000 = r at *
  have hqb : -9223372038 < q ∧ q < 9223372037 := by omega
  have P1 := hide p1
  have p5 : r < 0 → q ≤ 0 := fun z => by have := p4 z; omega
  clear p4
  simp only [iv]
  clear p1
  by_cases c1 : r < 0
  · have H := hide ((unhide HN) (q - 1) (r + 1000000000) (by have := unhide P1; omega) (by omega) (by omega))
    have t := p5 c1
    have t1 : q - 1 < 0 := by omega
    clear HN P1 p5
    by_cases z : s < -9223372036854775808 - (q - 1)
    · have J := hide ((unhide H).2.1 (by omega))
      clear H
      go_enter Tryd.func14, Tryd.ntmps14
      go_wp2
      refine bodyPost_ret (ret_rnorm (m := w.heap.size + 1) _ (-9223372036854775808) (0) (by have := IL.new (w.alloc (.cells #[.int .i64 s, .int .i64 n] 24)) (-9223372036854775808) (0); rwa [World.size_alloc] at this) _ rfl) rfl ?_
      exact ⟨by rw [(unhide J).1, (unhide J).2]; rfl, ((Below.refl w.heap.size w).alloc (Nat.le_refl _) _).alloc (by simp) _⟩
    · have J := hide ((unhide H).2.2 (by omega) (by omega))
      clear H
      go_enter Tryd.func14, Tryd.ntmps14
      go_wp2
      refine bodyPost_ret (ret_rnorm (m := w.heap.size + 1) _ (s + (q - 1)) (r + 1000000000) (by have := IL.new (w.alloc (.cells #[.int .i64 s, .int .i64 n] 24)) (s + (q - 1)) (r + 1000000000); rwa [World.size_alloc] at this) _ rfl) rfl ?_
      exact ⟨by rw [(unhide J).1, (unhide J).2]; rfl, ((Below.refl w.heap.size w).alloc (Nat.le_refl _) _).alloc (by simp) _⟩
  · have H := hide ((unhide HN) q r (by have := unhide P1; omega) (by omega) (by omega))
    clear HN P1 p5
    rcases Int.lt_trichotomy q 0 with t | t | t
    · by_cases z : s < -9223372036854775808 - q
      · have J := hide ((unhide H).2.1 (by omega))
        clear H
        go_enter Tryd.func14, Tryd.ntmps14
        go_wp2
        refine bodyPost_ret (ret_rnorm (m := w.heap.size + 1) _ (-9223372036854775808) (0) (by have := IL.new (w.alloc (.cells #[.int .i64 s, .int .i64 n] 24)) (-9223372036854775808) (0); rwa [World.size_alloc] at this) _ rfl) rfl ?_
        exact ⟨by rw [(unhide J).1, (unhide J).2]; rfl, ((Below.refl w.heap.size w).alloc (Nat.le_refl _) _).alloc (by simp) _⟩
      · have J := hide ((unhide H).2.2 (by omega) (by omega))
        clear H
        go_enter Tryd.func14, Tryd.ntmps14
        go_wp2
        refine bodyPost_ret (ret_rnorm (m := w.heap.size + 1) _ (s + q) (r) (by have := IL.new (w.alloc (.cells #[.int .i64 s, .int .i64 n] 24)) (s + q) (r); rwa [World.size_alloc] at this) _ rfl) rfl ?_
        exact ⟨by rw [(unhide J).1, (unhide J).2]; rfl, ((Below.refl w.heap.size w).alloc (Nat.le_refl _) _).alloc (by simp) _⟩
    · have J := hide ((unhide H).2.2 (by omega) (by omega))
      clear H
      subst t
      rw [Int.add_zero] at J
      go_enter Tryd.func14, Tryd.ntmps14
      go_wp2
      refine bodyPost_ret (ret_rnorm (m := w.heap.size + 1) _ s r (by have := IL.new (w.alloc (.cells #[.int .i64 s, .int .i64 n] 24)) s r; rwa [World.size_alloc] at this) _ rfl) rfl ?_
      exact ⟨by rw [(unhide J).1, (unhide J).2]; rfl, ((Below.refl w.heap.size w).alloc (Nat.le_refl _) _).alloc (by simp) _⟩
    · by_cases z : 9223372036854775807 - q < s
      · have J := hide ((unhide H).1 (by omega))
        clear H
        go_enter Tryd.func14, Tryd.ntmps14
        go_wp2
        refine bodyPost_ret (ret_rnorm (m := w.heap.size + 1) _ (9223372036854775807) (999999999) (by have := IL.new (w.alloc (.cells #[.int .i64 s, .int .i64 n] 24)) (9223372036854775807) (999999999); rwa [World.size_alloc] at this) _ rfl) rfl ?_
        exact ⟨by rw [(unhide J).1, (unhide J).2]; rfl, ((Below.refl w.heap.size w).alloc (Nat.le_refl _) _).alloc (by simp) _⟩
      · have J := hide ((unhide H).2.2 (by omega) (by omega))
        clear H
        go_enter Tryd.func14, Tryd.ntmps14
        go_wp2
        refine bodyPost_ret (ret_rnorm (m := w.heap.size + 1) _ (s + q) (r) (by have := IL.new (w.alloc (.cells #[.int .i64 s, .int .i64 n] 24)) (s + q) (r); rwa [World.size_alloc] at this) _ rfl) rfl ?_
        exact ⟨by rw [(unhide J).1, (unhide J).2]; rfl, ((Below.refl w.heap.size w).alloc (Nat.le_refl _) _).alloc (by simp) _⟩

theorem hst : Tryd.prog.stoodInHeld 24 = false := by kernel_rfl
theorem eq_iv (w : World) (a b c d : Int) : (binOp .eql 24 (.agg #[.int .i64 a, .int .i64 b]) (.agg #[.int .i64 c, .int .i64 d])).run Tryd.prog w = .ok (.bool (a == c && b == d)) w := by
  rw [run_eql_struct, run_equalIn_struct _ _ _ _ _ (by kernel_rfl) hst]
  simp only [Program.fieldsOf, Tryd.underlying24, Op.eqFields]
  simp [go_sem, Tryd.underlying2, Tryd.underlying3]
  by_cases h : a = c
  · by_cases h2 : b = d
    · simp [h, h2]
    · simp [h, h2]
  · simp [h]
theorem neq_iv (w : World) (a b c d : Int) : (binOp .neq 24 (.agg #[.int .i64 a, .int .i64 b]) (.agg #[.int .i64 c, .int .i64 d])).run Tryd.prog w = .ok (.bool (!(a == c && b == d))) w := by
  rw [run_neq_struct, run_equalIn_struct _ _ _ _ _ (by kernel_rfl) hst]
  simp only [Program.fieldsOf, Tryd.underlying24, Op.eqFields]
  simp [go_sem, Tryd.underlying2, Tryd.underlying3]
  by_cases h : a = c
  · by_cases h2 : b = d
    · simp [h, h2]
    · simp [h, h2]
  · simp [h]

set_option maxRecDepth 100000 in
set_option maxHeartbeats 1600000 in
theorem rcmp_any (s n s' n' : Int) (w : World) (hs0 : -9223372036854775808 ≤ s) (hs1 : s ≤ 9223372036854775807) (hn0 : -9223372036854775808 ≤ n) (hn1 : n ≤ 9223372036854775807)
    (hs0' : -9223372036854775808 ≤ s') (hs1' : s' ≤ 9223372036854775807) (hn0' : -9223372036854775808 ≤ n') (hn1' : n' ≤ 9223372036854775807) :
    Calls Tryd.prog 18 #[iv s n, iv s' n'] w fun e w' => e = .returned (.int .i64 (cmpI s n s' n')) ∧ Below w.heap.size w w' := by
  have N1 := hide (fun u => rnorm_any s n u hs0 hs1 hn0 hn1)
  have N2 := hide (fun u => rnorm_any s' n' u hs0' hs1' hn0' hn1')
  unfold cmpI
  generalize nSec s n = a at *
  generalize nNano s n = b at *
  generalize nSec s' n' = c at *
  generalize nNano s' n' = d at *
  have HB := hide (((Below.refl w.heap.size w).alloc (Nat.le_refl _) (.cells #[.int .i64 s, .int .i64 n] 24)).alloc (by simp) (.cells #[.int .i64 s', .int .i64 n'] 24))
  simp only [iv] at N1 N2 ⊢
  clear hs0 hs1 hn0 hn1 hs0' hs1' hn0' hn1'
  go_enter Tryd.func18, Tryd.ntmps18
  go_wp2_with fail
  refine (unhide N1 _).mono ?_
  rintro e w1 ⟨rfl, hb1⟩
  have HI := hide ((show IL ((w.alloc (.cells #[.int .i64 s, .int .i64 n] 24)).alloc (.cells #[.int .i64 s', .int .i64 n'] 24)) (w.heap.size + 1) s' n' by
    have := IL.new (w.alloc (.cells #[.int .i64 s, .int .i64 n] 24)) s' n'
    rwa [World.size_alloc] at this).below hb1 (by simp))
  have HB1 := hide ((unhide HB).trans (hb1.mono (by simp; omega)))
  obtain ⟨p0, p1⟩ := ((unhide HI).alloc (.cells #[.int .i64 a, .int .i64 b] 24)).cells
  have hz1 := hb1.size
  simp only [World.size_alloc] at hz1
  clear hb1 HB N1
  go_wp2_with fail
  refine (unhide N2 _).mono ?_
  rintro e w2 ⟨rfl, hb2⟩
  have HJ := hide ((IL.new w1 a b).below hb2 (by simp))
  have HB2 := hide (((unhide HB1).alloc (by omega) _).trans (hb2.mono (by simp; omega)))
  have hz2 := hb2.size
  simp only [World.size_alloc] at hz2
  obtain ⟨q0, q1⟩ := ((unhide HJ).alloc (.cells #[.int .i64 c, .int .i64 d] 24)).cells
  obtain ⟨r0, r1⟩ := (IL.new w2 c d).cells
  have HB3 := hide ((unhide HB2).alloc (by omega) (.cells #[.int .i64 c, .int .i64 d] 24))
  have heq := fun u => eq_iv u a b c d
  clear hb2 HB1 N2 p0 p1 HI HB2 HJ
  by_cases h1 : a = c ∧ b = d
  · have hb : (a == c && b == d) = true := by simp [h1.1, h1.2]
    simp only [hb] at heq
    go_wp2
    go_ret
    exact ⟨rfl, unhide HB3⟩
  · have hb : (a == c && b == d) = false := by
      by_cases q : a = c
      · have : b ≠ d := fun z => h1 ⟨q, z⟩
        simp [q, this]
      · simp [q]
    simp only [hb] at heq
    by_cases h2 : a < c
    · go_wp2
      go_ret
      exact ⟨rfl, unhide HB3⟩
    · by_cases h3 : a = c
      · by_cases h4 : b < d
        · have h3' : (a == c) = true := by rw [beq_iff_eq]; exact h3
          go_wp2
          go_ret
          exact ⟨rfl, unhide HB3⟩
        · have h3' : (a == c) = true := by rw [beq_iff_eq]; exact h3
          go_wp2
          go_ret
          exact ⟨rfl, unhide HB3⟩
      · have h3' : (a == c) = false := by rw [beq_eq_false_iff_ne]; exact h3
        go_wp2
        go_ret
        exact ⟨rfl, unhide HB3⟩
end Go.Proofs.YtemcilikchlaiaaDoor.st
