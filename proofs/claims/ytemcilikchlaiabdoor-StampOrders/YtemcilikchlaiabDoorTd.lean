/- Package stamp: Norm and Cmp. -/
import Derived.Test.YtemcilikchlaiabDoorTc
import Derived.Deep.RegionHeld3
namespace Go.Proofs.YtemcilikchlaiabDoor.st
open Go.RowKit

theorem ret_norm {m : Nat} (w : World) (s n : Int) (h : IL w m s n) (tmps : Array Value) (ht : tmps[2]?.getD undef = .pointer (some ⟨m, 0, none⟩)) :
    (results Tryd.f7 tmps).run Tryd.prog w = .ok (iv s n) w := by
  obtain ⟨q0, q1⟩ := h.cells
  simp [results, Tryd.results7, ht, go_sem, q0, q1, iv]
theorem IL.two (w : World) (s n u v : Int) (k : Nat) : IL (((((w.alloc (.cells #[.int .i64 s, .int .i64 n] 23)).alloc (.cells #[.int .i64 0, .int .i64 0] 23)).drewN k).setCell ⟨w.heap.size + 1, 0, none⟩ (.int .i64 u)).setCell ⟨w.heap.size + 1, 1, none⟩ (.int .i64 v)) (w.heap.size + 1) u v := by
  have := IL.new (w.alloc (.cells #[.int .i64 s, .int .i64 n] 23)) 0 0
  rw [World.size_alloc] at this
  exact IL.set (w := ((w.alloc (.cells #[.int .i64 s, .int .i64 n] 23)).alloc (.cells #[.int .i64 0, .int .i64 0] 23)).drewN k) this u v
theorem below_two (w : World) (o o' : Obj) (k : Nat) (u v : Value) : Below w.heap.size w (((((w.alloc o).alloc o').drewN k).setCell ⟨w.heap.size + 1, 0, none⟩ u).setCell ⟨w.heap.size + 1, 1, none⟩ v) :=
  below2 ((((Below.refl w.heap.size w).alloc (Nat.le_refl _) _).alloc (by simp) _).trans ((below_drawn _ k).mono (by simp; omega))) (by omega) u v

set_option maxRecDepth 100000 in
set_option maxHeartbeats 1600000 in
theorem norm_any (s n : Int) (w : World) (hs : inI s) (hn : inI n) :
    Calls Tryd.prog 7 #[iv s n] w fun e w' => e = .returned (iv (nSec s n) (nNano s n)) ∧ Below w.heap.size w w' := by
  have D := hide (fun w => divide64_any n 1000000000 w (by omega) hn (by omega))
  unfold inI at hs hn
  have hp : n = n / 1000000000 * 1000000000 + n % 1000000000 := by omega
  have hr : 0 ≤ n % 1000000000 ∧ n % 1000000000 < 1000000000 := by omega
  have HN := hide (norm_of s n (n / 1000000000) (n % 1000000000) hp hr.1 hr.2)
  have hqb : -9223372038 < n / 1000000000 ∧ n / 1000000000 < 9223372037 := by omega
  simp only [divT] at D
  clear hp
  generalize n / 1000000000 = q at *
  generalize n % 1000000000 = r at *
  simp only [iv]
  rcases Int.lt_trichotomy q 0 with t | t | t
  · by_cases z : s < -9223372036854775808 - q
    · have J := hide ((unhide HN).2.1 (by omega))
      clear HN
      go_enter Tryd.func7, Tryd.ntmps7
      go_wp2_with fail
      refine (unhide D _).mono ?_
      rintro e w1 ⟨rfl, k, rfl⟩
      clear D
      go_wp2
      refine bodyPost_ret (ret_norm (m := w.heap.size + 1) _ (-9223372036854775808) (0) (IL.two _ _ _ _ _ _) _ rfl) rfl ?_
      exact ⟨by rw [(unhide J).1, (unhide J).2]; rfl, below_two _ _ _ _ _ _⟩
    · have J := hide ((unhide HN).2.2 (by omega) (by omega))
      clear HN
      go_enter Tryd.func7, Tryd.ntmps7
      go_wp2_with fail
      refine (unhide D _).mono ?_
      rintro e w1 ⟨rfl, k, rfl⟩
      clear D
      go_wp2
      refine bodyPost_ret (ret_norm (m := w.heap.size + 1) _ (s + q) (r) (IL.two _ _ _ _ _ _) _ rfl) rfl ?_
      exact ⟨by rw [(unhide J).1, (unhide J).2]; rfl, below_two _ _ _ _ _ _⟩
  · have J := hide ((unhide HN).2.2 (by omega) (by omega))
    clear HN
    subst t
    rw [Int.add_zero] at J
    · go_enter Tryd.func7, Tryd.ntmps7
      go_wp2_with fail
      refine (unhide D _).mono ?_
      rintro e w1 ⟨rfl, k, rfl⟩
      clear D
      go_wp2
      refine bodyPost_ret (ret_norm (m := w.heap.size + 1) _ (s) (r) (IL.two _ _ _ _ _ _) _ rfl) rfl ?_
      exact ⟨by rw [(unhide J).1, (unhide J).2]; rfl, below_two _ _ _ _ _ _⟩
  · by_cases z : 9223372036854775807 - q < s
    · have J := hide ((unhide HN).1 (by omega))
      clear HN
      go_enter Tryd.func7, Tryd.ntmps7
      go_wp2_with fail
      refine (unhide D _).mono ?_
      rintro e w1 ⟨rfl, k, rfl⟩
      clear D
      go_wp2
      refine bodyPost_ret (ret_norm (m := w.heap.size + 1) _ (9223372036854775807) (999999999) (IL.two _ _ _ _ _ _) _ rfl) rfl ?_
      exact ⟨by rw [(unhide J).1, (unhide J).2]; rfl, below_two _ _ _ _ _ _⟩
    · have J := hide ((unhide HN).2.2 (by omega) (by omega))
      clear HN
      go_enter Tryd.func7, Tryd.ntmps7
      go_wp2_with fail
      refine (unhide D _).mono ?_
      rintro e w1 ⟨rfl, k, rfl⟩
      clear D
      go_wp2
      refine bodyPost_ret (ret_norm (m := w.heap.size + 1) _ (s + q) (r) (IL.two _ _ _ _ _ _) _ rfl) rfl ?_
      exact ⟨by rw [(unhide J).1, (unhide J).2]; rfl, below_two _ _ _ _ _ _⟩

theorem cmpInt_in (a b : Int) : Lib.compareInt a b = if a < b then -1 else if b < a then 1 else 0 := by
  unfold Lib.compareInt
  by_cases h1 : a < b
  · simp [h1]
  · by_cases h2 : b < a
    · simp [h1, h2]
    · simp [h1, h2]

/-- Two moments lie in the two first blocks of a call. -/
structure PairI (w wc : World) (s n s' n' : Int) : Prop where
  a : IL wc w.heap.size s n
  b : IL wc (w.heap.size + 1) s' n'
  below : Below w.heap.size w wc
theorem PairI.start (w : World) (s n s' n' : Int) : PairI w ((w.alloc (.cells #[.int .i64 s, .int .i64 n] 23)).alloc (.cells #[.int .i64 s', .int .i64 n'] 23)) s n s' n' where
  a := (IL.new w s n).alloc _
  b := by
    have := IL.new (w.alloc (.cells #[.int .i64 s, .int .i64 n] 23)) s' n'
    simpa using this
  below := ((Below.refl _ _).alloc (Nat.le_refl _) _).alloc (by simp) _
theorem PairI.call {w wc w' : World} {s n s' n' : Int} (h : PairI w wc s n s' n') (hb : Below wc.heap.size wc w') : PairI w w' s n s' n' where
  a := h.a.below hb h.a.lt
  b := h.b.below hb h.b.lt
  below := h.below.trans (hb.mono h.below.size)
theorem PairI.drew {w wc : World} {s n s' n' : Int} (h : PairI w wc s n s' n') : PairI w wc.drew s n s' n' := ⟨h.a, h.b, h.below.drew⟩
theorem PairI.set1 {w wc : World} {s n s' n' : Int} (h : PairI w wc s n s' n') (x y : Int) :
    PairI w ((wc.setCell ⟨w.heap.size, 0, none⟩ (.int .i64 x)).setCell ⟨w.heap.size, 1, none⟩ (.int .i64 y)) x y s' n' := by
  have hu := (Upd.setCell w.heap.size 0 wc (.int .i64 x)).trans (Upd.setCell w.heap.size 1 _ (.int .i64 y))
  exact ⟨h.a.set _ _, (hu.block _ (by omega)).trans h.b, below2 h.below (Nat.le_refl _) _ _⟩
theorem PairI.set2 {w wc : World} {s n s' n' : Int} (h : PairI w wc s n s' n') (x y : Int) :
    PairI w ((wc.setCell ⟨w.heap.size + 1, 0, none⟩ (.int .i64 x)).setCell ⟨w.heap.size + 1, 1, none⟩ (.int .i64 y)) s n x y := by
  have hu := (Upd.setCell (w.heap.size + 1) 0 wc (.int .i64 x)).trans (Upd.setCell (w.heap.size + 1) 1 _ (.int .i64 y))
  exact ⟨(hu.block _ (by omega)).trans h.a, h.b.set _ _, below2 h.below (by omega) _ _⟩

set_option maxRecDepth 100000 in
set_option maxHeartbeats 1600000 in
theorem or_any (b : Nat) (x y : Int) (w : World) (hx : w.cell? ⟨b, 0, none⟩ = some (.int .i64 x)) (hy : w.cell? ⟨b, 1, none⟩ = some (.int .i64 y)) :
    Calls Tryd.prog 11 #[.slice (some ⟨b, 0, none⟩) 2 2] w fun e w' => e = .returned (.int .i64 (if x = 0 then y else x)) ∧ w' = w := by
  obtain ⟨res, hres⟩ : ∃ r, (if x = 0 then y else x) = r := ⟨_, rfl⟩
  have HR := hide hres
  rw [hres]
  clear hres
  go_enter Tryd.func11, Tryd.ntmps11
  go_wp2
  go_loop [8] (fun i => ∃ k : Nat, i = .int .i64 (k : Int) ∧ k ≤ 2 ∧ Hid ((1 ≤ k → x = 0) ∧ (2 ≤ k → y = 0))) (fun i => 3 - (intOf i).toNat)
  case atStart => exact ⟨0, rfl, by omega, ⟨fun h => by omega, fun h => by omega⟩⟩
  case round =>
    obtain ⟨k, rfl, hk, HK⟩ := hrel
    have hk3 : k = 0 ∨ k = 1 ∨ k = 2 := by omega
    rcases hk3 with rfl | rfl | rfl
    · by_cases h0 : x = 0
      · subst h0
        clear HK
        go_wp2
        exact ⟨⟨1, rfl, by omega, by refine ⟨fun _ => ?_, fun h => ?_⟩ <;> first | trivial | omega⟩, by simp [intOf]⟩
      · have h0' : (x == 0) = false := by rw [beq_eq_false_iff_ne]; exact h0
        have HR2 := hide (show x = res by rw [← unhide HR, if_neg h0])
        clear h0 HK HR
        go_wp2
        go_ret
        exact ⟨by rw [← unhide HR2]; rfl, rfl⟩
    · obtain rfl := (unhide HK).1 (by omega)
      by_cases h0 : y = 0
      · subst h0
        clear HK
        go_wp2
        exact ⟨⟨2, rfl, by omega, by refine ⟨fun _ => ?_, fun h => ?_⟩ <;> first | trivial | omega⟩, by simp [intOf]⟩
      · have h0' : (y == 0) = false := by rw [beq_eq_false_iff_ne]; exact h0
        have HR2 := hide (show y = res by rw [← unhide HR, if_pos rfl])
        clear h0 HK HR
        go_wp2
        go_ret
        exact ⟨by rw [← unhide HR2]; rfl, rfl⟩
    · have HR2 := hide (show 0 = res by rw [← unhide HR, (unhide HK).1 (by omega), if_pos rfl, (unhide HK).2 (by omega)])
      clear HK HR
      go_wp2
      go_ret
      exact ⟨by rw [← unhide HR2]; rfl, rfl⟩

set_option maxRecDepth 100000 in
set_option maxHeartbeats 3200000 in
theorem cmp_any (s n s' n' : Int) (w : World) (hs : inI s) (hn : inI n) (hs' : inI s') (hn' : inI n') :
    Calls Tryd.prog 6 #[iv s n, iv s' n'] w fun e w' => e = .returned (.int .i64 (cmpI s n s' n')) ∧ Below w.heap.size w w' := by
  have hW := PairI.start w s n s' n'
  have C1 := hide (fun w => norm_any s n w hs hn)
  have C2 := hide (fun w => norm_any s' n' w hs' hn')
  unfold cmpI
  generalize nSec s n = a at *
  generalize nNano s n = b at *
  generalize nSec s' n' = c at *
  generalize nNano s' n' = d at *
  have K1 := hide (fun w => Tryd.cmp_Compare_int_f12 a c w)
  have K2 := hide (fun w => Tryd.cmp_Compare_int b d w)
  have HK : Hid ((if Lib.compareInt a c = 0 then Lib.compareInt b d else Lib.compareInt a c) = if a = c ∧ b = d then 0 else if a < c ∨ (a = c ∧ b < d) then -1 else 1) := by
    show _ = _
    rw [cmpInt_in, cmpInt_in]
    split <;> split <;> split <;> omega
  generalize (if a = c ∧ b = d then (0 : Int) else if a < c ∨ (a = c ∧ b < d) then -1 else 1) = r at HK ⊢
  generalize Lib.compareInt a c = k1 at *
  generalize Lib.compareInt b d = k2 at *
  have OR : Hid (∀ (b : Nat) (w : World) (_ : w.cell? ⟨b, 0, none⟩ = some (.int .i64 k1)) (_ : w.cell? ⟨b, 1, none⟩ = some (.int .i64 k2)),
      Calls Tryd.prog 11 #[.slice (some ⟨b, 0, none⟩) 2 2] w fun e w' => e = .returned (.int .i64 r) ∧ w' = w) := by
    intro b w hx hy
    have := or_any b k1 k2 w hx hy
    rw [unhide HK] at this
    exact this
  clear HK
  simp only [iv] at C1 C2 ⊢
  clear hs hn hs' hn'
  go_enter Tryd.func6, Tryd.ntmps6
  go_wp2_with fail
  go_cut [] from 5 (fun wc => PairI w wc a b c d)
  case first =>
    go_region_with (first
      | (go_at_call_of 7 (Value.agg #[.int .i64 s, .int .i64 n]); refine (unhide C1 _).mono ?_; rintro e w1 ⟨rfl, h1⟩; have hW1 := hW.drew.call h1; obtain ⟨x0, x1⟩ := hW1.a.cells; obtain ⟨y0, y1⟩ := hW1.b.cells)
      | (go_at_call_of 7 (Value.agg #[.int .i64 s', .int .i64 n']); refine (unhide C2 _).mono ?_; rintro e w2 ⟨rfl, h2⟩; have hW2 := hW1.call h2; obtain ⟨X0, X1⟩ := hW2.a.cells; obtain ⟨Y0, Y1⟩ := hW2.b.cells; obtain ⟨fx0, fx1⟩ := hW2.a.frees; obtain ⟨fy0, fy1⟩ := hW2.b.frees))
    all_goals go_wp2_with fail
    all_goals go_meet
    all_goals exact (hW2.set1 a b).set2 c d
  case rest =>
    clear hW C1 C2
    obtain ⟨x0, x1⟩ := hcut.a.cells
    obtain ⟨y0, y1⟩ := hcut.b.cells
    have hA := hcut
    clear hcut
    go_wp2_with fail
    go_region_held3 (fun w' => w'.cell? ⟨w.heap.size, 0, none⟩ = some (.int .i64 a) ∧ w'.cell? ⟨w.heap.size, 1, none⟩ = some (.int .i64 b) ∧ w'.cell? ⟨w.heap.size + 1, 0, none⟩ = some (.int .i64 c) ∧ w'.cell? ⟨w.heap.size + 1, 1, none⟩ = some (.int .i64 d)) (((try dsimp only); (repeat' apply And.intro); all_goals first | assumption | (go_keep; done) | (simp; omega))) (first
      | (go_at_call 12; refine (unhide K1 _).mono ?_; rintro e w3 ⟨rfl, rfl⟩)
      | (go_at_call 13; refine (unhide K2 _).mono ?_; rintro e w4 ⟨rfl, rfl⟩)
      | (go_at_call 11; refine (unhide OR _ _ (by first | (go_simp; done) | (simp; done)) (by first | (go_simp; done) | (simp; done))).mono ?_; rintro e w5 ⟨rfl, rfl⟩))
    all_goals go_wp2
    all_goals go_ret
    all_goals exact ⟨rfl, (hA.below.alloc hA.below.size _).drew⟩
end Go.Proofs.YtemcilikchlaiabDoor.st
