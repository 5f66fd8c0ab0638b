/- The contract of the reference's Norm. -/
import Derived.Test.YtgmjllkkgapjcaaDoorEq
namespace Go.Proofs.YtgmjllkkgapjcaaDoor.rd
open Go.RowKit

theorem told_any (neg : Bool) (v : Value) (zs : List Int) (ex : Int) (w : World) (hv : Ints w v zs) (hl : zs.length ≤ 1099511627776) (hd : Dig10 zs) (h0 : -9223372036854775808 ≤ ex) (h1 : ex ≤ 9223372036854775807) :
    Calls Tryd.prog 31 #[.bool neg, v, .int .i64 ex] w fun e w' => e = .returned (.tuple #[dv (told neg zs ex).1, .bool (told neg zs ex).2]) ∧ Below w.heap.size w w' := by
  rcases hv with ⟨rfl, rfl⟩ | ⟨g, cap, rfl, h2, h3, h4⟩
  · exact told_nil neg ex w
  · exact told_some neg g cap zs ex w h2 h3 hl h4 hd h0 h1

theorem ret_rnorm {m : Nat} (w : World) (d : Dn) (h0 : w.cell? ⟨m, 0, none⟩ = some (.bool d.neg)) (h1 : w.cell? ⟨m, 1, none⟩ = some (.string d.dg)) (h2 : w.cell? ⟨m, 2, none⟩ = some (.int .i64 d.ex)) (tmps : Array Value) (ht : tmps[2]?.getD undef = .pointer (some ⟨m, 0, none⟩)) :
    (results Tryd.f11 tmps).run Tryd.prog w = .ok (dv d) w := by
  simp [results, Tryd.results11, ht, go_sem, h0, h1, h2, dv]

set_option maxRecDepth 100000 in
set_option maxHeartbeats 800000 in
theorem rnorm_any (d : Dn) (w : World) (hs : d.dg.size ≤ 1099511627776) (h0 : -9223372036854775808 ≤ d.ex) (h1 : d.ex ≤ 9223372036854775807) :
    Calls Tryd.prog 11 #[dv d] w fun e w' => e = .returned (dv (norm d)) ∧ Below w.heap.size w w' := by
  obtain ⟨n, g, x⟩ := d
  simp only at hs h0 h1
  have c1 := fun w => digits_any g w hs
  have c2 := fun v w (hv : Ints w v (cutN (dl g 0))) => told_any n v (cutN (dl g 0)) x w hv (Nat.le_trans (dl_short g) hs) (dl_dig10 g) h0 h1
  have HB : Hid (norm ⟨n, g, x⟩ = (oneForm n (digs g) x).1) := rfl
  rw [norm_eq] at c2
  generalize norm ⟨n, g, x⟩ = r at HB ⊢
  generalize oneForm n (digs g) x = o at *
  generalize cutN (dl g 0) = zl at *
  obtain ⟨r', ok⟩ := o
  obtain rfl : r = r' := HB
  obtain ⟨rn, rg, rx⟩ := r
  simp only [dv] at c2 ⊢
  have C1 := hide c1
  have C2 := hide c2
  clear c1 c2
  have n3 : w.heap.size + 1 + 1 ≠ w.heap.size := by omega
  have n4 : w.heap.size ≠ w.heap.size + 1 + 1 := by omega
  have n5 : w.heap.size + 1 + 1 ≠ w.heap.size + 1 := by omega
  have n6 : w.heap.size + 1 ≠ w.heap.size + 1 + 1 := by omega
  go_enter Tryd.func11, Tryd.ntmps11
  go_wp2_with fail
  go_region_held3 (fun w' => w'.cell? ⟨w.heap.size, 0, none⟩ = some (.bool n) ∧ w'.cell? ⟨w.heap.size, 1, none⟩ = some (.string g) ∧ w'.cell? ⟨w.heap.size, 2, none⟩ = some (.int .i64 x) ∧ w'.cell? ⟨w.heap.size + 1, 0, none⟩ = some (.bool false) ∧ w'.cell? ⟨w.heap.size + 1, 1, none⟩ = some (.string ⟨#[]⟩) ∧ w'.cell? ⟨w.heap.size + 1, 2, none⟩ = some (.int .i64 0) ∧ w'.frozen? ⟨w.heap.size + 1, 0, none⟩ = false ∧ w'.frozen? ⟨w.heap.size + 1, 1, none⟩ = false ∧ w'.frozen? ⟨w.heap.size + 1, 2, none⟩ = false ∧ w.heap.size < w'.heap.size ∧ w.heap.size + 1 < w'.heap.size) (((try dsimp only); (repeat' apply And.intro); all_goals first | (go_keep; done) | (simp [*, World.frozen?_alloc_past]; done) | (simp; omega) | (simp [World.setCell]; omega))) (first
    | (go_at_call 32; refine (unhide C1 _).mono ?_; rintro e w1 ⟨v1, rfl, hI1, hb1⟩; obtain ⟨k0, k1, k2, k3, k4, k5, k6, k7, k8, k9, k10⟩ := keepS (v0 := .bool n) (v1 := .string g) (v2 := .int .i64 x) (u0 := .bool false) (u1 := .string ⟨#[]⟩) (u2 := .int .i64 0) (b := w.heap.size) (c := w.heap.size + 1) hb1 (by first | assumption | go_keep); obtain ⟨bc1, bf1⟩ := bcell hb1; have hs1 := hb1.size; have HB1 : Hid (Below w.heap.size w w1) := (by refine Below.trans ?_ (hb1.mono (by first | (simp; omega) | simp | omega)); repeat (first | exact Below.refl _ _ | apply Below.drew | refine Below.alloc ?_ (by first | (simp; omega) | simp | omega) _)); clear hb1; simp only [heap_drew, World.size_alloc, Nat.add_one_le_iff] at hs1 bc1 bf1; have n1 : w1.heap.size ≠ w.heap.size := (by omega); have n1' : w.heap.size ≠ w1.heap.size := (by omega); have n7 : w1.heap.size ≠ w.heap.size + 1 := (by omega); have n7' : w.heap.size + 1 ≠ w1.heap.size := (by omega))
    | (go_at_call 31; refine (unhide C2 v1 _ (by first | exact hI1 | exact hI1.keep ((Below.refl _ _).alloc (Nat.le_refl _) _))).mono ?_; rintro e w2 ⟨rfl, hb2⟩; obtain ⟨m0, m1, m2, m3, m4, m5, m6, m7, m8, m9, m10⟩ := keepS (v0 := .bool n) (v1 := .string g) (v2 := .int .i64 x) (u0 := .bool false) (u1 := .string ⟨#[]⟩) (u2 := .int .i64 0) (b := w.heap.size) (c := w.heap.size + 1) hb2 (by first | assumption | go_keep); obtain ⟨bc2, bf2⟩ := bcell hb2; have hs2 := hb2.size; have HB2 : Hid (Below w.heap.size w w2) := (by refine Below.trans ?_ (hb2.mono (by first | (simp; omega) | simp | omega)); repeat (first | exact HB1.out | apply Below.drew | refine Below.alloc ?_ (by first | (simp; omega) | simp | omega) _)); clear hb2; (try simp only [World.size_alloc] at hs2 bc2 bf2); have n2 : w2.heap.size ≠ w.heap.size := (by omega); have n2' : w.heap.size ≠ w2.heap.size := (by omega)))
  all_goals go_wp2
  all_goals refine bodyPost_ret (ret_rnorm _ ⟨rn, rg, rx⟩ (by simp [go_sem, *]) (by simp [go_sem, *]) (by simp [go_sem, *]) _ rfl) rfl ⟨rfl, ?_⟩
  · exact below3a HB2.out (by omega) (by omega) _ _ _ _
  · exact below3 (below3 HB2.out (by omega) _ _ _) (by omega) _ _ _
  · exact below3 (below3 HB2.out (by omega) _ _ _) (by omega) _ _ _
end Go.Proofs.YtgmjllkkgapjcaaDoor.rd
