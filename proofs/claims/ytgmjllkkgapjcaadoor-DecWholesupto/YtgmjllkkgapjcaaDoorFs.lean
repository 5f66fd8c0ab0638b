/- The contracts of the reference's ends and Of. -/
import Derived.Test.YtgmjllkkgapjcaaDoorFr
namespace Go.Proofs.YtgmjllkkgapjcaaDoor.rd
open Go.RowKit

theorem ret_ends {a b : Nat} (w : World) (c d : Dn) (h : DLies w a c) (k : DLies w b d) (tmps : Array Value) (h0 : tmps[0]?.getD undef = .pointer (some ⟨a, 0, none⟩)) (h1 : tmps[1]?.getD undef = .pointer (some ⟨b, 0, none⟩)) :
    (results Tryd.f50 tmps).run Tryd.prog w = .ok (.tuple #[dv c, dv d]) w := by
  obtain ⟨q0, q1, q2⟩ := h.cells
  obtain ⟨p0, p1, p2⟩ := k.cells
  simp [results, Tryd.results50, h0, h1, go_sem, q0, q1, q2, p0, p1, p2, dv]

set_option maxRecDepth 100000 in
theorem ends_any (w : World) : Calls Tryd.prog 50 #[] w fun e w' => e = .returned (.tuple #[dv lowD, dv topD]) ∧ Below w.heap.size w w' := by
  have hP := PairW.start w lowD topD
  go_enter Tryd.func50, Tryd.ntmps50
  go_wp2
  exact bodyPost_ret (ret_ends _ lowD topD hP.a hP.b _ rfl rfl) rfl ⟨rfl, hP.below⟩

theorem ret_rof {m : Nat} (w : World) (d : Dn) (h : DLies w m d) (tmps : Array Value) (ht : tmps[2]?.getD undef = .pointer (some ⟨m, 0, none⟩)) :
    (results Tryd.f23 tmps).run Tryd.prog w = .ok (dv d) w := by
  obtain ⟨q0, q1, q2⟩ := h.cells
  simp [results, Tryd.results23, ht, go_sem, q0, q1, q2, dv]

set_option maxRecDepth 100000 in
set_option maxHeartbeats 1600000 in
theorem rof_any (v : Int) (w : World) (h0 : -9223372036854775808 ≤ v) (h1 : v ≤ 9223372036854775807) (hp : Pow w) :
    Calls Tryd.prog 23 #[.int .i64 v] w fun e w' => e = .returned (dv (ofN v)) ∧ Below w.heap.size w w' := by
  have hl := itoa_len v h0 h1
  have C1 := hide (fun w hp => format_any v w h0 h1 hp)
  have c2 := fun w => rnorm_any ⟨decide (v < 0), itoaB v, 0⟩ w (by simp only; omega) (by simp only; omega) (by simp only; omega)
  have e : norm ⟨decide (v < 0), itoaB v, 0⟩ = ofN v := rfl
  rw [e] at c2
  generalize ofN v = r at *
  generalize itoaB v = s at *
  obtain ⟨rn, rg, rx⟩ := r
  simp only [dv] at c2 ⊢
  have C2 := hide c2
  have HP := hide hp
  clear c2 e hp
  go_enter Tryd.func23, Tryd.ntmps23
  go_wp2_with fail
  refine (unhide C1 _ ((unhide HP).keep ((Below.refl _ _).alloc (Nat.le_refl _) _))).mono ?_
  rintro e w1 ⟨rfl, hb1⟩
  have l1 : DLies w1 w.heap.size zed := (dlies_new w zed).below hb1 (by simp)
  have B1 : Below w.heap.size w w1 := ((Below.refl _ _).alloc (Nat.le_refl _) _).trans (hb1.mono (by simp))
  clear hb1
  go_wp2_with fail
  refine (unhide C2 _).mono ?_
  rintro e w2 ⟨rfl, hb2⟩
  have l2 := l1.below hb2 (blk_lt l1)
  have B2 : Below w.heap.size w w2 := B1.trans (hb2.mono B1.size)
  obtain ⟨q0, q1, q2⟩ := l2.cells
  obtain ⟨f0, f1, f2⟩ := l2.frees
  simp only [zed] at q0 q1 q2
  clear hb2 B1
  go_wp2
  exact bodyPost_ret (ret_rof _ ⟨rn, rg, rx⟩ (l2.set rn rg rx) _ rfl) rfl ⟨rfl, below3 B2 (Nat.le_refl _) _ _ _⟩

/-- While the reference's Floor goes: the number's block, the two ends'. -/
structure FlW (w wc : World) (a b c : Nat) (n L T : Dn) : Prop where
  n : DLies wc a n
  l : DLies wc b L
  t : DLies wc c T
  below : Below w.heap.size w wc
theorem FlW.call {w wc w' : World} {a b c : Nat} {n L T : Dn} (h : FlW w wc a b c n L T) (hb : Below wc.heap.size wc w') : FlW w w' a b c n L T where
  n := h.n.below hb (blk_lt h.n)
  l := h.l.below hb (blk_lt h.l)
  t := h.t.below hb (blk_lt h.t)
  below := h.below.trans (hb.mono h.below.size)
theorem FlW.alloc {w wc : World} {a b c : Nat} {n L T : Dn} (h : FlW w wc a b c n L T) (o : Obj) : FlW w (wc.alloc o) a b c n L T := ⟨h.n.alloc _, h.l.alloc _, h.t.alloc _, h.below.alloc h.below.size _⟩
theorem told_size (n : Bool) (zs : List Int) (e : Int) : (told n zs e).1.dg.size ≤ zs.length := by
  unfold told
  split
  · exact Nat.zero_le _
  · split
    · exact Nat.zero_le _
    · have h1 := tb_len (cutN zs) (lowN (cutN zs))
      have h2 := cutN_len zs
      have h3 : (⟨(tb (cutN zs) (lowN (cutN zs))).toArray⟩ : ByteArray).size = (tb (cutN zs) (lowN (cutN zs))).length := List.size_toArray
      simp only
      omega
theorem Whole1.exbd {n : Dn} (h : Whole1 n) : -9999 ≤ n.ex ∧ n.ex ≤ 9999 := by
  rcases h with rfl | h
  · exact ⟨by decide, by decide⟩
  · exact ⟨h.e0, h.e1⟩
theorem IntsO.alloc {w : World} {v : Value} {zs : List Int} (h : IntsO w v zs) (o : Obj) : IntsO (w.alloc o) v zs := h.keep ((Below.refl _ _).alloc (Nat.le_refl _) _)
theorem one_ints (w : World) : Ints (w.alloc (.cells #[.int .i64 1] 3)) (.slice (some ⟨w.heap.size, 0, none⟩) 1 1) [1] :=
  .inr ⟨w.heap.size, 1, rfl, by simp, by omega, fun j hj => by
    have : j = 0 := by simpa using hj
    subst this
    have h : (w.alloc (.cells #[.int .i64 1] 3)).heap[w.heap.size]? = some (.cells #[.int .i64 1] 3 (0, 0)) := by
      show (w.heap.push _)[w.heap.size]? = _
      rw [Array.getElem?_push_size]
    rw [blk_cell h]; rfl⟩
/-- One step of the cut at the point. -/
theorem IntsO.next {w : World} {g o cap n : Nat} {l : List Int} {t : Nat} (hn : n = (l.drop t).length) (h3 : cap ≤ 9223372036854775807) (h2 : n ≤ cap) (h4 : ∀ j, j < n → w.cell? ⟨g, o + j, none⟩ = some (.int .i64 ((l.drop t).getD j 0))) (hp : 0 < n) :
    IntsO w (.slice (some ⟨g, o + 1, none⟩) (n - 1) (cap - 1)) (l.drop (t + 1)) ∧ (cap = 1 → IntsO w (.slice (some ⟨g, o, none⟩) (n - 1) (cap - 1)) (l.drop (t + 1))) := by
  have e : (l.drop (t + 1)).length = n - 1 := by rw [List.length_drop] at *; omega
  have eg : ∀ j, (l.drop (t + 1)).getD j 0 = (l.drop t).getD (j + 1) 0 := fun j => by
    simp only [List.getD, List.getElem?_drop]
    congr 2
    omega
  refine ⟨.inr ⟨g, o + 1, cap - 1, by rw [e], by omega, by omega, fun j hj => ?_⟩, fun hc => .inr ⟨g, o, cap - 1, by rw [e], by omega, by omega, fun j hj => by omega⟩⟩
  rw [eg, show o + 1 + j = o + (j + 1) by omega]
  exact h4 (j + 1) (by omega)
end Go.Proofs.YtgmjllkkgapjcaaDoor.rd
