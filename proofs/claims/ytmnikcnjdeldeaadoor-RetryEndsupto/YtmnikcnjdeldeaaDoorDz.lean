/- The contract of Delay. -/
import Derived.Test.YtmnikcnjdeldeaaDoorDn
import Derived.Test.YtmnikcnjdeldeaaDoorRy
namespace Go.Proofs.YtmnikcnjdeldeaaDoor.rd
open Go.RowKit

theorem wpOp_at {P : Program} {ops : Array Oper} {Q : Exit → Act → World → Prop} {i : Nat} {K : Act → World → Prop} {a : Act} {w : World} (o : Oper) (h : ops[i]? = some o) (hg : o.guard = none) (hh : o.wp P a w K Q) : wpOp P ops Q i K a w := by
  unfold wpOp
  simp only [h]
  rw [if_pos (by unfold Region.wanted; rw [hg])]
  exact .inl hh
theorem set_old {l : Array Bool} (i j : Nat) {n : Nat} (_hs : l.size = n) (h : j ≠ i) : (l.setIfInBounds i true).getD j false = l.getD j false := by
  simp only [Array.getD_eq_getD_getElem?]
  rw [Array.getElem?_setIfInBounds_ne (by omega)]
theorem set_new {l : Array Bool} (i : Nat) {n : Nat} (hs : l.size = n) (hi : i < n) : (l.setIfInBounds i true).getD i false = true := by
  simp [hs, hi]

/-- A number in a block of its own behind the argument's. -/
def PB (w x : World) (v : Value) (d : Dn) : Prop := ∃ b, v = .pointer (some ⟨b, 0, none⟩) ∧ w.heap.size < b ∧ DLies x b d
theorem PB.call {w x x' : World} {v : Value} {d : Dn} (h : PB w x v d) (hb : Below x.heap.size x x') : PB w x' v d := by
  obtain ⟨b, h1, h2, h3⟩ := h
  exact ⟨b, h1, h2, h3.below hb (blk_lt h3)⟩
theorem PB.alloc {w x : World} {v : Value} {d : Dn} (h : PB w x v d) (o : Obj) : PB w (x.alloc o) v d := by
  obtain ⟨b, h1, h2, h3⟩ := h
  exact ⟨b, h1, h2, h3.alloc o⟩
theorem PB.far {w x : World} {v : Value} {d : Dn} {b : Nat} (h : PB w x v d) (hne : v ≠ .pointer (some ⟨b, 0, none⟩)) (u0 u1 u2 : Value) : PB w (((x.setCell ⟨b, 0, none⟩ u0).setCell ⟨b, 1, none⟩ u1).setCell ⟨b, 2, none⟩ u2) v d := by
  obtain ⟨c, h1, h2, h3⟩ := h
  have hu := (Upd.setCell b 0 x u0).trans ((Upd.setCell b 1 _ u1).trans (Upd.setCell b 2 _ u2))
  exact ⟨c, h1, h2, (hu.block _ (fun q => hne (by rw [h1, q]))).trans h3⟩
theorem PB.new_ne {w x : World} {v : Value} {d : Dn} (h : PB w x v d) : v ≠ .pointer (some ⟨x.heap.size, 0, none⟩) := by
  obtain ⟨c, h1, h2, h3⟩ := h
  have := blk_lt h3
  rw [h1]
  intro q
  injection q with q
  injection q with q
  injection q with q
  omega
theorem far_block {x : World} {b c : Nat} (hne : c ≠ b) {d : Dn} (h : DLies x c d) (u0 u1 u2 : Value) : DLies (((x.setCell ⟨b, 0, none⟩ u0).setCell ⟨b, 1, none⟩ u1).setCell ⟨b, 2, none⟩ u2) c d := by
  have hu := (Upd.setCell b 0 x u0).trans ((Upd.setCell b 1 _ u1).trans (Upd.setCell b 2 _ u2))
  exact (hu.block _ hne).trans h

/-- In the region that makes the three: what has come up (b0 to b12), the slots, the world. -/
structure R3 (w : World) (dr : Dn) (iv L : Int) (W0 Lm F : Dn) (b0 b1 b2 b3 b4 b5 b6 b7 b8 b9 b10 b11 b12 : Bool) (v9 v10 v11 v20 v21 v22 v23 v24 v25 v26 : Value) (x : World) : Prop where
  below : Below w.heap.size w x
  rate : DLies x w.heap.size dr
  f0 : b0 = true → v20 = .int .i64 iv
  f1 : b1 = true → v21 = .int .i64 (max iv 0)
  f2 : b2 = true → v22 = dv W0
  f3 : b3 = true → v23 = .int .i64 L
  f4 : b4 = true → v24 = dv Lm
  f5 : b5 = true → v25 = dv dr
  f6 : b6 = true → v26 = dv F
  a7 : b7 = true → PB w x v9 (if b10 then W0 else zed)
  a8 : b8 = true → PB w x v10 (if b11 then Lm else zed)
  a9 : b9 = true → PB w x v11 (if b12 then F else zed)
  n8 : b7 = true → b8 = true → v9 ≠ v10
  n9 : b7 = true → b9 = true → v9 ≠ v11
  n10 : b8 = true → b9 = true → v10 ≠ v11

theorem R3.call {w : World} {dr : Dn} {iv L : Int} {W0 Lm F : Dn} {b0 b1 b2 b3 b4 b5 b6 b7 b8 b9 b10 b11 b12 : Bool} {v9 v10 v11 v20 v21 v22 v23 v24 v25 v26 : Value} {x x' : World} (h : R3 w dr iv L W0 Lm F b0 b1 b2 b3 b4 b5 b6 b7 b8 b9 b10 b11 b12 v9 v10 v11 v20 v21 v22 v23 v24 v25 v26 x) (hb : Below x.heap.size x x') : R3 w dr iv L W0 Lm F b0 b1 b2 b3 b4 b5 b6 b7 b8 b9 b10 b11 b12 v9 v10 v11 v20 v21 v22 v23 v24 v25 v26 x' :=
  ⟨h.below.trans (hb.mono h.below.size), h.rate.below hb (blk_lt h.rate), h.f0, h.f1, h.f2, h.f3, h.f4, h.f5, h.f6, fun q => (h.a7 q).call hb, fun q => (h.a8 q).call hb, fun q => (h.a9 q).call hb, h.n8, h.n9, h.n10⟩
theorem R3.alloc {w : World} {dr : Dn} {iv L : Int} {W0 Lm F : Dn} {b0 b1 b2 b3 b4 b5 b6 b7 b8 b9 b10 b11 b12 : Bool} {v9 v10 v11 v20 v21 v22 v23 v24 v25 v26 : Value} {x : World} (h : R3 w dr iv L W0 Lm F b0 b1 b2 b3 b4 b5 b6 b7 b8 b9 b10 b11 b12 v9 v10 v11 v20 v21 v22 v23 v24 v25 v26 x) (o : Obj) : R3 w dr iv L W0 Lm F b0 b1 b2 b3 b4 b5 b6 b7 b8 b9 b10 b11 b12 v9 v10 v11 v20 v21 v22 v23 v24 v25 v26 (x.alloc o) :=
  ⟨h.below.alloc h.below.size _, h.rate.alloc _, h.f0, h.f1, h.f2, h.f3, h.f4, h.f5, h.f6, fun q => (h.a7 q).alloc _, fun q => (h.a8 q).alloc _, fun q => (h.a9 q).alloc _, h.n8, h.n9, h.n10⟩
theorem R3.s0 {w : World} {dr : Dn} {iv L : Int} {W0 Lm F : Dn} {b0 b1 b2 b3 b4 b5 b6 b7 b8 b9 b10 b11 b12 : Bool} {v9 v10 v11 v20 v21 v22 v23 v24 v25 v26 : Value} {x : World} (h : R3 w dr iv L W0 Lm F b0 b1 b2 b3 b4 b5 b6 b7 b8 b9 b10 b11 b12 v9 v10 v11 v20 v21 v22 v23 v24 v25 v26 x) : R3 w dr iv L W0 Lm F true b1 b2 b3 b4 b5 b6 b7 b8 b9 b10 b11 b12 v9 v10 v11 (.int .i64 iv) v21 v22 v23 v24 v25 v26 x :=
  ⟨h.below, h.rate, fun _ => rfl, h.f1, h.f2, h.f3, h.f4, h.f5, h.f6, h.a7, h.a8, h.a9, h.n8, h.n9, h.n10⟩
theorem R3.s1 {w : World} {dr : Dn} {iv L : Int} {W0 Lm F : Dn} {b0 b1 b2 b3 b4 b5 b6 b7 b8 b9 b10 b11 b12 : Bool} {v9 v10 v11 v20 v21 v22 v23 v24 v25 v26 : Value} {x : World} (h : R3 w dr iv L W0 Lm F b0 b1 b2 b3 b4 b5 b6 b7 b8 b9 b10 b11 b12 v9 v10 v11 v20 v21 v22 v23 v24 v25 v26 x) : R3 w dr iv L W0 Lm F b0 true b2 b3 b4 b5 b6 b7 b8 b9 b10 b11 b12 v9 v10 v11 v20 (.int .i64 (max iv 0)) v22 v23 v24 v25 v26 x :=
  ⟨h.below, h.rate, h.f0, fun _ => rfl, h.f2, h.f3, h.f4, h.f5, h.f6, h.a7, h.a8, h.a9, h.n8, h.n9, h.n10⟩
theorem R3.s2 {w : World} {dr : Dn} {iv L : Int} {W0 Lm F : Dn} {b0 b1 b2 b3 b4 b5 b6 b7 b8 b9 b10 b11 b12 : Bool} {v9 v10 v11 v20 v21 v22 v23 v24 v25 v26 : Value} {x : World} (h : R3 w dr iv L W0 Lm F b0 b1 b2 b3 b4 b5 b6 b7 b8 b9 b10 b11 b12 v9 v10 v11 v20 v21 v22 v23 v24 v25 v26 x) : R3 w dr iv L W0 Lm F b0 b1 true b3 b4 b5 b6 b7 b8 b9 b10 b11 b12 v9 v10 v11 v20 v21 (dv W0) v23 v24 v25 v26 x :=
  ⟨h.below, h.rate, h.f0, h.f1, fun _ => rfl, h.f3, h.f4, h.f5, h.f6, h.a7, h.a8, h.a9, h.n8, h.n9, h.n10⟩
theorem R3.s3 {w : World} {dr : Dn} {iv L : Int} {W0 Lm F : Dn} {b0 b1 b2 b3 b4 b5 b6 b7 b8 b9 b10 b11 b12 : Bool} {v9 v10 v11 v20 v21 v22 v23 v24 v25 v26 : Value} {x : World} (h : R3 w dr iv L W0 Lm F b0 b1 b2 b3 b4 b5 b6 b7 b8 b9 b10 b11 b12 v9 v10 v11 v20 v21 v22 v23 v24 v25 v26 x) : R3 w dr iv L W0 Lm F b0 b1 b2 true b4 b5 b6 b7 b8 b9 b10 b11 b12 v9 v10 v11 v20 v21 v22 (.int .i64 L) v24 v25 v26 x :=
  ⟨h.below, h.rate, h.f0, h.f1, h.f2, fun _ => rfl, h.f4, h.f5, h.f6, h.a7, h.a8, h.a9, h.n8, h.n9, h.n10⟩
theorem R3.s4 {w : World} {dr : Dn} {iv L : Int} {W0 Lm F : Dn} {b0 b1 b2 b3 b4 b5 b6 b7 b8 b9 b10 b11 b12 : Bool} {v9 v10 v11 v20 v21 v22 v23 v24 v25 v26 : Value} {x : World} (h : R3 w dr iv L W0 Lm F b0 b1 b2 b3 b4 b5 b6 b7 b8 b9 b10 b11 b12 v9 v10 v11 v20 v21 v22 v23 v24 v25 v26 x) : R3 w dr iv L W0 Lm F b0 b1 b2 b3 true b5 b6 b7 b8 b9 b10 b11 b12 v9 v10 v11 v20 v21 v22 v23 (dv Lm) v25 v26 x :=
  ⟨h.below, h.rate, h.f0, h.f1, h.f2, h.f3, fun _ => rfl, h.f5, h.f6, h.a7, h.a8, h.a9, h.n8, h.n9, h.n10⟩
theorem R3.s5 {w : World} {dr : Dn} {iv L : Int} {W0 Lm F : Dn} {b0 b1 b2 b3 b4 b5 b6 b7 b8 b9 b10 b11 b12 : Bool} {v9 v10 v11 v20 v21 v22 v23 v24 v25 v26 : Value} {x : World} (h : R3 w dr iv L W0 Lm F b0 b1 b2 b3 b4 b5 b6 b7 b8 b9 b10 b11 b12 v9 v10 v11 v20 v21 v22 v23 v24 v25 v26 x) : R3 w dr iv L W0 Lm F b0 b1 b2 b3 b4 true b6 b7 b8 b9 b10 b11 b12 v9 v10 v11 v20 v21 v22 v23 v24 (dv dr) v26 x :=
  ⟨h.below, h.rate, h.f0, h.f1, h.f2, h.f3, h.f4, fun _ => rfl, h.f6, h.a7, h.a8, h.a9, h.n8, h.n9, h.n10⟩
theorem R3.s6 {w : World} {dr : Dn} {iv L : Int} {W0 Lm F : Dn} {b0 b1 b2 b3 b4 b5 b6 b7 b8 b9 b10 b11 b12 : Bool} {v9 v10 v11 v20 v21 v22 v23 v24 v25 v26 : Value} {x : World} (h : R3 w dr iv L W0 Lm F b0 b1 b2 b3 b4 b5 b6 b7 b8 b9 b10 b11 b12 v9 v10 v11 v20 v21 v22 v23 v24 v25 v26 x) : R3 w dr iv L W0 Lm F b0 b1 b2 b3 b4 b5 true b7 b8 b9 b10 b11 b12 v9 v10 v11 v20 v21 v22 v23 v24 v25 (dv F) x :=
  ⟨h.below, h.rate, h.f0, h.f1, h.f2, h.f3, h.f4, h.f5, fun _ => rfl, h.a7, h.a8, h.a9, h.n8, h.n9, h.n10⟩
theorem R3.s7 {w : World} {dr : Dn} {iv L : Int} {W0 Lm F : Dn} {b0 b1 b2 b3 b4 b5 b6 b7 b8 b9 b11 b12 : Bool} {v9 v10 v11 v20 v21 v22 v23 v24 v25 v26 : Value} {x : World} (h : R3 w dr iv L W0 Lm F b0 b1 b2 b3 b4 b5 b6 b7 b8 b9 false b11 b12 v9 v10 v11 v20 v21 v22 v23 v24 v25 v26 x) : R3 w dr iv L W0 Lm F b0 b1 b2 b3 b4 b5 b6 true b8 b9 false b11 b12 (.pointer (some ⟨x.heap.size, 0, none⟩)) v10 v11 v20 v21 v22 v23 v24 v25 v26 (x.alloc (.cells #[.bool false, .string ⟨#[]⟩, .int .i64 0] 47)) := by
  have k := h.alloc (.cells #[.bool false, .string ⟨#[]⟩, .int .i64 0] 47)
  exact ⟨k.below, k.rate, k.f0, k.f1, k.f2, k.f3, k.f4, k.f5, k.f6, fun _ => ⟨x.heap.size, rfl, Nat.lt_of_lt_of_le (blk_lt h.rate) (Nat.le_refl _), dlies_new x zed⟩, k.a8, k.a9, fun _ q => Ne.symm (h.a8 q).new_ne, fun _ q => Ne.symm (h.a9 q).new_ne, h.n10⟩
theorem R3.s8 {w : World} {dr : Dn} {iv L : Int} {W0 Lm F : Dn} {b0 b1 b2 b3 b4 b5 b6 b7 b8 b9 b10 b12 : Bool} {v9 v10 v11 v20 v21 v22 v23 v24 v25 v26 : Value} {x : World} (h : R3 w dr iv L W0 Lm F b0 b1 b2 b3 b4 b5 b6 b7 b8 b9 b10 false b12 v9 v10 v11 v20 v21 v22 v23 v24 v25 v26 x) : R3 w dr iv L W0 Lm F b0 b1 b2 b3 b4 b5 b6 b7 true b9 b10 false b12 v9 (.pointer (some ⟨x.heap.size, 0, none⟩)) v11 v20 v21 v22 v23 v24 v25 v26 (x.alloc (.cells #[.bool false, .string ⟨#[]⟩, .int .i64 0] 47)) := by
  have k := h.alloc (.cells #[.bool false, .string ⟨#[]⟩, .int .i64 0] 47)
  exact ⟨k.below, k.rate, k.f0, k.f1, k.f2, k.f3, k.f4, k.f5, k.f6, k.a7, fun _ => ⟨x.heap.size, rfl, Nat.lt_of_lt_of_le (blk_lt h.rate) (Nat.le_refl _), dlies_new x zed⟩, k.a9, fun q _ => (h.a7 q).new_ne, h.n9, fun _ q => Ne.symm (h.a9 q).new_ne⟩
theorem R3.s9 {w : World} {dr : Dn} {iv L : Int} {W0 Lm F : Dn} {b0 b1 b2 b3 b4 b5 b6 b7 b8 b9 b10 b11 : Bool} {v9 v10 v11 v20 v21 v22 v23 v24 v25 v26 : Value} {x : World} (h : R3 w dr iv L W0 Lm F b0 b1 b2 b3 b4 b5 b6 b7 b8 b9 b10 b11 false v9 v10 v11 v20 v21 v22 v23 v24 v25 v26 x) : R3 w dr iv L W0 Lm F b0 b1 b2 b3 b4 b5 b6 b7 b8 true b10 b11 false v9 v10 (.pointer (some ⟨x.heap.size, 0, none⟩)) v20 v21 v22 v23 v24 v25 v26 (x.alloc (.cells #[.bool false, .string ⟨#[]⟩, .int .i64 0] 47)) := by
  have k := h.alloc (.cells #[.bool false, .string ⟨#[]⟩, .int .i64 0] 47)
  exact ⟨k.below, k.rate, k.f0, k.f1, k.f2, k.f3, k.f4, k.f5, k.f6, k.a7, k.a8, fun _ => ⟨x.heap.size, rfl, Nat.lt_of_lt_of_le (blk_lt h.rate) (Nat.le_refl _), dlies_new x zed⟩, h.n8, fun q _ => (h.a7 q).new_ne, fun q _ => (h.a8 q).new_ne⟩
theorem R3.s10 {w : World} {dr : Dn} {iv L : Int} {W0 Lm F : Dn} {b0 b1 b2 b3 b4 b5 b6 b8 b9 b11 b12 : Bool} {v10 v11 v20 v21 v22 v23 v24 v25 v26 : Value} {x : World} {c : Nat} (h : R3 w dr iv L W0 Lm F b0 b1 b2 b3 b4 b5 b6 true b8 b9 false b11 b12 (.pointer (some ⟨c, 0, none⟩)) v10 v11 v20 v21 v22 v23 v24 v25 v26 x) : R3 w dr iv L W0 Lm F b0 b1 b2 b3 b4 b5 b6 true b8 b9 true b11 b12 (.pointer (some ⟨c, 0, none⟩)) v10 v11 v20 v21 v22 v23 v24 v25 v26 (((x.setCell ⟨c, 0, none⟩ (.bool W0.neg)).setCell ⟨c, 1, none⟩ (.string W0.dg)).setCell ⟨c, 2, none⟩ (.int .i64 W0.ex)) := by
  obtain ⟨b', hb', hc2, hc3⟩ := h.a7 rfl
  obtain rfl : c = b' := by injection hb' with q; injection q with q; injection q
  have hz := blk_lt h.rate
  exact ⟨below3 h.below (by omega) _ _ _, far_block (by omega) h.rate _ _ _, h.f0, h.f1, h.f2, h.f3, h.f4, h.f5, h.f6, fun _ => ⟨c, rfl, hc2, hc3.set _ _ _⟩, fun q => (h.a8 q).far (Ne.symm (h.n8 rfl q)) _ _ _, fun q => (h.a9 q).far (Ne.symm (h.n9 rfl q)) _ _ _, h.n8, h.n9, h.n10⟩
theorem R3.s11 {w : World} {dr : Dn} {iv L : Int} {W0 Lm F : Dn} {b0 b1 b2 b3 b4 b5 b6 b7 b9 b10 b12 : Bool} {v9 v11 v20 v21 v22 v23 v24 v25 v26 : Value} {x : World} {c : Nat} (h : R3 w dr iv L W0 Lm F b0 b1 b2 b3 b4 b5 b6 b7 true b9 b10 false b12 v9 (.pointer (some ⟨c, 0, none⟩)) v11 v20 v21 v22 v23 v24 v25 v26 x) : R3 w dr iv L W0 Lm F b0 b1 b2 b3 b4 b5 b6 b7 true b9 b10 true b12 v9 (.pointer (some ⟨c, 0, none⟩)) v11 v20 v21 v22 v23 v24 v25 v26 (((x.setCell ⟨c, 0, none⟩ (.bool Lm.neg)).setCell ⟨c, 1, none⟩ (.string Lm.dg)).setCell ⟨c, 2, none⟩ (.int .i64 Lm.ex)) := by
  obtain ⟨b', hb', hc2, hc3⟩ := h.a8 rfl
  obtain rfl : c = b' := by injection hb' with q; injection q with q; injection q
  have hz := blk_lt h.rate
  exact ⟨below3 h.below (by omega) _ _ _, far_block (by omega) h.rate _ _ _, h.f0, h.f1, h.f2, h.f3, h.f4, h.f5, h.f6, fun q => (h.a7 q).far (h.n8 q rfl) _ _ _, fun _ => ⟨c, rfl, hc2, hc3.set _ _ _⟩, fun q => (h.a9 q).far (Ne.symm (h.n10 rfl q)) _ _ _, h.n8, h.n9, h.n10⟩
theorem R3.s12 {w : World} {dr : Dn} {iv L : Int} {W0 Lm F : Dn} {b0 b1 b2 b3 b4 b5 b6 b7 b8 b10 b11 : Bool} {v9 v10 v20 v21 v22 v23 v24 v25 v26 : Value} {x : World} {c : Nat} (h : R3 w dr iv L W0 Lm F b0 b1 b2 b3 b4 b5 b6 b7 b8 true b10 b11 false v9 v10 (.pointer (some ⟨c, 0, none⟩)) v20 v21 v22 v23 v24 v25 v26 x) : R3 w dr iv L W0 Lm F b0 b1 b2 b3 b4 b5 b6 b7 b8 true b10 b11 true v9 v10 (.pointer (some ⟨c, 0, none⟩)) v20 v21 v22 v23 v24 v25 v26 (((x.setCell ⟨c, 0, none⟩ (.bool F.neg)).setCell ⟨c, 1, none⟩ (.string F.dg)).setCell ⟨c, 2, none⟩ (.int .i64 F.ex)) := by
  obtain ⟨b', hb', hc2, hc3⟩ := h.a9 rfl
  obtain rfl : c = b' := by injection hb' with q; injection q with q; injection q
  have hz := blk_lt h.rate
  exact ⟨below3 h.below (by omega) _ _ _, far_block (by omega) h.rate _ _ _, h.f0, h.f1, h.f2, h.f3, h.f4, h.f5, h.f6, fun q => (h.a7 q).far (h.n9 q rfl) _ _ _, fun q => (h.a8 q).far (h.n10 q rfl) _ _ _, fun _ => ⟨c, rfl, hc2, hc3.set _ _ _⟩, h.n8, h.n9, h.n10⟩

def R3J (w : World) (dr : Dn) (iv L : Int) (W0 Lm F : Dn) (T : Value → Value → Value → Value → Value → Value → Value → Value → Value → Value → Act) (listed : Array Bool) (a : Act) (x : World) : Prop :=
  ∃ v9 v10 v11 v20 v21 v22 v23 v24 v25 v26, a = T v9 v10 v11 v20 v21 v22 v23 v24 v25 v26 ∧ (∀ j, listed.getD (j + 7) true = false → listed.getD (j + 10) false = false) ∧ R3 w dr iv L W0 Lm F (listed.getD 0 false) (listed.getD 1 false) (listed.getD 2 false) (listed.getD 3 false) (listed.getD 4 false) (listed.getD 5 false) (listed.getD 6 false) (listed.getD 7 false) (listed.getD 8 false) (listed.getD 9 false) (listed.getD 10 false) (listed.getD 11 false) (listed.getD 12 false) v9 v10 v11 v20 v21 v22 v23 v24 v25 v26 x

theorem rep_none (n j : Nat) : (Array.replicate n false).getD j false = false := by
  simp only [Array.getD_eq_getD_getElem?, Array.getElem?_replicate]
  split <;> rfl
theorem set_keep13 {l : Array Bool} (hs : l.size = 13) (hK : ∀ j, l.getD (j + 7) true = false → l.getD (j + 10) false = false) (i : Nat) (hi : i < 10) : ∀ j, (l.setIfInBounds i true).getD (j + 7) true = false → (l.setIfInBounds i true).getD (j + 10) false = false := by
  intro j h
  rw [set_old i (j + 10) hs (by omega)]
  refine hK j ?_
  by_cases q : j + 7 = i
  · exfalso
    rw [q] at h
    simp [hs, show i < 13 by omega] at h
  · simp only [Array.getD_eq_getD_getElem?] at h ⊢
    rw [Array.getElem?_setIfInBounds_ne (by omega)] at h
    exact h
theorem set_store13 {l : Array Bool} (hs : l.size = 13) (hK : ∀ j, l.getD (j + 7) true = false → l.getD (j + 10) false = false) (i : Nat) (hal : l.getD (i - 3) false = true) : ∀ j, (l.setIfInBounds i true).getD (j + 7) true = false → (l.setIfInBounds i true).getD (j + 10) false = false := by
  intro j h
  by_cases q : j + 7 = i
  · exfalso
    rw [q] at h
    by_cases hi : i < 13
    · simp [hs, hi] at h
    · simp [hs, hi] at h
  · have h' : l.getD (j + 7) true = false := by
      simp only [Array.getD_eq_getD_getElem?] at h ⊢
      rw [Array.getElem?_setIfInBounds_ne (by omega)] at h
      exact h
    by_cases q2 : j + 10 = i
    · exfalso
      rw [show i - 3 = j + 7 by omega] at hal
      have hl : j + 7 < l.size := by
        rcases Nat.lt_or_ge (j + 7) l.size with z | z
        · exact z
        · simp [show ¬ j + 7 < l.size by omega] at hal
      simp [hl] at hal h'
      rw [hal] at h'
      cases h'
    · rw [set_old i (j + 10) hs (by omega)]
      exact hK j h'
set_option maxRecDepth 100000 in
set_option maxHeartbeats 3200000 in
theorem delay_any (iv : Int) (d : Dn) (k most : Int) (eX : Value) (w : World) (hs : d.dg.size ≤ 1048576) (h0 : -9223372036854775808 ≤ d.ex) (h1 : d.ex ≤ 9223372036854775807)
    (i0 : -9223372036854775808 ≤ iv) (i1 : iv ≤ 9223372036854775807) (k0 : -9223372036854775808 ≤ k) (k1 : k ≤ 9223372036854775807) (m0 : -9223372036854775808 ≤ most) (m1 : most ≤ 9223372036854775807) (hp : Pow w)
    (hE : w.cell? ⟨0, 0, none⟩ = some eX) :
    Calls Tryd.prog 31 #[.int .i64 iv, dv d, .int .i64 k, .int .i64 most] w fun e w' => e = .returned (.int .i64 (dly (max iv 0) (rate9 (sR (norm d))) (min (max k 1) 100 - 1).toNat (if most < 1 ∨ 2147483648 < most then 2147483648 else most))) ∧ Below w.heap.size w w' := by
  generalize hL : (if most < 1 ∨ 2147483648 < most then 2147483648 else most) = L
  have hn0 : 0 ≤ min (max k 1) 100 - 1 := by omega
  have hn1 : min (max k 1) 100 - 1 ≤ 99 := by omega
  generalize hnk : min (max k 1) 100 - 1 = nk at hn0 hn1 ⊢
  obtain ⟨n, rfl⟩ := Int.eq_ofNat_of_zero_le hn0
  rw [Int.toNat_natCast]
  have hfa := ctd_factor d
  generalize rate9 (sR (norm d)) = fr at hfa ⊢
  generalize hres : dly (max iv 0) fr n L = res
  have HRes := hide hres
  have HFa := hide hfa
  obtain ⟨L0, L1⟩ : 1 ≤ L ∧ L ≤ 2147483648 := by rw [← hL]; split <;> omega
  obtain ⟨A1, A2, A3⟩ := of_exact (max iv 0) (by omega) (by omega)
  obtain ⟨B1, B2, B3⟩ := of_exact L (by omega) (by omega)
  have HA := hide (And.intro A1 (And.intro A2 A3))
  have HB := hide (And.intro B1 B2)
  have HSA := hide (ofN_size (max iv 0) (by omega) (by omega))
  have HSB := hide (ofN_size L (by omega) (by omega))
  clear hres hfa A1 A2 A3 B1 B2 B3
  have cr := fun w hp => countedRate_any d w hs h0 h1 hp
  have o1 := fun w h => of_any (max iv 0) w (by omega) (by omega) h
  have o2 := fun w h => of_any L w (by rw [← hL]; split <;> omega) (by rw [← hL]; split <;> omega) h
  generalize ctd d = F at *
  generalize ofN (max iv 0) = W0 at *
  generalize ofN L = Lm at *
  obtain ⟨dn, dg, dx⟩ := d
  have CR := hide cr
  have O1 := hide o1
  have O2 := hide o2
  have HP := hide hp
  clear cr o1 o2 hp
  simp only [dv]
  go_enter Tryd.func31, Tryd.ntmps31
  go_upto_region 1 with fail
  go_cut [19] from 14 (fun s19 wx => s19 = .bool (decide (most < 1 ∨ 2147483648 < most)) ∧ wx = w.alloc (.cells #[.bool dn, .string dg, .int .i64 dx] 47))
  case first =>
    by_cases q1 : most < 1
    · go_wp2_with fail
      go_meet
      exact ⟨by simp [q1], rfl⟩
    · go_wp2_with fail
      go_meet
      exact ⟨by simp; omega, rfl⟩
  case rest =>
    obtain ⟨rfl, rfl⟩ := hcut
    go_upto_if 19 with fail
    go_cut [3] from 14 (fun s3 wx => s3 = .int .i64 L ∧ wx = w.alloc (.cells #[.bool dn, .string dg, .int .i64 dx] 47))
    case first =>
      by_cases q : most < 1 ∨ 2147483648 < most
      · obtain rfl : L = 2147483648 := by rw [← hL, if_pos q]
        clear hL
        have q' : decide (most < 1 ∨ 2147483648 < most) = true := by simpa using q
        go_wp2_with fail
        go_meet
        exact ⟨rfl, rfl⟩
      · obtain rfl : L = most := by rw [← hL, if_neg q]
        clear hL
        have q' : decide (L < 1 ∨ 2147483648 < L) = false := by simpa using q
        go_wp2_with fail
        go_meet
        exact ⟨rfl, rfl⟩
    case rest =>
      obtain ⟨rfl, rfl⟩ := hcut
      go_upto_region 3 with fail
      go_cut [9, 10, 11] from 14 (fun s9 s10 s11 wx => PB w wx s9 W0 ∧ PB w wx s10 Lm ∧ PB w wx s11 F ∧ s9 ≠ s10 ∧ s9 ≠ s11 ∧ Below w.heap.size w wx)
      case first =>
        refine wp_region_inv (by kernel_rfl) (R3J w ⟨dn, dg, dx⟩ iv L W0 Lm F (fun v9 v10 v11 v20 v21 v22 v23 v24 v25 v26 => { tmps := #[.int .i64 iv, .agg #[.bool dn, .string dg, .int .i64 dx], .int .i64 k, .int .i64 L, undef, .pointer (some ⟨w.heap.size, 0, none⟩), undef, undef, .int .i64 0, v9, v10, v11, undef, undef, u14, u15, u16, u17, u18, u19, v20, v21, v22, v23, v24, v25, v26, u27, u28, u29, u30, u31, u32, u33, u34, u35, u36, u37, u38, u39, u40, u41, u42, u43, u44, u45, u46, u47, u48, u49, u50, u51, u52, u53, u54, u55, u56, u57, u58], defers := [] })) ?_ ?_ ?_ ?_
        · refine ⟨_, _, _, _, _, _, _, _, _, _, rfl, ?_, ?_⟩
          · intro j _
            exact rep_none 13 (j + 10)
          · have e : ∀ j, (Array.replicate 13 false).getD j false = false := rep_none 13
            have hb0 : Below w.heap.size w (w.alloc (.cells #[.bool dn, .string dg, .int .i64 dx] 47)) := (Below.refl _ _).alloc (Nat.le_refl _) _
            have hl0 : DLies (w.alloc (.cells #[.bool dn, .string dg, .int .i64 dx] 47)) w.heap.size ⟨dn, dg, dx⟩ := dlies_new w ⟨dn, dg, dx⟩
            have no : ∀ j {p : Prop}, (Array.replicate 13 false).getD j false = true → p := fun j p q => by rw [e] at q; cases q
            exact ⟨hb0.drew, hl0.drew, no 0, no 1, no 2, no 3, no 4, no 5, no 6, no 7, no 8, no 9, no 7, no 7, no 8⟩
        · decide
        · intro listed a x i hsz hJ hi
          obtain ⟨hi1, hi2, o, ho, hon⟩ := ready_mem hi
          obtain ⟨v9, v10, v11, v20, v21, v22, v23, v24, v25, v26, rfl, hK, hR⟩ := hJ
          have hi1' : i < 13 := hi1
          have hsz' : listed.size = 13 := hsz
          clear hsz
          have hsz := hsz'
          clear hsz'
          rcases (show i = 0 ∨ i = 1 ∨ i = 2 ∨ i = 3 ∨ i = 4 ∨ i = 5 ∨ i = 6 ∨ i = 7 ∨ i = 8 ∨ i = 9 ∨ i = 10 ∨ i = 11 ∨ i = 12 by omega) with rfl | rfl | rfl | rfl | rfl | rfl | rfl | rfl | rfl | rfl | rfl | rfl | rfl
          · obtain rfl := Option.some.inj ho
            refine wpOp_at _ rfl rfl ?_
            go_simp
            refine ⟨_, _, _, _, _, _, _, _, _, _, rfl, (set_keep13 hsz hK 0 (by decide)), ?_⟩
            rw [set_new 0 hsz (by decide), set_old 0 1 hsz (by decide), set_old 0 2 hsz (by decide), set_old 0 3 hsz (by decide), set_old 0 4 hsz (by decide), set_old 0 5 hsz (by decide), set_old 0 6 hsz (by decide), set_old 0 7 hsz (by decide), set_old 0 8 hsz (by decide), set_old 0 9 hsz (by decide), set_old 0 10 hsz (by decide), set_old 0 11 hsz (by decide), set_old 0 12 hsz (by decide)]
            exact hR.s0
          · obtain rfl := Option.some.inj ho
            have d0 := hR.f0 (hon ⟨0, .data⟩ (by simp) rfl)
            subst d0
            refine wpOp_at _ rfl rfl ?_
            go_simp
            refine ⟨_, _, _, _, _, _, _, _, _, _, rfl, (set_keep13 hsz hK 1 (by decide)), ?_⟩
            rw [set_old 1 0 hsz (by decide), set_new 1 hsz (by decide), set_old 1 2 hsz (by decide), set_old 1 3 hsz (by decide), set_old 1 4 hsz (by decide), set_old 1 5 hsz (by decide), set_old 1 6 hsz (by decide), set_old 1 7 hsz (by decide), set_old 1 8 hsz (by decide), set_old 1 9 hsz (by decide), set_old 1 10 hsz (by decide), set_old 1 11 hsz (by decide), set_old 1 12 hsz (by decide)]
            exact hR.s1
          · obtain rfl := Option.some.inj ho
            have d1 := hR.f1 (hon ⟨1, .data⟩ (by simp) rfl)
            subst d1
            refine wpOp_at _ rfl rfl ?_
            go_simp
            refine (unhide O1 _ ((unhide HP).keep hR.below)).mono ?_
            rintro e x1 ⟨rfl, ha⟩
            have hR1 := hR.call ha
            refine ⟨_, _, _, _, _, _, _, _, _, _, rfl, (set_keep13 hsz hK 2 (by decide)), ?_⟩
            rw [set_old 2 0 hsz (by decide), set_old 2 1 hsz (by decide), set_new 2 hsz (by decide), set_old 2 3 hsz (by decide), set_old 2 4 hsz (by decide), set_old 2 5 hsz (by decide), set_old 2 6 hsz (by decide), set_old 2 7 hsz (by decide), set_old 2 8 hsz (by decide), set_old 2 9 hsz (by decide), set_old 2 10 hsz (by decide), set_old 2 11 hsz (by decide), set_old 2 12 hsz (by decide)]
            exact hR1.s2
          · obtain rfl := Option.some.inj ho
            refine wpOp_at _ rfl rfl ?_
            go_simp
            refine ⟨_, _, _, _, _, _, _, _, _, _, rfl, (set_keep13 hsz hK 3 (by decide)), ?_⟩
            rw [set_old 3 0 hsz (by decide), set_old 3 1 hsz (by decide), set_old 3 2 hsz (by decide), set_new 3 hsz (by decide), set_old 3 4 hsz (by decide), set_old 3 5 hsz (by decide), set_old 3 6 hsz (by decide), set_old 3 7 hsz (by decide), set_old 3 8 hsz (by decide), set_old 3 9 hsz (by decide), set_old 3 10 hsz (by decide), set_old 3 11 hsz (by decide), set_old 3 12 hsz (by decide)]
            exact hR.s3
          · obtain rfl := Option.some.inj ho
            have d3 := hR.f3 (hon ⟨3, .data⟩ (by simp) rfl)
            subst d3
            refine wpOp_at _ rfl rfl ?_
            go_simp
            refine (unhide O2 _ ((unhide HP).keep hR.below)).mono ?_
            rintro e x1 ⟨rfl, ha⟩
            have hR1 := hR.call ha
            refine ⟨_, _, _, _, _, _, _, _, _, _, rfl, (set_keep13 hsz hK 4 (by decide)), ?_⟩
            rw [set_old 4 0 hsz (by decide), set_old 4 1 hsz (by decide), set_old 4 2 hsz (by decide), set_old 4 3 hsz (by decide), set_new 4 hsz (by decide), set_old 4 5 hsz (by decide), set_old 4 6 hsz (by decide), set_old 4 7 hsz (by decide), set_old 4 8 hsz (by decide), set_old 4 9 hsz (by decide), set_old 4 10 hsz (by decide), set_old 4 11 hsz (by decide), set_old 4 12 hsz (by decide)]
            exact hR1.s4
          · obtain rfl := Option.some.inj ho
            obtain ⟨y0, y1, y2⟩ := hR.rate.cells
            simp only at y0 y1 y2
            refine wpOp_at _ rfl rfl ?_
            go_simp
            refine ⟨_, _, _, _, _, _, _, _, _, _, rfl, (set_keep13 hsz hK 5 (by decide)), ?_⟩
            rw [set_old 5 0 hsz (by decide), set_old 5 1 hsz (by decide), set_old 5 2 hsz (by decide), set_old 5 3 hsz (by decide), set_old 5 4 hsz (by decide), set_new 5 hsz (by decide), set_old 5 6 hsz (by decide), set_old 5 7 hsz (by decide), set_old 5 8 hsz (by decide), set_old 5 9 hsz (by decide), set_old 5 10 hsz (by decide), set_old 5 11 hsz (by decide), set_old 5 12 hsz (by decide)]
            exact hR.s5
          · obtain rfl := Option.some.inj ho
            have d5 := hR.f5 (hon ⟨5, .data⟩ (by simp) rfl)
            subst d5
            refine wpOp_at _ rfl rfl ?_
            go_simp
            refine (unhide CR _ ((unhide HP).keep hR.below)).mono ?_
            rintro e x1 ⟨rfl, ha⟩
            have hR1 := hR.call ha
            refine ⟨_, _, _, _, _, _, _, _, _, _, rfl, (set_keep13 hsz hK 6 (by decide)), ?_⟩
            rw [set_old 6 0 hsz (by decide), set_old 6 1 hsz (by decide), set_old 6 2 hsz (by decide), set_old 6 3 hsz (by decide), set_old 6 4 hsz (by decide), set_old 6 5 hsz (by decide), set_new 6 hsz (by decide), set_old 6 7 hsz (by decide), set_old 6 8 hsz (by decide), set_old 6 9 hsz (by decide), set_old 6 10 hsz (by decide), set_old 6 11 hsz (by decide), set_old 6 12 hsz (by decide)]
            exact hR1.s6
          · obtain rfl := Option.some.inj ho
            have hst : listed.getD 10 false = false := hK 0 hi2
            rw [hst] at hR
            refine wpOp_at _ rfl rfl ?_
            go_simp
            refine ⟨_, _, _, _, _, _, _, _, _, _, rfl, (set_keep13 hsz hK 7 (by decide)), ?_⟩
            rw [set_old 7 0 hsz (by decide), set_old 7 1 hsz (by decide), set_old 7 2 hsz (by decide), set_old 7 3 hsz (by decide), set_old 7 4 hsz (by decide), set_old 7 5 hsz (by decide), set_old 7 6 hsz (by decide), set_new 7 hsz (by decide), set_old 7 8 hsz (by decide), set_old 7 9 hsz (by decide), set_old 7 10 hsz (by decide), set_old 7 11 hsz (by decide), set_old 7 12 hsz (by decide)]
            rw [hst]
            exact hR.s7
          · obtain rfl := Option.some.inj ho
            have hst : listed.getD 11 false = false := hK 1 hi2
            rw [hst] at hR
            refine wpOp_at _ rfl rfl ?_
            go_simp
            refine ⟨_, _, _, _, _, _, _, _, _, _, rfl, (set_keep13 hsz hK 8 (by decide)), ?_⟩
            rw [set_old 8 0 hsz (by decide), set_old 8 1 hsz (by decide), set_old 8 2 hsz (by decide), set_old 8 3 hsz (by decide), set_old 8 4 hsz (by decide), set_old 8 5 hsz (by decide), set_old 8 6 hsz (by decide), set_old 8 7 hsz (by decide), set_new 8 hsz (by decide), set_old 8 9 hsz (by decide), set_old 8 10 hsz (by decide), set_old 8 11 hsz (by decide), set_old 8 12 hsz (by decide)]
            rw [hst]
            exact hR.s8
          · obtain rfl := Option.some.inj ho
            have hst : listed.getD 12 false = false := hK 2 hi2
            rw [hst] at hR
            refine wpOp_at _ rfl rfl ?_
            go_simp
            refine ⟨_, _, _, _, _, _, _, _, _, _, rfl, (set_keep13 hsz hK 9 (by decide)), ?_⟩
            rw [set_old 9 0 hsz (by decide), set_old 9 1 hsz (by decide), set_old 9 2 hsz (by decide), set_old 9 3 hsz (by decide), set_old 9 4 hsz (by decide), set_old 9 5 hsz (by decide), set_old 9 6 hsz (by decide), set_old 9 7 hsz (by decide), set_old 9 8 hsz (by decide), set_new 9 hsz (by decide), set_old 9 10 hsz (by decide), set_old 9 11 hsz (by decide), set_old 9 12 hsz (by decide)]
            rw [hst]
            exact hR.s9
          · obtain rfl := Option.some.inj ho
            have d2 := hR.f2 (hon ⟨2, .data⟩ (by simp) rfl)
            subst d2
            have hal : listed.getD 7 false = true := hon ⟨7, .data⟩ (by simp) rfl
            have hof : listed.getD 10 false = false := by have := hi2; simp [hsz] at this ⊢; exact this
            rw [hal, hof] at hR
            obtain ⟨c, rfl, hc2, hc3⟩ := hR.a7 rfl
            obtain ⟨y0, y1, y2⟩ := hc3.cells
            obtain ⟨e0, e1, e2⟩ := hc3.frees
            simp only [zed, Bool.false_eq_true, if_false] at y0 y1 y2
            refine wpOp_at _ rfl rfl ?_
            simp only [dv]
            go_simp
            refine ⟨_, _, _, _, _, _, _, _, _, _, rfl, (set_store13 hsz hK 10 hal), ?_⟩
            rw [set_old 10 0 hsz (by decide), set_old 10 1 hsz (by decide), set_old 10 2 hsz (by decide), set_old 10 3 hsz (by decide), set_old 10 4 hsz (by decide), set_old 10 5 hsz (by decide), set_old 10 6 hsz (by decide), set_old 10 7 hsz (by decide), set_old 10 8 hsz (by decide), set_old 10 9 hsz (by decide), set_new 10 hsz (by decide), set_old 10 11 hsz (by decide), set_old 10 12 hsz (by decide)]
            rw [hal]
            exact hR.s10
          · obtain rfl := Option.some.inj ho
            have d4 := hR.f4 (hon ⟨4, .data⟩ (by simp) rfl)
            subst d4
            have hal : listed.getD 8 false = true := hon ⟨8, .data⟩ (by simp) rfl
            have hof : listed.getD 11 false = false := by have := hi2; simp [hsz] at this ⊢; exact this
            rw [hal, hof] at hR
            obtain ⟨c, rfl, hc2, hc3⟩ := hR.a8 rfl
            obtain ⟨y0, y1, y2⟩ := hc3.cells
            obtain ⟨e0, e1, e2⟩ := hc3.frees
            simp only [zed, Bool.false_eq_true, if_false] at y0 y1 y2
            refine wpOp_at _ rfl rfl ?_
            simp only [dv]
            go_simp
            refine ⟨_, _, _, _, _, _, _, _, _, _, rfl, (set_store13 hsz hK 11 hal), ?_⟩
            rw [set_old 11 0 hsz (by decide), set_old 11 1 hsz (by decide), set_old 11 2 hsz (by decide), set_old 11 3 hsz (by decide), set_old 11 4 hsz (by decide), set_old 11 5 hsz (by decide), set_old 11 6 hsz (by decide), set_old 11 7 hsz (by decide), set_old 11 8 hsz (by decide), set_old 11 9 hsz (by decide), set_old 11 10 hsz (by decide), set_new 11 hsz (by decide), set_old 11 12 hsz (by decide)]
            rw [hal]
            exact hR.s11
          · obtain rfl := Option.some.inj ho
            have d6 := hR.f6 (hon ⟨6, .data⟩ (by simp) rfl)
            subst d6
            have hal : listed.getD 9 false = true := hon ⟨9, .data⟩ (by simp) rfl
            have hof : listed.getD 12 false = false := by have := hi2; simp [hsz] at this ⊢; exact this
            rw [hal, hof] at hR
            obtain ⟨c, rfl, hc2, hc3⟩ := hR.a9 rfl
            obtain ⟨y0, y1, y2⟩ := hc3.cells
            obtain ⟨e0, e1, e2⟩ := hc3.frees
            simp only [zed, Bool.false_eq_true, if_false] at y0 y1 y2
            refine wpOp_at _ rfl rfl ?_
            simp only [dv]
            go_simp
            refine ⟨_, _, _, _, _, _, _, _, _, _, rfl, (set_store13 hsz hK 12 hal), ?_⟩
            rw [set_old 12 0 hsz (by decide), set_old 12 1 hsz (by decide), set_old 12 2 hsz (by decide), set_old 12 3 hsz (by decide), set_old 12 4 hsz (by decide), set_old 12 5 hsz (by decide), set_old 12 6 hsz (by decide), set_old 12 7 hsz (by decide), set_old 12 8 hsz (by decide), set_old 12 9 hsz (by decide), set_old 12 10 hsz (by decide), set_old 12 11 hsz (by decide), set_new 12 hsz (by decide)]
            rw [hal]
            exact hR.s12

        · intro listed a x hsz hJ hall
          obtain ⟨v9, v10, v11, v20, v21, v22, v23, v24, v25, v26, rfl, hK, hR⟩ := hJ
          have r7 := hR.a7 (hall 7 (by decide))
          have r8 := hR.a8 (hall 8 (by decide))
          have r9 := hR.a9 (hall 9 (by decide))
          rw [hall 10 (by decide)] at r7
          rw [hall 11 (by decide)] at r8
          rw [hall 12 (by decide)] at r9
          simp only [if_true] at r7 r8 r9
          have m8 := hR.n8 (hall 7 (by decide)) (hall 8 (by decide))
          have m9 := hR.n9 (hall 7 (by decide)) (hall 9 (by decide))
          have mb := hR.below
          clear hR hK hall
          dsimp only
          go_wp2_with fail
          go_meet
          exact ⟨r7, r8, r9, m8, m9, mb⟩
      case rest =>
        obtain ⟨⟨b, rfl, hb, lb⟩, ⟨c, rfl, hc, lc⟩, ⟨f, rfl, hf, lf⟩, n1, n2, hB⟩ := hcut
        have nc : c ≠ b := fun q => n1 (by rw [q])
        have nf : f ≠ b := fun q => n2 (by rw [q])
        clear n1 n2 CR O1 O2
        go_wp2
        clear hnk hL
        have HW0 : Hid (WaitAt (max iv 0) fr 0 W0) := by
          obtain ⟨A1, A2, A3⟩ := unhide HA
          obtain ⟨S1, S2, S3⟩ := unhide HSA
          refine ⟨A1, by omega, by omega, ?_⟩
          rw [Int.pow_zero, Int.pow_zero, Int.mul_one, Int.mul_one, A2]
        clear HA HSA
        go_loopw [31] (fun i wr => ∃ (j : Nat) (p : Dn), i = .int .i64 (j : Int) ∧ j ≤ n ∧ Hid (WaitAt (max iv 0) fr j p) ∧ DLies wr b p ∧ DLies wr c Lm ∧ DLies wr f F ∧ Below w.heap.size w wr)
          (fun i _ => n - (intOf i).toNat)
        case atStart => exact ⟨0, W0, rfl, Nat.zero_le _, HW0, lb, lc, lf, hB⟩
        case round =>
          clear lb lc lf hB HW0
          obtain ⟨j, p, rfl, hj, hwt, lb, lc, lf, hB⟩ := hrel
          obtain ⟨x0, x1, x2⟩ := lb.cells
          have bp := (unhide hwt).wh.exbd
          have zp := (unhide hwt).sz
          obtain ⟨bl0, bl1, bl2⟩ := unhide HSB
          have m0' : 0 ≤ max iv 0 := by omega
          by_cases hlt : j < n
          · have hlt' : (j : Int) < (n : Int) := by omega
            have cm := fun w => cmp_any p Lm w (by omega) (by omega) (by omega) (by omega) (by omega) (by omega)
            rw [(unhide hwt).wh.norm_id, (unhide HB).1.norm_id, cmp_eq _ _ (unhide hwt).wh (unhide HB).1] at cm
            have hcl := refCmp_lt p Lm (unhide hwt).wh (unhide HB).1
            have HCL := hide hcl
            clear hcl
            generalize refCmp p Lm = kc at *
            simp only [dv] at cm
            have CM := hide cm
            clear cm
            obtain ⟨y0, y1, y2⟩ := lc.cells
            go_wp2_with fail
            refine (unhide CM _).mono ?_
            rintro e u1 ⟨rfl, ha⟩
            have lb1 := lb.below ha (blk_lt lb)
            have lc1 := lc.below ha (blk_lt lc)
            have lf1 := lf.below ha (blk_lt lf)
            have hB1 : Below w.heap.size w u1 := hB.trans (ha.mono hB.size)
            clear ha CM x0 x1 x2 y0 y1 y2 lb lc lf hB
            by_cases hk : 0 ≤ kc
            · have he : res = L := by
                rw [← unhide HRes]
                refine (unhide hwt).early m0' (unhide HFa).lo (by omega) ?_
                rw [← (unhide HB).2]
                have := unhide HCL
                rcases Int.lt_or_le (sR p) (sR Lm) with q | q
                · have := this.2 q; omega
                · exact q
              subst he
              clear HRes
              go_wp2
              go_ret
              exact ⟨rfl, hB1⟩
            · have hlt2 : sR p < 2147483648 * 10 ^ 9999 := by
                have h1 := (unhide HCL).1 (by omega)
                rw [(unhide HB).2] at h1
                have h2 := Int.mul_le_mul_of_nonneg_right L1 (Int.le_of_lt posU)
                exact Int.lt_of_lt_of_le h1 h2
              obtain ⟨r, hr, hwr⟩ := (unhide hwt).next (unhide HFa) (by omega) m0' hlt2
              have bF := (unhide HFa).wh.exbd
              have zF := (unhide HFa).top.2
              have ml := fun w h1 h2 => mul_any p F eX w (by omega) (by omega) (by omega) (by omega) (by omega) (by omega) h1 h2
              rw [(unhide hwt).wh.norm_id, (unhide HFa).wh.norm_id, hr] at ml
              have HWR := hide hwr
              clear hwr hr hlt2 HCL
              simp only [dv, boundV, if_true] at ml
              have ML := hide ml
              clear ml
              obtain ⟨x0, x1, x2⟩ := lb1.cells
              obtain ⟨z0, z1, z2⟩ := lf1.cells
              have hE1 := keepC (hB1.mono (Nat.le_refl _)) hE
              go_wp2_with fail
              refine (unhide ML _ (cell_lt hE1) hE1).mono ?_
              rintro e u2 ⟨rfl, ha⟩
              have lb2 := lb1.below ha (blk_lt lb1)
              have lc2 := lc1.below ha (blk_lt lc1)
              have lf2 := lf1.below ha (blk_lt lf1)
              have hB2 : Below w.heap.size w u2 := hB1.trans (ha.mono hB1.size)
              clear ha ML x0 x1 x2 z0 z1 z2 lb1 lc1 lf1 hB1 hE1
              obtain ⟨x0, x1, x2⟩ := lb2.cells
              obtain ⟨f0, f1, f2⟩ := lb2.frees
              go_wp2
              go_roundw
              case rel =>
                refine ⟨j + 1, r, by go_num, by omega, HWR, lb2.set _ _ _, far_block nc lc2 _ _ _, far_block nf lf2 _ _ _, below3 hB2 (by omega) _ _ _⟩
              case measure => simp [intOf]; omega
          · have hjn : j = n := by omega
            subst hjn
            have hlt' : ¬ (j : Int) < (j : Int) := by omega
            have fl := fun w => floor_any p w (by omega) (by omega) (by omega)
            rw [(unhide hwt).wh.norm_id] at fl
            obtain ⟨v, ok, hvo⟩ : ∃ v ok, flo p = (v, ok) := ⟨_, _, rfl⟩
            rw [hvo] at fl
            obtain ⟨e1, e2⟩ := (unhide hwt).last (L := L) m0' (unhide HFa).lo (by omega) hvo
            rw [unhide HRes] at e1 e2
            simp only [dv] at fl
            have FL := hide fl
            have E1 := hide e1
            have E2 := hide e2
            clear fl e1 e2 hvo HRes
            go_wp2_with fail
            refine (unhide FL _).mono ?_
            rintro e u1 ⟨rfl, ha⟩
            have hB1 : Below w.heap.size w u1 := hB.trans (ha.mono hB.size)
            clear ha FL x0 x1 x2 lb lc lf hB
            cases ok with
            | false =>
              have he := unhide E1 rfl
              subst he
              clear E1 E2
              go_wp2
              go_ret
              exact ⟨rfl, hB1⟩
            | true =>
              have he := unhide E2 rfl
              clear E1 E2
              by_cases hv : L < v
              · rw [if_pos hv] at he
                subst he
                go_wp2
                go_ret
                exact ⟨rfl, hB1⟩
              · rw [if_neg hv] at he
                subst he
                go_wp2
                go_ret
                exact ⟨rfl, hB1⟩
end Go.Proofs.YtmnikcnjdeldeaaDoor.rd
