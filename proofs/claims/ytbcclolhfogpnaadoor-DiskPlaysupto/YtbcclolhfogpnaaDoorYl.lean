/- The reference's disk: its acts, in memory. -/
import Derived.Test.YtbcclolhfogpnaaDoorYa
import Derived.Deep.RegionHeld3
import Derived.Deep.RegionLaw
namespace Go.Proofs.YtbcclolhfogpnaaDoor.dk
open Go.RowKit mm

/-- The four cells of the reference's disk. -/
def R4 (w : World) (g : Nat) (v : Value) (n : Int) (b : Bool) (m : Int) : Prop := ∃ t, w.heap[g]? = some (.cells #[v, .int .i64 n, .bool b, .int .i64 m] t (0, 0))
section
variable {w : World} {g : Nat} {v : Value} {n : Int} {b : Bool} {m : Int}
theorem R4.c0 (h : R4 w g v n b m) : w.cell? ⟨g, 0, none⟩ = some v := by obtain ⟨t, h⟩ := h; rw [blk_cell h]; rfl
theorem R4.c1 (h : R4 w g v n b m) : w.cell? ⟨g, 1, none⟩ = some (.int .i64 n) := by obtain ⟨t, h⟩ := h; rw [blk_cell h]; rfl
theorem R4.c2 (h : R4 w g v n b m) : w.cell? ⟨g, 2, none⟩ = some (.bool b) := by obtain ⟨t, h⟩ := h; rw [blk_cell h]; rfl
theorem R4.c3 (h : R4 w g v n b m) : w.cell? ⟨g, 3, none⟩ = some (.int .i64 m) := by obtain ⟨t, h⟩ := h; rw [blk_cell h]; rfl
theorem R4.f (h : R4 w g v n b m) (o : Nat) : w.frozen? ⟨g, o, none⟩ = false := by obtain ⟨t, h⟩ := h; exact blk_free h o
theorem R4.s0 (h : R4 w g v n b m) (x : Value) : R4 (w.setCell ⟨g, 0, none⟩ x) g x n b m := by obtain ⟨t, h⟩ := h; exact ⟨t, blk_set h 0 _⟩
theorem R4.s1 (h : R4 w g v n b m) (x : Int) : R4 (w.setCell ⟨g, 1, none⟩ (.int .i64 x)) g v x b m := by obtain ⟨t, h⟩ := h; exact ⟨t, blk_set h 1 _⟩
theorem R4.s2 (h : R4 w g v n b m) (x : Bool) : R4 (w.setCell ⟨g, 2, none⟩ (.bool x)) g v n x m := by obtain ⟨t, h⟩ := h; exact ⟨t, blk_set h 2 _⟩
theorem R4.s3 (h : R4 w g v n b m) (x : Int) : R4 (w.setCell ⟨g, 3, none⟩ (.int .i64 x)) g v n b x := by obtain ⟨t, h⟩ := h; exact ⟨t, blk_set h 3 _⟩
theorem R4.drewN (h : R4 w g v n b m) (k : Nat) : R4 (w.drewN k) g v n b m := h
theorem R4.keep {w' : World} (h : R4 w g v n b m) (hk : w'.heap[g]? = w.heap[g]?) : R4 w' g v n b m := by obtain ⟨t, h⟩ := h; exact ⟨t, hk.trans h⟩
theorem R4.lt (h : R4 w g v n b m) : g < w.heap.size := by obtain ⟨t, h⟩ := h; exact blk_lt h
end

theorem mvU {g : Nat} {w w' : World} {F : Bl} (h : Upd g w w') (hF : F g) : Mv F F w w' := ⟨h.os, h.tape, h.output, Nat.le_of_eq h.size.symm, fun k _ hk => h.block k (fun q => hk (q ▸ hF)), fun _ hk => Or.inl hk⟩

theorem goes_any (w : World) (g : Nat) (v : Value) (n : Int) (b : Bool) (m : Int) (h : R4 w g v n b m) (h0 : 0 ≤ m) (h1 : m ≤ 9223372036854775807) :
    Calls Tryd.prog 33 #[.pointer (some ⟨g, 0, none⟩)] w fun e w' => e = .returned (.bool (m == 1)) ∧ R4 w' g v n (m == 1) (m - (if 0 < m then 1 else 0)) ∧ Upd g w w' := by
  have c2 := h.c2
  have c3 := h.c3
  have hf := h.f
  have H := hide h
  by_cases hm : 0 < m
  · have hw : wrap64 (m - 1) = m - 1 := IntWalk.wrap64_in _ ⟨by omega, by omega⟩
    have hd : decide (0 < m) = true := decide_eq_true hm
    obtain ⟨bb, hbb⟩ : ∃ bb, (m == 1) = bb := ⟨_, rfl⟩
    rw [hbb, if_pos hm]
    clear h h0 h1 hm
    go_enter Tryd.func33, Tryd.ntmps33
    go_wp2
    go_ret
    exact ⟨by rw [← hbb]; rfl, hbb ▸ ((unhide H).s3 _).s2 _, (Upd.setCell _ _ _ _).trans (Upd.setCell _ _ _ _)⟩
  · have hm0 : m = 0 := by omega
    subst hm0
    clear h h0 h1 hm
    go_enter Tryd.func33, Tryd.ntmps33
    go_wp2
    go_ret
    exact ⟨rfl, (unhide H).s2 _, Upd.setCell _ _ _ _⟩

/-- The reference's disk at p, in the blocks F. -/
def RD (w : World) (p : Addr) (F : Bl) (s : St) : Prop :=
  ∃ g v, p = ⟨g, 0, none⟩ ∧ R4 w g v (s.syn : Int) s.off (s.arm : Int) ∧ OY w 0 v s.file ∧ v.ownBlock ≠ some g ∧ (∀ k, F k ↔ (k = g ∨ v.ownBlock = some k)) ∧ Wf s ∧ (s.arm : Int) ≤ 9223372036854775807
/-- The errors' numbers. -/
def cd : Nat → Int
  | 0 => 0
  | 1 => 1
  | _ => 21
theorem OY.upd {w w' : World} {g : Nat} {v : Value} {l : List UInt8} (h : OY w 0 v l) (hu : Upd g w w') (hn : v.ownBlock ≠ some g) : OY w' 0 v l := row_keep h (fun k hk => hu.block k (fun q => hn (by rw [hk, q])))
theorem RD.lt {w : World} {p : Addr} {F : Bl} {s : St} (h : RD w p F s) : ∀ k, F k → k < w.heap.size := fun k hk => by
  obtain ⟨g, v, rfl, h4, hy, hn, hF, _⟩ := h
  rcases (hF k).mp hk with rfl | q
  · exact h4.lt
  · exact (row_lt hy k q).2
theorem RD.keep {w w' : World} {p : Addr} {F : Bl} {s : St} (h : RD w p F s) (hk : ∀ k, F k → w'.heap[k]? = w.heap[k]?) : RD w' p F s := by
  obtain ⟨g, v, rfl, h4, hy, hn, hF, r⟩ := h
  exact ⟨g, v, rfl, h4.keep (hk g ((hF g).mpr (Or.inl rfl))), row_keep hy (fun k q => hk k ((hF k).mpr (Or.inr q))), hn, hF, r⟩
theorem RD.fl {w : World} {p : Addr} {F : Bl} {s : St} (h : RD w p F s) : ∃ v, w.cell? p = some v ∧ BY w v s.file := by
  obtain ⟨g, v, rfl, h4, hy, _⟩ := h
  exact ⟨v, h4.c0, hy.by⟩

theorem rsync_any (w : World) (p : Addr) (F : Bl) (s : St) (h : RD w p F s) :
    Calls Tryd.prog 26 #[.pointer (some p)] w fun e w' => ∃ F', e = .returned (.int .i64 (cd (sSyn s).2)) ∧ RD w' p F' (sSyn s).1 ∧ Mv F F' w w' := by
  obtain ⟨g, v, rfl, h4, hy, hn, hF, hw, ha⟩ := h
  obtain ⟨file, syn, off, arm⟩ := s
  have c0 := h4.c0
  have c2 := h4.c2
  have H4 := hide h4
  have HY := hide hy
  have HN := hide hn
  have HF := hide hF
  have HW := hide hw
  have HA := hide ha
  cases off with
  | true =>
    have e : sSyn ⟨file, syn, true, arm⟩ = (⟨file, syn, true, arm⟩, 2) := rfl
    rw [e]
    clear h4 hy hn hF hw ha
    simp only [cd] at c2 ⊢
    go_enter Tryd.func26, Tryd.ntmps26
    go_wp2
    go_ret
    exact ⟨rfl, F, ⟨g, v, rfl, unhide H4, unhide HY, unhide HN, unhide HF, unhide HW, unhide HA⟩, Mv.quiet F (Below.refl _ _)⟩
  | false =>
    have C1 := hide (goes_any w g v _ _ _ h4 (by omega) ha)
    by_cases h1 : arm = 1
    · subst h1
      have e : sSyn ⟨file, syn, false, 1⟩ = (⟨file, syn, true, 0⟩, 2) := rfl
      rw [e]
      clear h4 hy hn hF hw ha
      simp only [cd] at c2 C1 ⊢
      go_enter Tryd.func26, Tryd.ntmps26
      go_wp2_with fail
      refine (unhide C1).mono ?_
      rintro e w1 ⟨rfl, r1, u1⟩
      have R1 := hide r1
      have U1 := hide u1
      clear r1 u1 C1
      go_wp2
      go_ret
      exact ⟨F, rfl, ⟨g, v, rfl, unhide R1, OY.upd (unhide HY) (unhide U1) (unhide HN), unhide HN, unhide HF, unhide HW, by simp⟩, mvU (unhide U1) ((unhide HF g).mpr (Or.inl rfl))⟩
    · have e : sSyn ⟨file, syn, false, arm⟩ = (⟨file, file.length, false, arm - 1⟩, 0) := by unfold sSyn; simp [h1]
      rw [e]
      have hq : ((arm : Int) == 1) = false := by simp; omega
      have hm : (arm : Int) - (if (0 : Int) < (arm : Int) then 1 else 0) = ((arm - 1 : Nat) : Int) := by split <;> omega
      rw [hm] at C1
      rw [hq] at C1
      obtain ⟨oa, c, rfl, _, _⟩ := (OY.by hy).form
      clear h4 hy hn hF hw ha hm hq
      simp only [cd] at c2 ⊢
      go_enter Tryd.func26, Tryd.ntmps26
      go_wp2_with fail
      refine (unhide C1).mono ?_
      rintro e w1 ⟨rfl, r1, u1⟩
      have R1 := hide r1
      have U1 := hide u1
      have d0 := r1.c0
      have d1 := r1.c1
      have df := r1.f
      clear r1 u1 C1 c0 c2
      go_wp2
      go_ret
      exact ⟨F, rfl, ⟨g, _, rfl, (unhide R1).s1 _, OY.upd (OY.upd (unhide HY) (unhide U1) (unhide HN)) (Upd.setCell _ _ _ _) (unhide HN), unhide HN, unhide HF, Nat.le_refl _, by have := unhide HA; simp only at this ⊢; omega⟩, mvU ((unhide U1).trans (Upd.setCell _ _ _ _)) ((unhide HF g).mpr (Or.inl rfl))⟩
end Go.Proofs.YtbcclolhfogpnaaDoor.dk
