/- The contracts of the reference's ends and Of. -/
import Derived.Test.YteenfgomanhjkaaDoorFr
namespace Go.Proofs.YteenfgomanhjkaaDoor.rd
open Go.RowKit

/-- While the reference's Floor goes: the number's block, the two ends'. -/
structure FlW (w wc : World) (a b c : Nat) (n L T : Dn) : Prop where
  n : DLies wc a n
  l : DLies wc b L
  t : DLies wc c T
  below : Below w.heap.size w wc
theorem FlW.call {w wc w' : World} {a b c : Nat} {n L T : Dn} (h : FlW w wc a b c n L T) (hb : Below wc.heap.size wc w') : FlW w w' a b c n L T where
  n := h.n.below hb (blk_lt h.n)
  l := h.l.below hb (blk_lt h.l)
  t := h.t.below hb (blk_lt h.t)
  below := h.below.trans (hb.mono h.below.size)
theorem FlW.alloc {w wc : World} {a b c : Nat} {n L T : Dn} (h : FlW w wc a b c n L T) (o : Obj) : FlW w (wc.alloc o) a b c n L T := ⟨h.n.alloc _, h.l.alloc _, h.t.alloc _, h.below.alloc h.below.size _⟩
theorem told_size (n : Bool) (zs : List Int) (e : Int) : (told n zs e).1.dg.size ≤ zs.length := by
  unfold told
  split
  · exact Nat.zero_le _
  · split
    · exact Nat.zero_le _
    · have h1 := tb_len (cutN zs) (lowN (cutN zs))
      have h2 := cutN_len zs
      have h3 : (⟨(tb (cutN zs) (lowN (cutN zs))).toArray⟩ : ByteArray).size = (tb (cutN zs) (lowN (cutN zs))).length := List.size_toArray
      simp only
      omega
theorem Whole1.exbd {n : Dn} (h : Whole1 n) : -9999 ≤ n.ex ∧ n.ex ≤ 9999 := by
  rcases h with rfl | h
  · exact ⟨by decide, by decide⟩
  · exact ⟨h.e0, h.e1⟩
theorem IntsO.alloc {w : World} {v : Value} {zs : List Int} (h : IntsO w v zs) (o : Obj) : IntsO (w.alloc o) v zs := h.keep ((Below.refl _ _).alloc (Nat.le_refl _) _)
theorem one_ints (w : World) : Ints (w.alloc (.cells #[.int .i64 1] 3)) (.slice (some ⟨w.heap.size, 0, none⟩) 1 1) [1] :=
  .inr ⟨w.heap.size, 1, rfl, by simp, by omega, fun j hj => by
    have : j = 0 := by simpa using hj
    subst this
    have h : (w.alloc (.cells #[.int .i64 1] 3)).heap[w.heap.size]? = some (.cells #[.int .i64 1] 3 (0, 0)) := by
      show (w.heap.push _)[w.heap.size]? = _
      rw [Array.getElem?_push_size]
    rw [blk_cell h]; rfl⟩
/-- One step of the cut at the point. -/
theorem IntsO.next {w : World} {g o cap n : Nat} {l : List Int} {t : Nat} (hn : n = (l.drop t).length) (h3 : cap ≤ 9223372036854775807) (h2 : n ≤ cap) (h4 : ∀ j, j < n → w.cell? ⟨g, o + j, none⟩ = some (.int .i64 ((l.drop t).getD j 0))) (hp : 0 < n) :
    IntsO w (.slice (some ⟨g, o + 1, none⟩) (n - 1) (cap - 1)) (l.drop (t + 1)) ∧ (cap = 1 → IntsO w (.slice (some ⟨g, o, none⟩) (n - 1) (cap - 1)) (l.drop (t + 1))) := by
  have e : (l.drop (t + 1)).length = n - 1 := by rw [List.length_drop] at *; omega
  have eg : ∀ j, (l.drop (t + 1)).getD j 0 = (l.drop t).getD (j + 1) 0 := fun j => by
    simp only [List.getD, List.getElem?_drop]
    congr 2
    omega
  refine ⟨.inr ⟨g, o + 1, cap - 1, by rw [e], by omega, by omega, fun j hj => ?_⟩, fun hc => .inr ⟨g, o, cap - 1, by rw [e], by omega, by omega, fun j hj => by omega⟩⟩
  rw [eg, show o + 1 + j = o + (j + 1) by omega]
  exact h4 (j + 1) (by omega)
end Go.Proofs.YteenfgomanhjkaaDoor.rd
