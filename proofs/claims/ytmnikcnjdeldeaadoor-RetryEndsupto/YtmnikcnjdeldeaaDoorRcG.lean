/- Several texts in one. -/
import Derived.Test.YtmnikcnjdeldeaaDoorCmG
import Derived.Laws.AppendOwnNone
/- The contracts of the reference's signed, lower, lined, size and Cmp. -/
namespace Go.Proofs.YtmnikcnjdeldeaaDoor.rd
open Go.RowKit

theorem own_keep {w w' : World} {B n : Nat} {e : TypeId} {v : Value} {xs : List Value} (h : w.ownsRow B e 1 v n xs) (hb : Below w.heap.size w w') : w'.ownsRow B e 1 v n xs := by
  refine ⟨h.1, ?_⟩
  rcases h.2 with h' | ⟨g, cap, cur, h1, h2, h3, h4⟩
  · exact .inl h'
  · exact .inr ⟨g, cap, cur, h1, h2, (hb.block g (blk_lt h3)).trans h3, h4⟩

theorem linedN_len (n : Dn) (e : Int) : (linedN n e).length ≤ (n.ex - e).toNat + n.dg.size := by
  unfold linedN
  rw [List.length_append, List.length_replicate]
  have := dl_short n.dg
  omega
theorem linedN_dig (n : Dn) (e : Int) : Dig10 (linedN n e) := by
  intro z hz
  unfold linedN at hz
  rcases List.mem_append.1 hz with h | h
  · rw [List.mem_replicate] at h; omega
  · exact dl_dig10 _ z h

end Go.Proofs.YtmnikcnjdeldeaaDoor.rd

/- The contract of the reference's size. -/
namespace Go.Proofs.YtmnikcnjdeldeaaDoor.rd
open Go.RowKit

theorem rev_take (l : List Int) (k : Nat) (h : k < l.length) : (l.take (k + 1)).reverse = l.getD k 0 :: (l.take k).reverse := by
  rw [take_getD l k h, List.reverse_append]; rfl

/-- A slice of ints, nil or not. -/
theorem Ints.form {w : World} {v : Value} {zs : List Int} (h : Ints w v zs) : ∃ o cap, v = .slice o zs.length cap ∧ zs.length ≤ cap ∧ cap ≤ 9223372036854775807 ∧ ∀ j, j < zs.length → ∃ g, o = some ⟨g, 0, none⟩ ∧ w.cell? ⟨g, j, none⟩ = some (.int .i64 (zs.getD j 0)) := by
  rcases h with ⟨rfl, rfl⟩ | ⟨g, cap, rfl, h1, h2, h3⟩
  · exact ⟨none, 0, rfl, Nat.le_refl _, by omega, fun j hj => by simp at hj⟩
  · exact ⟨_, cap, rfl, h1, h2, fun j hj => ⟨g, rfl, h3 j hj⟩⟩

end Go.Proofs.YtmnikcnjdeldeaaDoor.rd

/- The contract of the reference's Cmp. -/
namespace Go.Proofs.YtmnikcnjdeldeaaDoor.rd
open Go.RowKit

/-- Two numbers in two blocks; nothing old has turned. -/
structure HeldW (w wc : World) (b c : Nat) (p q : Dn) : Prop where
  a : DLies wc b p
  b : DLies wc c q
  below : Below w.heap.size w wc
theorem HeldW.call {w wc w' : World} {b c : Nat} {p q : Dn} (h : HeldW w wc b c p q) (hb : Below wc.heap.size wc w') : HeldW w w' b c p q where
  a := h.a.below hb (blk_lt h.a)
  b := h.b.below hb (blk_lt h.b)
  below := h.below.trans (hb.mono h.below.size)
theorem HeldW.drew {w wc : World} {b c : Nat} {p q : Dn} (h : HeldW w wc b c p q) : HeldW w wc.drew b c p q := ⟨h.a, h.b, h.below.drew⟩

theorem cmpN_bd (a b : List Int) : cmpN a b = -1 ∨ cmpN a b = 0 ∨ cmpN a b = 1 := by
  induction a generalizing b with
  | nil => simp [cmpN]
  | cons x r ih =>
    cases b with
    | nil => simp [cmpN]
    | cons y t =>
      simp only [cmpN]
      split
      · exact .inl rfl
      · split
        · exact .inr (.inr rfl)
        · exact ih t
theorem sizeN_bd (a b : List Int) : sizeN a b = -1 ∨ sizeN a b = 0 ∨ sizeN a b = 1 := by
  unfold sizeN
  split
  · exact .inl rfl
  · split
    · exact .inr (.inr rfl)
    · exact cmpN_bd _ _
theorem signN_bd (n : Dn) : signN n = -1 ∨ signN n = 0 ∨ signN n = 1 := by
  unfold signN
  split
  · exact .inr (.inl rfl)
  · split
    · exact .inl rfl
    · exact .inr (.inr rfl)
theorem lowerN_bd (p q : Dn) (p0 : -9999 ≤ p.ex) (p1 : p.ex ≤ 9999) (q0 : -9999 ≤ q.ex) (q1 : q.ex ≤ 9999) : -9999 ≤ lowerN p q ∧ lowerN p q ≤ 9999 := by
  unfold lowerN
  split
  · omega
  · split <;> omega

end Go.Proofs.YtmnikcnjdeldeaaDoor.rd
