/- The contracts of the reference's signed, lower, lined, size and Cmp. -/
import Derived.Test.YteenfgomanhjkaaDoorCp
import Derived.Laws.AppendOwnNone
namespace Go.Proofs.YteenfgomanhjkaaDoor.rd
open Go.RowKit

theorem own_keep {w w' : World} {B n : Nat} {e : TypeId} {v : Value} {xs : List Value} (h : w.ownsRow B e 1 v n xs) (hb : Below w.heap.size w w') : w'.ownsRow B e 1 v n xs := by
  refine ⟨h.1, ?_⟩
  rcases h.2 with h' | ⟨g, cap, cur, h1, h2, h3, h4⟩
  · exact .inl h'
  · exact .inr ⟨g, cap, cur, h1, h2, (hb.block g (blk_lt h3)).trans h3, h4⟩

theorem linedN_len (n : Dn) (e : Int) : (linedN n e).length ≤ (n.ex - e).toNat + n.dg.size := by
  unfold linedN
  rw [List.length_append, List.length_replicate]
  have := dl_short n.dg
  omega
theorem linedN_dig (n : Dn) (e : Int) : Dig10 (linedN n e) := by
  intro z hz
  unfold linedN at hz
  rcases List.mem_append.1 hz with h | h
  · rw [List.mem_replicate] at h; omega
  · exact dl_dig10 _ z h

end Go.Proofs.YteenfgomanhjkaaDoor.rd
