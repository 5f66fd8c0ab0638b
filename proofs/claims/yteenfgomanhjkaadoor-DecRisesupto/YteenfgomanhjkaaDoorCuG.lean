/- Several texts in one. -/
import Derived.Test.YteenfgomanhjkaaDoorAw
/- cut's contract. -/
namespace Go.Proofs.YteenfgomanhjkaaDoor.rd
open Go.RowKit

/-- Without noughts at the upper end (the list's end). -/
def cutN (l : List Int) : List Int := (l.reverse.dropWhile (· == 0)).reverse
theorem cutN_len (l : List Int) : (cutN l).length ≤ l.length := by
  unfold cutN
  rw [List.length_reverse]
  have := (List.dropWhile_suffix (l := l.reverse) (fun x : Int => x == 0)).length_le
  rw [List.length_reverse] at this
  exact this
theorem cutN_zero (l : List Int) (z : Int) (h : z = 0) : cutN (l ++ [z]) = cutN l := by
  unfold cutN; rw [List.reverse_append]; simp [h]
theorem cutN_other (l : List Int) (z : Int) (h : z ≠ 0) : cutN (l ++ [z]) = l ++ [z] := by
  unfold cutN; rw [List.reverse_append]; simp [h]
theorem take_getD (l : List Int) (k : Nat) (h : k < l.length) : l.take (k + 1) = l.take k ++ [l.getD k 0] := by
  rw [List.take_succ_eq_append_getElem h]; simp [h]
theorem cutN_take (l : List Int) : ∃ k, cutN l = l.take k := by
  unfold cutN
  have h := List.dropWhile_suffix (l := l.reverse) (fun x : Int => x == 0)
  have h2 := List.reverse_prefix.2 h
  rw [List.reverse_reverse] at h2
  exact ⟨_, List.prefix_iff_eq_take.1 h2⟩

end Go.Proofs.YteenfgomanhjkaaDoor.rd

/- The contract of the reference's digits. -/
namespace Go.Proofs.YteenfgomanhjkaaDoor.rd
open Go.RowKit

/-- A slice of ints, wherever it lies. -/
def Ints (w : World) (v : Value) (zs : List Int) : Prop :=
  (v = .slice none 0 0 ∧ zs = []) ∨ ∃ g cap, v = .slice (some ⟨g, 0, none⟩) zs.length cap ∧ zs.length ≤ cap ∧ cap ≤ 9223372036854775807 ∧ ∀ j, j < zs.length → w.cell? ⟨g, j, none⟩ = some (.int .i64 (zs.getD j 0))
theorem Ints.keep {w w' : World} {v : Value} {zs : List Int} (h : Ints w v zs) (hb : Below w.heap.size w w') : Ints w' v zs := by
  rcases h with h | ⟨g, cap, h1, h2, h3, h4⟩
  · exact .inl h
  · exact .inr ⟨g, cap, h1, h2, h3, fun j hj => keepC hb (h4 j hj)⟩

def iv (z : Int) : Value := .int .i64 z
theorem ints_of_own {w : World} {B : Nat} {v : Value} {zs : List Int} (h : w.ownsRow B 3 1 v zs.length (zs.map iv)) : Ints w v zs := by
  rcases h.2 with ⟨h1, h2⟩ | ⟨g, cap, cur, rfl, hb, hg, hnc, hcm, hcs, htake⟩
  · exact .inl ⟨h1, List.eq_nil_of_length_eq_zero h2⟩
  · refine .inr ⟨g, cap, rfl, hnc, hcm, fun j hj => ?_⟩
    have := h.cellAt j (by omega)
    rw [this]
    simp [hj, iv]

theorem own_ge {w : World} {B : Nat} {e : TypeId} {v : Value} {n : Nat} {xs : List Value} (h : w.ownsRow B e 1 v n xs) : ∀ k, v.ownBlock = some k → B ≤ k := by
  intro k hk
  rcases h.2 with ⟨rfl, _⟩ | ⟨g, cap, cur, rfl, hb, _⟩
  · simp [Value.ownBlock] at hk
  · simp [Value.ownBlock] at hk
    omega
theorem cutN_getD (l : List Int) (j : Nat) (h : j < (cutN l).length) : (cutN l).getD j 0 = l.getD j 0 := by
  obtain ⟨m, hm⟩ := cutN_take l
  rw [hm] at h ⊢
  have hj : j < m := by
    rw [List.length_take] at h
    omega
  simp [List.getD, hj]

/-- The digits of the bytes from place k on, the last one first. -/
def dl (s : ByteArray) (k : Nat) : List Int := ((s.data.toList.drop k).filter nu.dig).reverse.map (fun c : UInt8 => (c.toNat : Int) - 48)
theorem dl_end (s : ByteArray) : dl s s.size = [] := by unfold dl; rw [drop_end]; rfl
theorem dl_yes (s : ByteArray) (k : Nat) (h : k < s.size) (hd : nu.dig s[k] = true) : dl s k = dl s (k + 1) ++ [(s[k].toNat : Int) - 48] := by
  unfold dl; rw [drop_at s k h]; simp [hd]
theorem dl_no (s : ByteArray) (k : Nat) (h : k < s.size) (hd : nu.dig s[k] = false) : dl s k = dl s (k + 1) := by
  unfold dl; rw [drop_at s k h]; simp [hd]
theorem dl_len (s : ByteArray) (k : Nat) : (dl s k).length ≤ s.size - k := by
  unfold dl
  rw [List.length_map, List.length_reverse]
  have h1 := List.length_filter_le nu.dig (s.data.toList.drop k)
  have h2 : (s.data.toList.drop k).length = s.size - k := by rw [List.length_drop]; simp
  omega

theorem info3 : (Tryd.prog.info? 3).map (fun i => (i.zero, i.size, i.bytes)) = some (some (.int .i64 0), 1, 8) := by kernel_rfl

end Go.Proofs.YteenfgomanhjkaaDoor.rd
