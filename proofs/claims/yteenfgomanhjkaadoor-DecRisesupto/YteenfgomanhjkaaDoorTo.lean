/- The contract of the reference's told. -/
import Derived.Test.YteenfgomanhjkaaDoorCuG
import Derived.Laws.BytesArg
namespace Go.Proofs.YteenfgomanhjkaaDoor.rd
open Go.RowKit

/-- How many noughts a list begins with. -/
def lowN : List Int → Nat
  | [] => 0
  | z :: r => if z = 0 then lowN r + 1 else 0
theorem lowN_eq (us : List Int) (k : Nat) (h1 : ∀ i, i < k → us.getD i 0 = 0) (h2 : us.getD k 0 ≠ 0) : lowN us = k := by
  induction us generalizing k with
  | nil => simp at h2
  | cons z r ih =>
    cases k with
    | zero =>
      have : z ≠ 0 := by simpa using h2
      simp [lowN, this]
    | succ j =>
      have hz : z = 0 := by simpa using h1 0 (by omega)
      have := ih j (fun i hi => by simpa using h1 (i + 1) (by omega)) (by simpa using h2)
      simp [lowN, hz, this]
theorem cutN_last (l : List Int) (h : cutN l ≠ []) : (cutN l).getD ((cutN l).length - 1) 0 ≠ 0 := by
  unfold cutN at h ⊢
  cases hx : l.reverse.dropWhile (· == 0) with
  | nil => rw [hx] at h; simp at h
  | cons z r =>
    have hz : ¬ (z == 0) = true := by
      have := List.head_dropWhile_not (fun x : Int => x == 0) (l := l.reverse) (by rw [hx]; simp)
      simp only [hx, List.head_cons] at this
      simpa using this
    simp
    simpa using hz

def toB (z : Int) : UInt8 := (48 + z).toNat.toUInt8
/-- The bytes that told gathers, from the upper end down to place k. -/
def tb (us : List Int) (k : Nat) : List UInt8 := ((us.drop k).reverse).map toB
def told (neg : Bool) (zs : List Int) (ex : Int) : Dn × Bool :=
  if cutN zs = [] then (zed, true)
  else if ex < -9999 - lowN (cutN zs) ∨ 9999 - lowN (cutN zs) < ex then (zed, false)
  else (⟨neg, ⟨(tb (cutN zs) (lowN (cutN zs))).toArray⟩, ex + lowN (cutN zs)⟩, true)

theorem conv_own {w : World} {B n : Nat} {v : Value} {l : List UInt8} (h : w.ownsRow B 5 1 v n (l.map vb)) (hn : l.length = n) :
    (convert 63 9 v).run Tryd.prog w = .ok (.string ⟨l.toArray⟩) w := by
  subst hn
  rcases h.2 with ⟨rfl, h0⟩ | ⟨g, cap, cur, rfl, hb, hg, hnc, hcm, hcs, htake⟩
  · obtain rfl := List.eq_nil_of_length_eq_zero h0
    exact run_convert_bytes_nil w 63 5 Tryd.underlying63 Tryd.underlying5 0 0 9 Tryd.underlying9
  · refine run_convert_bytes_back w 63 9 5 ⟨g, 0, none⟩ cap l Tryd.underlying63 Tryd.underlying5 Tryd.underlying9 (fun j hj => ?_)
    have := h.cellAt j (by omega)
    have e : (⟨g, 0, none⟩ : Addr).add j = ⟨g, j, none⟩ := by unfold Addr.add; split <;> simp_all
    rw [e, this]
    simp [hj, vb]

def Dig10 (zs : List Int) : Prop := ∀ z ∈ zs, 0 ≤ z ∧ z ≤ 9
theorem Dig10.at {zs : List Int} (h : Dig10 zs) (j : Nat) (hj : j < zs.length) : 0 ≤ zs.getD j 0 ∧ zs.getD j 0 ≤ 9 := by
  have : zs.getD j 0 = zs[j] := by simp [hj]
  rw [this]
  exact h _ (List.getElem_mem hj)

theorem tb_step (us : List Int) (j : Nat) (h : j < us.length) : tb us j = tb us (j + 1) ++ [toB (us.getD j 0)] := by
  unfold tb
  have e : us.drop j = us.getD j 0 :: us.drop (j + 1) := by rw [List.drop_eq_getElem_cons h]; simp [h]
  rw [e, List.reverse_cons, List.map_append]
  rfl
theorem tb_end (us : List Int) : tb us us.length = [] := by unfold tb; simp
theorem tb_len (us : List Int) (k : Nat) : (tb us k).length = us.length - k := by unfold tb; simp
theorem toB_nat (z : Int) (h0 : 0 ≤ z) (h1 : z ≤ 9) : ((toB z).toNat : Int) = 48 + z := by
  unfold toB
  rw [u8_of _ (by omega)]
  omega

end Go.Proofs.YteenfgomanhjkaaDoor.rd
