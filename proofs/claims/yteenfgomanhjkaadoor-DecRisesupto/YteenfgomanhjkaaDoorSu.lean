/- sum's contract: two rows of digits of one width, added. -/
import Derived.Test.YteenfgomanhjkaaDoorNpG
namespace Go.Proofs.YteenfgomanhjkaaDoor.rd
open Go.RowKit

/-- Two rows of digits, the greatest first, of one width: the sum's digits and what is left to carry. -/
def sumL : List UInt8 → List UInt8 → List UInt8 × Nat
  | a :: xs, b :: ys => ((48 + ((a.toNat - 48) + (b.toNat - 48) + (sumL xs ys).2) % 10).toUInt8 :: (sumL xs ys).1, ((a.toNat - 48) + (b.toNat - 48) + (sumL xs ys).2) / 10)
  | _, _ => ([], 0)
def sumD (x y : ByteArray) : ByteArray := ⟨((48 + (sumL x.data.toList y.data.toList).2).toUInt8 :: (sumL x.data.toList y.data.toList).1).toArray⟩

def AllDig (s : ByteArray) : Prop := ∀ c ∈ s.data.toList, nu.dig c = true
theorem AllDig.at {s : ByteArray} (h : AllDig s) (k : Nat) (hk : k < s.size) : 48 ≤ s[k].toNat ∧ s[k].toNat ≤ 57 := by
  have h' : k < s.data.toList.length := by simpa using hk
  have := h s[k] (List.getElem_mem h')
  simpa [nu.dig] using this

theorem drop_at (s : ByteArray) (k : Nat) (h : k < s.size) : s.data.toList.drop k = s[k] :: s.data.toList.drop (k + 1) := by
  have h' : k < s.data.toList.length := by simpa using h
  rw [List.drop_eq_getElem_cons h']; rfl
theorem drop_end (s : ByteArray) : s.data.toList.drop s.size = [] := List.drop_eq_nil_of_le (by simp)

theorem sumL_carry (x y : List UInt8) (hx : ∀ c ∈ x, nu.dig c = true) (hy : ∀ c ∈ y, nu.dig c = true) : (sumL x y).2 ≤ 1 := by
  induction x generalizing y with
  | nil => simp [sumL]
  | cons a xs ih =>
    cases y with
    | nil => simp [sumL]
    | cons b ys =>
      have h1 : 48 ≤ a.toNat ∧ a.toNat ≤ 57 := by simpa [nu.dig] using hx a (by simp)
      have h2 : 48 ≤ b.toNat ∧ b.toNat ≤ 57 := by simpa [nu.dig] using hy b (by simp)
      have h3 := ih ys (fun c hc => hx c (by simp [hc])) (fun c hc => hy c (by simp [hc]))
      simp only [sumL]
      omega
theorem sumL_len (x y : List UInt8) (h : x.length = y.length) : (sumL x y).1.length = x.length := by
  induction x generalizing y with
  | nil => simp [sumL]
  | cons a xs ih =>
    cases y with
    | nil => simp at h
    | cons b ys =>
      simp only [sumL, List.length_cons]
      rw [ih ys (by simpa using h)]

/-- A row of the answer while it is made. -/
def row (k : Nat) (l : List UInt8) : Array Value := (List.replicate k (Value.int .u8 0) ++ l.map vb).toArray
theorem row_size (k : Nat) (l : List UInt8) : (row k l).size = k + l.length := by simp [row]
theorem row_zero (k : Nat) (l : List UInt8) (j : Nat) (h : j < k) : (row k l)[j]? = some (.int .u8 0) := by
  simp only [row, List.getElem?_toArray]
  rw [List.getElem?_append_left (by simpa using h), List.getElem?_replicate, if_pos h]
theorem row_set (k : Nat) (l : List UInt8) (c : UInt8) (v : Value) (hv : v = vb c) : (row (k + 1) l).setIfInBounds k v = row k (c :: l) := by
  subst hv
  apply Array.ext'
  simp only [row, Array.toList_setIfInBounds, List.toList_toArray]
  rw [List.replicate_succ', List.append_assoc, List.set_append_right _ _ (by simp)]
  simp
theorem row_full (l : List UInt8) (j : Nat) (h : j < l.length) : (row 0 l)[j]? = some (.int .u8 (l[j].toNat : Int)) := by
  simp [row, vb, h]
theorem made_row (n : Nat) : madeCells #[.int .u8 0] n = row n [] := by
  apply Array.ext'
  rw [toList_madeCells_one]
  simp [row]

theorem row_back {w : World} {B cap : Nat} {l : List UInt8} (h : w.heap[B]? = some (.cells (row 0 l) 5 (0, 0))) :
    (convert 63 9 (.slice (some ⟨B, 0, none⟩) l.length cap)).run Tryd.prog w = .ok (.string ⟨l.toArray⟩) w := by
  refine run_convert_bytes_back w 63 9 5 ⟨B, 0, none⟩ cap l Tryd.underlying63 Tryd.underlying5 Tryd.underlying9 (fun j hj => ?_)
  have e : (⟨B, 0, none⟩ : Addr).add j = ⟨B, j, none⟩ := by unfold Addr.add; split <;> simp_all
  rw [e, blk_cell h, row_full l j hj]

theorem u8_of (n : Nat) (h : n < 256) : ((n.toUInt8).toNat : Int) = (n : Int) := by
  have : n.toUInt8.toNat = n := by simp [Nat.toUInt8, Nat.mod_eq_of_lt h]
  omega

set_option maxRecDepth 100000 in
set_option maxHeartbeats 1600000 in
theorem sum_any (x y : ByteArray) (w : World) (hxy : x.size = y.size) (hs : x.size ≤ 140737488351232) (hx : AllDig x) (hy : AllDig y) :
    Calls Tryd.prog 22 #[.string x, .string y] w fun e w' => e = .returned (.string (sumD x y)) ∧ Below w.heap.size w w' := by
  obtain ⟨i0, hi, hz0, hz1, hz2⟩ := info_parts info5
  have hmk : ∀ u : World, (Instr.makeSlice 63 (.int .i64 ((x.size : Int) + 1)) (.int .i64 ((x.size : Int) + 1))).run Tryd.prog u =
      .ok (.slice (some ⟨u.heap.size, 0, none⟩) (x.size + 1) (x.size + 1)) (u.alloc (.cells (row (x.size + 1) []) 5)) := fun u => by
    have h := run_make (P := Tryd.prog) u 63 5 i0 (.int .u8 0) Tryd.underlying63 hi hz0 .i64 .i64 ((x.size : Int) + 1) ((x.size : Int) + 1) (by omega) (Int.le_refl _) (by rw [hz2]; omega) (by omega)
    have e : ((x.size : Int) + 1).toNat = x.size + 1 := by omega
    rw [e] at h
    simpa [hz1, Value.cells, made_row] using h
  have HX := hide hx
  have HY := hide hy
  have HXY := hide hxy
  clear hx hy hxy
  go_enter Tryd.func22, Tryd.ntmps22
  go_wp2
  clear hmk
  go_loopw [6, 7] (fun c i wr => ∃ k : Nat, k ≤ x.size ∧ i = .int .i64 ((k : Int) - 1) ∧ c = .int .u8 ((sumL (x.data.toList.drop k) (y.data.toList.drop k)).2 : Int) ∧
      wr.heap[w.heap.size]? = some (.cells (row (k + 1) (sumL (x.data.toList.drop k) (y.data.toList.drop k)).1) 5 (0, 0)) ∧ Below w.heap.size w wr)
    (fun _ i _ => (intOf i + 1).toNat)
  case atStart =>
    refine ⟨x.size, Nat.le_refl _, rfl, ?_, ?_, (Below.refl _ _).alloc (Nat.le_refl _) _⟩
    · rw [drop_end]; rfl
    · rw [drop_end]
      show (w.heap.push _)[w.heap.size]? = _
      rw [Array.getElem?_push_size]
      rfl
  case round =>
    obtain ⟨k, hk, rfl, rfl, hrow, hbel⟩ := hrel
    have hca := sumL_carry (x.data.toList.drop k) (y.data.toList.drop k) (fun c hc => unhide HX c (List.mem_of_mem_drop hc)) (fun c hc => unhide HY c (List.mem_of_mem_drop hc))
    cases k with
    | zero =>
      have hlen : (sumL x.data.toList y.data.toList).1.length = x.size := by
        rw [sumL_len _ _ (by simpa using unhide HXY)]; simp
      simp only [List.drop_zero] at hrow hca ⊢
      have HD : Hid (sumD x y = ⟨((48 + (sumL x.data.toList y.data.toList).2).toUInt8 :: (sumL x.data.toList y.data.toList).1).toArray⟩) := rfl
      generalize (sumL x.data.toList y.data.toList).1 = dl at *
      generalize (sumL x.data.toList y.data.toList).2 = c at *
      have hb0 := u8_of (48 + c) (by omega)
      generalize (48 + c).toUInt8 = b0 at *
      have c0 : wr.cell? ⟨w.heap.size, 0, none⟩ = some (.int .u8 0) := by rw [blk_cell hrow, row_zero _ _ _ (by omega)]
      have f0 := blk_free hrow 0
      have hset := blk_set hrow 0 (.int .u8 (48 + (c : Int)))
      rw [row_set 0 dl b0 _ (by unfold vb; rw [hb0]; simp)] at hset
      have hcv := row_back (cap := x.size + 1) hset
      simp only [List.length_cons, hlen] at hcv
      have hc1 : (c : Int) ≤ 1 := by omega
      clear hset hlen hb0
      go_wp2
      go_ret
      refine ⟨?_, hbel.setCell (Nat.le_refl _) _⟩
      rw [HD.out]
      rfl
    | succ j =>
      have hjx : j < x.size := by omega
      have hjy : j < y.size := by have := unhide HXY; omega
      obtain ⟨a1, a2⟩ := AllDig.at (unhide HX) j hjx
      obtain ⟨b1, b2⟩ := AllDig.at (unhide HY) j hjy
      have HS : Hid (sumL (x.data.toList.drop j) (y.data.toList.drop j) = ((48 + ((x[j].toNat - 48) + (y[j].toNat - 48) + (sumL (x.data.toList.drop (j + 1)) (y.data.toList.drop (j + 1))).2) % 10).toUInt8 :: (sumL (x.data.toList.drop (j + 1)) (y.data.toList.drop (j + 1))).1, ((x[j].toNat - 48) + (y[j].toNat - 48) + (sumL (x.data.toList.drop (j + 1)) (y.data.toList.drop (j + 1))).2) / 10)) := by
        show sumL _ _ = _
        rw [drop_at x j hjx, drop_at y j hjy]
        rfl
      generalize (sumL (x.data.toList.drop (j + 1)) (y.data.toList.drop (j + 1))).1 = dl at *
      generalize (sumL (x.data.toList.drop (j + 1)) (y.data.toList.drop (j + 1))).2 = c at *
      have a1' : (48 : Int) ≤ (x[j].toNat : Int) := by omega
      have a2' : (x[j].toNat : Int) ≤ 57 := by omega
      have b1' : (48 : Int) ≤ (y[j].toNat : Int) := by omega
      have b2' : (y[j].toNat : Int) ≤ 57 := by omega
      have hc1 : (c : Int) ≤ 1 := by omega
      have hb0 := u8_of (48 + ((x[j].toNat - 48) + (y[j].toNat - 48) + c) % 10) (by omega)
      have hb1 : (((48 + ((x[j].toNat - 48) + (y[j].toNat - 48) + c) % 10).toUInt8.toNat : Nat) : Int) = 48 + ((x[j].toNat : Int) - 48 + ((y[j].toNat : Int) - 48) + c) % 10 := by rw [hb0]; omega
      clear hb0
      generalize (48 + ((x[j].toNat - 48) + (y[j].toNat - 48) + c) % 10).toUInt8 = b0 at *
      have HB := hide hb1
      have HC : Hid ((((x[j].toNat - 48) + (y[j].toNat - 48) + c) / 10 : Nat) = (((x[j].toNat : Int) - 48 + ((y[j].toNat : Int) - 48) + c) / 10)) := by
        show (((_ : Nat)) : Int) = _
        omega
      have c0 : wr.cell? ⟨w.heap.size, j + 1, none⟩ = some (.int .u8 0) := by rw [blk_cell hrow, row_zero _ _ _ (by omega)]
      have f0 := blk_free hrow (j + 1)
      have HRow := hide hrow
      clear hb1 hrow a1 a2 b1 b2
      rw [show ((j + 1 : Nat) : Int) - 1 = (j : Int) by omega]
      go_wp2
      go_quiet (fail)
      go_wp2
      go_roundw
      case rel =>
        refine ⟨j, by omega, by go_num, ?_, ?_, ((hbel.trans ((Upd.drewN w.heap.size wr nq).below (Nat.le_refl _))).setCell (Nat.le_refl _) _)⟩
        · rw [HS.out]; simp only; rw [HC.out]
        · rw [HS.out]
          have hset := blk_set (w := wr.drewN nq) (unhide HRow) (j + 1) (.int .u8 (48 + ((x[j].toNat : Int) - 48 + ((y[j].toNat : Int) - 48) + c) % 10))
          rw [row_set (j + 1) dl b0 _ (by unfold vb; rw [unhide HB])] at hset
          exact hset
      case measure => simp [intOf]
end Go.Proofs.YteenfgomanhjkaaDoor.rd
