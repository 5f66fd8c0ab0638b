/- The contract of the reference's times. -/
import Derived.Test.YtgmjllkkgapjcaaDoorRl
import Derived.Test.YtgmjllkkgapjcaaDoorVp
namespace Go.Proofs.YtgmjllkkgapjcaaDoor.rd
open Go.RowKit

/-- A row of ints. -/
def rowZ (l : List Int) : Array Value := (l.map iv).toArray
theorem rowZ_at (l : List Int) (j : Nat) (h : j < l.length) : (rowZ l)[j]? = some (.int .i64 (l.getD j 0)) := by simp [rowZ, h, iv]
theorem rowZ_set (l : List Int) (j : Nat) (z : Int) : (rowZ l).setIfInBounds j (.int .i64 z) = rowZ (l.set j z) := by
  apply Array.ext'
  simp only [rowZ, Array.toList_setIfInBounds, List.toList_toArray]
  rw [List.map_set]
  rfl
theorem rowZ_made (n : Nat) : madeCells #[.int .i64 0] n = rowZ (List.replicate n 0) := by
  apply Array.ext'
  rw [toList_madeCells_one]
  simp [rowZ, iv]
theorem make_ints (n : Nat) (h : n ≤ 17592186044416) (u : World) : (Instr.makeSlice 49 (.int .i64 (n : Int)) (.int .i64 (n : Int))).run Tryd.prog u = .ok (.slice (some ⟨u.heap.size, 0, none⟩) n n) (u.alloc (.cells (rowZ (List.replicate n 0)) 3)) := by
  obtain ⟨i0, hi, hz0, hz1, hz2⟩ := info_parts info3
  have h := run_make (P := Tryd.prog) u 49 3 i0 (.int .i64 0) Tryd.underlying49 hi hz0 .i64 .i64 (n : Int) (n : Int) (by omega) (Int.le_refl _) (by rw [hz2]; omega) (by omega)
  have e : ((n : Nat) : Int).toNat = n := by omega
  rw [e] at h
  simpa [hz1, Value.cells, rowZ_made] using h

theorem set_val (l : List Int) (j : Nat) (z : Int) (h : j < l.length) : valL (l.set j z) = valL l + 10 ^ j * (z - l.getD j 0) := by
  induction l generalizing j with
  | nil => simp at h
  | cons y r ih =>
    cases j with
    | zero => simp [valL]; omega
    | succ j =>
      have h' : j < r.length := by simpa using h
      have := ih j h'
      simp only [List.set_cons_succ, valL, List.getD_cons_succ]
      rw [this]
      grind
theorem Dig10.set {l : List Int} (hd : Dig10 l) (j : Nat) (z : Int) (h0 : 0 ≤ z) (h1 : z ≤ 9) : Dig10 (l.set j z) := by
  intro y hy
  rcases List.mem_or_eq_of_mem_set hy with h | h
  · exact hd y h
  · subst h; exact ⟨h0, h1⟩
theorem set_other (l : List Int) (j k : Nat) (z : Int) (h : j ≠ k) : (l.set j z).getD k 0 = l.getD k 0 := by
  simp [List.getD, List.getElem?_set_ne h]
theorem split_val (l : List Int) (j : Nat) (h : j ≤ l.length) : valL l = valL (l.take j) + 10 ^ j * valL (l.drop j) := by
  have := valL_append (l.take j) (l.drop j)
  rw [List.take_append_drop, List.length_take, Nat.min_eq_left h] at this
  exact this
theorem Dig10.take {l : List Int} (hd : Dig10 l) (n : Nat) : Dig10 (l.take n) := fun z hz => hd z (List.mem_of_mem_take hz)
theorem high_nought {l : List Int} (hd : Dig10 l) (j : Nat) (h : valL l < 10 ^ j) : l.getD j 0 = 0 := by
  rcases Nat.lt_or_ge j l.length with hj | hj
  · have h1 := split_val l j (by omega)
    have h2 := valL_nonneg (hd.take j)
    have h3 := valL_nonneg (hd.drop j)
    have h4 : valL (l.drop j) = 0 := by
      rcases Int.lt_or_le 0 (valL (l.drop j)) with q | q
      · exfalso
        have : 10 ^ j * 1 ≤ 10 ^ j * valL (l.drop j) := Int.mul_le_mul_of_nonneg_left (by omega) (Int.pow_nonneg (by omega))
        omega
      · omega
    rw [drop_val] at h4
    have h5 := valL_nonneg (hd.drop (j + 1))
    have h6 := hd.at j hj
    omega
  · exact getD_past l j hj

/-- One place of a row of the product, in numbers. -/
theorem times_place (l ys : List Int) (n m : Nat) (a b z t S : Int) (hz : z = l.getD (n + m) 0) (hj : n + m < l.length) (ht : t = z + b + a * ys.getD m 0)
    (h : valL l + 10 ^ (n + m) * (b + a * valL (ys.drop m)) = S) : valL (l.set (n + m) (t % 10)) + 10 ^ (n + (m + 1)) * (t / 10 + a * valL (ys.drop (m + 1))) = S := by
  rw [set_val l _ _ hj, ← hz]
  rw [drop_val ys m] at h
  have hd : t % 10 + 10 * (t / 10) = t := by omega
  generalize t % 10 = r at *
  generalize t / 10 = d at *
  generalize ys.getD m 0 = y at *
  rw [← h, ← Nat.add_assoc]
  generalize n + m = j at *
  grind

set_option maxRecDepth 100000 in
set_option maxHeartbeats 3200000 in
theorem times_any (v1 v2 : Value) (xs ys : List Int) (w : World) (hv1 : Ints w v1 xs) (hv2 : Ints w v2 ys) (hx : Dig10 xs) (hy : Dig10 ys) (hlx : xs.length ≤ 1099511627776) (hly : ys.length ≤ 1099511627776) :
    Calls Tryd.prog 59 #[v1, v2] w fun e w' => ∃ v zs, e = .returned v ∧ Ints w' v zs ∧ Dig10 zs ∧ valL zs = valL xs * valL ys ∧ zs.length = xs.length + ys.length + 1 ∧ Below w.heap.size w w' := by
  obtain ⟨o1, c1, rfl, l1, m1, f1⟩ := hv1.form
  obtain ⟨o2, c2, rfl, l2, m2, f2⟩ := hv2.form
  have hmk := make_ints (xs.length + ys.length + 1) (by omega)
  have ec : ((xs.length + ys.length + 1 : Nat) : Int) = (xs.length : Int) + (ys.length : Int) + 1 := by omega
  rw [ec] at hmk
  have F1 := hide f1
  have F2 := hide f2
  have GX := hide (fun n => getD_bd hx n)
  have GY := hide (fun n => getD_bd hy n)
  have DX := hide hx
  have DY := hide hy
  clear f1 f2 hv1 hv2 hx hy
  go_enter Tryd.func59, Tryd.ntmps59
  go_wp2
  clear hmk ec
  go_loopw [6] (fun i wr => ∃ (n : Nat) (l : List Int), n ≤ xs.length ∧ i = .int .i64 (n : Int) ∧ l.length = xs.length + ys.length + 1 ∧ Dig10 l ∧ valL l = valL (xs.take n) * valL ys ∧
      wr.heap[w.heap.size]? = some (.cells (rowZ l) 3 (0, 0)) ∧ Below w.heap.size w wr)
    (fun i _ => xs.length - (intOf i).toNat)
  case atStart =>
    refine ⟨0, List.replicate (xs.length + ys.length + 1) 0, by omega, rfl, by simp, Dig10.zeros _, ?_, ?_, (Below.refl _ _).alloc (Nat.le_refl _) _⟩
    · rw [valL_zeros]; simp [valL]
    · show (w.heap.push _)[w.heap.size]? = _
      rw [Array.getElem?_push_size]
  case round =>
    obtain ⟨n, l, hn, rfl, hl, hdl, hval, hrow, hbel⟩ := hrel
    by_cases hA : n < xs.length
    · have hA' : (n : Int) < (xs.length : Int) := by omega
      obtain ⟨g1, rfl, q1⟩ := unhide F1 n hA
      obtain ⟨a0, a1⟩ := unhide GX n
      have HN : Hid (∀ z : Int, valL l + xs.getD n 0 * valL ys * 10 ^ n = z → z = valL (xs.take (n + 1)) * valL ys) := fun z hz => by
        rw [← hz, hval, take_getD xs n hA, valL_snoc, List.length_take, Nat.min_eq_left (by omega)]
        grind
      have HT : Hid (l.getD (n + ys.length) 0 = 0) := by
        apply high_nought hdl
        rw [hval, Int.pow_add]
        have h1 := valL_lt ((unhide DX).take n)
        rw [List.length_take, Nat.min_eq_left (by omega)] at h1
        have h2 := valL_lt (unhide DY)
        have h3 := valL_nonneg ((unhide DX).take n)
        have h4 := valL_nonneg (unhide DY)
        have h7 : ∀ m : Nat, (0 : Int) < 10 ^ m := fun m => Int.pow_pos (by omega)
        rcases Int.lt_or_le 0 (valL ys) with h | h
        · exact Int.lt_of_lt_of_le (Int.mul_lt_mul_of_pos_right h1 h) (Int.mul_le_mul_of_nonneg_left (by omega) (Int.le_of_lt (h7 n)))
        · have : valL ys = 0 := by omega
          rw [this]
          have := Int.mul_pos (h7 n) (h7 ys.length)
          omega
      generalize xs.getD n 0 = a at *
      have HRow := hide hrow
      have HD := hide hdl
      have HL := hide hl
      clear hval hrow hdl hl
      go_wp2
      go_loopw [7, 8] (fun c k wt => ∃ (m : Nat) (b : Int) (u : List Int), k = .int .i64 (m : Int) ∧ c = .int .i64 b ∧ 0 ≤ b ∧ b ≤ 9 ∧ u.length = xs.length + ys.length + 1 ∧ Dig10 u ∧ (m ≤ ys.length ∨ (m = ys.length + 1 ∧ b = 0)) ∧
          valL u + 10 ^ (n + m) * (b + a * valL (ys.drop m)) = valL l + a * valL ys * 10 ^ n ∧ (∀ j, n + m ≤ j → u.getD j 0 = l.getD j 0) ∧
          wt.heap[w.heap.size]? = some (.cells (rowZ u) 3 (0, 0)) ∧ Below w.heap.size w wt)
        (fun _ k _ => ys.length + 2 - (intOf k).toNat)
      case atStart =>
        refine ⟨0, 0, l, rfl, rfl, by omega, by omega, unhide HL, unhide HD, by omega, ?_, fun _ _ => rfl, unhide HRow, hbel⟩
        simp; grind
      case round =>
        obtain ⟨m, b, u, rfl, rfl, hb0, hb1, hul, hdu, hor, hval, hsame, hrow, hbt⟩ := hrel
        by_cases hB : m < ys.length
        · have hB' : (m : Int) < (ys.length : Int) := by omega
          obtain ⟨g2, rfl, q2⟩ := unhide F2 m hB
          obtain ⟨y0, y1⟩ := unhide GY m
          obtain ⟨j, hj⟩ : ∃ j, j = n + m := ⟨_, rfl⟩
          have ej : (n : Int) + (m : Int) = (j : Int) := by omega
          have hjl : j < u.length := by omega
          have p0 : wr.cell? ⟨w.heap.size, j, none⟩ = some (.int .i64 (u.getD j 0)) := by rw [blk_cell hrow, rowZ_at u j hjl]
          have f0 := blk_free hrow j
          have p1 := keepC hbt q1
          have p2 := keepC hbt q2
          obtain ⟨z0, z1⟩ := getD_bd hdu j
          have TP := hide (fun t ht => times_place u ys n m a b (u.getD (n + m) 0) t _ rfl (by omega) ht hval)
          rw [← hj] at TP
          have hjN : (j : Int) < (xs.length : Int) + (ys.length : Int) + 1 := by omega
          generalize ys.getD m 0 = y at *
          generalize u.getD j 0 = z at *
          have hpq := mul_bd (a := a) (b := y) ⟨a0, a1⟩ ⟨y0, y1⟩
          obtain ⟨hpq0, hpq1⟩ := hpq
          have hw1 : IntKind.i64.wrap (a * y) = a * y := wrap_in _ (by omega) (by omega)
          have hw2 : IntKind.i64.wrap (z + b + a * y) = z + b + a * y := wrap_in _ (by omega) (by omega)
          have HSame := hide hsame
          have HRw := hide hrow
          have HDU := hide hdu
          have HUL := hide hul
          have HJ := hide hj
          clear hval hsame hrow hdu hul hj q2 hjl
          go_wp2
          go_quiet (fail)
          go_wp2
          go_roundw
          case rel =>
            have hj := unhide HJ
            refine ⟨m + 1, (z + b + a * y) / 10, u.set j ((z + b + a * y) % 10), by go_num, rfl, by omega, by omega, ?_, (unhide HDU).set _ _ (by omega) (by omega), by omega, unhide TP (z + b + a * y) rfl, ?_, ?_, ?_⟩
            · rw [List.length_set]; exact unhide HUL
            · intro k hk
              rw [set_other _ _ _ _ (by omega)]
              exact unhide HSame k (by omega)
            · have hset := blk_set (w := wr.drewN nq) (unhide HRw) j (.int .i64 ((z + b + a * y) % 10))
              rw [rowZ_set] at hset
              exact hset
            · exact (hbt.trans ((Upd.drewN w.heap.size wr nq).below (Nat.le_refl _))).setCell (Nat.le_refl _) _
          case measure => simp [intOf]; omega
        · have hB' : ¬ (m : Int) < (ys.length : Int) := by omega
          by_cases hC : 0 < b
          · have hm : m = ys.length := by omega
            obtain ⟨j, hj⟩ : ∃ j, j = n + m := ⟨_, rfl⟩
            have ej : (n : Int) + (m : Int) = (j : Int) := by omega
            have hjl : j < u.length := by omega
            have hz : u.getD j 0 = 0 := by rw [hsame j (by omega), hj, hm]; exact unhide HT
            have p0 : wr.cell? ⟨w.heap.size, j, none⟩ = some (.int .i64 0) := by rw [blk_cell hrow, rowZ_at u j hjl, hz]
            have f0 := blk_free hrow j
            have TP := hide (fun t ht => times_place u ys n m a b (u.getD (n + m) 0) t _ rfl (by omega) ht hval)
            rw [← hj, hz, getD_past ys m (by omega)] at TP
            have hjN : (j : Int) < (xs.length : Int) + (ys.length : Int) + 1 := by omega
            have HSame := hide hsame
            have HRw := hide hrow
            have HDU := hide hdu
            have HUL := hide hul
            have HJ := hide hj
            have HM := hide hm
            clear hval hsame hrow hdu hul hj hjl hz hm
            go_wp2
            go_roundw
            case rel =>
              have hj := unhide HJ
              have hm := unhide HM
              refine ⟨m + 1, b / 10, u.set j (b % 10), by go_num, rfl, by omega, by omega, ?_, (unhide HDU).set _ _ (by omega) (by omega), by omega, unhide TP b (by omega), ?_, ?_, ?_⟩
              · rw [List.length_set]; exact unhide HUL
              · intro k hk
                rw [set_other _ _ _ _ (by omega)]
                exact unhide HSame k (by omega)
              · have hset := blk_set (unhide HRw) j (.int .i64 (b % 10))
                rw [rowZ_set] at hset
                exact hset
              · exact hbt.setCell (Nat.le_refl _) _
            case measure => simp [intOf]; omega
          · have hb : b = 0 := by omega
            subst hb
            have HV : Hid (valL u = valL (xs.take (n + 1)) * valL ys) := by
              show valL u = _
              apply unhide HN
              rw [← hval, List.drop_eq_nil_of_le (by omega)]
              simp [valL]
            have HRw := hide hrow
            have HDU := hide hdu
            have HUL := hide hul
            clear hval hsame hrow hdu hul
            go_wp2
            go_roundw
            case rel => exact ⟨n + 1, u, by omega, by go_num, unhide HUL, unhide HDU, unhide HV, unhide HRw, hbt⟩
            case measure => simp [intOf]; omega
    · have hA' : ¬ (n : Int) < (xs.length : Int) := by omega
      have HV : Hid (valL l = valL xs * valL ys) := by
        show valL l = _
        rw [hval, List.take_of_length_le (by omega)]
      have HRow := hide hrow
      have HD := hide hdl
      have HL := hide hl
      clear hval hrow hdl hl
      go_wp2
      go_ret
      refine ⟨_, rfl, l, .inr ⟨w.heap.size, xs.length + ys.length + 1, ?_, ?_, ?_, ?_⟩, unhide HD, unhide HV, unhide HL, hbel⟩
      · rw [unhide HL]; rfl
      · rw [unhide HL]; omega
      · omega
      · intro j hj
        rw [blk_cell (unhide HRow), rowZ_at l j hj]
end Go.Proofs.YtgmjllkkgapjcaaDoor.rd
