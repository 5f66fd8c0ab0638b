/- column's and product's walks. -/
import Derived.Test.YteenfgomanhjkaaDoorVp
namespace Go.Proofs.YteenfgomanhjkaaDoor.rd
open Go.RowKit

theorem column_none (x y : ByteArray) (w : World) (hs : x.size ≤ 1099511627776) (ht : y.size ≤ 1099511627776) :
    Calls Tryd.prog 37 #[.string x, .string y, .int .i64 (-1)] w fun e w' => e = .returned (.int .u64 0) ∧ Below w.heap.size w w' := by
  have hm : max (0 : Int) (-1 - (y.size : Int) + 1) = 0 := by omega
  go_enter Tryd.func37, Tryd.ntmps37
  go_wp2
  refine wp_loop_rounds 1 ?_
  rw [rounds_succ]
  by_cases h : (0 : Int) < (x.size : Int)
  · go_wp2
    go_ret
    exact ⟨rfl, Below.refl _ _⟩
  · go_wp2
    go_ret
    exact ⟨rfl, Below.refl _ _⟩

set_option maxRecDepth 100000 in
set_option maxHeartbeats 1600000 in
theorem column_some (x y : ByteArray) (k : Nat) (w : World) (hs : x.size ≤ 1099511627776) (ht : y.size ≤ 1099511627776) (hk : k ≤ 2199023255552) (hx : AllDig x) (hy : AllDig y) :
    Calls Tryd.prog 37 #[.string x, .string y, .int .i64 (k : Int)] w fun e w' => e = .returned (.int .u64 (colC x.data.toList y.data.toList k)) ∧ Below w.heap.size w w' := by
  have lx := len_list x
  have ly := len_list y
  have H0 := hide (colR_zero x.data.toList y.data.toList k)
  have HK := hide (fun i h => colR_skip x.data.toList y.data.toList k i h)
  generalize colC x.data.toList y.data.toList k = res at *
  have hmx : max (0 : Int) ((k : Int) - (y.size : Int) + 1) = ((k + 1 - y.size : Nat) : Int) := by omega
  have HX := hide hx
  have HY := hide hy
  clear hx hy
  go_enter Tryd.func37, Tryd.ntmps37
  go_wp2
  go_loopw [7, 8] (fun t i wr => ∃ (n : Nat) (v : Int), k + 1 - y.size ≤ n ∧ n ≤ k + 1 + x.size ∧ t = .int .u64 v ∧ i = .int .i64 (n : Int) ∧ 0 ≤ v ∧ v ≤ 81 * (n : Int) ∧ v + colR x.data.toList y.data.toList k n = res ∧ Below w.heap.size w wr)
    (fun _ i _ => (k + 2 + x.size) - (intOf i).toNat)
  case atStart =>
    refine ⟨k + 1 - y.size, 0, Nat.le_refl _, by omega, rfl, rfl, by omega, by omega, ?_, Below.refl _ _⟩
    rw [← unhide H0]
    rcases Nat.lt_or_ge k y.size with h | h
    · have : k + 1 - y.size = 0 := by omega
      rw [this]; omega
    · rw [unhide HK (k + 1 - y.size) (by omega)]; omega
  case round =>
    obtain ⟨n, v, hn0, hn1, rfl, rfl, hv0, hv1, hres, hbel⟩ := hrel
    clear hmx
    by_cases h1 : (n : Int) < (x.size : Int)
    · by_cases h2 : (n : Int) ≤ (k : Int)
      · have hn : n < x.size := by omega
        obtain ⟨m, hm⟩ : ∃ m, k = n + m := ⟨k - n, by omega⟩
        have hmy : m < y.size := by omega
        have em : IntKind.i64.wrap ((k : Int) - (n : Int)) = (m : Int) := by rw [wrap_in _ (by omega) (by omega)]; omega
        have HM := hide hm
        obtain ⟨a1, a2⟩ := AllDig.at (unhide HX) n hn
        obtain ⟨b1, b2⟩ := AllDig.at (unhide HY) m hmy
        have hstep := colR_step x.data.toList y.data.toList k n (by omega) (by omega)
        have hkm : k - n = m := by omega
        rw [hkm, gd_at y.data.toList m (by omega)] at hstep
        have ex : x.data.toList[n] = x[n] := rfl
        have ey : y.data.toList[m] = y[m] := rfl
        rw [ex, ey] at hstep
        have ha1 : (48 : Int) ≤ (x[n].toNat : Int) := by omega
        have ha2 : (x[n].toNat : Int) ≤ 57 := by omega
        have hb1 : (48 : Int) ≤ (y[m].toNat : Int) := by omega
        have hb2 : (y[m].toNat : Int) ≤ 57 := by omega
        have hpq := mul_bd (a := (x[n].toNat : Int) - 48) (b := (y[m].toNat : Int) - 48) (by omega) (by omega)
        have hw1 : IntKind.u64.wrap (((x[n].toNat : Int) - 48) * ((y[m].toNat : Int) - 48)) = ((x[n].toNat : Int) - 48) * ((y[m].toNat : Int) - 48) := wrap_u64 _ hpq.1 (by omega)
        have hw2 : IntKind.u64.wrap (v + ((x[n].toNat : Int) - 48) * ((y[m].toNat : Int) - 48)) = v + ((x[n].toNat : Int) - 48) * ((y[m].toNat : Int) - 48) := wrap_u64 _ (by omega) (by omega)
        have HPQ := hide hpq
        have HS := hide hstep
        have HR := hide hres
        clear hpq hstep hres a1 a2 b1 b2 hkm hm
        go_wp2
        go_quiet (fail)
        go_wp2
        go_roundw
        case rel =>
          refine ⟨n + 1, _, by omega, by omega, rfl, by go_num, ?_, ?_, ?_, hbel.trans ((Upd.drewN w.heap.size wr _).below (Nat.le_refl _))⟩
          · have := unhide HPQ; omega
          · have := unhide HPQ; omega
          · have h3 := unhide HS
            have h4 := unhide HR
            unfold fz at h3
            omega
        case measure => simp [intOf]; omega
      · have hr : res = v := by rw [← hres, colR_end _ _ _ _ (.inr (by omega))]; omega
        subst hr
        go_wp2
        go_ret
        exact ⟨rfl, hbel⟩
    · have hr : res = v := by rw [← hres, colR_end _ _ _ _ (.inl (by omega))]; omega
      subst hr
      go_wp2
      go_ret
      exact ⟨rfl, hbel⟩

theorem column_any (x y : ByteArray) (j : Nat) (a : Int) (ha : a = (j : Int) - 1) (w : World) (hs : x.size ≤ 1099511627776) (ht : y.size ≤ 1099511627776) (hk : j ≤ 2199023255552) (hx : AllDig x) (hy : AllDig y) :
    Calls Tryd.prog 37 #[.string x, .string y, .int .i64 a] w fun e w' => e = .returned (.int .u64 (colP x.data.toList y.data.toList j)) ∧ Below w.heap.size w w' := by
  subst ha
  cases j with
  | zero => exact column_none x y w hs ht
  | succ k =>
    rw [show ((k + 1 : Nat) : Int) - 1 = (k : Int) by omega]
    exact column_some x y k w hs ht (by omega) hx hy

set_option maxRecDepth 100000 in
set_option maxHeartbeats 1600000 in
theorem product_any (x y : ByteArray) (w : World) (hs : x.size ≤ 1099511627776) (ht : y.size ≤ 1099511627776) (hx : AllDig x) (hy : AllDig y) :
    Calls Tryd.prog 25 #[.string x, .string y] w fun e w' => ∃ s, e = .returned (.string s) ∧ s.size = x.size + y.size ∧ AllDig s ∧ valB s = valB x * valB y ∧ Below w.heap.size w w' := by
  have hmk := make_row (x.size + y.size) (by omega)
  have lx := len_list x
  have ly := len_list y
  have HH := hide (hor_colP x.data.toList y.data.toList)
  have HB := hide (fun k => colP_bd hx hy k)
  have HC := hide (fun j a ha w hk => column_any x y j a ha w hs ht hk hx hy)
  have HX := hide (valB_lt hx)
  have HY := hide (valB_lt hy)
  have HX0 := hide (valB_nonneg hx)
  have HY0 := hide (valB_nonneg hy)
  clear hx hy
  rw [lx] at HB
  rw [lx, ly] at HH
  have HV : Hid (valB x = valM x.data.toList ∧ valB y = valM y.data.toList) := ⟨rfl, rfl⟩
  generalize hf : colP x.data.toList y.data.toList = f at *
  clear hf
  have ec : ((x.size + y.size : Nat) : Int) = (x.size : Int) + (y.size : Int) := by omega
  rw [ec] at hmk
  go_enter Tryd.func25, Tryd.ntmps25
  go_wp2
  clear hmk
  go_loopw [6, 7] (fun c i wr => ∃ (k : Nat) (b : Int) (l : List UInt8), k ≤ x.size + y.size ∧ i = .int .i64 ((k : Int) - 1) ∧ c = .int .u64 b ∧ 0 ≤ b ∧ b ≤ 9 * (x.size : Int) ∧ l.length = x.size + y.size - k ∧ (∀ c ∈ l, nu.dig c = true) ∧
      valM l + (b + hor f k) * 10 ^ l.length = valB x * valB y ∧
      wr.heap[w.heap.size]? = some (.cells (row k l) 5 (0, 0)) ∧ Below w.heap.size w wr)
    (fun _ i _ => (intOf i + 1).toNat)
  case atStart =>
    refine ⟨x.size + y.size, 0, [], Nat.le_refl _, by go_num, rfl, by omega, by omega, by simp, by simp, ?_, ?_, (Below.refl _ _).alloc (Nat.le_refl _) _⟩
    · rw [unhide HH, (unhide HV).1, (unhide HV).2, valM_nil]; simp
    · show (w.heap.push _)[w.heap.size]? = _
      rw [Array.getElem?_push_size]
  case round =>
    obtain ⟨k, b, l, hk, rfl, rfl, hb0, hb1, hlen, hdl, hval, hrow, hbel⟩ := hrel
    cases k with
    | zero =>
      have hlx : l.length = x.size + y.size := by omega
      have HS : Hid (valM l = valB x * valB y) := by
        show valM l = _
        have h1 := valM_nonneg hdl
        have h2 := unhide HX
        have h3 := unhide HY
        have h4 := unhide HX0
        have h5 := unhide HY0
        have h6 : valB x * valB y < 10 ^ l.length := by
          rw [hlx, Int.pow_add]
          rcases Int.lt_or_le 0 (valB y) with h | h
          · exact Int.lt_of_lt_of_le (Int.mul_lt_mul_of_pos_right h2 h) (Int.mul_le_mul_of_nonneg_left (by omega) (Int.pow_nonneg (by omega)))
          · have : valB y = 0 := by omega
            rw [this]
            have h7 : ∀ m : Nat, (0 : Int) < 10 ^ m := fun m => Int.pow_pos (by omega)
            have := Int.mul_pos (h7 x.size) (h7 y.size)
            omega
        simp only [hor] at hval
        have hb : b = 0 := by
          rcases Int.lt_or_le 0 b with h | h
          · exfalso
            have : 1 * 10 ^ l.length ≤ (b + 0) * 10 ^ l.length := Int.mul_le_mul_of_nonneg_right (by omega) (Int.pow_nonneg (by omega))
            omega
          · omega
        subst hb
        simp at hval
        exact hval
      have hcv := row_back (cap := x.size + y.size) hrow
      rw [hlx] at hcv
      have HD := hide hdl
      have HL := hide hlx
      clear hval hlen hdl hlx
      go_wp2
      go_ret
      refine ⟨⟨l.toArray⟩, rfl, ?_, ?_, ?_, hbel⟩
      · rw [← unhide HL]; exact List.size_toArray
      · exact unhide HD
      · exact unhide HS
    | succ j =>
      rw [show ((j + 1 : Nat) : Int) - 1 = (j : Int) by omega]
      have HF : Hid (hor f (j + 1) = 10 * hor f j + f j) := rfl
      obtain ⟨hf0, hf1⟩ := unhide HB j
      have CC := hide (fun w => unhide HC j ((j : Int) - 1) rfl w (by omega))
      generalize f j = q at *
      have HV2 := hide hval
      have HRow := hide hrow
      have HDL := hide hdl
      have HLen := hide hlen
      clear hval hrow hdl hlen
      have hw1 : IntKind.u64.wrap (b + q) = b + q := wrap_u64 _ (by omega) (by omega)
      have hq1 : (j : Int) < (x.size : Int) + (y.size : Int) := by omega
      go_wp2_with fail
      refine (unhide CC _).mono ?_
      rintro e w1 ⟨rfl, h1⟩
      have hrow1 : w1.heap[w.heap.size]? = some (.cells (row (j + 1) l) 5 (0, 0)) := (h1.block _ (blk_lt (unhide HRow))).trans (unhide HRow)
      have hbel1 : Below w.heap.size w w1 := hbel.trans (h1.mono hbel.size)
      have c0 : w1.cell? ⟨w.heap.size, j, none⟩ = some (.int .u8 0) := by rw [blk_cell hrow1, row_zero _ _ _ (by omega)]
      have f0 := blk_free hrow1 j
      have HRow1 := hide hrow1
      clear hrow1 h1 HRow
      go_wp2
      go_roundw
      case rel =>
        refine ⟨j, (b + q) / 10, (48 + ((b + q) % 10).toNat).toUInt8 :: l, by omega, by go_num, rfl, by omega, by omega, ?_, ?_, ?_, ?_, hbel1.setCell (Nat.le_refl _) _⟩
        · have := unhide HLen
          simp only [List.length_cons]; omega
        · intro c hc
          rcases List.mem_cons.1 hc with h | h
          · rw [h]; exact dig_u8 _ (by omega)
          · exact unhide HDL c h
        · rw [valM_cons, fz_u8 _ (by omega)]
          have h1 := unhide HV2
          rw [unhide HF] at h1
          have hdm : (((b + q) % 10).toNat : Int) + 10 * ((b + q) / 10) = b + q := by omega
          generalize (((b + q) % 10).toNat : Int) = r at *
          generalize (b + q) / 10 = d at *
          simp only [List.length_cons]
          rw [← h1]
          grind
        · have hset := blk_set (unhide HRow1) j (.int .u8 (48 + (b + q) % 10))
          rw [row_set j l (48 + ((b + q) % 10).toNat).toUInt8 _ (by
            have hu := u8_of (48 + ((b + q) % 10).toNat) (by omega)
            unfold vb; rw [hu]; congr 1; omega)] at hset
          exact hset
      case measure => simp [intOf]
end Go.Proofs.YteenfgomanhjkaaDoor.rd
