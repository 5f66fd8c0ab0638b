/- difference's contract: two rows of digits of one width, the lesser taken away from the greater. -/
import Derived.Test.YteenfgomanhjkaaDoorVa
namespace Go.Proofs.YteenfgomanhjkaaDoor.rd
open Go.RowKit

/-- A new row of so many bytes. -/
theorem make_row (n : Nat) (h : n ≤ 140737488351232) (u : World) : (Instr.makeSlice 63 (.int .i64 (n : Int)) (.int .i64 (n : Int))).run Tryd.prog u = .ok (.slice (some ⟨u.heap.size, 0, none⟩) n n) (u.alloc (.cells (row n []) 5)) := by
  obtain ⟨i0, hi, hz0, hz1, hz2⟩ := info_parts info5
  have h := run_make (P := Tryd.prog) u 63 5 i0 (.int .u8 0) Tryd.underlying63 hi hz0 .i64 .i64 (n : Int) (n : Int) (by omega) (Int.le_refl _) (by rw [hz2]; omega) (by omega)
  have e : ((n : Nat) : Int).toNat = n := by omega
  rw [e] at h
  simpa [hz1, Value.cells, made_row] using h

set_option maxRecDepth 100000 in
set_option maxHeartbeats 1600000 in
theorem difference_any (x y : ByteArray) (w : World) (hxy : x.size = y.size) (hs : x.size ≤ 140737488351232) (hx : AllDig x) (hy : AllDig y) (hle : valB y ≤ valB x) :
    Calls Tryd.prog 23 #[.string x, .string y] w fun e w' => ∃ s, e = .returned (.string s) ∧ s.size = x.size ∧ AllDig s ∧ valB s = valB x - valB y ∧ Below w.heap.size w w' := by
  have hmk := make_row x.size hs
  have HX := hide hx
  have HY := hide hy
  have HXY := hide hxy
  have HLE := hide hle
  clear hx hy hxy hle
  go_enter Tryd.func23, Tryd.ntmps23
  go_wp2
  clear hmk
  go_loopw [6, 7] (fun c i wr => ∃ (k b : Nat) (l : List UInt8), k ≤ x.size ∧ i = .int .i64 ((k : Int) - 1) ∧ c = .int .u8 (b : Int) ∧ b ≤ 1 ∧ l.length = x.size - k ∧ (∀ c ∈ l, nu.dig c = true) ∧
      valM l + valM (y.data.toList.drop k) = valM (x.data.toList.drop k) + b * 10 ^ l.length ∧
      wr.heap[w.heap.size]? = some (.cells (row k l) 5 (0, 0)) ∧ Below w.heap.size w wr)
    (fun _ i _ => (intOf i + 1).toNat)
  case atStart =>
    refine ⟨x.size, 0, [], Nat.le_refl _, rfl, rfl, by omega, by simp, by simp, ?_, ?_, (Below.refl _ _).alloc (Nat.le_refl _) _⟩
    · rw [drop_end, unhide HXY, drop_end]; simp [valM_nil]
    · show (w.heap.push _)[w.heap.size]? = _
      rw [Array.getElem?_push_size]
  case round =>
    obtain ⟨k, b, l, hk, rfl, rfl, hb, hlen, hdl, hval, hrow, hbel⟩ := hrel
    cases k with
    | zero =>
      simp only [List.drop_zero] at hval
      have hlx : l.length = x.size := by omega
      have hb0 : b = 0 := by
        have h1 := valM_lt hdl
        have h2 := unhide HLE
        unfold valB at h2
        generalize (10 : Int) ^ l.length = t at *
        rcases Nat.lt_or_ge b 1 with h | h
        · omega
        · exfalso
          have : b = 1 := by omega
          subst this
          omega
      subst hb0
      have HS : Hid (valM l = valB x - valB y) := by
        show valM l = _
        unfold valB
        simp at hval
        omega
      have hcv := row_back (cap := x.size) hrow
      rw [hlx] at hcv
      have HD := hide hdl
      have HL := hide hlx
      clear hval hlen hdl hlx
      go_wp2
      go_ret
      refine ⟨⟨l.toArray⟩, rfl, ?_, ?_, ?_, hbel⟩
      · rw [← unhide HL]; exact List.size_toArray
      · exact unhide HD
      · exact unhide HS
    | succ j =>
      have hjx : j < x.size := by omega
      have hjy : j < y.size := by have := unhide HXY; omega
      obtain ⟨a1, a2⟩ := AllDig.at (unhide HX) j hjx
      obtain ⟨b1, b2⟩ := AllDig.at (unhide HY) j hjy
      rw [show ((j + 1 : Nat) : Int) - 1 = (j : Int) by omega]
      have a1' : (48 : Int) ≤ (x[j].toNat : Int) := by omega
      have a2' : (x[j].toNat : Int) ≤ 57 := by omega
      have b1' : (48 : Int) ≤ (y[j].toNat : Int) := by omega
      have b2' : (y[j].toNat : Int) ≤ 57 := by omega
      have hb1 : (b : Int) ≤ 1 := by omega
      have HV := hide hval
      have c0 : wr.cell? ⟨w.heap.size, j, none⟩ = some (.int .u8 0) := by rw [blk_cell hrow, row_zero _ _ _ (by omega)]
      have f0 := blk_free hrow j
      have HRow := hide hrow
      have HDL := hide hdl
      have HLen := hide hlen
      clear hval hrow hdl hlen a1 a2 b1 b2 hb
      go_wp2
      go_quiet (fail)
      go_wp2
      go_roundw
      case rel =>
        have hd9 : (10 + ((x[j].toNat : Int) - 48) - ((y[j].toNat : Int) - 48) - b) % 10 = (((10 + (x[j].toNat - 48) - (y[j].toNat - 48) - b) % 10 : Nat) : Int) := by omega
        have hb9 : 1 - (10 + ((x[j].toNat : Int) - 48) - ((y[j].toNat : Int) - 48) - b) / 10 = ((1 - (10 + (x[j].toNat - 48) - (y[j].toNat - 48) - b) / 10 : Nat) : Int) := by omega
        refine ⟨j, 1 - (10 + (x[j].toNat - 48) - (y[j].toNat - 48) - b) / 10, (48 + (10 + (x[j].toNat - 48) - (y[j].toNat - 48) - b) % 10).toUInt8 :: l, by omega, by go_num, ?_, by omega, ?_, ?_, ?_, ?_, ((hbel.trans ((Upd.drewN w.heap.size wr nq).below (Nat.le_refl _))).setCell (Nat.le_refl _) _)⟩
        · rw [← hb9]
        · have := unhide HLen
          simp only [List.length_cons]; omega
        · intro c hc
          rcases List.mem_cons.1 hc with h | h
          · rw [h]; exact dig_u8 _ (by omega)
          · exact unhide HDL c h
        · rw [drop_at x j hjx, drop_at y j hjy, valM_cons, valM_cons, valM_cons, fz_u8 _ (by omega)]
          have h1 := unhide HV
          have h2 : (y.data.toList.drop (j + 1)).length = l.length := by
            have := unhide HLen
            rw [List.length_drop, len_list, ← unhide HXY]; omega
          have h3 : (x.data.toList.drop (j + 1)).length = l.length := by
            have := unhide HLen
            rw [List.length_drop, len_list]; omega
          rw [h2, h3]
          have ea : (fz x[j] : Int) = ((x[j].toNat - 48 : Nat) : Int) := by unfold fz; omega
          have eb : (fz y[j] : Int) = ((y[j].toNat - 48 : Nat) : Int) := by unfold fz; omega
          rw [ea, eb]
          have hp : x[j].toNat - 48 ≤ 9 := by omega
          have hq : y[j].toNat - 48 ≤ 9 := by omega
          generalize x[j].toNat - 48 = p at *
          generalize y[j].toNat - 48 = q at *
          have hb2 : b ≤ 1 := by omega
          have hdm : (((10 + p - q - b) % 10 : Nat) : Int) + q + b = p + 10 * ((1 - (10 + p - q - b) / 10 : Nat) : Int) := by omega
          generalize (((10 + p - q - b) % 10 : Nat) : Int) = r at *
          generalize ((1 - (10 + p - q - b) / 10 : Nat) : Int) = d at *
          simp only [List.length_cons]
          grind
        · have hset := blk_set (w := wr.drewN nq) (unhide HRow) j (.int .u8 (48 + (10 + ((x[j].toNat : Int) - 48) - ((y[j].toNat : Int) - 48) - b) % 10))
          rw [row_set j l (48 + (10 + (x[j].toNat - 48) - (y[j].toNat - 48) - b) % 10).toUInt8 _ (by
            have hu := u8_of (48 + (10 + (x[j].toNat - 48) - (y[j].toNat - 48) - b) % 10) (by omega)
            unfold vb; rw [hu, hd9]; congr 1)] at hset
          exact hset
      case measure => simp [intOf]
end Go.Proofs.YteenfgomanhjkaaDoor.rd
