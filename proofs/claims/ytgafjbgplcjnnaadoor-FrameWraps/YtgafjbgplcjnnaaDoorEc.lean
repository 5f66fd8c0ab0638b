/- The landed package frame: Sum; a number written. -/
import Derived.Test.YtgafjbgplcjnnaaDoorEb
namespace Go.Proofs.YtgafjbgplcjnnaaDoor.fr
open Go.RowKit

/-- Bytes that fill a block. -/
def PB (w : World) (g : Nat) (L : List UInt8) : Prop := w.heap[g]? = some (.cells (L.map vb).toArray 5 (0, 0))
theorem PB.keep {w w' : World} {g B : Nat} {L : List UInt8} (h : PB w g L) (hb : Below B w w') (hB : g < B) : PB w' g L := (hb.block g hB).trans h
/-- Four bytes set one by one. -/
def pt (L : List UInt8) (o : Nat) (x : BitVec 32) : Nat → List UInt8
  | 0 => L
  | k + 1 => (pt L o x k).set (o + k) ((four x).getD k 0)
theorem pt_length (L : List UInt8) (o : Nat) (x : BitVec 32) : ∀ k, (pt L o x k).length = L.length
  | 0 => rfl
  | k + 1 => by rw [pt, List.length_set, pt_length L o x k]
theorem pt_four (A B C : List UInt8) (x : BitVec 32) (hB : B.length = 4) : pt (A ++ (B ++ C)) A.length x 4 = A ++ (four x ++ C) := by
  match B, hB with
  | [a, b, c, d], _ =>
    simp only [pt, Nat.add_zero]
    rw [List.set_append_right _ _ (by omega), List.set_append_right _ _ (by omega), List.set_append_right _ _ (by omega), List.set_append_right _ _ (by omega)]
    congr 1
    simp only [Nat.sub_self, Nat.add_sub_cancel_left]
    rfl
theorem byte_at (x : BitVec 32) (k : Nat) (h : k < 4) : vb ((four x).getD k 0) = .int .u8 ((x.toNat / 2 ^ (8 * (3 - k)) % 256 : Nat) : Int) := by
  have : k = 0 ∨ k = 1 ∨ k = 2 ∨ k = 3 := by omega
  rcases this with rfl | rfl | rfl | rfl <;> (unfold vb four; simp only [List.getD_cons_zero, List.getD_cons_succ, ext_nat])
theorem addo (g o k : Nat) : (⟨g, o, none⟩ : Addr).add k = ⟨g, o + k, none⟩ := by unfold Addr.add; split <;> simp_all

set_option maxRecDepth 100000 in
set_option maxHeartbeats 3200000 in
theorem put_any (g o n c : Nat) (x : BitVec 32) (L : List UInt8) (w : World) (h : PB w g L) (ho : o + 4 ≤ L.length) (hn : 4 ≤ n) :
    Calls Tryd.prog 27 #[.slice (some ⟨g, o, none⟩) n c, .int .u32 (x.toNat : Int)] w fun e w' => e = .returned (.tuple #[]) ∧ PB w' g (pt L o x 4) ∧ Upd g w w' := by
  have H := hide h
  have hx := x.isLt
  have hn2 : (4 : Int) ≤ (n : Int) := by omega
  have HB := hide (byte_at x)
  clear h
  go_enter Tryd.func27, Tryd.ntmps27
  go_wp2
  go_loopw [5] (fun iv wr => ∃ k : Nat, k ≤ 4 ∧ iv = .int .i64 (k : Int) ∧ Hid (PB wr g (pt L o x k)) ∧ Hid (Upd g w wr)) (fun iv _ => 4 - (intOf iv).toNat)
  case atStart => exact ⟨0, by omega, rfl, unhide H, Upd.refl _ _⟩
  case round =>
    obtain ⟨k, hk, rfl, HP, HU⟩ := hrel
    by_cases hc : k < 4
    · have hlt : o + k < ((pt L o x k).map vb).toArray.size := by rw [List.size_toArray, List.length_map, pt_length]; omega
      have c1 : wr.cell? ⟨g, o + k, none⟩ = some _ := (blk_cell (unhide HP) (o + k)).trans (Array.getElem?_eq_getElem hlt)
      have c2 : wr.frozen? ⟨g, o + k, none⟩ = false := blk_free (unhide HP) (o + k)
      have HV := hide (unhide HB k hc)
      generalize ((pt L o x k).map vb).toArray[o + k] = old at c1
      have HS : Hid (∀ v, v = vb ((four x).getD k 0) → PB (wr.setCell ⟨g, o + k, none⟩ v) g (pt L o x (k + 1)) ∧ Upd g w (wr.setCell ⟨g, o + k, none⟩ v)) := by
        rintro v rfl
        refine ⟨?_, (unhide HU).trans (Upd.setCell g (o + k) wr _)⟩
        have := blk_set (unhide HP) (o + k) (vb ((four x).getD k 0))
        rw [List.setIfInBounds_toArray, ← List.map_set] at this
        exact this
      have e1 : (k : Int) < 4 := by omega
      have e2 : (k : Int) < (n : Int) := by omega
      clear HP HU H HB
      have k4 : k = 0 ∨ k = 1 ∨ k = 2 ∨ k = 3 := by omega
      rcases k4 with rfl | rfl | rfl | rfl
      · rw [Nat.add_zero] at c1 c2
        go_wp2
        have := unhide HS _ ((show Value.int .u8 ((x.toNat : Int) / 16777216) = Value.int .u8 ((x.toNat / 2 ^ (8 * (3 - 0)) % 256 : Nat) : Int) by first | (congr 1; omega) | congr 1).trans (unhide HV).symm)
        exact ⟨⟨1, by omega, rfl, this.1, this.2⟩, by simp [intOf]⟩
      · go_wp2
        have := unhide HS _ ((show Value.int .u8 ((x.toNat : Int) / 65536 % 256) = Value.int .u8 ((x.toNat / 2 ^ (8 * (3 - 1)) % 256 : Nat) : Int) by first | (congr 1; omega) | congr 1).trans (unhide HV).symm)
        exact ⟨⟨2, by omega, rfl, this.1, this.2⟩, by simp [intOf]⟩
      · go_wp2
        have := unhide HS _ ((show Value.int .u8 ((x.toNat : Int) / 256 % 256) = Value.int .u8 ((x.toNat / 2 ^ (8 * (3 - 2)) % 256 : Nat) : Int) by first | (congr 1; omega) | congr 1).trans (unhide HV).symm)
        exact ⟨⟨3, by omega, rfl, this.1, this.2⟩, by simp [intOf]⟩
      · go_wp2
        have := unhide HS _ ((show Value.int .u8 ((x.toNat : Int) % 256) = Value.int .u8 ((x.toNat / 2 ^ (8 * (3 - 3)) % 256 : Nat) : Int) by first | (congr 1; omega) | congr 1).trans (unhide HV).symm)
        exact ⟨⟨4, by omega, rfl, this.1, this.2⟩, by simp [intOf]⟩
    · obtain rfl : k = 4 := by omega
      clear H HB
      go_wp2
      refine bodyPost_end (results_none rfl _ _ _) rfl ?_
      exact ⟨rfl, unhide HP, unhide HU⟩

theorem tb_blk {w : World} {b : Nat} (h : w.rangeAt b 0 (tcs 256)) : TB w b := fun i hi => by
  have := h i _ (tcs_at i hi)
  rwa [Nat.zero_add] at this

/-- A table of the call's own: what a function has once it has made one. -/
theorem made_table (w1 : World) : ∃ w2 : World, (w1.alloc (.cells (tcs 0).toArray 50)).setCells w1.heap.size 0 (tcs 256) = w2 ∧ TB w2 w1.heap.size ∧ Below w1.heap.size w1 w2 ∧ w2.heap.size = w1.heap.size + 1 := by
  have ht : (w1.alloc (.cells (tcs 0).toArray 50)).there w1.heap.size 0 (tcs 256).length := there_blk (heap_alloc_new w1 _) 0 _ (by rw [List.size_toArray, tcs_length 0 (by omega), tcs_length 256 (by omega)]; omega)
  have hu := upd_setCells w1.heap.size (tcs 256) 0 (w1.alloc (.cells (tcs 0).toArray 50))
  exact ⟨_, rfl, tb_blk (World.rangeAt_setCells_same _ _ _ _ ht), ((Below.refl w1.heap.size w1).alloc (Nat.le_refl _) _).trans (hu.below (Nat.le_refl _)), by rw [hu.size, World.size_alloc]⟩
theorem made_there (w1 : World) : (w1.alloc (.cells (tcs 0).toArray 50)).there w1.heap.size 0 (tcs 256).toArray.size :=
  there_blk (heap_alloc_new w1 _) 0 _ (by rw [List.size_toArray, List.size_toArray, tcs_length 0 (by omega), tcs_length 256 (by omega)]; omega)
theorem made_size : (Tryd.prog.info? 50).map (·.size) = some (tcs 256).toArray.size := by
  rw [List.size_toArray, tcs_length 256 (by omega)]; exact sizeT

/-- All that a walk wants of a table, its cells under names. -/
theorem made : ∃ L Z : List Value, (∀ w, (zeroValue 50).run Tryd.prog w = .ok (.agg Z.toArray) w) ∧ (∀ w, Calls Tryd.prog 25 #[] w fun e w' => e = .returned (.agg L.toArray) ∧ Below w.heap.size w w') ∧
    (∀ w1 : World, (w1.alloc (.cells Z.toArray 50)).there w1.heap.size 0 L.toArray.size) ∧ (Tryd.prog.info? 50).map (·.size) = some L.toArray.size ∧ L.toArray.all (·.oneCell') = true ∧
    ∀ w1 : World, ∃ w2 : World, (w1.alloc (.cells Z.toArray 50)).setCells w1.heap.size 0 L.toArray.toList = w2 ∧ TB w2 w1.heap.size ∧ Below w1.heap.size w1 w2 ∧ w2.heap.size = w1.heap.size + 1 :=
  ⟨tcs 256, tcs 0, (zero_of_info infoT).1, table_any, made_there, made_size, all_oneCell_toArray (tcs_one 256), made_table⟩

set_option maxRecDepth 100000 in
set_option maxHeartbeats 3200000 in
theorem sum_any (l : List UInt8) (v : Value) (w : World) (h : BS w v l) :
    Calls Tryd.prog 10 #[v] w fun e w' => e = .returned (.int .u32 ((crc l).toNat : Int)) ∧ Below w.heap.size w w' := by
  obtain ⟨L, Z, hz, c1, mt, ms, ma, mm⟩ := made
  have C1 := hide (c1 w)
  have HB := hide h
  have MT := hide mt
  have MS := hide ms
  have MA := hide ma
  have MM := hide mm
  clear h c1 mt ms ma mm
  go_enter Tryd.func10, Tryd.ntmps10
  go_wp2_with fail
  refine (unhide C1).mono ?_
  rintro e w1 ⟨rfl, b1⟩
  have B1 := hide b1
  clear b1 C1
  go_wp2_with (refine wpList_store_mid rfl 50 _ _ rfl w1.heap.size 0 L.toArray rfl rfl (unhide MT w1) (unhide MS) (unhide MA) ?_)
  obtain ⟨w2, e2, t2, b2, z2⟩ := unhide MM w1
  rw [e2]
  have B2 := hide ((unhide B1).trans (b2.mono (unhide B1).size))
  clear MT MS MA MM hz e2 b2
  refine (tsum_any w1.heap.size l v w2 t2 ((unhide HB).keep (unhide B2))).mono ?_
  rintro e w3 ⟨rfl, rfl⟩
  clear t2
  go_wp2
  go_ret
  exact ⟨rfl, unhide B2⟩

end Go.Proofs.YtgafjbgplcjnnaaDoor.fr
