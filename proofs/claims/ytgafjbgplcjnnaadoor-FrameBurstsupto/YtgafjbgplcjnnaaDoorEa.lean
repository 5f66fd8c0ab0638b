/- The landed package frame: the table. -/
import Derived.Test.YtgafjbgplcjnnaaDoorGk
import Derived.Deep.MidRow
import Derived.Deep.WholeRow
import Derived.Laws.ResultCell
namespace Go.Proofs.YtgafjbgplcjnnaaDoor.fr
open Go.RowKit

theorem shl_one (x : BitVec 32) : (x.toNat : Int) * (2 : Int) % (4294967296 : Int) = ((x <<< 1).toNat : Int) := by
  rw [BitVec.toNat_shiftLeft, Nat.shiftLeft_eq]; omega
theorem xor_two (x y : BitVec 32) : Go.bits .xor .u32 (x.toNat : Int) (y.toNat : Int) = ((x ^^^ y).toNat : Int) := by
  show IntKind.u32.wrap ((BitVec.ofInt 32 (x.toNat : Int) ^^^ BitVec.ofInt 32 (y.toNat : Int)).toNat : Int) = _
  rw [ofInt32, ofInt32]
  have := (x ^^^ y).isLt
  exact IntWalk.u32_in _ ⟨by omega, by omega⟩
theorem its_last : ∀ (n : Nat) (x : BitVec 32), its (n + 1) x = t0 (its n x)
  | 0, _ => rfl
  | n + 1, x => by rw [its, its_last n (t0 x)]; rfl

set_option maxRecDepth 100000 in
set_option maxHeartbeats 1600000 in
theorem step_any (x : BitVec 32) (w : World) :
    Calls Tryd.prog 31 #[.int .u32 (x.toNat : Int)] w fun e w' => e = .returned (.int .u32 ((t0 x).toNat : Int)) ∧ w' = w := by
  have hx := x.isLt
  have HT := hide (show t0 x = (x <<< 1) ^^^ (if x.msb then pol else 0#32) from rfl)
  generalize t0 x = r at *
  by_cases q : 2147483648 ≤ x.toNat
  · have q' : (x.toNat : Int) / 2147483648 = 1 := by omega
    have HR := hide (show r = (x <<< 1) ^^^ pol by rw [unhide HT, if_pos (by rw [msb_iff]; exact decide_eq_true q)])
    clear HT
    go_enter Tryd.func31, Tryd.ntmps31
    go_wp2
    go_ret
    refine ⟨?_, rfl⟩
    show Ending.returned (.int .u32 (Go.bits .xor .u32 ((x.toNat : Int) * 2 % 4294967296) 79764919)) = _
    rw [shl_one, xor_pol, unhide HR]
  · have q' : (x.toNat : Int) / 2147483648 = 0 := by omega
    have HR := hide (show r = x <<< 1 by rw [unhide HT, if_neg (by rw [msb_iff]; exact fun e => q (of_decide_eq_true e)), BitVec.xor_zero])
    clear HT
    go_enter Tryd.func31, Tryd.ntmps31
    go_wp2
    go_ret
    refine ⟨?_, rfl⟩
    show Ending.returned (.int .u32 ((x.toNat : Int) * 2)) = _
    rw [unhide HR, ← shl_one]
    congr 2
    omega

/-- The table's number at a place. -/
def tv (i : Nat) : Value := .int .u32 ((tab (BitVec.ofNat 32 i)).toNat : Int)
/-- The table as far as it is made. -/
def tcs (k : Nat) : List Value := (List.range k).map tv ++ List.replicate (256 - k) (.int .u32 0)
theorem tcs_length (k : Nat) (h : k ≤ 256) : (tcs k).length = 256 := by simp [tcs]; omega
theorem tcs_zero : tcs 0 = List.replicate 256 (.int .u32 0) := rfl
theorem tcs_set (k : Nat) (h : k < 256) : (tcs k).set k (tv k) = tcs (k + 1) := by
  unfold tcs
  rw [List.set_append_right _ _ (by simp), List.range_succ, List.map_append, List.append_assoc]
  congr 1
  simp only [List.length_map, List.length_range, Nat.sub_self]
  rw [show 256 - k = (256 - (k + 1)) + 1 by omega, List.replicate_succ]
  simp
theorem tcs_one (k : Nat) : ∀ v ∈ tcs k, v.oneCell' = true := by
  intro v hv
  unfold tcs at hv
  rcases List.mem_append.mp hv with hv | hv
  · obtain ⟨i, _, rfl⟩ := List.mem_map.mp hv
    rfl
  · rw [List.eq_of_mem_replicate hv]; rfl
theorem tcs_at (i : Nat) (h : i < 256) : (tcs 256)[i]? = some (tv i) := by
  unfold tcs
  rw [List.getElem?_append_left (by simpa using h), List.getElem?_map, List.getElem?_range h]
  rfl
theorem infoT : (Tryd.prog.info? 50).map (fun i => (i.zero, i.size)) = some (some (.agg (tcs 0).toArray), 256) := by kernel_rfl
theorem sizeT : (Tryd.prog.info? 50).map (·.size) = some 256 := (zero_of_info infoT).2
theorem upd_setCells (b : Nat) : ∀ (vs : List Value) (o : Nat) (w : World), Upd b w (w.setCells b o vs)
  | [], _, w => Upd.refl b w
  | v :: r, o, w => (Upd.setCell b o w v).trans (upd_setCells b r (o + 1) _)
theorem there_blk {w : World} {b : Nat} {cs : Array Value} {t : TypeId} (h : w.heap[b]? = some (.cells cs t (0, 0))) (o n : Nat) (hn : o + n ≤ cs.size) : w.there b o n := fun j hj =>
  ⟨by rw [blk_cell h, Array.getElem?_eq_getElem (by omega)]; rfl, blk_free h _⟩
theorem range_blk {w : World} {b : Nat} {l : List Value} {t : TypeId} {f : Nat × Nat} (h : w.heap[b]? = some (.cells l.toArray t f)) : w.rangeAt b 0 l := fun j v hv => by
  rw [Nat.zero_add, blk_cell h]; simpa using hv
theorem results_one {fn : Func} {p : Tmp} {ty : TypeId} (h : fn.results = #[.cell p ty]) (tmps : Array Value) (P : Program) (w : World) :
    (results fn tmps).run P w = ((asAddr (tmps.getD p undef)).run P w).andThen fun a w₁ => ((loadVar ty a).run P w₁) := by
  simp only [results, h]
  simp [Sem.run_bind, Result.andThen]

set_option maxRecDepth 100000 in
set_option maxHeartbeats 3200000 in
theorem table_any (w : World) :
    Calls Tryd.prog 25 #[] w fun e w' => e = .returned (.agg (tcs 256).toArray) ∧ Below w.heap.size w w' := by
  have hz := (zero_of_info (P := Tryd.prog) infoT).1
  obtain ⟨L, hL⟩ : ∃ L, tcs 256 = L := ⟨_, rfl⟩
  have hlen : L.length = 256 := by rw [← hL]; exact tcs_length 256 (by omega)
  have H1 : Hid (L.toArray.all (·.oneCell') = true) := all_oneCell_toArray (by rw [← hL]; exact tcs_one 256)
  rw [hL]
  have HE := hide hL
  have HN := hide hlen
  clear hL hlen
  go_enter Tryd.func25, Tryd.ntmps25
  go_wp2_with fail
  go_loopw [4] (fun iv wr => ∃ k : Nat, k ≤ 256 ∧ iv = .int .i64 (k : Int) ∧ Hid (wr.heap[w.heap.size]? = some (.cells (tcs 0).toArray 50 (0, 0)) ∧ wr.heap[w.heap.size + 1]? = some (.cells (tcs k).toArray 50 (0, 0)) ∧ Below w.heap.size w wr)) (fun iv _ => 256 - (intOf iv).toNat)
  case atStart =>
    refine ⟨0, by omega, rfl, ?_, ?_, ?_⟩
    · rw [Below.heap_alloc _ _ _ (by simp)]; exact heap_alloc_new w _
    · have := heap_alloc_new (w.alloc (.cells (tcs 0).toArray 50)) (.cells (tcs 0).toArray 50)
      rwa [World.size_alloc] at this
    · exact ((Below.refl w.heap.size w).alloc (Nat.le_refl _) _).alloc (by simp) _
  case round =>
    obtain ⟨k, hk, rfl, HI⟩ := hrel
    by_cases hc : k < 256
    · have e1 : (k : Int) < 256 := by omega
      have e2 : (k : Int) % 4294967296 = k := by omega
      have e3 : (k : Int) * 16777216 % 4294967296 = (k : Int) * 16777216 := by omega
      have HX := hide (show (BitVec.ofNat 32 k <<< 24).toNat = k * 16777216 by rw [BitVec.toNat_shiftLeft, Nat.shiftLeft_eq, BitVec.toNat_ofNat]; omega)
      have CS := hide step_any
      clear hz
      go_wp2_with fail
      go_loopw [3, 10] (fun xv jv wx => ∃ (j : Nat) (x : BitVec 32), j ≤ 8 ∧ jv = .int .i64 (j : Int) ∧ xv = .int .u32 (x.toNat : Int) ∧ Hid (x = its j (BitVec.ofNat 32 k <<< 24)) ∧ wx = wr) (fun _ jv _ => 8 - (intOf jv).toNat)
      case atStart => exact ⟨0, BitVec.ofNat 32 k <<< 24, by omega, rfl, by rw [unhide HX]; go_num, rfl, rfl⟩
      case round =>
        obtain ⟨j, x, hj, rfl, rfl, hx, rfl⟩ := hrel
        by_cases hj8 : j < 8
        · have C1 := hide (unhide CS x wr)
          have e4 : (j : Int) < 8 := by omega
          go_wp2_with fail
          refine (unhide C1).mono ?_
          rintro e w1 ⟨rfl, rfl⟩
          go_wp2
          refine ⟨⟨j + 1, t0 x, by omega, by go_num, rfl, ?_, trivial⟩, by simp [intOf]; omega⟩
          show _ = _
          rw [its_last, ← unhide hx]
        · obtain rfl : j = 8 := by omega
          have HX2 := hide (show Value.int .u32 (x.toNat : Int) = tv k by rw [unhide hx]; rfl)
          obtain ⟨h1, h2, h3⟩ := unhide HI
          have c1 : wr.cell? ⟨w.heap.size + 1, k, none⟩ = (tcs k).toArray[k]? := blk_cell h2 k
          rw [List.getElem?_toArray, List.getElem?_eq_getElem (by rw [tcs_length k hk]; exact hc)] at c1
          have c2 : wr.frozen? ⟨w.heap.size + 1, k, none⟩ = false := blk_free h2 k
          clear h1 h2 h3 CS
          generalize (tcs k)[k]'(by rw [tcs_length k hk]; exact hc) = old at c1
          go_wp2
          refine ⟨⟨k + 1, by omega, by go_num, ?_⟩, by simp [intOf]; omega⟩
          obtain ⟨h1, h2, h3⟩ := unhide HI
          rw [unhide HX2]
          have hu := Upd.setCell (w.heap.size + 1) k wr (tv k)
          refine ⟨(hu.block _ (by omega)).trans h1, ?_, h3.trans (hu.below (by omega))⟩
          rw [blk_set h2 k (tv k), List.setIfInBounds_toArray, tcs_set k hc]
    · obtain rfl : k = 256 := by omega
      clear hz
      have hlen := unhide HN
      obtain ⟨h1, h2, h3⟩ := unhide HI
      rw [unhide HE] at h2
      have HL := hide (range_blk h2)
      have HT : Hid (wr.there w.heap.size 0 L.toArray.size) := there_blk h1 0 _ (by rw [List.size_toArray, List.size_toArray, tcs_length 0 (by omega), hlen]; omega)
      have HZ : Hid ((Tryd.prog.info? 50).map (·.size) = some L.toArray.size) := by
        show _ = _
        rw [List.size_toArray, hlen]; exact sizeT
      have HR := hide (World.rangeAt_setCells_same wr w.heap.size 0 L.toArray.toList (by simpa using unhide HT))
      have HB := hide (h3.trans ((upd_setCells w.heap.size L.toArray.toList 0 wr).below (Nat.le_refl _)))
      clear HI h1 h2 h3 HE hlen
      go_upto_region 12 with fail
      as_aux_lemma =>
        refine wp_region_lit ?_
        refine wpList_load_mid rfl 50 _ rfl (w.heap.size + 1) 0 rfl L _ (unhide HL) Tryd.underlying50 rfl (by rw [unhide HN]; exact sizeT) ?_
        refine wpList_store_mid rfl 50 _ _ rfl w.heap.size 0 L.toArray rfl rfl (unhide HT) (unhide HZ) (unhide H1) ?_
        have hld := hide (run_loadVar_mid (P := Tryd.prog) (wr.setCells w.heap.size 0 L.toArray.toList) w.heap.size 0 50 L.toArray.toList _ (unhide HR) Tryd.underlying50 rfl (by rw [List.toList_toArray, unhide HN]; exact sizeT))
        generalize wr.setCells w.heap.size 0 L.toArray.toList = wz at *
        clear HL HT HZ HR H1
        go_wp2
        refine bodyPost_ret (v := .agg L.toArray) ?_ rfl ⟨rfl, unhide HB⟩
        rw [results_one rfl]
        exact unhide hld

end Go.Proofs.YtgafjbgplcjnnaaDoor.fr
