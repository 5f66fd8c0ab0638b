/- The landed package retry: Charge. -/
import Derived.Test.YtmnikcnjdeldeaaDoorXw
import Derived.Laws.CopyOwn
import Derived.Laws.OwnMore
import Derived.Deep.OwnRows
namespace Go.Proofs.YtmnikcnjdeldeaaDoor.rt
open Go.RowKit Go.Joins mm

theorem chg_stay (ch : List Int) (p : Int) (h : p < 0 ∨ (65535 < p ∧ (ch.length : Int) ≤ p)) : chg ch p = ch := if_pos h
theorem chg_here (ch : List Int) (k : Nat) (n : Int) (hk : ch[k]? = some n) : chg ch (k : Int) = ch.set k (up1 n) := by
  obtain ⟨hlt, _⟩ := List.getElem?_eq_some_iff.mp hk
  unfold chg
  rw [if_neg (by omega), Int.toNat_natCast, show k + 1 - ch.length = 0 by omega]
  simp [hk]
theorem chg_aft (ch : List Int) (k : Nat) (h : ch.length ≤ k) (h2 : k ≤ 65535) : chg ch (k : Int) = (ch ++ List.replicate (k + 1 - ch.length) 0).set k 1 := by
  unfold chg
  rw [if_neg (by omega), Int.toNat_natCast]
  have e : (ch ++ List.replicate (k + 1 - ch.length) (0 : Int))[k]? = some 0 := by
    rw [List.getElem?_append_right h, List.getElem?_replicate, if_pos (by omega)]
  simp only [e, Option.getD_some]
  rfl
theorem up1_min (n : Int) (h : n ≤ 9223372036854775807) : up1 n = min (if n < 0 then 0 else n) 9223372036854775806 + 1 := by
  unfold up1
  split
  · rw [Int.min_eq_left (by omega)]; rfl
  · split <;> omega
theorem infoI1 : (Tryd.prog.info? 3).map (·.size) = some 1 := by kernel_rfl
theorem copied {w : World} {B g N : Nat} {ch : List Int} (h : w.heap[g]? = some (.cells (splice (madeCells #[Value.int .i64 0] N).toList 0 (ch.map (Value.int .i64 ·))).toArray 3 (0, 0))) (hN : ch.length ≤ N) (hm : N ≤ maxLen) (hB : B ≤ g) :
    OI w B (.slice (some ⟨g, 0, none⟩) N N) (ch ++ List.replicate (N - ch.length) 0) := by
  have e : splice (madeCells #[Value.int .i64 0] N).toList 0 (ch.map (Value.int .i64 ·)) = (ch ++ List.replicate (N - ch.length) 0).map (Value.int .i64 ·) := by
    rw [toList_madeCells_one]
    unfold splice
    simp
  rw [e] at h
  have hl : (ch ++ List.replicate (N - ch.length) (0 : Int)).length = N := by simp; omega
  unfold OI
  rw [hl]
  refine ⟨by rw [List.length_map, hl]; omega, Or.inr ⟨g, N, _, rfl, hB, h, Nat.le_refl _, hm, ?_, ?_⟩⟩
  · rw [List.size_toArray, List.length_map, hl]; omega
  · exact List.take_of_length_le (by rw [List.length_map, hl]; omega)
theorem len_copied (ch : List Int) (k : Nat) (x : Int) (N : Nat) (h : ch.length ≤ N) : ((ch ++ List.replicate (N - ch.length) 0).set k x).length = N := by simp; omega

theorem tms_bd (ch : List Int) (k : Nat) (ho : ∀ n ∈ ch, Oki n) : 0 ≤ tms ch k ∧ tms ch k ≤ 9223372036854775807 := by
  unfold tms
  cases hk : ch[k]? with
  | none => exact ⟨by decide, by decide⟩
  | some n =>
    have := ho n (List.mem_of_getElem? hk)
    unfold Oki at this
    simp only
    split <;> omega
theorem oi_cell {w : World} {B g N : Nat} {l : List Int} (h : OI w B (.slice (some ⟨g, 0, none⟩) N N) l) (k : Nat) (hk : k < l.length) : ∃ x, w.cell? ⟨g, k, none⟩ = some x := by
  obtain ⟨a, c', e, _, _, hc⟩ := IS.at h.is (by omega)
  simp only [Value.slice.injEq, Option.some.injEq] at e
  obtain ⟨rfl, _, _⟩ := e
  have := hc k _ (List.getElem?_eq_getElem hk)
  rw [add0] at this
  exact ⟨_, this⟩
/-- The row behind the store. -/
theorem oi_set {w : World} {B g N : Nat} {ch : List Int} (k : Nat) (x : Int) (h : w.ownsRow B 3 1 (.slice (some ⟨g, 0, none⟩) N N) (ch ++ List.replicate (N - ch.length) 0).length (((ch ++ List.replicate (N - ch.length) 0).map (Value.int .i64 ·)).set k (.int .i64 x))) :
    OI w B (.slice (some ⟨g, 0, none⟩) N N) ((ch ++ List.replicate (N - ch.length) 0).set k x) := by
  unfold OI
  rw [List.length_set, List.map_set]
  exact h

set_option maxRecDepth 100000 in
set_option maxHeartbeats 3200000 in
theorem charge_low (ch : List Int) (p : Int) (hp : p < 0) (v : Value) (w : World) (h : IS w v ch) (hl : ch.length ≤ 1000000000000) :
    Calls Tryd.prog 13 #[v, .int .i64 p] w fun e w' => ∃ v, e = .returned v ∧ OI w' w.heap.size v ch ∧ Below w.heap.size w w' := by
  have H := hide h
  obtain ⟨oa, c, rfl, h1, h2⟩ := SV.form h
  clear h
  have hmk := run_make_row' (P := Tryd.prog) 27 3 (.int .i64 0) 8 undI infoInt rfl .i64 .i64 (ch.length) (by omega) (by omega)
  have HG : Hid ((w.alloc (.cells (madeCells #[Value.int .i64 0] (ch.length)) 3)).heap[w.heap.size]? = some (.cells (madeCells #[Value.int .i64 0] (ch.length)).toList.toArray 3 (0, 0))) := heap_alloc_new w _
  have HB := hide ((Below.refl w.heap.size w).alloc (Nat.le_refl _) (.cells (madeCells #[Value.int .i64 0] (ch.length)) 3))
  have HI := hide ((unhide H).keep (unhide HB))
  have hz : (madeCells #[Value.int .i64 0] (ch.length)).toList.length = ch.length := by rw [Array.length_toList, size_madeCells]
  have HZ := hide hz
  obtain ⟨Z, hZ⟩ : ∃ Z, Z = (madeCells #[Value.int .i64 0] (ch.length)).toList := ⟨_, rfl⟩
  obtain ⟨cs, hcs⟩ : ∃ cs, cs = ch.map (Value.int .i64 ·) := ⟨_, rfl⟩
  have hcl : cs.length = ch.length := by rw [hcs, List.length_map]
  have h1c : Hid (∀ v ∈ cs, v.oneCell' = true) := fun v hv => by
    rw [hcs] at hv
    obtain ⟨x, _, rfl⟩ := List.mem_map.mp hv
    rfl
  have hsrc : Hid (0 < cs.length → ∃ ad, oa = some ad ∧ ∀ (j : Nat) v, cs[j]? = some v → (w.alloc (.cells (madeCells #[Value.int .i64 0] (ch.length)) 3)).cell? (ad.add j) = some v) := fun hp => by
    obtain ⟨a, c', e, _, _, hc⟩ := IS.at (unhide HI) (by omega)
    cases e
    refine ⟨a, rfl, fun j v hv => ?_⟩
    rw [hcs, List.getElem?_map] at hv
    obtain ⟨x, hx, rfl⟩ := Option.map_eq_some_iff.mp hv
    exact hc j x hx
  rw [← hZ] at HG HZ
  have HZ2 := hide hZ
  have hA1 : Hid (cs.length = Nat.min ch.length (ch.length)) := by
    show cs.length = _
    rw [hcl]; simp only [Nat.min_def]; split <;> omega
  have hA2 : Hid (0 < cs.length → (some ⟨w.heap.size, 0, none⟩ : Option Addr) = some ⟨w.heap.size, 0, none⟩ ∧ ∃ ad, oa = some ad ∧ ∀ (j : Nat) v, cs[j]? = some v → (w.alloc (.cells (madeCells #[Value.int .i64 0] (ch.length)) 3)).cell? (ad.add j) = some v) := fun hp => ⟨rfl, unhide hsrc hp⟩
  have hA3 : Hid (0 + cs.length ≤ Z.length) := by
    show 0 + cs.length ≤ Z.length
    rw [unhide HZ]; omega
  have HCS := hide hcs
  clear hz hZ hcs HI
  go_enter Tryd.func13, Tryd.ntmps13
  go_upto_region 5 with fail
  go_wp2_with (refine wpList_copy_splice (P := Tryd.prog) rfl _ _ 27 27 rfl 3 undI infoI1 _ _ _ _ _ _ rfl rfl w.heap.size 0 Z 3 (unhide HG) cs (unhide hA1) (unhide hA2) (unhide hA3) (unhide h1c) w.heap.size w (unhide HB) (Nat.le_refl _) ?_)
  intro w2 HG2 hB2
  have HB2 := hide hB2
  have OI2 : Hid (OI w2 w.heap.size (.slice (some ⟨w.heap.size, 0, none⟩) (ch.length) (ch.length)) (ch ++ List.replicate ((ch.length) - ch.length) 0)) := copied (by rw [← unhide HZ2, ← unhide HCS]; exact unhide HG2) (by omega) (by unfold maxLen; omega) (Nat.le_refl _)
  clear HG2 hB2 HG HB hmk HZ HZ2 HCS hsrc h1c hcl hA1 hA2 hA3
  go_wp2
  go_ret
  refine ⟨_, rfl, ?_, unhide HB2⟩
  have := unhide OI2
  rwa [Nat.sub_self, List.replicate_zero, List.append_nil] at this

set_option maxRecDepth 100000 in
set_option maxHeartbeats 3200000 in
theorem charge_high (ch : List Int) (p : Int) (hp : 65535 < p) (hp2 : (ch.length : Int) ≤ p) (v : Value) (w : World) (h : IS w v ch) (hl : ch.length ≤ 1000000000000) :
    Calls Tryd.prog 13 #[v, .int .i64 p] w fun e w' => ∃ v, e = .returned v ∧ OI w' w.heap.size v ch ∧ Below w.heap.size w w' := by
  have H := hide h
  obtain ⟨oa, c, rfl, h1, h2⟩ := SV.form h
  clear h
  have hmk := run_make_row' (P := Tryd.prog) 27 3 (.int .i64 0) 8 undI infoInt rfl .i64 .i64 (ch.length) (by omega) (by omega)
  have HG : Hid ((w.alloc (.cells (madeCells #[Value.int .i64 0] (ch.length)) 3)).heap[w.heap.size]? = some (.cells (madeCells #[Value.int .i64 0] (ch.length)).toList.toArray 3 (0, 0))) := heap_alloc_new w _
  have HB := hide ((Below.refl w.heap.size w).alloc (Nat.le_refl _) (.cells (madeCells #[Value.int .i64 0] (ch.length)) 3))
  have HI := hide ((unhide H).keep (unhide HB))
  have hz : (madeCells #[Value.int .i64 0] (ch.length)).toList.length = ch.length := by rw [Array.length_toList, size_madeCells]
  have HZ := hide hz
  obtain ⟨Z, hZ⟩ : ∃ Z, Z = (madeCells #[Value.int .i64 0] (ch.length)).toList := ⟨_, rfl⟩
  obtain ⟨cs, hcs⟩ : ∃ cs, cs = ch.map (Value.int .i64 ·) := ⟨_, rfl⟩
  have hcl : cs.length = ch.length := by rw [hcs, List.length_map]
  have h1c : Hid (∀ v ∈ cs, v.oneCell' = true) := fun v hv => by
    rw [hcs] at hv
    obtain ⟨x, _, rfl⟩ := List.mem_map.mp hv
    rfl
  have hsrc : Hid (0 < cs.length → ∃ ad, oa = some ad ∧ ∀ (j : Nat) v, cs[j]? = some v → (w.alloc (.cells (madeCells #[Value.int .i64 0] (ch.length)) 3)).cell? (ad.add j) = some v) := fun hp => by
    obtain ⟨a, c', e, _, _, hc⟩ := IS.at (unhide HI) (by omega)
    cases e
    refine ⟨a, rfl, fun j v hv => ?_⟩
    rw [hcs, List.getElem?_map] at hv
    obtain ⟨x, hx, rfl⟩ := Option.map_eq_some_iff.mp hv
    exact hc j x hx
  rw [← hZ] at HG HZ
  have HZ2 := hide hZ
  have hA1 : Hid (cs.length = Nat.min ch.length (ch.length)) := by
    show cs.length = _
    rw [hcl]; simp only [Nat.min_def]; split <;> omega
  have hA2 : Hid (0 < cs.length → (some ⟨w.heap.size, 0, none⟩ : Option Addr) = some ⟨w.heap.size, 0, none⟩ ∧ ∃ ad, oa = some ad ∧ ∀ (j : Nat) v, cs[j]? = some v → (w.alloc (.cells (madeCells #[Value.int .i64 0] (ch.length)) 3)).cell? (ad.add j) = some v) := fun hp => ⟨rfl, unhide hsrc hp⟩
  have hA3 : Hid (0 + cs.length ≤ Z.length) := by
    show 0 + cs.length ≤ Z.length
    rw [unhide HZ]; omega
  have HCS := hide hcs
  clear hz hZ hcs HI
  go_enter Tryd.func13, Tryd.ntmps13
  go_upto_region 5 with fail
  go_wp2_with (refine wpList_copy_splice (P := Tryd.prog) rfl _ _ 27 27 rfl 3 undI infoI1 _ _ _ _ _ _ rfl rfl w.heap.size 0 Z 3 (unhide HG) cs (unhide hA1) (unhide hA2) (unhide hA3) (unhide h1c) w.heap.size w (unhide HB) (Nat.le_refl _) ?_)
  intro w2 HG2 hB2
  have HB2 := hide hB2
  have OI2 : Hid (OI w2 w.heap.size (.slice (some ⟨w.heap.size, 0, none⟩) (ch.length) (ch.length)) (ch ++ List.replicate ((ch.length) - ch.length) 0)) := copied (by rw [← unhide HZ2, ← unhide HCS]; exact unhide HG2) (by omega) (by unfold maxLen; omega) (Nat.le_refl _)
  clear HG2 hB2 HG HB hmk HZ HZ2 HCS hsrc h1c hcl hA1 hA2 hA3
  go_wp2
  go_ret
  refine ⟨_, rfl, ?_, unhide HB2⟩
  have := unhide OI2
  rwa [Nat.sub_self, List.replicate_zero, List.append_nil] at this

set_option maxRecDepth 100000 in
set_option maxHeartbeats 3200000 in
theorem charge_in (ch : List Int) (k : Nat) (n : Int) (hk : ch[k]? = some n) (v : Value) (w : World) (h : IS w v ch) (ho : ∀ n ∈ ch, Oki n) (hl : ch.length ≤ 1000000000000) :
    Calls Tryd.prog 13 #[v, .int .i64 (k : Int)] w fun e w' => ∃ v, e = .returned v ∧ OI w' w.heap.size v (chg ch (k : Int)) ∧ Below w.heap.size w w' := by
  have H := hide h
  obtain ⟨oa, c, rfl, h1, h2⟩ := SV.form h
  clear h
  have hmk := run_make_row' (P := Tryd.prog) 27 3 (.int .i64 0) 8 undI infoInt rfl .i64 .i64 (ch.length) (by omega) (by omega)
  have HG : Hid ((w.alloc (.cells (madeCells #[Value.int .i64 0] (ch.length)) 3)).heap[w.heap.size]? = some (.cells (madeCells #[Value.int .i64 0] (ch.length)).toList.toArray 3 (0, 0))) := heap_alloc_new w _
  have HB := hide ((Below.refl w.heap.size w).alloc (Nat.le_refl _) (.cells (madeCells #[Value.int .i64 0] (ch.length)) 3))
  have HI := hide ((unhide H).keep (unhide HB))
  have hz : (madeCells #[Value.int .i64 0] (ch.length)).toList.length = ch.length := by rw [Array.length_toList, size_madeCells]
  have HZ := hide hz
  obtain ⟨Z, hZ⟩ : ∃ Z, Z = (madeCells #[Value.int .i64 0] (ch.length)).toList := ⟨_, rfl⟩
  obtain ⟨cs, hcs⟩ : ∃ cs, cs = ch.map (Value.int .i64 ·) := ⟨_, rfl⟩
  have hcl : cs.length = ch.length := by rw [hcs, List.length_map]
  have h1c : Hid (∀ v ∈ cs, v.oneCell' = true) := fun v hv => by
    rw [hcs] at hv
    obtain ⟨x, _, rfl⟩ := List.mem_map.mp hv
    rfl
  have hsrc : Hid (0 < cs.length → ∃ ad, oa = some ad ∧ ∀ (j : Nat) v, cs[j]? = some v → (w.alloc (.cells (madeCells #[Value.int .i64 0] (ch.length)) 3)).cell? (ad.add j) = some v) := fun hp => by
    obtain ⟨a, c', e, _, _, hc⟩ := IS.at (unhide HI) (by omega)
    cases e
    refine ⟨a, rfl, fun j v hv => ?_⟩
    rw [hcs, List.getElem?_map] at hv
    obtain ⟨x, hx, rfl⟩ := Option.map_eq_some_iff.mp hv
    exact hc j x hx
  rw [← hZ] at HG HZ
  have HZ2 := hide hZ
  have hA1 : Hid (cs.length = Nat.min ch.length (ch.length)) := by
    show cs.length = _
    rw [hcl]; simp only [Nat.min_def]; split <;> omega
  have hA2 : Hid (0 < cs.length → (some ⟨w.heap.size, 0, none⟩ : Option Addr) = some ⟨w.heap.size, 0, none⟩ ∧ ∃ ad, oa = some ad ∧ ∀ (j : Nat) v, cs[j]? = some v → (w.alloc (.cells (madeCells #[Value.int .i64 0] (ch.length)) 3)).cell? (ad.add j) = some v) := fun hp => ⟨rfl, unhide hsrc hp⟩
  have hA3 : Hid (0 + cs.length ≤ Z.length) := by
    show 0 + cs.length ≤ Z.length
    rw [unhide HZ]; omega
  have HCS := hide hcs
  have HP : Hid (∀ x : Int, x = min (tms ch k) 9223372036854775806 + 1 → ∀ wz : World, wz.ownsRow w.heap.size 3 1 (.slice (some ⟨w.heap.size, 0, none⟩) (ch.length) (ch.length)) (ch ++ List.replicate (ch.length - ch.length) 0).length (((ch ++ List.replicate (ch.length - ch.length) 0).map (Value.int .i64 ·)).set k (.int .i64 x)) → OI wz w.heap.size (.slice (some ⟨w.heap.size, 0, none⟩) (ch.length) (ch.length)) (chg ch (k : Int))) := fun x hx wz hz => by
    have hn := ho n (List.mem_of_getElem? hk)
    unfold Oki at hn
    have e : up1 n = x := by
      rw [up1_min n hn.2, hx]
      unfold tms
      rw [hk]
    rw [chg_here ch k n hk, e]
    have := oi_set k x hz
    rwa [Nat.sub_self, List.replicate_zero, List.append_nil] at this
  have hlt : k < ch.length := (List.getElem?_eq_some_iff.mp hk).1
  have q1 : (k : Int) < (ch.length : Int) := by omega
  clear hk
  clear hz hZ hcs HI
  go_enter Tryd.func13, Tryd.ntmps13
  go_upto_region 5 with fail
  go_wp2_with (refine wpList_copy_splice (P := Tryd.prog) rfl _ _ 27 27 rfl 3 undI infoI1 _ _ _ _ _ _ rfl rfl w.heap.size 0 Z 3 (unhide HG) cs (unhide hA1) (unhide hA2) (unhide hA3) (unhide h1c) w.heap.size w (unhide HB) (Nat.le_refl _) ?_)
  intro w2 HG2 hB2
  have HB2 := hide hB2
  have OI2 : Hid (OI w2 w.heap.size (.slice (some ⟨w.heap.size, 0, none⟩) (ch.length) (ch.length)) (ch ++ List.replicate ((ch.length) - ch.length) 0)) := copied (by rw [← unhide HZ2, ← unhide HCS]; exact unhide HG2) (by omega) (by unfold maxLen; omega) (Nat.le_refl _)
  clear HG2 hB2 HG HB hmk HZ HZ2 HCS hsrc h1c hcl hA1 hA2 hA3
  have hfr := row_frz (unhide OI2) k
  obtain ⟨xv, hxv⟩ : ∃ xv, w2.cell? ⟨w.heap.size, k, none⟩ = some xv := oi_cell (unhide OI2) k (by rw [List.length_append, List.length_replicate]; omega)
  have CT := hide (times_any ch k _ w2 ((unhide H).keep (unhide HB2)) (by omega) ho)
  have hT : 0 ≤ tms ch k ∧ tms ch k ≤ 9223372036854775807 := tms_bd ch k ho
  generalize tms ch k = t at *
  clear ho H
  go_wp2_with fail
  refine (unhide CT).mono ?_
  rintro e w3 ⟨rfl, hw3⟩
  obtain rfl := hw3.symm
  clear CT
  by_cases ht : t ≤ 9223372036854775806
  · have HX := hide (show min t 9223372036854775806 + 1 = t + 1 by omega)
    go_wp2
    go_ret
    refine ⟨_, rfl, ?_, (unhide HB2).setCell (show w.heap.size ≤ (⟨w.heap.size, k, none⟩ : Addr).block from Nat.le_refl _) _⟩
    refine unhide HP _ ?_ _ (row_set (unhide OI2) k _)
    first | exact (unhide HX).symm | rfl
  · obtain rfl : t = 9223372036854775807 := by omega
    have HX := hide (show min (9223372036854775807 : Int) 9223372036854775806 + 1 = 9223372036854775807 by decide)
    go_wp2
    go_ret
    refine ⟨_, rfl, ?_, (unhide HB2).setCell (show w.heap.size ≤ (⟨w.heap.size, k, none⟩ : Addr).block from Nat.le_refl _) _⟩
    refine unhide HP _ ?_ _ (row_set (unhide OI2) k _)
    first | exact (unhide HX).symm | rfl

set_option maxRecDepth 100000 in
set_option maxHeartbeats 3200000 in
theorem charge_new (ch : List Int) (k : Nat) (hk : ch.length ≤ k) (hk2 : k ≤ 65535) (v : Value) (w : World) (h : IS w v ch) (ho : ∀ n ∈ ch, Oki n) (hl : ch.length ≤ 1000000000000) :
    Calls Tryd.prog 13 #[v, .int .i64 (k : Int)] w fun e w' => ∃ v, e = .returned v ∧ OI w' w.heap.size v (chg ch (k : Int)) ∧ Below w.heap.size w w' := by
  have H := hide h
  obtain ⟨oa, c, rfl, h1, h2⟩ := SV.form h
  clear h
  have hmk := run_make_row' (P := Tryd.prog) 27 3 (.int .i64 0) 8 undI infoInt rfl .i64 .i64 (k + 1) (by omega) (by omega)
  rw [show ((k + 1 : Nat) : Int) = (k : Int) + 1 by omega] at hmk
  have HG : Hid ((w.alloc (.cells (madeCells #[Value.int .i64 0] (k + 1)) 3)).heap[w.heap.size]? = some (.cells (madeCells #[Value.int .i64 0] (k + 1)).toList.toArray 3 (0, 0))) := heap_alloc_new w _
  have HB := hide ((Below.refl w.heap.size w).alloc (Nat.le_refl _) (.cells (madeCells #[Value.int .i64 0] (k + 1)) 3))
  have HI := hide ((unhide H).keep (unhide HB))
  have hz : (madeCells #[Value.int .i64 0] (k + 1)).toList.length = k + 1 := by rw [Array.length_toList, size_madeCells]
  have HZ := hide hz
  obtain ⟨Z, hZ⟩ : ∃ Z, Z = (madeCells #[Value.int .i64 0] (k + 1)).toList := ⟨_, rfl⟩
  obtain ⟨cs, hcs⟩ : ∃ cs, cs = ch.map (Value.int .i64 ·) := ⟨_, rfl⟩
  have hcl : cs.length = ch.length := by rw [hcs, List.length_map]
  have h1c : Hid (∀ v ∈ cs, v.oneCell' = true) := fun v hv => by
    rw [hcs] at hv
    obtain ⟨x, _, rfl⟩ := List.mem_map.mp hv
    rfl
  have hsrc : Hid (0 < cs.length → ∃ ad, oa = some ad ∧ ∀ (j : Nat) v, cs[j]? = some v → (w.alloc (.cells (madeCells #[Value.int .i64 0] (k + 1)) 3)).cell? (ad.add j) = some v) := fun hp => by
    obtain ⟨a, c', e, _, _, hc⟩ := IS.at (unhide HI) (by omega)
    cases e
    refine ⟨a, rfl, fun j v hv => ?_⟩
    rw [hcs, List.getElem?_map] at hv
    obtain ⟨x, hx, rfl⟩ := Option.map_eq_some_iff.mp hv
    exact hc j x hx
  rw [← hZ] at HG HZ
  have HZ2 := hide hZ
  have hA1 : Hid (cs.length = Nat.min ch.length (k + 1)) := by
    show cs.length = _
    rw [hcl]; simp only [Nat.min_def]; split <;> omega
  have hA2 : Hid (0 < cs.length → (some ⟨w.heap.size, 0, none⟩ : Option Addr) = some ⟨w.heap.size, 0, none⟩ ∧ ∃ ad, oa = some ad ∧ ∀ (j : Nat) v, cs[j]? = some v → (w.alloc (.cells (madeCells #[Value.int .i64 0] (k + 1)) 3)).cell? (ad.add j) = some v) := fun hp => ⟨rfl, unhide hsrc hp⟩
  have hA3 : Hid (0 + cs.length ≤ Z.length) := by
    show 0 + cs.length ≤ Z.length
    rw [unhide HZ]; omega
  have HCS := hide hcs
  have HP : Hid (∀ x : Int, x = min (tms ch k) 9223372036854775806 + 1 → ∀ wz : World, wz.ownsRow w.heap.size 3 1 (.slice (some ⟨w.heap.size, 0, none⟩) (k + 1) (k + 1)) (ch ++ List.replicate (k + 1 - ch.length) 0).length (((ch ++ List.replicate (k + 1 - ch.length) 0).map (Value.int .i64 ·)).set k (.int .i64 x)) → OI wz w.heap.size (.slice (some ⟨w.heap.size, 0, none⟩) (k + 1) (k + 1)) (chg ch (k : Int))) := fun x hx wz hz => by
    have e : 1 = x := by
      rw [hx]
      unfold tms
      rw [List.getElem?_eq_none hk]
      rfl
    rw [chg_aft ch k hk hk2, e]
    exact oi_set k x hz
  have q1 : (ch.length : Int) ≤ (k : Int) := by omega
  have q2 : (k : Int) ≤ 65535 := by omega
  clear hz hZ hcs HI
  go_enter Tryd.func13, Tryd.ntmps13
  go_upto_region 5 with fail
  go_wp2_with (refine wpList_copy_splice (P := Tryd.prog) rfl _ _ 27 27 rfl 3 undI infoI1 _ _ _ _ _ _ rfl rfl w.heap.size 0 Z 3 (unhide HG) cs (unhide hA1) (unhide hA2) (unhide hA3) (unhide h1c) w.heap.size w (unhide HB) (Nat.le_refl _) ?_)
  intro w2 HG2 hB2
  have HB2 := hide hB2
  have OI2 : Hid (OI w2 w.heap.size (.slice (some ⟨w.heap.size, 0, none⟩) (k + 1) (k + 1)) (ch ++ List.replicate ((k + 1) - ch.length) 0)) := copied (by rw [← unhide HZ2, ← unhide HCS]; exact unhide HG2) (by omega) (by unfold maxLen; omega) (Nat.le_refl _)
  clear HG2 hB2 HG HB hmk HZ HZ2 HCS hsrc h1c hcl hA1 hA2 hA3
  have hfr := row_frz (unhide OI2) k
  obtain ⟨xv, hxv⟩ : ∃ xv, w2.cell? ⟨w.heap.size, k, none⟩ = some xv := oi_cell (unhide OI2) k (by rw [List.length_append, List.length_replicate]; omega)
  have CT := hide (times_any ch k _ w2 ((unhide H).keep (unhide HB2)) (by omega) ho)
  have hT : 0 ≤ tms ch k ∧ tms ch k ≤ 9223372036854775807 := tms_bd ch k ho
  generalize tms ch k = t at *
  clear ho H
  go_wp2_with fail
  refine (unhide CT).mono ?_
  rintro e w3 ⟨rfl, hw3⟩
  obtain rfl := hw3.symm
  clear CT
  by_cases ht : t ≤ 9223372036854775806
  · have HX := hide (show min t 9223372036854775806 + 1 = t + 1 by omega)
    go_wp2
    go_ret
    refine ⟨_, rfl, ?_, (unhide HB2).setCell (show w.heap.size ≤ (⟨w.heap.size, k, none⟩ : Addr).block from Nat.le_refl _) _⟩
    refine unhide HP _ ?_ _ (row_set (unhide OI2) k _)
    first | exact (unhide HX).symm | rfl
  · obtain rfl : t = 9223372036854775807 := by omega
    have HX := hide (show min (9223372036854775807 : Int) 9223372036854775806 + 1 = 9223372036854775807 by decide)
    go_wp2
    go_ret
    refine ⟨_, rfl, ?_, (unhide HB2).setCell (show w.heap.size ≤ (⟨w.heap.size, k, none⟩ : Addr).block from Nat.le_refl _) _⟩
    refine unhide HP _ ?_ _ (row_set (unhide OI2) k _)
    first | exact (unhide HX).symm | rfl

theorem charge_any (ch : List Int) (p : Int) (v : Value) (w : World) (h : IS w v ch) (ho : ∀ n ∈ ch, Oki n) (hp : Oki p) (hl : ch.length ≤ 1000000000000) :
    Calls Tryd.prog 13 #[v, .int .i64 p] w fun e w' => ∃ v, e = .returned v ∧ OI w' w.heap.size v (chg ch p) ∧ Below w.heap.size w w' := by
  by_cases q : p < 0 ∨ (65535 < p ∧ (ch.length : Int) ≤ p)
  · rw [chg_stay ch p q]
    rcases q with q | ⟨q, q2⟩
    · exact charge_low ch p q v w h hl
    · exact charge_high ch p q q2 v w h hl
  · obtain ⟨k, rfl⟩ := Int.eq_ofNat_of_zero_le (show 0 ≤ p by omega)
    by_cases q2 : k < ch.length
    · exact charge_in ch k ch[k] (List.getElem?_eq_getElem q2) v w h ho hl
    · exact charge_new ch k (by omega) (by omega) v w h ho hl
end Go.Proofs.YtmnikcnjdeldeaaDoor.rt
