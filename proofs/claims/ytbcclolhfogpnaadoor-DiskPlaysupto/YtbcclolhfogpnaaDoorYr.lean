/- DiskPlays' small functions: code, lent. -/
import Derived.Test.YtbcclolhfogpnaaDoorYp
import Derived.Laws.CopyOwn
import Derived.Laws.OwnMore
import Derived.Deep.OwnRows
namespace Go.Proofs.YtbcclolhfogpnaaDoor.dk
open Go.RowKit mm

set_option maxRecDepth 100000 in
set_option maxHeartbeats 1600000 in
theorem code_any (a b : Addr) (n : Nat) (hn : n ≤ 2) (w : World) (h : Sent w a b) :
    Calls Tryd.prog 23 #[er a b n] w fun e w' => e = .returned (.int .i64 (cd n)) ∧ w' = w := by
  have c1 := h.ca
  have c2 := h.cd
  have l1 := cell_lt h.ca
  have l2 := cell_lt h.cd
  match n, hn with
  | 0, _ =>
    simp only [er]
    go_enter Tryd.func23, Tryd.ntmps23
    go_wp2
    go_ret
    exact ⟨rfl, rfl⟩
  | 1, _ =>
    have q1 := eql_same w a
    simp only [er]
    go_enter Tryd.func23, Tryd.ntmps23
    go_wp2
    go_ret
    exact ⟨rfl, rfl⟩
  | 2, _ =>
    have q1 := eql_other w h.ne.symm h.lb h.la
    have q2 := eql_same w b
    simp only [er]
    go_enter Tryd.func23, Tryd.ntmps23
    go_wp2
    go_ret
    exact ⟨rfl, rfl⟩

theorem take_next {M T : List UInt8} {i : Nat} {x : UInt8} (h : M.take i = T.take i) (hi : i < M.length) (ht : T[i]? = some x) : (M.set i x).take (i + 1) = T.take (i + 1) := by
  rw [List.take_add_one, List.take_add_one, ht, List.take_set_of_le (Nat.le_refl _), h, List.getElem?_set_self hi]
/-- Eight bytes behind what is lent. -/
def eight : List UInt8 := List.replicate 8 201
theorem eight_len : eight.length = 8 := rfl
theorem eight_at (l : List UInt8) (i : Nat) (h : l.length ≤ i) (h2 : i < l.length + 8) : (l ++ eight)[i]? = some 201 := by
  rw [List.getElem?_append_right h]
  unfold eight
  rw [List.getElem?_replicate, if_pos (by omega)]
theorem copied_bytes {w : World} {B g N : Nat} {l : List UInt8} (h : w.heap[g]? = some (.cells (splice (madeCells #[Value.int .u8 0] N).toList 0 (l.map vb)).toArray 5 (0, 0))) (hN : l.length ≤ N) (hm : N ≤ maxLen) (hB : B ≤ g) :
    OY w B (.slice (some ⟨g, 0, none⟩) N N) (l ++ List.replicate (N - l.length) 0) := by
  have e : splice (madeCells #[Value.int .u8 0] N).toList 0 (l.map vb) = (l ++ List.replicate (N - l.length) 0).map vb := by
    rw [toList_madeCells_one]
    unfold splice
    simp [vb]
  rw [e] at h
  have hl : (l ++ List.replicate (N - l.length) (0 : UInt8)).length = N := by simp; omega
  unfold OY
  rw [hl]
  refine ⟨by rw [List.length_map, hl]; omega, Or.inr ⟨g, N, _, rfl, hB, h, Nat.le_refl _, hm, ?_, ?_⟩⟩
  · rw [List.size_toArray, List.length_map, hl]; omega
  · exact List.take_of_length_le (by rw [List.length_map, hl]; omega)
theorem infoU1 : (Tryd.prog.info? 5).map (·.size) = some 1 := by kernel_rfl
theorem oy_cell {w : World} {B g N c : Nat} {l : List UInt8} (h : OY w B (.slice (some ⟨g, 0, none⟩) N c) l) (k : Nat) (x : UInt8) (hk : l[k]? = some x) : w.cell? ⟨g, k, none⟩ = some (.int .u8 (x.toNat : Int)) := by
  obtain ⟨a, c', e, _, _, hc⟩ := (OY.by h).at (by obtain ⟨q, _⟩ := List.getElem?_eq_some_iff.mp hk; omega)
  simp only [Value.slice.injEq, Option.some.injEq] at e
  obtain ⟨rfl, _, _⟩ := e
  have := hc k x hk
  rwa [add0] at this
theorem oy_set {w : World} {B g N c : Nat} {l : List UInt8} (h : OY w B (.slice (some ⟨g, 0, none⟩) N c) l) (k : Nat) (x : UInt8) : OY (w.setCell ⟨g, k, none⟩ (.int .u8 (x.toNat : Int))) B (.slice (some ⟨g, 0, none⟩) N c) (l.set k x) := by
  have := row_set h k (vb x)
  unfold OY
  rw [List.length_set, List.map_set]
  exact this

set_option maxRecDepth 100000 in
set_option maxHeartbeats 3200000 in
theorem lent_any (l : List UInt8) (v : Value) (w : World) (h : BY w v l) (hl : l.length ≤ 70000000000000) :
    Calls Tryd.prog 22 #[v] w fun e w' => e = .returned (.slice (some ⟨w.heap.size, 0, none⟩) l.length (l.length + 8)) ∧ OY w' w.heap.size (.slice (some ⟨w.heap.size, 0, none⟩) (l.length + 8) (l.length + 8)) (l ++ eight) ∧ Below w.heap.size w w' := by
  have H := hide h
  obtain ⟨oa, c, rfl, h1, h2⟩ := h.form
  clear h
  obtain ⟨N, hN⟩ : ∃ N, N = l.length + 8 := ⟨_, rfl⟩
  have hN' : (l.length : Int) + 8 = (N : Int) := by omega
  have hmk := run_make_row' (P := Tryd.prog) 27 5 (.int .u8 0) 1 undU infoU rfl .i64 .i64 N (by omega) (by omega)
  have HG : Hid ((w.alloc (.cells (madeCells #[Value.int .u8 0] N) 5)).heap[w.heap.size]? = some (.cells (madeCells #[Value.int .u8 0] N).toList.toArray 5 (0, 0))) := heap_alloc_new w _
  have HB := hide ((Below.refl w.heap.size w).alloc (Nat.le_refl _) (.cells (madeCells #[Value.int .u8 0] N) 5))
  have HI := hide ((unhide H).keep (unhide HB))
  have hz : (madeCells #[Value.int .u8 0] N).toList.length = N := by rw [Array.length_toList, size_madeCells]
  have HZ := hide hz
  obtain ⟨Z, hZ⟩ : ∃ Z, Z = (madeCells #[Value.int .u8 0] N).toList := ⟨_, rfl⟩
  obtain ⟨cs, hcs⟩ : ∃ cs, cs = l.map vb := ⟨_, rfl⟩
  have hcl : cs.length = l.length := by rw [hcs, List.length_map]
  have h1c : Hid (∀ v ∈ cs, v.oneCell' = true) := by rw [hcs]; exact one_by l
  have hsrc : Hid (0 < cs.length → ∃ ad, oa = some ad ∧ ∀ (j : Nat) v, cs[j]? = some v → (w.alloc (.cells (madeCells #[Value.int .u8 0] N) 5)).cell? (ad.add j) = some v) := fun hp => by
    obtain ⟨a, c', e, _, _, hc⟩ := (unhide HI).at (by omega)
    cases e
    refine ⟨a, rfl, fun j v hv => ?_⟩
    rw [hcs, List.getElem?_map] at hv
    obtain ⟨x, hx, rfl⟩ := Option.map_eq_some_iff.mp hv
    exact hc j x hx
  rw [← hZ] at HG HZ
  have HZ2 := hide hZ
  have hA1 : Hid (cs.length = Nat.min l.length N) := by
    show cs.length = _
    rw [hcl]; simp only [Nat.min_def]; split <;> omega
  have hA2 : Hid (0 < cs.length → (some ⟨w.heap.size, 0, none⟩ : Option Addr) = some ⟨w.heap.size, 0, none⟩ ∧ ∃ ad, oa = some ad ∧ ∀ (j : Nat) v, cs[j]? = some v → (w.alloc (.cells (madeCells #[Value.int .u8 0] N) 5)).cell? (ad.add j) = some v) := fun hp => ⟨rfl, unhide hsrc hp⟩
  have hA3 : Hid (0 + cs.length ≤ Z.length) := by
    show 0 + cs.length ≤ Z.length
    rw [unhide HZ]; omega
  have HCS := hide hcs
  have HNN := hide hN
  clear hz hZ hcs HI hN
  go_enter Tryd.func22, Tryd.ntmps22
  go_upto_region 2 with fail
  go_wp2_with (refine wpList_copy_splice (P := Tryd.prog) rfl _ _ 27 27 rfl 5 undU infoU1 _ _ _ _ _ _ rfl rfl w.heap.size 0 Z 5 (unhide HG) cs (unhide hA1) (unhide hA2) (unhide hA3) (unhide h1c) w.heap.size w (unhide HB) (Nat.le_refl _) ?_)
  intro w2 HG2 hB2
  have hN2 := unhide HNN
  have OY2 : Hid (OY w2 w.heap.size (.slice (some ⟨w.heap.size, 0, none⟩) N N) (l ++ List.replicate (N - l.length) 0)) := copied_bytes (by rw [← unhide HZ2, ← unhide HCS]; exact unhide HG2) (by omega) (by unfold maxLen; omega) (Nat.le_refl _)
  have HB2 := hide hB2
  have HL0 : Hid ((l ++ List.replicate (N - l.length) 0).take l.length = (l ++ eight).take l.length ∧ (l ++ List.replicate (N - l.length) (0 : UInt8)).length = N) := by
    constructor
    · rw [List.take_left, List.take_left]
    · simp; omega
  clear HG2 hB2 HG HB hmk HZ HZ2 HCS hsrc h1c hcl hA1 hA2 hA3 hN' hN2
  go_wp2
  go_loopw [4] (fun iv wr => ∃ (i : Nat) (M : List UInt8), l.length ≤ i ∧ i ≤ N ∧ iv = .int .i64 (i : Int) ∧ Hid (M.take i = (l ++ eight).take i ∧ M.length = N) ∧ Hid (OY wr w.heap.size (.slice (some ⟨w.heap.size, 0, none⟩) N N) M) ∧ Hid (Below w.heap.size w wr)) (fun iv _ => N - (intOf iv).toNat)
  case atStart => exact ⟨l.length, _, Nat.le_refl _, by have := unhide HNN; omega, rfl, HL0, OY2, HB2⟩
  case round =>
    clear HL0 OY2 HB2
    obtain ⟨i, M, hi0, hi, rfl, hM, hO, hB⟩ := hrel
    by_cases hlt : i < N
    · have e1 : (i : Int) < (N : Int) := by omega
      have e0 : (0 : Int) ≤ (i : Int) := by omega
      obtain ⟨x, hx⟩ : ∃ x, M[i]? = some x := ⟨_, List.getElem?_eq_getElem (by rw [(unhide hM).2]; exact hlt)⟩
      have cx := oy_cell (unhide hO) i x hx
      have fx := row_frz (unhide hO) i
      have M2 := hide (And.intro (take_next (unhide hM).1 (by rw [(unhide hM).2]; exact hlt) (eight_at l i hi0 (by have := unhide HNN; omega))) (show (M.set i 201).length = N by rw [List.length_set]; exact (unhide hM).2))
      have O2 := hide (oy_set (unhide hO) i 201)
      have B2 := hide ((unhide hB).setCell (show w.heap.size ≤ (⟨w.heap.size, i, none⟩ : Addr).block from Nat.le_refl _) (.int .u8 ((201 : UInt8).toNat : Int)))
      clear hM hO hB hx
      have e2 : (i : Int) < 9223372036854775807 := by have := unhide HNN; omega
      go_wp2
      exact ⟨⟨i + 1, M.set i 201, by omega, by omega, by go_num, M2, O2, B2⟩, by simp [intOf]; omega⟩
    · obtain rfl := (show N = i by omega)
      have hE := hide (show M = l ++ eight by
        have := (unhide hM).1
        rwa [List.take_of_length_le (by rw [(unhide hM).2]; exact Nat.le_refl _), List.take_of_length_le (by rw [List.length_append, eight_len, unhide HNN]; exact Nat.le_refl _)] at this)
      have hsl : ∀ u : World, (Instr.slice 27 (.slice (some ⟨w.heap.size, 0, none⟩) N N) none (some (.int .i64 (l.length : Int))) none).run Tryd.prog u = .ok (.slice (some ⟨w.heap.size, 0, none⟩) l.length N) u := fun u => by
        rw [run_slice_h (P := Tryd.prog) (ht := undU) (h0 := by omega) (h2 := by omega), size_u]
        simp [sliced, Addr.add]
      clear hM
      go_wp2
      go_ret
      refine ⟨?_, ?_, unhide hB⟩
      · rw [← unhide HNN]; rfl
      · rw [← unhide hE, ← unhide HNN]; exact unhide hO
end Go.Proofs.YtbcclolhfogpnaaDoor.dk
