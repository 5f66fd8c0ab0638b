/- Package stamp: the text of the parts. -/
import Derived.Test.YtemcilikchlaiabDoorTf
import Derived.Test.YtemcilikchlaiabDoorTk
import Derived.Test.YtemcilikchlaiabDoorBe
import Derived.Deep.RegionHeld3
namespace Go.Proofs.YtemcilikchlaiabDoor.st
open Go.RowKit

theorem Bld.keep {B b : Nat} {l : List UInt8} {w w' : World} (h : Bld B b l w) (hk : ∀ k o, B ≤ k → w.heap[k]? = some o → w'.heap[k]? = some o) : Bld B b l w' := by
  have key : ∀ p, Lib.BuilderAtF 61 5 B b p (Lib.byteCells l) w → Lib.BuilderAtF 61 5 B b p (Lib.byteCells l) w' := by
    rintro p ⟨h1, v, h2, h3, h4⟩
    refine ⟨h1, v, hk _ _ h1 h2, ⟨h3.1, ?_⟩, h4⟩
    rcases h3.2 with h5 | ⟨g, cap, cur, fz, e1, e2, e3, e4⟩
    · exact .inl h5
    · exact .inr ⟨g, cap, cur, fz, e1, e2, hk _ _ e2 e3, e4⟩
  exact h.imp (key _) (key _)
theorem Bld.below {B b : Nat} {l : List UInt8} {w w' : World} (h : Bld B b l w) (hb : Below w.heap.size w w') : Bld B b l w' := Bld.keep h fun k _ _ hc => (hb.block k (lt_of_blk hc)).trans hc
/-- The text of the first parts. -/
def txP (v : Nat → Nat) : Nat → List UInt8
  | 0 => []
  | k + 1 => txP v k ++ ((lkM k).data.toList ++ digs (lkK k) (v k))
theorem txP_len (v : Nat → Nat) (k : Nat) (h : k ≤ 6) : (txP v k).length ≤ 5 * k := by
  induction k with
  | zero => exact Nat.le_refl _
  | succ k ih =>
    unfold txP
    rw [List.length_append, List.length_append, digs_len]
    have := ih (by omega)
    have h1 : (lkM k).data.toList.length ≤ 1 := by unfold lkM; split <;> decide
    have h2 : lkK k ≤ 4 ∧ (lkM k).data.toList.length + lkK k ≤ 5 := by
      refine ⟨by unfold lkK; split <;> omega, ?_⟩
      have : lkK k ≤ 4 := by unfold lkK; split <;> omega
      omega
    omega
/-- While the parts are told. -/
structure TW (w wr : World) (v : Nat → Nat) (k : Nat) : Prop where
  bld : Bld (w.heap.size + 1) (w.heap.size + 1) (txP v k) wr
  box : wr.heap[w.heap.size]? = some (.cells #[.int .i64 (v 0 : Int), .int .i64 (v 1 : Int), .int .i64 (v 2 : Int), .int .i64 (v 3 : Int), .int .i64 (v 4 : Int), .int .i64 (v 5 : Int)] 46 (0, 0))
  below : Below w.heap.size w wr
  size : w.heap.size + 2 ≤ wr.heap.size
theorem TW.next {w wr w3 : World} {v : Nat → Nat} {k : Nat} (h : TW w wr v k) (hb : Bld (w.heap.size + 1) (w.heap.size + 1) (txP v (k + 1)) w3) (hm : Below (w.heap.size + 1) wr w3) : TW w w3 v (k + 1) :=
  ⟨hb, (hm.block _ (by omega)).trans h.box, h.below.trans (hm.mono (by omega)), Nat.le_trans h.size hm.size⟩
def partsA (v : Nat → Nat) : Value := .agg #[.int .i64 (v 0 : Int), .int .i64 (v 1 : Int), .int .i64 (v 2 : Int), .int .i64 (v 3 : Int), .int .i64 (v 4 : Int), .int .i64 (v 5 : Int)]
def lkO (m : ByteArray) (n : Int) : Obj := .cells #[.string m, .int .i64 n] 63
theorem TW.start (w w1 : World) (v : Nat → Nat) (hb : Below ((w.alloc (.cells #[.int .i64 (v 0 : Int), .int .i64 (v 1 : Int), .int .i64 (v 2 : Int), .int .i64 (v 3 : Int), .int .i64 (v 4 : Int), .int .i64 (v 5 : Int)] 46)).alloc (.cells #[.pointer none, .slice none 0 0] 61)).heap.size ((w.alloc (.cells #[.int .i64 (v 0 : Int), .int .i64 (v 1 : Int), .int .i64 (v 2 : Int), .int .i64 (v 3 : Int), .int .i64 (v 4 : Int), .int .i64 (v 5 : Int)] 46)).alloc (.cells #[.pointer none, .slice none 0 0] 61)) w1) : TW w w1 v 0 := by
  have hz := hb.size
  simp only [World.size_alloc] at hz
  refine ⟨Bld.below ?_ hb, ?_, ?_, by omega⟩
  · have := Lib.IsBuilderF.of (Lib.fresh_isBuilder 61 5 (w.alloc (.cells #[.int .i64 (v 0 : Int), .int .i64 (v 1 : Int), .int .i64 (v 2 : Int), .int .i64 (v 3 : Int), .int .i64 (v 4 : Int), .int .i64 (v 5 : Int)] 46)))
    rw [World.size_alloc] at this
    exact this
  · refine (hb.block _ (by simp; omega)).trans ?_
    rw [Below.heap_alloc _ _ _ (by simp)]
    exact Array.getElem?_push_size
  · exact (((Below.refl w.heap.size w).alloc (Nat.le_refl _) _).alloc (by simp) _).trans (hb.mono (by simp; omega))
theorem Sent.pow {w : World} {a : Addr} (h : Sent w a) : Pow w := h.tb

set_option maxRecDepth 100000 in
set_option maxHeartbeats 6400000 in
theorem partsText_any (v : Nat → Nat) (hv0 : v 0 < 10000) (hv : ∀ i, 1 ≤ i → i < 6 → v i < 100) (w : World) (hP : Pow w) :
    Calls Tryd.prog 16 #[partsA v] w fun e w' => e = .returned (.string ⟨(txP v 6).toArray⟩) ∧ Below w.heap.size w w' := by
  unfold partsA
  have LK := hide (looks_any)
  unfold looksV looksC m0 m1 at LK
  have HP := hide hP
  have HS := hide (fun w1 hb => TW.start w w1 v hb)
  clear hP
  go_enter Tryd.func16, Tryd.ntmps16
  go_wp2_with fail
  refine (unhide LK _).mono ?_
  rintro e w1 ⟨rfl, hb1⟩
  have HW := hide (unhide HS w1 hb1)
  clear hb1 LK HS
  go_wp2
  go_loopw [7] (fun i wr => ∃ k : Nat, i = .int .i64 (k : Int) ∧ k ≤ 6 ∧ Hid (TW w wr v k)) (fun i _ => 6 - (intOf i).toNat)
  case atStart => exact ⟨0, rfl, by omega, HW⟩
  case round =>
    clear HW
    obtain ⟨k, rfl, hk, HW⟩ := hrel
    have : k = 0 ∨ k = 1 ∨ k = 2 ∨ k = 3 ∨ k = 4 ∨ k = 5 ∨ k = 6 := by omega
    rcases this with rfl | rfl | rfl | rfl | rfl | rfl | rfl
    · have hix := look_ix0
      have hb : v 0 < 10 ^ 4 := hv0
      have PD := hide (fun u (hu : Pow u) => padded_any (v 0) 4 (v 0) 4 rfl rfl (by omega) (by omega) hb u hu)
      have hlen : (⟨(digs 4 (v 0)).toArray⟩ : ByteArray).size = 4 := by show (digs 4 (v 0)).toArray.size = _; rw [List.size_toArray, digs_len]
      have hcat : (⟨#[]⟩ : ByteArray) ++ ⟨(digs 4 (v 0)).toArray⟩ = ⟨((lkM 0).data.toList ++ digs 4 (v 0)).toArray⟩ := by
        apply ByteArray.ext
        simp [lkM, m0]
      have hml : (⟨#[]⟩ : ByteArray).size ≤ 1 := by decide
      have HTX : Hid (txP v 0 ++ (⟨((lkM 0).data.toList ++ digs 4 (v 0)).toArray⟩ : ByteArray).data.toList = txP v 1) := rfl
      have hl := txP_len v 0 (by omega)
      have hcs : (⟨((lkM 0).data.toList ++ digs 4 (v 0)).toArray⟩ : ByteArray).size ≤ 5 := by rw [← hcat, ByteArray.size_append]; omega
      generalize (⟨((lkM 0).data.toList ++ digs 4 (v 0)).toArray⟩ : ByteArray) = cs at *
      generalize (⟨(digs 4 (v 0)).toArray⟩ : ByteArray) = ds at *
      have hcc : ∀ u : World, (Op.stringOp .add (⟨#[]⟩ : ByteArray) ds).run Tryd.prog u = .ok (.string cs) u := fun u => by rw [← hcat]; exact run_string_add_sum u _ _ (by omega)
      have ha : Below wr.heap.size wr (wr.alloc (.cells #[.string ⟨#[]⟩, .int .i64 4] 63)) := (Below.refl _ _).alloc (Nat.le_refl _) _
      have x0 : (wr.alloc (.cells #[.string ⟨#[]⟩, .int .i64 4] 63)).cell? ⟨w.heap.size, 0, none⟩ = some (.int .i64 (v 0 : Int)) := blk_cell ((ha.block _ (by have := (unhide HW).size; omega)).trans (unhide HW).box) 0
      have hlb : (wr.alloc (.cells #[.string ⟨#[]⟩, .int .i64 4] 63)).heap[wr.heap.size]? = some (.cells #[.string ⟨#[]⟩, .int .i64 4] 63 (0, 0)) := Array.getElem?_push_size
      have y0 : (wr.alloc (.cells #[.string ⟨#[]⟩, .int .i64 4] 63)).cell? ⟨wr.heap.size, 0, none⟩ = some (.string ⟨#[]⟩) := blk_cell hlb 0
      have y1 : (wr.alloc (.cells #[.string ⟨#[]⟩, .int .i64 4] 63)).cell? ⟨wr.heap.size, 1, none⟩ = some (.int .i64 4) := blk_cell hlb 1
      have HLB := hide hlb
      have hBW := hide (Bld.below (unhide HW).bld ha)
      have hPW := hide (((unhide HP).keep (unhide HW).below).keep ha)
      have HA := hide ha
      have hsz := (unhide HW).size
      have hz1 : (wr.alloc (.cells #[.string ⟨#[]⟩, .int .i64 4] 63)).heap.size = wr.heap.size + 1 := World.size_alloc _ _
      clear hcat hml hb ha hlb
      go_wp2_with fail
      generalize wr.alloc (.cells #[.string ⟨#[]⟩, .int .i64 4] 63) = wq at *
      go_region_held3 (fun w' => w'.cell? ⟨wr.heap.size, 0, none⟩ = some (.string ⟨#[]⟩) ∧ w'.cell? ⟨wr.heap.size, 1, none⟩ = some (.int .i64 4) ∧ w'.cell? ⟨w.heap.size, 0, none⟩ = some (.int .i64 (v 0 : Int))) (((try dsimp only); (repeat' apply And.intro); all_goals first | assumption | (go_keep; done) | (simp; omega))) (first
        | (go_at_call 29; refine (unhide PD _ (by exact unhide hPW)).mono ?_; rintro e w2 ⟨rfl, h2⟩; have k0 := keepC h2 (b := wr.heap.size) (o := 0) (v := .string ⟨#[]⟩) (by exact y0); have k1 := keepC h2 (b := wr.heap.size) (o := 1) (v := .int .i64 4) (by exact y1); have k2 := keepC h2 (b := w.heap.size) (o := 0) (v := .int .i64 (v 0 : Int)) (by exact x0); have hB2 := hide (Bld.below (show Bld (w.heap.size + 1) (w.heap.size + 1) (txP v 0) (World.drew _) from unhide hBW) h2); have hs2 : wq.heap.size ≤ w2.heap.size := h2.size; have HM2 : Hid (Below wr.heap.size wr w2) := (unhide HA).trans (Below.mono (show Below wq.heap.size wq w2 from ⟨h2.os, h2.tape, h2.output, h2.size, h2.block⟩) (by omega)); have HLB2 := hide ((h2.block wr.heap.size (by show _ < wq.heap.size; omega)).trans (unhide HLB)); clear h2)
        | (go_at_call 28; refine (writeString_any (w.heap.size + 1) (w.heap.size + 1) (txP v 0) cs _ (unhide hB2) (by omega) (by omega)).mono ?_; rintro e w3 ⟨rfl, hb3, hm3, hm4⟩; have l3 := hm4 _ _ (unhide HLB2) (by intro z; have := Option.some.inj z; omega) (by intro c fz z; injection z with z1 z2; revert z2; decide); have k3 : w3.cell? ⟨wr.heap.size, 0, none⟩ = some (.string ⟨#[]⟩) := blk_cell l3 0; have k4 : w3.cell? ⟨wr.heap.size, 1, none⟩ = some (.int .i64 4) := blk_cell l3 1; have k5 : w3.cell? ⟨w.heap.size, 0, none⟩ = some (.int .i64 (v 0 : Int)) := (hm3.cell (p := ⟨w.heap.size, 0, none⟩) (by show w.heap.size < w.heap.size + 1; omega)).trans k2))
      all_goals have HN := hide (TW.next (unhide HW) (by rw [← unhide HTX]; exact hb3) (((unhide HM2).mono (by omega)).trans hm3))
      all_goals clear hb3 hm3 hm4 l3 k3 k4 k5 k0 k1 k2 hB2 HM2 HLB2 HLB hBW hPW HA x0 y0 y1 PD HW HTX
      all_goals go_wp2
      all_goals exact ⟨⟨1, rfl, by omega, HN⟩, by simp [intOf]⟩
    · have hix := look_ix1
      have hb : v 1 < 10 ^ 2 := hv 1 (by omega) (by omega)
      have PD := hide (fun u (hu : Pow u) => padded_any (v 1) 2 (v 1) 2 rfl rfl (by omega) (by omega) hb u hu)
      have hlen : (⟨(digs 2 (v 1)).toArray⟩ : ByteArray).size = 2 := by show (digs 2 (v 1)).toArray.size = _; rw [List.size_toArray, digs_len]
      have hcat : (⟨#[45]⟩ : ByteArray) ++ ⟨(digs 2 (v 1)).toArray⟩ = ⟨((lkM 1).data.toList ++ digs 2 (v 1)).toArray⟩ := by
        apply ByteArray.ext
        simp [lkM, m1]
      have hml : (⟨#[45]⟩ : ByteArray).size ≤ 1 := by decide
      have HTX : Hid (txP v 1 ++ (⟨((lkM 1).data.toList ++ digs 2 (v 1)).toArray⟩ : ByteArray).data.toList = txP v 2) := rfl
      have hl := txP_len v 1 (by omega)
      have hcs : (⟨((lkM 1).data.toList ++ digs 2 (v 1)).toArray⟩ : ByteArray).size ≤ 5 := by rw [← hcat, ByteArray.size_append]; omega
      generalize (⟨((lkM 1).data.toList ++ digs 2 (v 1)).toArray⟩ : ByteArray) = cs at *
      generalize (⟨(digs 2 (v 1)).toArray⟩ : ByteArray) = ds at *
      have hcc : ∀ u : World, (Op.stringOp .add (⟨#[45]⟩ : ByteArray) ds).run Tryd.prog u = .ok (.string cs) u := fun u => by rw [← hcat]; exact run_string_add_sum u _ _ (by omega)
      have ha : Below wr.heap.size wr (wr.alloc (.cells #[.string ⟨#[45]⟩, .int .i64 2] 63)) := (Below.refl _ _).alloc (Nat.le_refl _) _
      have x0 : (wr.alloc (.cells #[.string ⟨#[45]⟩, .int .i64 2] 63)).cell? ⟨w.heap.size, 1, none⟩ = some (.int .i64 (v 1 : Int)) := blk_cell ((ha.block _ (by have := (unhide HW).size; omega)).trans (unhide HW).box) 1
      have hlb : (wr.alloc (.cells #[.string ⟨#[45]⟩, .int .i64 2] 63)).heap[wr.heap.size]? = some (.cells #[.string ⟨#[45]⟩, .int .i64 2] 63 (0, 0)) := Array.getElem?_push_size
      have y0 : (wr.alloc (.cells #[.string ⟨#[45]⟩, .int .i64 2] 63)).cell? ⟨wr.heap.size, 0, none⟩ = some (.string ⟨#[45]⟩) := blk_cell hlb 0
      have y1 : (wr.alloc (.cells #[.string ⟨#[45]⟩, .int .i64 2] 63)).cell? ⟨wr.heap.size, 1, none⟩ = some (.int .i64 2) := blk_cell hlb 1
      have HLB := hide hlb
      have hBW := hide (Bld.below (unhide HW).bld ha)
      have hPW := hide (((unhide HP).keep (unhide HW).below).keep ha)
      have HA := hide ha
      have hsz := (unhide HW).size
      have hz1 : (wr.alloc (.cells #[.string ⟨#[45]⟩, .int .i64 2] 63)).heap.size = wr.heap.size + 1 := World.size_alloc _ _
      clear hcat hml hb ha hlb
      go_wp2_with fail
      generalize wr.alloc (.cells #[.string ⟨#[45]⟩, .int .i64 2] 63) = wq at *
      go_region_held3 (fun w' => w'.cell? ⟨wr.heap.size, 0, none⟩ = some (.string ⟨#[45]⟩) ∧ w'.cell? ⟨wr.heap.size, 1, none⟩ = some (.int .i64 2) ∧ w'.cell? ⟨w.heap.size, 1, none⟩ = some (.int .i64 (v 1 : Int))) (((try dsimp only); (repeat' apply And.intro); all_goals first | assumption | (go_keep; done) | (simp; omega))) (first
        | (go_at_call 29; refine (unhide PD _ (by exact unhide hPW)).mono ?_; rintro e w2 ⟨rfl, h2⟩; have k0 := keepC h2 (b := wr.heap.size) (o := 0) (v := .string ⟨#[45]⟩) (by exact y0); have k1 := keepC h2 (b := wr.heap.size) (o := 1) (v := .int .i64 2) (by exact y1); have k2 := keepC h2 (b := w.heap.size) (o := 1) (v := .int .i64 (v 1 : Int)) (by exact x0); have hB2 := hide (Bld.below (show Bld (w.heap.size + 1) (w.heap.size + 1) (txP v 1) (World.drew _) from unhide hBW) h2); have hs2 : wq.heap.size ≤ w2.heap.size := h2.size; have HM2 : Hid (Below wr.heap.size wr w2) := (unhide HA).trans (Below.mono (show Below wq.heap.size wq w2 from ⟨h2.os, h2.tape, h2.output, h2.size, h2.block⟩) (by omega)); have HLB2 := hide ((h2.block wr.heap.size (by show _ < wq.heap.size; omega)).trans (unhide HLB)); clear h2)
        | (go_at_call 28; refine (writeString_any (w.heap.size + 1) (w.heap.size + 1) (txP v 1) cs _ (unhide hB2) (by omega) (by omega)).mono ?_; rintro e w3 ⟨rfl, hb3, hm3, hm4⟩; have l3 := hm4 _ _ (unhide HLB2) (by intro z; have := Option.some.inj z; omega) (by intro c fz z; injection z with z1 z2; revert z2; decide); have k3 : w3.cell? ⟨wr.heap.size, 0, none⟩ = some (.string ⟨#[45]⟩) := blk_cell l3 0; have k4 : w3.cell? ⟨wr.heap.size, 1, none⟩ = some (.int .i64 2) := blk_cell l3 1; have k5 : w3.cell? ⟨w.heap.size, 1, none⟩ = some (.int .i64 (v 1 : Int)) := (hm3.cell (p := ⟨w.heap.size, 1, none⟩) (by show w.heap.size < w.heap.size + 1; omega)).trans k2))
      all_goals have HN := hide (TW.next (unhide HW) (by rw [← unhide HTX]; exact hb3) (((unhide HM2).mono (by omega)).trans hm3))
      all_goals clear hb3 hm3 hm4 l3 k3 k4 k5 k0 k1 k2 hB2 HM2 HLB2 HLB hBW hPW HA x0 y0 y1 PD HW HTX
      all_goals go_wp2
      all_goals exact ⟨⟨2, rfl, by omega, HN⟩, by simp [intOf]⟩
    · have hix := look_ix2
      have hb : v 2 < 10 ^ 2 := hv 2 (by omega) (by omega)
      have PD := hide (fun u (hu : Pow u) => padded_any (v 2) 2 (v 2) 2 rfl rfl (by omega) (by omega) hb u hu)
      have hlen : (⟨(digs 2 (v 2)).toArray⟩ : ByteArray).size = 2 := by show (digs 2 (v 2)).toArray.size = _; rw [List.size_toArray, digs_len]
      have hcat : (⟨#[45]⟩ : ByteArray) ++ ⟨(digs 2 (v 2)).toArray⟩ = ⟨((lkM 2).data.toList ++ digs 2 (v 2)).toArray⟩ := by
        apply ByteArray.ext
        simp [lkM, m1]
      have hml : (⟨#[45]⟩ : ByteArray).size ≤ 1 := by decide
      have HTX : Hid (txP v 2 ++ (⟨((lkM 2).data.toList ++ digs 2 (v 2)).toArray⟩ : ByteArray).data.toList = txP v 3) := rfl
      have hl := txP_len v 2 (by omega)
      have hcs : (⟨((lkM 2).data.toList ++ digs 2 (v 2)).toArray⟩ : ByteArray).size ≤ 5 := by rw [← hcat, ByteArray.size_append]; omega
      generalize (⟨((lkM 2).data.toList ++ digs 2 (v 2)).toArray⟩ : ByteArray) = cs at *
      generalize (⟨(digs 2 (v 2)).toArray⟩ : ByteArray) = ds at *
      have hcc : ∀ u : World, (Op.stringOp .add (⟨#[45]⟩ : ByteArray) ds).run Tryd.prog u = .ok (.string cs) u := fun u => by rw [← hcat]; exact run_string_add_sum u _ _ (by omega)
      have ha : Below wr.heap.size wr (wr.alloc (.cells #[.string ⟨#[45]⟩, .int .i64 2] 63)) := (Below.refl _ _).alloc (Nat.le_refl _) _
      have x0 : (wr.alloc (.cells #[.string ⟨#[45]⟩, .int .i64 2] 63)).cell? ⟨w.heap.size, 2, none⟩ = some (.int .i64 (v 2 : Int)) := blk_cell ((ha.block _ (by have := (unhide HW).size; omega)).trans (unhide HW).box) 2
      have hlb : (wr.alloc (.cells #[.string ⟨#[45]⟩, .int .i64 2] 63)).heap[wr.heap.size]? = some (.cells #[.string ⟨#[45]⟩, .int .i64 2] 63 (0, 0)) := Array.getElem?_push_size
      have y0 : (wr.alloc (.cells #[.string ⟨#[45]⟩, .int .i64 2] 63)).cell? ⟨wr.heap.size, 0, none⟩ = some (.string ⟨#[45]⟩) := blk_cell hlb 0
      have y1 : (wr.alloc (.cells #[.string ⟨#[45]⟩, .int .i64 2] 63)).cell? ⟨wr.heap.size, 1, none⟩ = some (.int .i64 2) := blk_cell hlb 1
      have HLB := hide hlb
      have hBW := hide (Bld.below (unhide HW).bld ha)
      have hPW := hide (((unhide HP).keep (unhide HW).below).keep ha)
      have HA := hide ha
      have hsz := (unhide HW).size
      have hz1 : (wr.alloc (.cells #[.string ⟨#[45]⟩, .int .i64 2] 63)).heap.size = wr.heap.size + 1 := World.size_alloc _ _
      clear hcat hml hb ha hlb
      go_wp2_with fail
      generalize wr.alloc (.cells #[.string ⟨#[45]⟩, .int .i64 2] 63) = wq at *
      go_region_held3 (fun w' => w'.cell? ⟨wr.heap.size, 0, none⟩ = some (.string ⟨#[45]⟩) ∧ w'.cell? ⟨wr.heap.size, 1, none⟩ = some (.int .i64 2) ∧ w'.cell? ⟨w.heap.size, 2, none⟩ = some (.int .i64 (v 2 : Int))) (((try dsimp only); (repeat' apply And.intro); all_goals first | assumption | (go_keep; done) | (simp; omega))) (first
        | (go_at_call 29; refine (unhide PD _ (by exact unhide hPW)).mono ?_; rintro e w2 ⟨rfl, h2⟩; have k0 := keepC h2 (b := wr.heap.size) (o := 0) (v := .string ⟨#[45]⟩) (by exact y0); have k1 := keepC h2 (b := wr.heap.size) (o := 1) (v := .int .i64 2) (by exact y1); have k2 := keepC h2 (b := w.heap.size) (o := 2) (v := .int .i64 (v 2 : Int)) (by exact x0); have hB2 := hide (Bld.below (show Bld (w.heap.size + 1) (w.heap.size + 1) (txP v 2) (World.drew _) from unhide hBW) h2); have hs2 : wq.heap.size ≤ w2.heap.size := h2.size; have HM2 : Hid (Below wr.heap.size wr w2) := (unhide HA).trans (Below.mono (show Below wq.heap.size wq w2 from ⟨h2.os, h2.tape, h2.output, h2.size, h2.block⟩) (by omega)); have HLB2 := hide ((h2.block wr.heap.size (by show _ < wq.heap.size; omega)).trans (unhide HLB)); clear h2)
        | (go_at_call 28; refine (writeString_any (w.heap.size + 1) (w.heap.size + 1) (txP v 2) cs _ (unhide hB2) (by omega) (by omega)).mono ?_; rintro e w3 ⟨rfl, hb3, hm3, hm4⟩; have l3 := hm4 _ _ (unhide HLB2) (by intro z; have := Option.some.inj z; omega) (by intro c fz z; injection z with z1 z2; revert z2; decide); have k3 : w3.cell? ⟨wr.heap.size, 0, none⟩ = some (.string ⟨#[45]⟩) := blk_cell l3 0; have k4 : w3.cell? ⟨wr.heap.size, 1, none⟩ = some (.int .i64 2) := blk_cell l3 1; have k5 : w3.cell? ⟨w.heap.size, 2, none⟩ = some (.int .i64 (v 2 : Int)) := (hm3.cell (p := ⟨w.heap.size, 2, none⟩) (by show w.heap.size < w.heap.size + 1; omega)).trans k2))
      all_goals have HN := hide (TW.next (unhide HW) (by rw [← unhide HTX]; exact hb3) (((unhide HM2).mono (by omega)).trans hm3))
      all_goals clear hb3 hm3 hm4 l3 k3 k4 k5 k0 k1 k2 hB2 HM2 HLB2 HLB hBW hPW HA x0 y0 y1 PD HW HTX
      all_goals go_wp2
      all_goals exact ⟨⟨3, rfl, by omega, HN⟩, by simp [intOf]⟩
    · have hix := look_ix3
      have hb : v 3 < 10 ^ 2 := hv 3 (by omega) (by omega)
      have PD := hide (fun u (hu : Pow u) => padded_any (v 3) 2 (v 3) 2 rfl rfl (by omega) (by omega) hb u hu)
      have hlen : (⟨(digs 2 (v 3)).toArray⟩ : ByteArray).size = 2 := by show (digs 2 (v 3)).toArray.size = _; rw [List.size_toArray, digs_len]
      have hcat : (⟨#[84]⟩ : ByteArray) ++ ⟨(digs 2 (v 3)).toArray⟩ = ⟨((lkM 3).data.toList ++ digs 2 (v 3)).toArray⟩ := by
        apply ByteArray.ext
        simp [lkM, m1]
      have hml : (⟨#[84]⟩ : ByteArray).size ≤ 1 := by decide
      have HTX : Hid (txP v 3 ++ (⟨((lkM 3).data.toList ++ digs 2 (v 3)).toArray⟩ : ByteArray).data.toList = txP v 4) := rfl
      have hl := txP_len v 3 (by omega)
      have hcs : (⟨((lkM 3).data.toList ++ digs 2 (v 3)).toArray⟩ : ByteArray).size ≤ 5 := by rw [← hcat, ByteArray.size_append]; omega
      generalize (⟨((lkM 3).data.toList ++ digs 2 (v 3)).toArray⟩ : ByteArray) = cs at *
      generalize (⟨(digs 2 (v 3)).toArray⟩ : ByteArray) = ds at *
      have hcc : ∀ u : World, (Op.stringOp .add (⟨#[84]⟩ : ByteArray) ds).run Tryd.prog u = .ok (.string cs) u := fun u => by rw [← hcat]; exact run_string_add_sum u _ _ (by omega)
      have ha : Below wr.heap.size wr (wr.alloc (.cells #[.string ⟨#[84]⟩, .int .i64 2] 63)) := (Below.refl _ _).alloc (Nat.le_refl _) _
      have x0 : (wr.alloc (.cells #[.string ⟨#[84]⟩, .int .i64 2] 63)).cell? ⟨w.heap.size, 3, none⟩ = some (.int .i64 (v 3 : Int)) := blk_cell ((ha.block _ (by have := (unhide HW).size; omega)).trans (unhide HW).box) 3
      have hlb : (wr.alloc (.cells #[.string ⟨#[84]⟩, .int .i64 2] 63)).heap[wr.heap.size]? = some (.cells #[.string ⟨#[84]⟩, .int .i64 2] 63 (0, 0)) := Array.getElem?_push_size
      have y0 : (wr.alloc (.cells #[.string ⟨#[84]⟩, .int .i64 2] 63)).cell? ⟨wr.heap.size, 0, none⟩ = some (.string ⟨#[84]⟩) := blk_cell hlb 0
      have y1 : (wr.alloc (.cells #[.string ⟨#[84]⟩, .int .i64 2] 63)).cell? ⟨wr.heap.size, 1, none⟩ = some (.int .i64 2) := blk_cell hlb 1
      have HLB := hide hlb
      have hBW := hide (Bld.below (unhide HW).bld ha)
      have hPW := hide (((unhide HP).keep (unhide HW).below).keep ha)
      have HA := hide ha
      have hsz := (unhide HW).size
      have hz1 : (wr.alloc (.cells #[.string ⟨#[84]⟩, .int .i64 2] 63)).heap.size = wr.heap.size + 1 := World.size_alloc _ _
      clear hcat hml hb ha hlb
      go_wp2_with fail
      generalize wr.alloc (.cells #[.string ⟨#[84]⟩, .int .i64 2] 63) = wq at *
      go_region_held3 (fun w' => w'.cell? ⟨wr.heap.size, 0, none⟩ = some (.string ⟨#[84]⟩) ∧ w'.cell? ⟨wr.heap.size, 1, none⟩ = some (.int .i64 2) ∧ w'.cell? ⟨w.heap.size, 3, none⟩ = some (.int .i64 (v 3 : Int))) (((try dsimp only); (repeat' apply And.intro); all_goals first | assumption | (go_keep; done) | (simp; omega))) (first
        | (go_at_call 29; refine (unhide PD _ (by exact unhide hPW)).mono ?_; rintro e w2 ⟨rfl, h2⟩; have k0 := keepC h2 (b := wr.heap.size) (o := 0) (v := .string ⟨#[84]⟩) (by exact y0); have k1 := keepC h2 (b := wr.heap.size) (o := 1) (v := .int .i64 2) (by exact y1); have k2 := keepC h2 (b := w.heap.size) (o := 3) (v := .int .i64 (v 3 : Int)) (by exact x0); have hB2 := hide (Bld.below (show Bld (w.heap.size + 1) (w.heap.size + 1) (txP v 3) (World.drew _) from unhide hBW) h2); have hs2 : wq.heap.size ≤ w2.heap.size := h2.size; have HM2 : Hid (Below wr.heap.size wr w2) := (unhide HA).trans (Below.mono (show Below wq.heap.size wq w2 from ⟨h2.os, h2.tape, h2.output, h2.size, h2.block⟩) (by omega)); have HLB2 := hide ((h2.block wr.heap.size (by show _ < wq.heap.size; omega)).trans (unhide HLB)); clear h2)
        | (go_at_call 28; refine (writeString_any (w.heap.size + 1) (w.heap.size + 1) (txP v 3) cs _ (unhide hB2) (by omega) (by omega)).mono ?_; rintro e w3 ⟨rfl, hb3, hm3, hm4⟩; have l3 := hm4 _ _ (unhide HLB2) (by intro z; have := Option.some.inj z; omega) (by intro c fz z; injection z with z1 z2; revert z2; decide); have k3 : w3.cell? ⟨wr.heap.size, 0, none⟩ = some (.string ⟨#[84]⟩) := blk_cell l3 0; have k4 : w3.cell? ⟨wr.heap.size, 1, none⟩ = some (.int .i64 2) := blk_cell l3 1; have k5 : w3.cell? ⟨w.heap.size, 3, none⟩ = some (.int .i64 (v 3 : Int)) := (hm3.cell (p := ⟨w.heap.size, 3, none⟩) (by show w.heap.size < w.heap.size + 1; omega)).trans k2))
      all_goals have HN := hide (TW.next (unhide HW) (by rw [← unhide HTX]; exact hb3) (((unhide HM2).mono (by omega)).trans hm3))
      all_goals clear hb3 hm3 hm4 l3 k3 k4 k5 k0 k1 k2 hB2 HM2 HLB2 HLB hBW hPW HA x0 y0 y1 PD HW HTX
      all_goals go_wp2
      all_goals exact ⟨⟨4, rfl, by omega, HN⟩, by simp [intOf]⟩
    · have hix := look_ix4
      have hb : v 4 < 10 ^ 2 := hv 4 (by omega) (by omega)
      have PD := hide (fun u (hu : Pow u) => padded_any (v 4) 2 (v 4) 2 rfl rfl (by omega) (by omega) hb u hu)
      have hlen : (⟨(digs 2 (v 4)).toArray⟩ : ByteArray).size = 2 := by show (digs 2 (v 4)).toArray.size = _; rw [List.size_toArray, digs_len]
      have hcat : (⟨#[58]⟩ : ByteArray) ++ ⟨(digs 2 (v 4)).toArray⟩ = ⟨((lkM 4).data.toList ++ digs 2 (v 4)).toArray⟩ := by
        apply ByteArray.ext
        simp [lkM, m1]
      have hml : (⟨#[58]⟩ : ByteArray).size ≤ 1 := by decide
      have HTX : Hid (txP v 4 ++ (⟨((lkM 4).data.toList ++ digs 2 (v 4)).toArray⟩ : ByteArray).data.toList = txP v 5) := rfl
      have hl := txP_len v 4 (by omega)
      have hcs : (⟨((lkM 4).data.toList ++ digs 2 (v 4)).toArray⟩ : ByteArray).size ≤ 5 := by rw [← hcat, ByteArray.size_append]; omega
      generalize (⟨((lkM 4).data.toList ++ digs 2 (v 4)).toArray⟩ : ByteArray) = cs at *
      generalize (⟨(digs 2 (v 4)).toArray⟩ : ByteArray) = ds at *
      have hcc : ∀ u : World, (Op.stringOp .add (⟨#[58]⟩ : ByteArray) ds).run Tryd.prog u = .ok (.string cs) u := fun u => by rw [← hcat]; exact run_string_add_sum u _ _ (by omega)
      have ha : Below wr.heap.size wr (wr.alloc (.cells #[.string ⟨#[58]⟩, .int .i64 2] 63)) := (Below.refl _ _).alloc (Nat.le_refl _) _
      have x0 : (wr.alloc (.cells #[.string ⟨#[58]⟩, .int .i64 2] 63)).cell? ⟨w.heap.size, 4, none⟩ = some (.int .i64 (v 4 : Int)) := blk_cell ((ha.block _ (by have := (unhide HW).size; omega)).trans (unhide HW).box) 4
      have hlb : (wr.alloc (.cells #[.string ⟨#[58]⟩, .int .i64 2] 63)).heap[wr.heap.size]? = some (.cells #[.string ⟨#[58]⟩, .int .i64 2] 63 (0, 0)) := Array.getElem?_push_size
      have y0 : (wr.alloc (.cells #[.string ⟨#[58]⟩, .int .i64 2] 63)).cell? ⟨wr.heap.size, 0, none⟩ = some (.string ⟨#[58]⟩) := blk_cell hlb 0
      have y1 : (wr.alloc (.cells #[.string ⟨#[58]⟩, .int .i64 2] 63)).cell? ⟨wr.heap.size, 1, none⟩ = some (.int .i64 2) := blk_cell hlb 1
      have HLB := hide hlb
      have hBW := hide (Bld.below (unhide HW).bld ha)
      have hPW := hide (((unhide HP).keep (unhide HW).below).keep ha)
      have HA := hide ha
      have hsz := (unhide HW).size
      have hz1 : (wr.alloc (.cells #[.string ⟨#[58]⟩, .int .i64 2] 63)).heap.size = wr.heap.size + 1 := World.size_alloc _ _
      clear hcat hml hb ha hlb
      go_wp2_with fail
      generalize wr.alloc (.cells #[.string ⟨#[58]⟩, .int .i64 2] 63) = wq at *
      go_region_held3 (fun w' => w'.cell? ⟨wr.heap.size, 0, none⟩ = some (.string ⟨#[58]⟩) ∧ w'.cell? ⟨wr.heap.size, 1, none⟩ = some (.int .i64 2) ∧ w'.cell? ⟨w.heap.size, 4, none⟩ = some (.int .i64 (v 4 : Int))) (((try dsimp only); (repeat' apply And.intro); all_goals first | assumption | (go_keep; done) | (simp; omega))) (first
        | (go_at_call 29; refine (unhide PD _ (by exact unhide hPW)).mono ?_; rintro e w2 ⟨rfl, h2⟩; have k0 := keepC h2 (b := wr.heap.size) (o := 0) (v := .string ⟨#[58]⟩) (by exact y0); have k1 := keepC h2 (b := wr.heap.size) (o := 1) (v := .int .i64 2) (by exact y1); have k2 := keepC h2 (b := w.heap.size) (o := 4) (v := .int .i64 (v 4 : Int)) (by exact x0); have hB2 := hide (Bld.below (show Bld (w.heap.size + 1) (w.heap.size + 1) (txP v 4) (World.drew _) from unhide hBW) h2); have hs2 : wq.heap.size ≤ w2.heap.size := h2.size; have HM2 : Hid (Below wr.heap.size wr w2) := (unhide HA).trans (Below.mono (show Below wq.heap.size wq w2 from ⟨h2.os, h2.tape, h2.output, h2.size, h2.block⟩) (by omega)); have HLB2 := hide ((h2.block wr.heap.size (by show _ < wq.heap.size; omega)).trans (unhide HLB)); clear h2)
        | (go_at_call 28; refine (writeString_any (w.heap.size + 1) (w.heap.size + 1) (txP v 4) cs _ (unhide hB2) (by omega) (by omega)).mono ?_; rintro e w3 ⟨rfl, hb3, hm3, hm4⟩; have l3 := hm4 _ _ (unhide HLB2) (by intro z; have := Option.some.inj z; omega) (by intro c fz z; injection z with z1 z2; revert z2; decide); have k3 : w3.cell? ⟨wr.heap.size, 0, none⟩ = some (.string ⟨#[58]⟩) := blk_cell l3 0; have k4 : w3.cell? ⟨wr.heap.size, 1, none⟩ = some (.int .i64 2) := blk_cell l3 1; have k5 : w3.cell? ⟨w.heap.size, 4, none⟩ = some (.int .i64 (v 4 : Int)) := (hm3.cell (p := ⟨w.heap.size, 4, none⟩) (by show w.heap.size < w.heap.size + 1; omega)).trans k2))
      all_goals have HN := hide (TW.next (unhide HW) (by rw [← unhide HTX]; exact hb3) (((unhide HM2).mono (by omega)).trans hm3))
      all_goals clear hb3 hm3 hm4 l3 k3 k4 k5 k0 k1 k2 hB2 HM2 HLB2 HLB hBW hPW HA x0 y0 y1 PD HW HTX
      all_goals go_wp2
      all_goals exact ⟨⟨5, rfl, by omega, HN⟩, by simp [intOf]⟩
    · have hix := look_ix5
      have hb : v 5 < 10 ^ 2 := hv 5 (by omega) (by omega)
      have PD := hide (fun u (hu : Pow u) => padded_any (v 5) 2 (v 5) 2 rfl rfl (by omega) (by omega) hb u hu)
      have hlen : (⟨(digs 2 (v 5)).toArray⟩ : ByteArray).size = 2 := by show (digs 2 (v 5)).toArray.size = _; rw [List.size_toArray, digs_len]
      have hcat : (⟨#[58]⟩ : ByteArray) ++ ⟨(digs 2 (v 5)).toArray⟩ = ⟨((lkM 5).data.toList ++ digs 2 (v 5)).toArray⟩ := by
        apply ByteArray.ext
        simp [lkM, m1]
      have hml : (⟨#[58]⟩ : ByteArray).size ≤ 1 := by decide
      have HTX : Hid (txP v 5 ++ (⟨((lkM 5).data.toList ++ digs 2 (v 5)).toArray⟩ : ByteArray).data.toList = txP v 6) := rfl
      have hl := txP_len v 5 (by omega)
      have hcs : (⟨((lkM 5).data.toList ++ digs 2 (v 5)).toArray⟩ : ByteArray).size ≤ 5 := by rw [← hcat, ByteArray.size_append]; omega
      generalize (⟨((lkM 5).data.toList ++ digs 2 (v 5)).toArray⟩ : ByteArray) = cs at *
      generalize (⟨(digs 2 (v 5)).toArray⟩ : ByteArray) = ds at *
      have hcc : ∀ u : World, (Op.stringOp .add (⟨#[58]⟩ : ByteArray) ds).run Tryd.prog u = .ok (.string cs) u := fun u => by rw [← hcat]; exact run_string_add_sum u _ _ (by omega)
      have ha : Below wr.heap.size wr (wr.alloc (.cells #[.string ⟨#[58]⟩, .int .i64 2] 63)) := (Below.refl _ _).alloc (Nat.le_refl _) _
      have x0 : (wr.alloc (.cells #[.string ⟨#[58]⟩, .int .i64 2] 63)).cell? ⟨w.heap.size, 5, none⟩ = some (.int .i64 (v 5 : Int)) := blk_cell ((ha.block _ (by have := (unhide HW).size; omega)).trans (unhide HW).box) 5
      have hlb : (wr.alloc (.cells #[.string ⟨#[58]⟩, .int .i64 2] 63)).heap[wr.heap.size]? = some (.cells #[.string ⟨#[58]⟩, .int .i64 2] 63 (0, 0)) := Array.getElem?_push_size
      have y0 : (wr.alloc (.cells #[.string ⟨#[58]⟩, .int .i64 2] 63)).cell? ⟨wr.heap.size, 0, none⟩ = some (.string ⟨#[58]⟩) := blk_cell hlb 0
      have y1 : (wr.alloc (.cells #[.string ⟨#[58]⟩, .int .i64 2] 63)).cell? ⟨wr.heap.size, 1, none⟩ = some (.int .i64 2) := blk_cell hlb 1
      have HLB := hide hlb
      have hBW := hide (Bld.below (unhide HW).bld ha)
      have hPW := hide (((unhide HP).keep (unhide HW).below).keep ha)
      have HA := hide ha
      have hsz := (unhide HW).size
      have hz1 : (wr.alloc (.cells #[.string ⟨#[58]⟩, .int .i64 2] 63)).heap.size = wr.heap.size + 1 := World.size_alloc _ _
      clear hcat hml hb ha hlb
      go_wp2_with fail
      generalize wr.alloc (.cells #[.string ⟨#[58]⟩, .int .i64 2] 63) = wq at *
      go_region_held3 (fun w' => w'.cell? ⟨wr.heap.size, 0, none⟩ = some (.string ⟨#[58]⟩) ∧ w'.cell? ⟨wr.heap.size, 1, none⟩ = some (.int .i64 2) ∧ w'.cell? ⟨w.heap.size, 5, none⟩ = some (.int .i64 (v 5 : Int))) (((try dsimp only); (repeat' apply And.intro); all_goals first | assumption | (go_keep; done) | (simp; omega))) (first
        | (go_at_call 29; refine (unhide PD _ (by exact unhide hPW)).mono ?_; rintro e w2 ⟨rfl, h2⟩; have k0 := keepC h2 (b := wr.heap.size) (o := 0) (v := .string ⟨#[58]⟩) (by exact y0); have k1 := keepC h2 (b := wr.heap.size) (o := 1) (v := .int .i64 2) (by exact y1); have k2 := keepC h2 (b := w.heap.size) (o := 5) (v := .int .i64 (v 5 : Int)) (by exact x0); have hB2 := hide (Bld.below (show Bld (w.heap.size + 1) (w.heap.size + 1) (txP v 5) (World.drew _) from unhide hBW) h2); have hs2 : wq.heap.size ≤ w2.heap.size := h2.size; have HM2 : Hid (Below wr.heap.size wr w2) := (unhide HA).trans (Below.mono (show Below wq.heap.size wq w2 from ⟨h2.os, h2.tape, h2.output, h2.size, h2.block⟩) (by omega)); have HLB2 := hide ((h2.block wr.heap.size (by show _ < wq.heap.size; omega)).trans (unhide HLB)); clear h2)
        | (go_at_call 28; refine (writeString_any (w.heap.size + 1) (w.heap.size + 1) (txP v 5) cs _ (unhide hB2) (by omega) (by omega)).mono ?_; rintro e w3 ⟨rfl, hb3, hm3, hm4⟩; have l3 := hm4 _ _ (unhide HLB2) (by intro z; have := Option.some.inj z; omega) (by intro c fz z; injection z with z1 z2; revert z2; decide); have k3 : w3.cell? ⟨wr.heap.size, 0, none⟩ = some (.string ⟨#[58]⟩) := blk_cell l3 0; have k4 : w3.cell? ⟨wr.heap.size, 1, none⟩ = some (.int .i64 2) := blk_cell l3 1; have k5 : w3.cell? ⟨w.heap.size, 5, none⟩ = some (.int .i64 (v 5 : Int)) := (hm3.cell (p := ⟨w.heap.size, 5, none⟩) (by show w.heap.size < w.heap.size + 1; omega)).trans k2))
      all_goals have HN := hide (TW.next (unhide HW) (by rw [← unhide HTX]; exact hb3) (((unhide HM2).mono (by omega)).trans hm3))
      all_goals clear hb3 hm3 hm4 l3 k3 k4 k5 k0 k1 k2 hB2 HM2 HLB2 HLB hBW hPW HA x0 y0 y1 PD HW HTX
      all_goals go_wp2
      all_goals exact ⟨⟨6, rfl, by omega, HN⟩, by simp [intOf]⟩
    · have S := hide (Tryd.Builder_String_any_k (w.heap.size + 1) (w.heap.size + 1) (txP v 6) wr (unhide HW).bld (by have := (unhide HW).size; omega))
      have HB := hide (unhide HW).below
      clear HW
      go_wp2_with fail
      refine (unhide S).mono ?_
      rintro e w2 ⟨rfl, hb2, hb3, hb4⟩
      have HB2 := hide ((unhide HB).trans (hb3.mono (by omega)))
      clear S hb2 hb3 hb4 HB
      go_wp2
      go_ret
      exact ⟨rfl, unhide HB2⟩
end Go.Proofs.YtemcilikchlaiabDoor.st
