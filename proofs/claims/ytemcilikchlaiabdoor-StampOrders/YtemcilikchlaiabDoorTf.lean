/- Package stamp: the reader: part, looks, parts. -/
import Derived.Test.YtemcilikchlaiabDoorTe
namespace Go.Proofs.YtemcilikchlaiabDoor.st
open Go.RowKit

theorem RL.alloc {w : World} {m : Nat} {s : ByteArray} {x : Bool} (h : RL w m s x) (o : Obj) : RL (w.alloc o) m s x := (Below.heap_alloc w o m h.lt).trans h
def partV (m : ByteArray) (k : Nat) (s : ByteArray) : Nat := dgV k 0 (cutP s m).data.toList
def partS (m : ByteArray) (k : Nat) (s : ByteArray) : ByteArray := dropB (cutP s m) (dgN k (cutP s m).data.toList)
def partX (m : ByteArray) (k : Nat) (s : ByteArray) (x : Bool) : Bool := (x || !(preB s m)) || decide (dgN k (cutP s m).data.toList < k)
theorem trim_le (l p : List UInt8) : (Lib.trimPrefix l p).length ≤ l.length := by
  unfold Lib.trimPrefix
  split <;> simp
theorem cutP_le (s m : ByteArray) : (cutP s m).size ≤ s.size := by
  have := trim_le s.data.toList m.data.toList
  rw [blen] at this
  exact this
theorem dropB_le (s : ByteArray) (k : Nat) : (dropB s k).size ≤ s.size := by
  have : (s.data.toList.drop k).length ≤ s.data.toList.length := by simp
  rw [blen] at this
  exact this
theorem partS_le (m : ByteArray) (k : Nat) (s : ByteArray) : (partS m k s).size ≤ s.size := Nat.le_trans (dropB_le _ _) (cutP_le _ _)

set_option maxRecDepth 100000 in
set_option maxHeartbeats 3200000 in
theorem part_any (rb : Nat) (s m : ByteArray) (x : Bool) (k : Nat) (ki : Int) (hki : ki = (k : Int)) (hk : k ≤ 9) (w : World) (h : RL w rb s x) (hs : s.size ≤ 9223372036854775807) :
    Calls Tryd.prog 32 #[.pointer (some ⟨rb, 0, none⟩), .agg #[.string m, .int .i64 ki]] w fun e w' => e = .returned (.int .i64 (partV m k s : Nat)) ∧ RL w' rb (partS m k s) (partX m k s x) ∧ Mv rb w w' := by
  subst hki
  have hlt := h.lt
  have HB := hide ((Below.refl w.heap.size w).alloc (Nat.le_refl _) (.cells #[.string m, .int .i64 (k : Int)] 63))
  have N := hide (need_any rb s m x _ (h.alloc (.cells #[.string m, .int .i64 (k : Int)] 63)))
  have hs1 := cutP_le s m
  have hbx : (w.alloc (.cells #[.string m, .int .i64 (k : Int)] 63)).heap[w.heap.size]? = some (.cells #[.string m, .int .i64 (k : Int)] 63 (0, 0)) := by
    show (w.heap.push _)[w.heap.size]? = _
    rw [Array.getElem?_push_size]
  have HX := hide hbx
  clear h hbx
  unfold partV partS partX
  generalize cutP s m = s1 at *
  generalize (x || !(preB s m)) = x1 at *
  have hdn := (dgN_le k s1.data.toList).1
  have M := hide (fun w1 (h1 : RL w1 rb s1 x1) => number_any rb s1 x1 k k rfl hk w1 h1 (by omega))
  generalize dgV k 0 s1.data.toList = v at *
  generalize dgN k s1.data.toList = c at *
  go_enter Tryd.func32, Tryd.ntmps32
  go_wp2_with fail
  refine (unhide N).mono ?_
  rintro e w1 ⟨rfl, h1, hu1⟩
  have HX1 := hide ((hu1.block w.heap.size (by omega)).trans (unhide HX))
  have b0 : w1.cell? ⟨w.heap.size, 0, none⟩ = some (.string m) := blk_cell (unhide HX1) 0
  have b1 : w1.cell? ⟨w.heap.size, 1, none⟩ = some (.int .i64 (k : Int)) := blk_cell (unhide HX1) 1
  have M1 := hide (unhide M w1 h1)
  have HM1 := hide ((Mv.of_below (rb := rb) (unhide HB)).trans (Mv.of_upd hu1))
  clear N h1 hu1 HX HB M
  go_wp2_with fail
  refine (unhide M1).mono ?_
  rintro e w2 ⟨rfl, h2, hu2⟩
  have HX2 := hide ((hu2.block w.heap.size (by omega)).trans (unhide HX1))
  have d0 : w2.cell? ⟨w.heap.size, 0, none⟩ = some (.string m) := blk_cell (unhide HX2) 0
  have d1 : w2.cell? ⟨w.heap.size, 1, none⟩ = some (.int .i64 (k : Int)) := blk_cell (unhide HX2) 1
  have HM2 := hide ((unhide HM1).trans (Mv.of_upd hu2))
  obtain ⟨f0, f1⟩ := h2.frees
  obtain ⟨r0, r1⟩ := h2.cells
  have HL := hide h2
  clear M1 hu2 h2 b0 b1 HX1 HX2 HM1
  by_cases hc : c < k
  · have hc' : (c : Int) < (k : Int) := by omega
    have HZ := hide (show (x1 || decide (c < k)) = true by rw [decide_eq_true hc, Bool.or_true])
    clear hc
    go_wp2
    go_ret
    exact ⟨rfl, by rw [unhide HZ]; exact (unhide HL).set1 true, (unhide HM2).trans (Mv.of_upd (Upd.setCell rb 1 w2 _))⟩
  · have hc' : ¬ (c : Int) < (k : Int) := by omega
    have HZ := hide (show (x1 || decide (c < k)) = x1 by rw [decide_eq_false hc, Bool.or_false])
    clear hc
    go_wp2
    go_ret
    exact ⟨rfl, by rw [unhide HZ]; exact unhide HL, unhide HM2⟩

def m0 : ByteArray := ⟨#[]⟩
def m1 (c : UInt8) : ByteArray := ⟨#[c]⟩
def looksC : Array Value := #[.string m0, .int .i64 4, .string (m1 45), .int .i64 2, .string (m1 45), .int .i64 2, .string (m1 84), .int .i64 2, .string (m1 58), .int .i64 2, .string (m1 58), .int .i64 2]
def looksV : Value := .agg looksC
theorem ret_looks {b : Nat} (w : World) (h : w.heap[b]? = some (.cells looksC 64 (0, 0))) (tmps : Array Value) (ht : tmps[0]?.getD undef = .pointer (some ⟨b, 0, none⟩)) :
    (results Tryd.f27 tmps).run Tryd.prog w = .ok looksV w := by
  have q0 : w.cell? ⟨b, 0, none⟩ = some (.string m0) := blk_cell h 0
  have q1 : w.cell? ⟨b, 1, none⟩ = some (.int .i64 4) := blk_cell h 1
  have q2 : w.cell? ⟨b, 2, none⟩ = some (.string (m1 45)) := blk_cell h 2
  have q3 : w.cell? ⟨b, 3, none⟩ = some (.int .i64 2) := blk_cell h 3
  have q4 : w.cell? ⟨b, 4, none⟩ = some (.string (m1 45)) := blk_cell h 4
  have q5 : w.cell? ⟨b, 5, none⟩ = some (.int .i64 2) := blk_cell h 5
  have q6 : w.cell? ⟨b, 6, none⟩ = some (.string (m1 84)) := blk_cell h 6
  have q7 : w.cell? ⟨b, 7, none⟩ = some (.int .i64 2) := blk_cell h 7
  have q8 : w.cell? ⟨b, 8, none⟩ = some (.string (m1 58)) := blk_cell h 8
  have q9 : w.cell? ⟨b, 9, none⟩ = some (.int .i64 2) := blk_cell h 9
  have q10 : w.cell? ⟨b, 10, none⟩ = some (.string (m1 58)) := blk_cell h 10
  have q11 : w.cell? ⟨b, 11, none⟩ = some (.int .i64 2) := blk_cell h 11
  simp [results, Tryd.results27, ht, go_sem, q0, q1, q2, q3, q4, q5, q6, q7, q8, q9, q10, q11, looksV, looksC]
set_option maxRecDepth 100000 in
set_option maxHeartbeats 3200000 in
theorem looks_any (w : World) : Calls Tryd.prog 27 #[] w fun e w' => e = .returned looksV ∧ Below w.heap.size w w' := by
  go_enter Tryd.func27, Tryd.ntmps27
  go_wp2
  refine bodyPost_ret (ret_looks (b := w.heap.size) _ ?_ _ rfl) rfl ?_
  · show (w.heap.push _)[w.heap.size]? = _
    rw [Array.getElem?_push_size]
    rfl
  · exact ⟨rfl, (Below.refl w.heap.size w).alloc (Nat.le_refl _) _⟩

/-- The looks, one by one. -/
def lkM : Nat → ByteArray
  | 0 => m0
  | 1 => m1 45
  | 2 => m1 45
  | 3 => m1 84
  | _ => m1 58
def lkK : Nat → Nat
  | 0 => 4
  | _ => 2
/-- What is left behind so many parts, and whether something was wrong. -/
def rdS (s : ByteArray) : Nat → ByteArray
  | 0 => s
  | k + 1 => partS (lkM k) (lkK k) (rdS s k)
def rdX (s : ByteArray) : Nat → Bool
  | 0 => false
  | k + 1 => partX (lkM k) (lkK k) (rdS s k) (rdX s k)
def rdV (s : ByteArray) (k : Nat) : Nat := partV (lkM k) (lkK k) (rdS s k)
theorem rdS_le (s : ByteArray) (k : Nat) : (rdS s k).size ≤ s.size := by
  induction k with
  | zero => exact Nat.le_refl _
  | succ k ih => exact Nat.le_trans (partS_le _ _ _) ih
def cv (s : ByteArray) (k i : Nat) : Value := .int .i64 (if i < k then (rdV s i : Int) else 0)
def pbA (s : ByteArray) (k : Nat) : Array Value := #[cv s k 0, cv s k 1, cv s k 2, cv s k 3, cv s k 4, cv s k 5]
def partsV (s : ByteArray) : Value := .agg #[.int .i64 (rdV s 0 : Int), .int .i64 (rdV s 1 : Int), .int .i64 (rdV s 2 : Int), .int .i64 (rdV s 3 : Int), .int .i64 (rdV s 4 : Int), .int .i64 (rdV s 5 : Int)]
/-- Behind so many parts. -/
structure PW (w wr : World) (rb : Nat) (s : ByteArray) (k : Nat) : Prop where
  rl : RL wr rb (rdS s k) (rdX s k)
  pb : wr.heap[w.heap.size + 1]? = some (.cells (pbA s k) 46 (0, 0))
  res : wr.heap[w.heap.size]? = some (.cells #[.int .i64 0, .int .i64 0, .int .i64 0, .int .i64 0, .int .i64 0, .int .i64 0] 46 (0, 0))
  mv : Mv rb w wr
theorem lt_of_blk {w : World} {b : Nat} {o : Obj} (h : w.heap[b]? = some o) : b < w.heap.size := by
  rcases Nat.lt_or_ge b w.heap.size with q | q
  · exact q
  · rw [Array.getElem?_eq_none q] at h; cases h
theorem PW.next {w wr w2 : World} {rb : Nat} {s : ByteArray} {k : Nat} (h : PW w wr rb s k) (hrb : rb < w.heap.size) (hk : k < 6) (o : Obj) (h2 : RL w2 rb (rdS s (k + 1)) (rdX s (k + 1))) (hm : Mv rb (wr.alloc o) w2) :
    PW w (w2.setCell ⟨w.heap.size + 1, k, none⟩ (.int .i64 (rdV s k : Int))) rb s (k + 1) ∧ w2.frozen? ⟨w.heap.size + 1, k, none⟩ = false ∧ ∃ v, w2.cell? ⟨w.heap.size + 1, k, none⟩ = some v := by
  have ha : Below wr.heap.size wr (wr.alloc o) := (Below.refl _ _).alloc (Nat.le_refl _) _
  have l1 := lt_of_blk h.pb
  have l0 := lt_of_blk h.res
  have p2 : w2.heap[w.heap.size + 1]? = some (.cells (pbA s k) 46 (0, 0)) := (hm.block _ (Nat.lt_of_lt_of_le l1 ha.size) (by omega)).trans ((ha.block _ l1).trans h.pb)
  have q2 : w2.heap[w.heap.size]? = some (.cells #[.int .i64 0, .int .i64 0, .int .i64 0, .int .i64 0, .int .i64 0, .int .i64 0] 46 (0, 0)) := (hm.block _ (Nat.lt_of_lt_of_le l0 ha.size) (by omega)).trans ((ha.block _ l0).trans h.res)
  have hu := Upd.setCell (w.heap.size + 1) k w2 (.int .i64 (rdV s k : Int))
  refine ⟨⟨(hu.block rb (by omega)).trans h2, ?_, (hu.block _ (by omega)).trans q2, ?_⟩, blk_free p2 k, ?_⟩
  · rw [show pbA s (k + 1) = (pbA s k).setIfInBounds k (.int .i64 (rdV s k : Int)) by
      have : k = 0 ∨ k = 1 ∨ k = 2 ∨ k = 3 ∨ k = 4 ∨ k = 5 := by omega
      rcases this with rfl | rfl | rfl | rfl | rfl | rfl <;> rfl]
    exact blk_set p2 k _
  · have g := h.mv.trans ((Mv.of_below ha).trans hm)
    exact ⟨hu.os.trans g.os, hu.tape.trans g.tape, hu.output.trans g.output, by rw [hu.size]; exact g.size, fun j q z => (hu.block j (by omega)).trans (g.block j q z)⟩
  · rw [blk_cell p2 k]
    have : k = 0 ∨ k = 1 ∨ k = 2 ∨ k = 3 ∨ k = 4 ∨ k = 5 := by omega
    rcases this with rfl | rfl | rfl | rfl | rfl | rfl <;> exact ⟨_, rfl⟩
theorem ret_parts {b : Nat} (w : World) (s : ByteArray) (h : w.heap[b]? = some (.cells (pbA s 6) 46 (0, 0))) (tmps : Array Value) (ht : tmps[2]?.getD undef = .pointer (some ⟨b, 0, none⟩)) :
    (results Tryd.f18 tmps).run Tryd.prog w = .ok (partsV s) w := by
  have q0 : w.cell? ⟨b, 0, none⟩ = some (.int .i64 (rdV s 0 : Int)) := blk_cell h 0
  have q1 : w.cell? ⟨b, 1, none⟩ = some (.int .i64 (rdV s 1 : Int)) := blk_cell h 1
  have q2 : w.cell? ⟨b, 2, none⟩ = some (.int .i64 (rdV s 2 : Int)) := blk_cell h 2
  have q3 : w.cell? ⟨b, 3, none⟩ = some (.int .i64 (rdV s 3 : Int)) := blk_cell h 3
  have q4 : w.cell? ⟨b, 4, none⟩ = some (.int .i64 (rdV s 4 : Int)) := blk_cell h 4
  have q5 : w.cell? ⟨b, 5, none⟩ = some (.int .i64 (rdV s 5 : Int)) := blk_cell h 5
  simp [results, Tryd.results18, ht, go_sem, q0, q1, q2, q3, q4, q5, partsV]
theorem look_ix0 (u : World) : (Instr.index 64 (.agg #[.string ⟨#[]⟩, .int .i64 4, .string ⟨#[45]⟩, .int .i64 2, .string ⟨#[45]⟩, .int .i64 2, .string ⟨#[84]⟩, .int .i64 2, .string ⟨#[58]⟩, .int .i64 2, .string ⟨#[58]⟩, .int .i64 2]) (.int .i64 0)).run Tryd.prog u = .ok (.agg #[.string ⟨#[]⟩, .int .i64 4]) u := by kernel_rfl
theorem look_ix1 (u : World) : (Instr.index 64 (.agg #[.string ⟨#[]⟩, .int .i64 4, .string ⟨#[45]⟩, .int .i64 2, .string ⟨#[45]⟩, .int .i64 2, .string ⟨#[84]⟩, .int .i64 2, .string ⟨#[58]⟩, .int .i64 2, .string ⟨#[58]⟩, .int .i64 2]) (.int .i64 1)).run Tryd.prog u = .ok (.agg #[.string ⟨#[45]⟩, .int .i64 2]) u := by kernel_rfl
theorem look_ix2 (u : World) : (Instr.index 64 (.agg #[.string ⟨#[]⟩, .int .i64 4, .string ⟨#[45]⟩, .int .i64 2, .string ⟨#[45]⟩, .int .i64 2, .string ⟨#[84]⟩, .int .i64 2, .string ⟨#[58]⟩, .int .i64 2, .string ⟨#[58]⟩, .int .i64 2]) (.int .i64 2)).run Tryd.prog u = .ok (.agg #[.string ⟨#[45]⟩, .int .i64 2]) u := by kernel_rfl
theorem look_ix3 (u : World) : (Instr.index 64 (.agg #[.string ⟨#[]⟩, .int .i64 4, .string ⟨#[45]⟩, .int .i64 2, .string ⟨#[45]⟩, .int .i64 2, .string ⟨#[84]⟩, .int .i64 2, .string ⟨#[58]⟩, .int .i64 2, .string ⟨#[58]⟩, .int .i64 2]) (.int .i64 3)).run Tryd.prog u = .ok (.agg #[.string ⟨#[84]⟩, .int .i64 2]) u := by kernel_rfl
theorem look_ix4 (u : World) : (Instr.index 64 (.agg #[.string ⟨#[]⟩, .int .i64 4, .string ⟨#[45]⟩, .int .i64 2, .string ⟨#[45]⟩, .int .i64 2, .string ⟨#[84]⟩, .int .i64 2, .string ⟨#[58]⟩, .int .i64 2, .string ⟨#[58]⟩, .int .i64 2]) (.int .i64 4)).run Tryd.prog u = .ok (.agg #[.string ⟨#[58]⟩, .int .i64 2]) u := by kernel_rfl
theorem look_ix5 (u : World) : (Instr.index 64 (.agg #[.string ⟨#[]⟩, .int .i64 4, .string ⟨#[45]⟩, .int .i64 2, .string ⟨#[45]⟩, .int .i64 2, .string ⟨#[84]⟩, .int .i64 2, .string ⟨#[58]⟩, .int .i64 2, .string ⟨#[58]⟩, .int .i64 2]) (.int .i64 5)).run Tryd.prog u = .ok (.agg #[.string ⟨#[58]⟩, .int .i64 2]) u := by kernel_rfl
set_option maxRecDepth 100000 in
set_option maxHeartbeats 6400000 in
theorem parts_any (rb : Nat) (s : ByteArray) (w : World) (h : RL w rb s false) (hs : s.size ≤ 9223372036854775807) :
    Calls Tryd.prog 18 #[.pointer (some ⟨rb, 0, none⟩)] w fun e w' => e = .returned (partsV s) ∧ RL w' rb (rdS s 6) (rdX s 6) ∧ Mv rb w w' := by
  have hlt := h.lt
  have HP := hide (fun (w1 : World) (hb : Below ((w.alloc (.cells #[.int .i64 0, .int .i64 0, .int .i64 0, .int .i64 0, .int .i64 0, .int .i64 0] 46)).alloc (.cells #[.int .i64 0, .int .i64 0, .int .i64 0, .int .i64 0, .int .i64 0, .int .i64 0] 46)).heap.size ((w.alloc (.cells #[.int .i64 0, .int .i64 0, .int .i64 0, .int .i64 0, .int .i64 0, .int .i64 0] 46)).alloc (.cells #[.int .i64 0, .int .i64 0, .int .i64 0, .int .i64 0, .int .i64 0, .int .i64 0] 46)) w1) => (show PW w w1 rb s 0 from by
    have e0 : ((w.alloc (.cells #[.int .i64 0, .int .i64 0, .int .i64 0, .int .i64 0, .int .i64 0, .int .i64 0] 46)).alloc (.cells #[.int .i64 0, .int .i64 0, .int .i64 0, .int .i64 0, .int .i64 0, .int .i64 0] 46)).heap[w.heap.size + 1]? = some (.cells #[.int .i64 0, .int .i64 0, .int .i64 0, .int .i64 0, .int .i64 0, .int .i64 0] 46 (0, 0)) := by
      have := Array.getElem?_push_size (xs := (w.alloc (.cells #[.int .i64 0, .int .i64 0, .int .i64 0, .int .i64 0, .int .i64 0, .int .i64 0] 46)).heap) (x := (.cells #[.int .i64 0, .int .i64 0, .int .i64 0, .int .i64 0, .int .i64 0, .int .i64 0] 46 (0, 0) : Obj))
      rwa [World.size_alloc] at this
    have e1 : (w.alloc (.cells #[.int .i64 0, .int .i64 0, .int .i64 0, .int .i64 0, .int .i64 0, .int .i64 0] 46)).heap[w.heap.size]? = some (.cells #[.int .i64 0, .int .i64 0, .int .i64 0, .int .i64 0, .int .i64 0, .int .i64 0] 46 (0, 0)) := Array.getElem?_push_size
    have e2 := (Below.heap_alloc (w.alloc (.cells #[.int .i64 0, .int .i64 0, .int .i64 0, .int .i64 0, .int .i64 0, .int .i64 0] 46)) (.cells #[.int .i64 0, .int .i64 0, .int .i64 0, .int .i64 0, .int .i64 0, .int .i64 0] 46) w.heap.size (by rw [World.size_alloc]; omega)).trans e1
    exact ⟨((hb.block rb (by simp; omega)).trans ((h.alloc _).alloc _)), (hb.block _ (by simp)).trans e0, (hb.block _ (by simp; omega)).trans e2,
      (Mv.of_below (((Below.refl w.heap.size w).alloc (Nat.le_refl _) _).alloc (by simp) _)).trans (Mv.of_below hb)⟩))
  clear h
  have LK := hide (looks_any)
  unfold looksV looksC m0 m1 at LK
  go_enter Tryd.func18, Tryd.ntmps18
  go_wp2_with fail
  refine (unhide LK _).mono ?_
  rintro e w1 ⟨rfl, hb1⟩
  have HW := hide (unhide HP w1 hb1)
  clear hb1 LK HP
  go_wp2
  go_loopw [7] (fun i wr => ∃ k : Nat, i = .int .i64 (k : Int) ∧ k ≤ 6 ∧ Hid (PW w wr rb s k)) (fun i _ => 6 - (intOf i).toNat)
  case atStart => exact ⟨0, rfl, by omega, HW⟩
  case round =>
    clear HW
    obtain ⟨k, rfl, hk, HW⟩ := hrel
    have : k = 0 ∨ k = 1 ∨ k = 2 ∨ k = 3 ∨ k = 4 ∨ k = 5 ∨ k = 6 := by omega
    rcases this with rfl | rfl | rfl | rfl | rfl | rfl | rfl
    · have hix := look_ix0
      have HP := hide (fun u hu => part_any rb (rdS s 0) ⟨#[]⟩ (rdX s 0) 4 4 rfl (by omega) u hu (Nat.le_trans (rdS_le s 0) hs))
      have HO := hide ((unhide HW).rl.alloc (.cells #[.string ⟨#[]⟩, .int .i64 4] 63))
      have HN := hide (fun w2 h2 hm => (unhide HW).next (w2 := w2) hlt (by omega) (.cells #[.string ⟨#[]⟩, .int .i64 4] 63) h2 hm)
      clear HW
      go_wp2_with fail
      refine (unhide HP _ (unhide HO)).mono ?_
      rintro e w2 ⟨rfl, h2, hm2⟩
      obtain ⟨g1, g2, g3⟩ := unhide HN w2 h2 hm2
      have HG := hide g1
      obtain ⟨vv, g3⟩ := g3
      clear HP HO HN h2 hm2 g1 hix
      go_wp2
      exact ⟨⟨1, rfl, by omega, unhide HG⟩, by simp [intOf]⟩
    · have hix := look_ix1
      have HP := hide (fun u hu => part_any rb (rdS s 1) ⟨#[45]⟩ (rdX s 1) 2 2 rfl (by omega) u hu (Nat.le_trans (rdS_le s 1) hs))
      have HO := hide ((unhide HW).rl.alloc (.cells #[.string ⟨#[45]⟩, .int .i64 2] 63))
      have HN := hide (fun w2 h2 hm => (unhide HW).next (w2 := w2) hlt (by omega) (.cells #[.string ⟨#[45]⟩, .int .i64 2] 63) h2 hm)
      clear HW
      go_wp2_with fail
      refine (unhide HP _ (unhide HO)).mono ?_
      rintro e w2 ⟨rfl, h2, hm2⟩
      obtain ⟨g1, g2, g3⟩ := unhide HN w2 h2 hm2
      have HG := hide g1
      obtain ⟨vv, g3⟩ := g3
      clear HP HO HN h2 hm2 g1 hix
      go_wp2
      exact ⟨⟨2, rfl, by omega, unhide HG⟩, by simp [intOf]⟩
    · have hix := look_ix2
      have HP := hide (fun u hu => part_any rb (rdS s 2) ⟨#[45]⟩ (rdX s 2) 2 2 rfl (by omega) u hu (Nat.le_trans (rdS_le s 2) hs))
      have HO := hide ((unhide HW).rl.alloc (.cells #[.string ⟨#[45]⟩, .int .i64 2] 63))
      have HN := hide (fun w2 h2 hm => (unhide HW).next (w2 := w2) hlt (by omega) (.cells #[.string ⟨#[45]⟩, .int .i64 2] 63) h2 hm)
      clear HW
      go_wp2_with fail
      refine (unhide HP _ (unhide HO)).mono ?_
      rintro e w2 ⟨rfl, h2, hm2⟩
      obtain ⟨g1, g2, g3⟩ := unhide HN w2 h2 hm2
      have HG := hide g1
      obtain ⟨vv, g3⟩ := g3
      clear HP HO HN h2 hm2 g1 hix
      go_wp2
      exact ⟨⟨3, rfl, by omega, unhide HG⟩, by simp [intOf]⟩
    · have hix := look_ix3
      have HP := hide (fun u hu => part_any rb (rdS s 3) ⟨#[84]⟩ (rdX s 3) 2 2 rfl (by omega) u hu (Nat.le_trans (rdS_le s 3) hs))
      have HO := hide ((unhide HW).rl.alloc (.cells #[.string ⟨#[84]⟩, .int .i64 2] 63))
      have HN := hide (fun w2 h2 hm => (unhide HW).next (w2 := w2) hlt (by omega) (.cells #[.string ⟨#[84]⟩, .int .i64 2] 63) h2 hm)
      clear HW
      go_wp2_with fail
      refine (unhide HP _ (unhide HO)).mono ?_
      rintro e w2 ⟨rfl, h2, hm2⟩
      obtain ⟨g1, g2, g3⟩ := unhide HN w2 h2 hm2
      have HG := hide g1
      obtain ⟨vv, g3⟩ := g3
      clear HP HO HN h2 hm2 g1 hix
      go_wp2
      exact ⟨⟨4, rfl, by omega, unhide HG⟩, by simp [intOf]⟩
    · have hix := look_ix4
      have HP := hide (fun u hu => part_any rb (rdS s 4) ⟨#[58]⟩ (rdX s 4) 2 2 rfl (by omega) u hu (Nat.le_trans (rdS_le s 4) hs))
      have HO := hide ((unhide HW).rl.alloc (.cells #[.string ⟨#[58]⟩, .int .i64 2] 63))
      have HN := hide (fun w2 h2 hm => (unhide HW).next (w2 := w2) hlt (by omega) (.cells #[.string ⟨#[58]⟩, .int .i64 2] 63) h2 hm)
      clear HW
      go_wp2_with fail
      refine (unhide HP _ (unhide HO)).mono ?_
      rintro e w2 ⟨rfl, h2, hm2⟩
      obtain ⟨g1, g2, g3⟩ := unhide HN w2 h2 hm2
      have HG := hide g1
      obtain ⟨vv, g3⟩ := g3
      clear HP HO HN h2 hm2 g1 hix
      go_wp2
      exact ⟨⟨5, rfl, by omega, unhide HG⟩, by simp [intOf]⟩
    · have hix := look_ix5
      have HP := hide (fun u hu => part_any rb (rdS s 5) ⟨#[58]⟩ (rdX s 5) 2 2 rfl (by omega) u hu (Nat.le_trans (rdS_le s 5) hs))
      have HO := hide ((unhide HW).rl.alloc (.cells #[.string ⟨#[58]⟩, .int .i64 2] 63))
      have HN := hide (fun w2 h2 hm => (unhide HW).next (w2 := w2) hlt (by omega) (.cells #[.string ⟨#[58]⟩, .int .i64 2] 63) h2 hm)
      clear HW
      go_wp2_with fail
      refine (unhide HP _ (unhide HO)).mono ?_
      rintro e w2 ⟨rfl, h2, hm2⟩
      obtain ⟨g1, g2, g3⟩ := unhide HN w2 h2 hm2
      have HG := hide g1
      obtain ⟨vv, g3⟩ := g3
      clear HP HO HN h2 hm2 g1 hix
      go_wp2
      exact ⟨⟨6, rfl, by omega, unhide HG⟩, by simp [intOf]⟩
    · obtain ⟨rl, pb, res, mv⟩ := unhide HW
      clear HW
      have HL := hide (lt_of_blk pb)
      have p0 : wr.cell? ⟨w.heap.size + 1, 0, none⟩ = some (.int .i64 (rdV s 0 : Int)) := blk_cell pb 0
      have p1 : wr.cell? ⟨w.heap.size + 1, 1, none⟩ = some (.int .i64 (rdV s 1 : Int)) := blk_cell pb 1
      have p2 : wr.cell? ⟨w.heap.size + 1, 2, none⟩ = some (.int .i64 (rdV s 2 : Int)) := blk_cell pb 2
      have p3 : wr.cell? ⟨w.heap.size + 1, 3, none⟩ = some (.int .i64 (rdV s 3 : Int)) := blk_cell pb 3
      have p4 : wr.cell? ⟨w.heap.size + 1, 4, none⟩ = some (.int .i64 (rdV s 4 : Int)) := blk_cell pb 4
      have p5 : wr.cell? ⟨w.heap.size + 1, 5, none⟩ = some (.int .i64 (rdV s 5 : Int)) := blk_cell pb 5
      have f0 : wr.frozen? ⟨w.heap.size, 0, none⟩ = false := blk_free res 0
      have r0 : wr.cell? ⟨w.heap.size, 0, none⟩ = some (.int .i64 0) := blk_cell res 0
      have f1 : wr.frozen? ⟨w.heap.size, 1, none⟩ = false := blk_free res 1
      have r1 : wr.cell? ⟨w.heap.size, 1, none⟩ = some (.int .i64 0) := blk_cell res 1
      have f2 : wr.frozen? ⟨w.heap.size, 2, none⟩ = false := blk_free res 2
      have r2 : wr.cell? ⟨w.heap.size, 2, none⟩ = some (.int .i64 0) := blk_cell res 2
      have f3 : wr.frozen? ⟨w.heap.size, 3, none⟩ = false := blk_free res 3
      have r3 : wr.cell? ⟨w.heap.size, 3, none⟩ = some (.int .i64 0) := blk_cell res 3
      have f4 : wr.frozen? ⟨w.heap.size, 4, none⟩ = false := blk_free res 4
      have r4 : wr.cell? ⟨w.heap.size, 4, none⟩ = some (.int .i64 0) := blk_cell res 4
      have f5 : wr.frozen? ⟨w.heap.size, 5, none⟩ = false := blk_free res 5
      have r5 : wr.cell? ⟨w.heap.size, 5, none⟩ = some (.int .i64 0) := blk_cell res 5
      have hu := (Upd.setCell w.heap.size 0 wr (.int .i64 (rdV s 0 : Int))).trans ((Upd.setCell w.heap.size 1 _ (.int .i64 (rdV s 1 : Int))).trans ((Upd.setCell w.heap.size 2 _ (.int .i64 (rdV s 2 : Int))).trans ((Upd.setCell w.heap.size 3 _ (.int .i64 (rdV s 3 : Int))).trans ((Upd.setCell w.heap.size 4 _ (.int .i64 (rdV s 4 : Int))).trans (Upd.setCell w.heap.size 5 _ (.int .i64 (rdV s 5 : Int)))))))
      have HU := hide hu
      have HS := hide ((blk_set (blk_set (blk_set (blk_set (blk_set (blk_set res 0 (.int .i64 (rdV s 0 : Int))) 1 (.int .i64 (rdV s 1 : Int))) 2 (.int .i64 (rdV s 2 : Int))) 3 (.int .i64 (rdV s 3 : Int))) 4 (.int .i64 (rdV s 4 : Int))) 5 (.int .i64 (rdV s 5 : Int))))
      clear hu
      go_wp2
      refine bodyPost_ret (ret_parts (b := w.heap.size) _ s (unhide HS) _ rfl) rfl ?_
      exact ⟨rfl, ((unhide HU).block rb (by omega)).trans rl, ⟨(unhide HU).os.trans mv.os, (unhide HU).tape.trans mv.tape, (unhide HU).output.trans mv.output, by rw [(unhide HU).size]; exact mv.size, fun j q z => ((unhide HU).block j (by omega)).trans (mv.block j q z)⟩⟩
end Go.Proofs.YtemcilikchlaiabDoor.st
