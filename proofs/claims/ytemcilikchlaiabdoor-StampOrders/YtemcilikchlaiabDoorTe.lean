/- Package stamp: the reader: take, need, number, part. -/
import Derived.Test.YtemcilikchlaiabDoorTa
import Derived.Test.YtemcilikchlaiabDoorTb
namespace Go.Proofs.YtemcilikchlaiabDoor.st
open Go.RowKit

/-- A reader lies in block rb: what is left, and whether something was wrong. -/
def RL (w : World) (rb : Nat) (s : ByteArray) (x : Bool) : Prop := w.heap[rb]? = some (.cells #[.string s, .bool x] 50 (0, 0))
theorem RL.cells {w : World} {m : Nat} {s : ByteArray} {x : Bool} (h : RL w m s x) : w.cell? ⟨m, 0, none⟩ = some (.string s) ∧ w.cell? ⟨m, 1, none⟩ = some (.bool x) := ⟨blk_cell h 0, blk_cell h 1⟩
theorem RL.frees {w : World} {m : Nat} {s : ByteArray} {x : Bool} (h : RL w m s x) : w.frozen? ⟨m, 0, none⟩ = false ∧ w.frozen? ⟨m, 1, none⟩ = false := ⟨blk_free h 0, blk_free h 1⟩
theorem RL.set0 {w : World} {m : Nat} {s : ByteArray} {x : Bool} (h : RL w m s x) (s' : ByteArray) : RL (w.setCell ⟨m, 0, none⟩ (.string s')) m s' x := blk_set h 0 _
theorem RL.set1 {w : World} {m : Nat} {s : ByteArray} {x : Bool} (h : RL w m s x) (x' : Bool) : RL (w.setCell ⟨m, 1, none⟩ (.bool x')) m s x' := blk_set h 1 _
theorem RL.lt {w : World} {m : Nat} {s : ByteArray} {x : Bool} (h : RL w m s x) : m < w.heap.size := by
  rcases Nat.lt_or_ge m w.heap.size with q | q
  · exact q
  · unfold RL at h; rw [Array.getElem?_eq_none q] at h; cases h
/-- But for one block, all that was there is as it was. -/
structure Mv (rb : Nat) (w w' : World) : Prop where
  os : w'.os = w.os
  tape : w'.tape = w.tape
  output : w'.output = w.output
  size : w.heap.size ≤ w'.heap.size
  block : ∀ k, k < w.heap.size → k ≠ rb → w'.heap[k]? = w.heap[k]?
theorem Mv.refl (rb : Nat) (w : World) : Mv rb w w := ⟨rfl, rfl, rfl, Nat.le_refl _, fun _ _ _ => rfl⟩
theorem Mv.trans {rb : Nat} {a b c : World} (h : Mv rb a b) (g : Mv rb b c) : Mv rb a c :=
  ⟨g.os.trans h.os, g.tape.trans h.tape, g.output.trans h.output, Nat.le_trans h.size g.size, fun k q z => (g.block k (Nat.lt_of_lt_of_le q h.size) z).trans (h.block k q z)⟩
theorem Mv.of_upd {rb : Nat} {a b : World} (h : Upd rb a b) : Mv rb a b := ⟨h.os, h.tape, h.output, by rw [h.size]; exact Nat.le_refl _, fun k _ z => h.block k z⟩
theorem Mv.of_below {rb : Nat} {a b : World} (h : Below a.heap.size a b) : Mv rb a b := ⟨h.os, h.tape, h.output, h.size, fun k q _ => h.block k q⟩
theorem Mv.below {B rb : Nat} {w0 w w' : World} (h : Mv rb w w') (g : Below B w0 w) (hr : B ≤ rb) (hB : B ≤ w0.heap.size) : Below B w0 w' :=
  ⟨h.os.trans g.os, h.tape.trans g.tape, h.output.trans g.output, Nat.le_trans g.size h.size, fun k q => (h.block k (Nat.lt_of_lt_of_le q (Nat.le_trans hB g.size)) (by omega)).trans (g.block k q)⟩
theorem RL.moved {w w' : World} {m rb : Nat} {s : ByteArray} {x : Bool} (h : RL w m s x) (g : Mv rb w w') (hm : m ≠ rb) : RL w' m s x := (g.block m h.lt hm).trans h

def preB (s p : ByteArray) : Bool := Lib.hasPrefix s.data.toList p.data.toList
def cutP (s p : ByteArray) : ByteArray := ⟨(Lib.trimPrefix s.data.toList p.data.toList).toArray⟩
set_option maxRecDepth 100000 in
theorem take_any (rb : Nat) (s m : ByteArray) (x : Bool) (w : World) (h : RL w rb s x) :
    Calls Tryd.prog 33 #[.pointer (some ⟨rb, 0, none⟩), .string m] w fun e w' => e = .returned (.bool (preB s m)) ∧ RL w' rb (cutP s m) x ∧ Upd rb w w' := by
  obtain ⟨c0, c1⟩ := h.cells
  obtain ⟨f0, f1⟩ := h.frees
  have HL := hide h
  have C := hide (Tryd.strings_CutPrefix s m w)
  have e1 : (⟨(Lib.trimPrefix s.data.toList m.data.toList).toArray⟩ : ByteArray) = cutP s m := rfl
  have e2 : Lib.hasPrefix s.data.toList m.data.toList = preB s m := rfl
  rw [e1, e2] at C
  generalize cutP s m = q at *
  generalize preB s m = b at *
  clear e1 e2 h
  go_enter Tryd.func33, Tryd.ntmps33
  go_wp2_with fail
  refine (unhide C).mono ?_
  rintro e u ⟨rfl, hu⟩
  obtain rfl := hu.symm
  clear hu C
  go_wp2
  go_ret
  exact ⟨rfl, (unhide HL).set0 q, Upd.setCell rb 0 w _⟩
set_option maxRecDepth 100000 in
theorem need_any (rb : Nat) (s m : ByteArray) (x : Bool) (w : World) (h : RL w rb s x) :
    Calls Tryd.prog 35 #[.pointer (some ⟨rb, 0, none⟩), .string m] w fun e w' => e = .returned (.tuple #[]) ∧ RL w' rb (cutP s m) (x || !(preB s m)) ∧ Upd rb w w' := by
  have T := hide (take_any rb s m x w h)
  clear h
  generalize cutP s m = q at *
  generalize preB s m = b at *
  go_enter Tryd.func35, Tryd.ntmps35
  go_wp2_with fail
  refine (unhide T).mono ?_
  rintro e w1 ⟨rfl, h1, hu⟩
  clear T
  cases b
  · obtain ⟨f0, f1⟩ := h1.frees
    obtain ⟨c0, c1⟩ := h1.cells
    have HL := hide h1
    have HU := hide hu
    clear h1 hu
    go_wp2
    refine bodyPost_end (results_none rfl _ _ _) rfl ?_
    exact ⟨rfl, by rw [Bool.not_false, Bool.or_true]; exact (unhide HL).set1 true, (unhide HU).trans (Upd.setCell rb 1 w1 _)⟩
  · have HL := hide h1
    have HU := hide hu
    clear h1 hu
    go_wp2
    refine bodyPost_end (results_none rfl _ _ _) rfl ?_
    exact ⟨rfl, by rw [Bool.not_true, Bool.or_false]; exact unhide HL, unhide HU⟩

/-- Of so many digits at most, those that stand at the beginning: how many, and their number. -/
def dgN : Nat → List UInt8 → Nat
  | 0, _ => 0
  | _ + 1, [] => 0
  | k + 1, c :: l => if 48 ≤ c.toNat ∧ c.toNat ≤ 57 then dgN k l + 1 else 0
def dgV : Nat → Nat → List UInt8 → Nat
  | 0, acc, _ => acc
  | _ + 1, acc, [] => acc
  | k + 1, acc, c :: l => if 48 ≤ c.toNat ∧ c.toNat ≤ 57 then dgV k (acc * 10 + (c.toNat - 48)) l else acc
theorem dgN_le (k : Nat) (l : List UInt8) : dgN k l ≤ k ∧ dgN k l ≤ l.length := by
  induction k generalizing l with
  | zero => exact ⟨Nat.le_refl _, Nat.zero_le _⟩
  | succ k ih =>
    cases l with
    | nil => exact ⟨Nat.zero_le _, Nat.zero_le _⟩
    | cons c l =>
      unfold dgN
      have := ih l
      split <;> simp <;> omega
theorem dgV_lt (k acc : Nat) (l : List UInt8) : dgV k acc l < (acc + 1) * 10 ^ k := by
  induction k generalizing l acc with
  | zero => unfold dgV; simp
  | succ k ih =>
    have hp : 0 < 10 ^ k := Nat.pow_pos (by omega)
    have h1 : acc < (acc + 1) * 10 ^ (k + 1) := by
      have : (acc + 1) * 1 ≤ (acc + 1) * 10 ^ (k + 1) := Nat.mul_le_mul_left _ (Nat.pow_pos (by omega))
      omega
    cases l with
    | nil => unfold dgV; exact h1
    | cons c l =>
      unfold dgV
      split
      · rename_i h
        have := ih (acc * 10 + (c.toNat - 48)) l
        refine Nat.lt_of_lt_of_le this ?_
        rw [Nat.pow_succ, show (acc + 1) * (10 ^ k * 10) = (acc * 10 + 10) * 10 ^ k by grind]
        exact Nat.mul_le_mul_right _ (by omega)
      · exact h1
theorem drop_get (l : List UInt8) (k : Nat) (h : k < l.length) : l.drop k = l[k] :: l.drop (k + 1) := List.drop_eq_getElem_cons h
theorem blen (s : ByteArray) : s.data.toList.length = s.size := by rw [Array.length_toList]; rfl
def dropB (s : ByteArray) (k : Nat) : ByteArray := ⟨(s.data.toList.drop k).toArray⟩

theorem slice_drop (u : World) (s : ByteArray) (k : Nat) (h : k ≤ s.size) : (Instr.slice 9 (.string s) (some (.int .i64 (k : Int))) none none).run Tryd.prog u = .ok (.string (dropB s k)) u := by
  rw [run_slice_string_l u 9 s Tryd.underlying9 .i64 (k : Int) (by omega) (by omega)]
  have e : s.extract (k : Int).toNat s.size = dropB s k := by
    apply ByteArray.ext
    rw [ByteArray.data_extract]
    apply Array.toList_inj.1
    rw [Array.toList_extract]
    show _ = (s.data.toList.drop k)
    have : (s.data.toList.drop k).take (s.size - k) = s.data.toList.drop k := List.take_of_length_le (by rw [List.length_drop, blen]; omega)
    simpa using this
  rw [e]
set_option maxRecDepth 100000 in
set_option maxHeartbeats 3200000 in
theorem number_any (rb : Nat) (s : ByteArray) (x : Bool) (most : Nat) (mi : Int) (hmi : mi = (most : Int)) (hm : most ≤ 9) (w : World) (h : RL w rb s x) (hs : s.size ≤ 9223372036854775807) :
    Calls Tryd.prog 34 #[.pointer (some ⟨rb, 0, none⟩), .int .i64 mi] w fun e w' => e = .returned (.tuple #[.int .i64 (dgV most 0 s.data.toList : Nat), .int .i64 (dgN most s.data.toList : Nat)]) ∧ RL w' rb (dropB s (dgN most s.data.toList)) x ∧ Upd rb w w' := by
  subst hmi
  obtain ⟨c0, c1⟩ := h.cells
  obtain ⟨f0, f1⟩ := h.frees
  have HL := hide h
  clear h
  obtain ⟨rv, hrv⟩ : ∃ r, dgV most 0 s.data.toList = r := ⟨_, rfl⟩
  obtain ⟨rn, hrn⟩ : ∃ r, dgN most s.data.toList = r := ⟨_, rfl⟩
  have HV := hide hrv
  have HN := hide hrn
  rw [hrv, hrn]
  clear hrv hrn
  go_enter Tryd.func34, Tryd.ntmps34
  go_wp2
  go_loop [4, 5] (fun v i => ∃ (k q a : Nat), k + q = most ∧ k ≤ s.size ∧ i = .int .i64 (k : Int) ∧ v = .int .i64 (a : Int) ∧ a < 10 ^ k ∧ Hid (dgV q a (s.data.toList.drop k) = rv ∧ dgN q (s.data.toList.drop k) + k = rn)) (fun _ i => most - (intOf i).toNat)
  case atStart => exact ⟨0, most, 0, by omega, by omega, rfl, rfl, by omega, ⟨by rw [List.drop_zero]; exact unhide HV, by rw [List.drop_zero]; exact unhide HN⟩⟩
  case round =>
    clear HV HN
    obtain ⟨k, q, a, hk, hks, rfl, rfl, ha, HH⟩ := hrel
    have hsl : ∀ u : World, (Instr.slice 9 (.string s) (some (.int .i64 (k : Int))) none none).run Tryd.prog u = .ok (.string (dropB s k)) u := fun u => slice_drop u s k hks
    have hp : a < 1000000000 := Nat.lt_of_lt_of_le ha (Nat.pow_le_pow_right (n := 10) (by omega) (show k ≤ 9 by omega))
    cases q with
    | zero =>
      have e1 : ¬ (k : Int) < (most : Int) := by omega
      have HR := hide (show a = rv ∧ k = rn by have := unhide HH; unfold dgV dgN at this; omega)
      clear HH ha
      go_wp2
      go_ret2
      exact ⟨by rw [← (unhide HR).1, ← (unhide HR).2]; rfl, by rw [← (unhide HR).2]; exact (unhide HL).set0 _, Upd.setCell rb 0 w _⟩
    | succ q =>
      have e1 : (k : Int) < (most : Int) := by omega
      by_cases h : k < s.size
      · have e2 : (k : Int) < (s.size : Int) := by omega
        have hdr : s.data.toList.drop k = s[k] :: s.data.toList.drop (k + 1) := drop_get _ _ (by rw [blen]; exact h)
        have hb := s[k].toNat_lt
        rw [hdr] at HH
        clear hdr
        by_cases h1 : s[k].toNat < 48
        · have HR := hide (show a = rv ∧ k = rn by have := unhide HH; unfold dgV dgN at this; rw [if_neg (by omega), if_neg (by omega)] at this; omega)
          have h1' : ¬ (48 : Int) ≤ (s[k].toNat : Int) := by omega
          clear HH ha hb h1
          go_wp2
          go_ret2
          exact ⟨by rw [← (unhide HR).1, ← (unhide HR).2]; rfl, by rw [← (unhide HR).2]; exact (unhide HL).set0 _, Upd.setCell rb 0 w _⟩
        · by_cases h2 : 57 < s[k].toNat
          · have HR := hide (show a = rv ∧ k = rn by have := unhide HH; unfold dgV dgN at this; rw [if_neg (by omega), if_neg (by omega)] at this; omega)
            have h1' : (48 : Int) ≤ (s[k].toNat : Int) := by omega
            have h2' : ¬ (s[k].toNat : Int) ≤ 57 := by omega
            clear HH ha hb h1 h2
            go_wp2
            go_ret2
            exact ⟨by rw [← (unhide HR).1, ← (unhide HR).2]; rfl, by rw [← (unhide HR).2]; exact (unhide HL).set0 _, Upd.setCell rb 0 w _⟩
          · have HR := hide (show dgV q (a * 10 + (s[k].toNat - 48)) (s.data.toList.drop (k + 1)) = rv ∧ dgN q (s.data.toList.drop (k + 1)) + (k + 1) = rn by have := unhide HH; unfold dgV dgN at this; rw [if_pos (by omega), if_pos (by omega)] at this; exact ⟨this.1, by omega⟩)
            have h1' : (48 : Int) ≤ (s[k].toNat : Int) := by omega
            have h2' : (s[k].toNat : Int) ≤ 57 := by omega
            have hA : a * 10 + (s[k].toNat - 48) < 10 ^ (k + 1) := by rw [Nat.pow_succ]; omega
            have hw8 : IntKind.u8.wrap ((s[k].toNat : Int) - 48) = (s[k].toNat : Int) - 48 := IntWalk.u8_in _ ⟨by omega, by omega⟩
            have HA := hide hA
            clear HH ha hA hsl
            go_wp2
            exact ⟨⟨k + 1, q, a * 10 + (s[k].toNat - 48), by omega, by omega, by go_num, by congr 1; omega, unhide HA, HR⟩, by simp [intOf]; omega⟩
      · have hz : k = s.size := by omega
        have e2 : ¬ (k : Int) < (s.size : Int) := by omega
        have HR := hide (show a = rv ∧ k = rn by
          have := unhide HH
          rw [List.drop_eq_nil_of_le (by rw [blen]; omega)] at this
          unfold dgV dgN at this
          omega)
        clear HH ha hz
        go_wp2
        go_ret2
        exact ⟨by rw [← (unhide HR).1, ← (unhide HR).2]; rfl, by rw [← (unhide HR).2]; exact (unhide HL).set0 _, Upd.setCell rb 0 w _⟩
end Go.Proofs.YtemcilikchlaiabDoor.st
