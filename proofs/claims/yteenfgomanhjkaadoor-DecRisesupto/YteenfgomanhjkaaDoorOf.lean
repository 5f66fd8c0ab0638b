/- oneForm's contract. -/
import Derived.Test.YteenfgomanhjkaaDoorOd
import Derived.Laws.ResultCell
namespace Go.Proofs.YteenfgomanhjkaaDoor.rd
open Go.RowKit

/-- A decimal number as it is told. -/
structure Dn where
  neg : Bool
  dg : ByteArray
  ex : Int
def zed : Dn := ⟨false, .empty, 0⟩
def dv (d : Dn) : Value := .agg #[.bool d.neg, .string d.dg, .int .i64 d.ex]

def trimL (s : ByteArray) : ByteArray := ⟨(Lib.trimLeftB s.data.toList 48).toArray⟩
def trimR (s : ByteArray) : ByteArray := ⟨(Lib.trimRightB s.data.toList 48).toArray⟩

/-- The one form of digits times ten to the ex; false: beyond the bounds. -/
def oneForm (neg : Bool) (s : ByteArray) (ex : Int) : Dn × Bool :=
  if (trimR (trimL s)).size = 0 then (zed, true)
  else if 9999 < ex then (zed, false)
  else if ex + ((trimL s).size - (trimR (trimL s)).size) < -9999 ∨ 9999 < ex + ((trimL s).size - (trimR (trimL s)).size) then (zed, false)
  else (⟨neg, trimR (trimL s), ex + ((trimL s).size - (trimR (trimL s)).size)⟩, true)

theorem trimL_le (s : ByteArray) : (trimL s).size ≤ s.size := by
  have h : (Lib.trimLeftB s.data.toList 48).length ≤ s.data.toList.length := (List.dropWhile_suffix _).length_le
  have e1 : (trimL s).size = (Lib.trimLeftB s.data.toList 48).length := by unfold trimL; exact List.size_toArray
  have e2 : s.data.toList.length = s.size := by rw [Array.length_toList]; rfl
  omega
theorem trimR_le (s : ByteArray) : (trimR s).size ≤ s.size := by
  have h : (Lib.trimRightB s.data.toList 48).length ≤ s.data.toList.length := by
    unfold Lib.trimRightB
    rw [List.length_reverse]
    have := (List.dropWhile_suffix (l := s.data.toList.reverse) (fun x => x == 48)).length_le
    rw [List.length_reverse] at this
    exact this
  have e1 : (trimR s).size = (Lib.trimRightB s.data.toList 48).length := by unfold trimR; exact List.size_toArray
  have e2 : s.data.toList.length = s.size := by rw [Array.length_toList]; rfl
  omega

theorem clone_any (s : ByteArray) (w : World) (hlim : s.size ≤ 281474976710656) :
    Calls Tryd.prog 40 #[.string s] w fun e w' => e = .returned (.string s) ∧ Below w.heap.size w w' := by
  go_enter Tryd.func40, Tryd.ntmps40
  go_wp2_with (go_at_call 60; refine (Tryd.stringslite_Clone s _ hlim).mono ?_; rintro e w' ⟨rfl, hb⟩)
  go_ret
  exact ⟨rfl, hb⟩

/-- A number lies in block m. -/
def DLies (w : World) (m : Nat) (d : Dn) : Prop := w.heap[m]? = some (.cells #[.bool d.neg, .string d.dg, .int .i64 d.ex] 23 (0, 0))
theorem DLies.cells {w : World} {m : Nat} {d : Dn} (h : DLies w m d) : w.cell? ⟨m, 0, none⟩ = some (.bool d.neg) ∧ w.cell? ⟨m, 1, none⟩ = some (.string d.dg) ∧ w.cell? ⟨m, 2, none⟩ = some (.int .i64 d.ex) :=
  ⟨blk_cell h 0, blk_cell h 1, blk_cell h 2⟩
theorem DLies.frees {w : World} {m : Nat} {d : Dn} (h : DLies w m d) : w.frozen? ⟨m, 0, none⟩ = false ∧ w.frozen? ⟨m, 1, none⟩ = false ∧ w.frozen? ⟨m, 2, none⟩ = false :=
  ⟨blk_free h 0, blk_free h 1, blk_free h 2⟩

theorem DLies.set {w : World} {m : Nat} {d : Dn} (h : DLies w m d) (n : Bool) (g : ByteArray) (x : Int) :
    DLies (((w.setCell ⟨m, 0, none⟩ (.bool n)).setCell ⟨m, 1, none⟩ (.string g)).setCell ⟨m, 2, none⟩ (.int .i64 x)) m ⟨n, g, x⟩ :=
  blk_set (blk_set (blk_set h 0 _) 1 _) 2 _
theorem below3 {B : Nat} {a w : World} (h : Below B a w) {m : Nat} (hB : B ≤ m) (u v x : Value) : Below B a (((w.setCell ⟨m, 0, none⟩ u).setCell ⟨m, 1, none⟩ v).setCell ⟨m, 2, none⟩ x) :=
  ((h.setCell hB _).setCell hB _).setCell hB _
theorem DLies.below {B : Nat} {w w' : World} {m : Nat} {d : Dn} (h : DLies w m d) (hb : Below B w w') (hm : m < B) : DLies w' m d := (hb.block m hm).trans h

theorem DLies.alloc {w : World} {m : Nat} {d : Dn} (h : DLies w m d) (o : Obj) : DLies (w.alloc o) m d := (Below.heap_alloc w o m (blk_lt h)).trans h
theorem DLies.drew {w : World} {m : Nat} {d : Dn} (h : DLies w m d) : DLies w.drew m d := h
theorem DLies.drewN {w : World} {m : Nat} {d : Dn} (h : DLies w m d) (n : Nat) : DLies (w.drewN n) m d := h
theorem below3a {B : Nat} {a w : World} (h : Below B a w) {m : Nat} (hB : B ≤ m) (hs : B ≤ w.heap.size) (u v x : Value) (o : Obj) : Below B a ((((w.setCell ⟨m, 0, none⟩ u).setCell ⟨m, 1, none⟩ v).setCell ⟨m, 2, none⟩ x).alloc o) :=
  (below3 h hB u v x).alloc (by simpa [World.setCell] using hs) o

theorem cell_lt {w : World} {b o : Nat} {v : Value} (h : w.cell? ⟨b, o, none⟩ = some v) : b < w.heap.size := by
  rcases Nat.lt_or_ge b w.heap.size with h' | h'
  · exact h'
  · simp [World.cell?, Array.getElem?_eq_none h'] at h

/-- A cell that is there ahead of a call that turns nothing old is there behind it. -/
theorem keepC {W w1 : World} (hb : Below W.heap.size W w1) {b o : Nat} {v : Value} (h : W.cell? ⟨b, o, none⟩ = some v) : w1.cell? ⟨b, o, none⟩ = some v := by
  rw [hb.cell (p := ⟨b, o, none⟩) (cell_lt h)]; exact h
theorem keepF {W w1 : World} (hb : Below W.heap.size W w1) {b o o' : Nat} {v : Value} (h : W.cell? ⟨b, o, none⟩ = some v) (hf : W.frozen? ⟨b, o', none⟩ = false) : w1.frozen? ⟨b, o', none⟩ = false := by
  rw [hb.frozen (p := ⟨b, o', none⟩) (cell_lt h)]; exact hf

theorem empty_iff (t : ByteArray) : t.toList.isEmpty = decide (t.size = 0) := by
  rw [ByteArray.toList_eq]
  have e : t.data.toList.length = t.size := by rw [Array.length_toList]; rfl
  cases hx : t.data.toList with
  | nil => rw [hx] at e; simp at e; simp [← e]
  | cons a l => rw [hx] at e; simp at e; simp [← e]

theorem trimL_any (s : ByteArray) (w : World) : Calls Tryd.prog 38 #[.string s, .string ⟨#[48]⟩] w fun e w' => e = .returned (.string (trimL s)) ∧ w' = w := Tryd.strings_TrimLeft_one s 48 (by decide) w
theorem trimR_any (s : ByteArray) (w : World) (hs : s.size ≤ 9223372036854775807) : Calls Tryd.prog 39 #[.string s, .string ⟨#[48]⟩] w fun e w' => e = .returned (.string (trimR s)) ∧ w' = w := Tryd.strings_TrimRight_one s 48 (by decide) w hs

theorem ret_oneForm {m : Nat} (w : World) (d : Dn) (ok : Bool) (h : DLies w m d) (tmps : Array Value) (h2 : tmps.getD 6 undef = .pointer (some ⟨m, 0, none⟩)) (h3 : tmps.getD 7 undef = .bool ok) :
    (results Tryd.f28 tmps).run Tryd.prog w = .ok (.tuple #[dv d, .bool ok]) w := by
  obtain ⟨q0, q1, q2⟩ := h.cells
  rw [results_cell_tmp Tryd.results28, h2, h3]
  simp [go_sem, q0, q1, q2, dv]

theorem dlies_new (w : World) (d : Dn) : DLies (w.alloc (.cells #[.bool d.neg, .string d.dg, .int .i64 d.ex] 23)) w.heap.size d := by
  show (w.heap.push _)[w.heap.size]? = _
  rw [Array.getElem?_push_size]

set_option maxRecDepth 100000 in
set_option maxHeartbeats 800000 in
theorem oneForm_any (neg : Bool) (s : ByteArray) (ex : Int) (w : World) (hs : s.size ≤ 140737488351232) (h0 : -9223372036854775808 ≤ ex) (h1 : ex ≤ 9223372036854775807) :
    Calls Tryd.prog 28 #[.bool neg, .string s, .int .i64 ex] w fun e w' => e = .returned (.tuple #[dv (oneForm neg s ex).1, .bool (oneForm neg s ex).2]) ∧ Below w.heap.size w w' := by
  have l1 := trimL_le s
  have l2 := trimR_le (trimL s)
  have c1 := trimL_any s
  have c2 := trimR_any (trimL s)
  have HO : Hid (oneForm neg s ex = oneForm neg s ex) := rfl
  have HO : Hid (oneForm neg s ex = if (trimR (trimL s)).size = 0 then (zed, true)
      else if 9999 < ex then (zed, false)
      else if ex + ((trimL s).size - (trimR (trimL s)).size) < -9999 ∨ 9999 < ex + ((trimL s).size - (trimR (trimL s)).size) then (zed, false)
      else (⟨neg, trimR (trimL s), ex + ((trimL s).size - (trimR (trimL s)).size)⟩, true)) := rfl
  generalize oneForm neg s ex = r at HO ⊢
  generalize trimR (trimL s) = t at *
  generalize trimL s = d at *
  have C1 := hide c1
  have C2 := hide c2
  clear c1 c2
  by_cases hz : t.size = 0
  · have hr : r = (zed, true) := by rw [HO.out, if_pos hz]
    subst hr
    clear HO
    have hz' : t.toList.isEmpty = true := by rw [empty_iff]; simpa using hz
    clear hz
    go_enter Tryd.func28, Tryd.ntmps28
    go_wp2_with fail
    refine (unhide C1 _).mono ?_
    rintro e w1 ⟨rfl, rfl⟩
    go_wp2_with fail
    refine (unhide C2 _ (by omega)).mono ?_
    rintro e w1 ⟨rfl, rfl⟩
    go_wp2
    exact bodyPost_ret (ret_oneForm _ zed true (dlies_new w zed) _ rfl rfl) rfl ⟨rfl, (Below.refl _ _).alloc (Nat.le_refl _) _⟩
  · have hz' : t.toList.isEmpty = false := by rw [empty_iff]; simpa using hz
    by_cases he : 9999 < ex
    · have hr : r = (zed, false) := by rw [HO.out, if_neg hz, if_pos he]
      subst hr
      clear HO hz
      go_enter Tryd.func28, Tryd.ntmps28
      go_wp2_with fail
      refine (unhide C1 _).mono ?_
      rintro e w1 ⟨rfl, rfl⟩
      go_wp2_with fail
      refine (unhide C2 _ (by omega)).mono ?_
      rintro e w1 ⟨rfl, rfl⟩
      go_wp2
      exact bodyPost_ret (ret_oneForm _ zed false (dlies_new w zed) _ rfl rfl) rfl ⟨rfl, (Below.refl _ _).alloc (Nat.le_refl _) _⟩
    · have he' : ex ≤ 9999 := by omega
      by_cases hb : ex + ((d.size : Int) - t.size) < -9999
      · have hr : r = (zed, false) := by rw [HO.out, if_neg hz, if_neg he, if_pos (.inl hb)]
        subst hr
        clear HO hz he
        go_enter Tryd.func28, Tryd.ntmps28
        go_wp2_with fail
        refine (unhide C1 _).mono ?_
        rintro e w1 ⟨rfl, rfl⟩
        go_wp2_with fail
        refine (unhide C2 _ (by omega)).mono ?_
        rintro e w1 ⟨rfl, rfl⟩
        go_wp2
        exact bodyPost_ret (ret_oneForm _ zed false (dlies_new w zed) _ rfl rfl) rfl ⟨rfl, (Below.refl _ _).alloc (Nat.le_refl _) _⟩
      · have hb' : -9999 ≤ ex + ((d.size : Int) - t.size) := by omega
        by_cases ht : 9999 < ex + ((d.size : Int) - t.size)
        · have hr : r = (zed, false) := by rw [HO.out, if_neg hz, if_neg he, if_pos (.inr ht)]
          subst hr
          clear HO hz he hb
          go_enter Tryd.func28, Tryd.ntmps28
          go_wp2_with fail
          refine (unhide C1 _).mono ?_
          rintro e w1 ⟨rfl, rfl⟩
          go_wp2_with fail
          refine (unhide C2 _ (by omega)).mono ?_
          rintro e w1 ⟨rfl, rfl⟩
          go_wp2
          exact bodyPost_ret (ret_oneForm _ zed false (dlies_new w zed) _ rfl rfl) rfl ⟨rfl, (Below.refl _ _).alloc (Nat.le_refl _) _⟩
        · have hr : r = (⟨neg, t, ex + ((d.size : Int) - t.size)⟩, true) := by rw [HO.out, if_neg hz, if_neg he, if_neg (by omega)]
          subst hr
          have ht' : ex + ((d.size : Int) - t.size) ≤ 9999 := by omega
          clear HO hz he hb ht
          go_enter Tryd.func28, Tryd.ntmps28
          go_wp2_with fail
          refine (unhide C1 _).mono ?_
          rintro e w1 ⟨rfl, rfl⟩
          go_wp2_with fail
          refine (unhide C2 _ (by omega)).mono ?_
          rintro e w1 ⟨rfl, rfl⟩
          go_wp2_with fail
          refine (clone_any t _ (by omega)).mono ?_
          rintro e w1 ⟨rfl, hb1⟩
          have hz1 := hb1.size
          have l3 : DLies w1 w.heap.size zed := (hb1.block _ (by simp)).trans (dlies_new w zed)
          obtain ⟨q0, q1, q2⟩ := l3.cells
          obtain ⟨f0, f1, f2⟩ := l3.frees
          go_wp2
          exact bodyPost_ret (ret_oneForm _ _ true (l3.set neg t _) _ rfl rfl) rfl ⟨rfl, below3 (((Below.refl _ _).alloc (Nat.le_refl _) _).trans (hb1.mono (by simp))) (Nat.le_refl _) _ _ _⟩
end Go.Proofs.YteenfgomanhjkaaDoor.rd
