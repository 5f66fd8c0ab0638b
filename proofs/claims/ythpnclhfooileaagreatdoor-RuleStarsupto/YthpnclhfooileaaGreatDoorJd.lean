/- The reference of package rule: passed. -/
import Derived.Test.YthpnclhfooileaaGreatDoorJc
namespace Go.Proofs.YthpnclhfooileaaGreatDoor.ru
open Go.RowKit

/-- A pattern's parts in memory. -/
def PS (w : World) (v : Value) (l : List (Bool × UInt8)) (p : Nat) : Prop :=
  (v = .slice none 0 0 ∧ l = []) ∨ ∃ cap, v = .slice (some ⟨p, 0, none⟩) l.length cap ∧ ∀ j (h : j < l.length), w.cell? ⟨p, j * 2, none⟩ = some (.bool l[j].1) ∧ w.cell? ⟨p, j * 2 + 1, none⟩ = some (.int .u8 (l[j].2.toNat : Int))
/-- A row of truths. -/
def rowA (n : Nat) (f : Nat → Bool) : Array Value := ((List.range n).map fun j => Value.bool (f j)).toArray
def QR (w : World) (g n : Nat) (f : Nat → Bool) : Prop := w.heap[g]? = some (.cells (rowA n f) 4 (0, 0))
theorem rowA_get (n : Nat) (f : Nat → Bool) (j : Nat) (h : j < n) : (rowA n f)[j]? = some (.bool (f j)) := by
  unfold rowA
  simp [h]
theorem QR.cell {w : World} {g n : Nat} {f : Nat → Bool} (h : QR w g n f) (j : Nat) (hj : j < n) : w.cell? ⟨g, j, none⟩ = some (.bool (f j)) := by rw [blk_cell h, rowA_get n f j hj]
theorem QR.free {w : World} {g n : Nat} {f : Nat → Bool} (h : QR w g n f) (j : Nat) : w.frozen? ⟨g, j, none⟩ = false := blk_free h j
theorem rowA_congr {n : Nat} {f f' : Nat → Bool} (h : ∀ j, j < n → f j = f' j) : rowA n f = rowA n f' := by
  unfold rowA
  congr 1
  apply List.map_congr_left
  intro j hj
  rw [h j (List.mem_range.1 hj)]
theorem QR.congr {w : World} {g n : Nat} {f f' : Nat → Bool} (h : QR w g n f) (e : ∀ j, j < n → f j = f' j) : QR w g n f' := by unfold QR; rw [← rowA_congr e]; exact h
theorem rowA_set (n : Nat) (f : Nat → Bool) (j : Nat) (b : Bool) : (rowA n f).setIfInBounds j (.bool b) = rowA n (fun x => if x = j then b else f x) := by
  apply Array.ext_getElem?
  intro i
  by_cases hi : i < n
  · rw [rowA_get n _ i hi, Array.getElem?_setIfInBounds]
    have hs : (rowA n f).size = n := by unfold rowA; simp
    by_cases hij : j = i
    · subst hij; rw [if_pos rfl, if_pos (by omega), if_pos rfl]
    · rw [if_neg hij, rowA_get n f i hi, if_neg (fun z => hij z.symm)]
  · have h1 : (rowA n f).size = n := by unfold rowA; simp
    have h2 : (rowA n (fun x => if x = j then b else f x)).size = n := by unfold rowA; simp
    rw [Array.getElem?_eq_none (by simp; omega), Array.getElem?_eq_none (by omega)]
theorem QR.set {w : World} {g n : Nat} {f : Nat → Bool} (h : QR w g n f) (j : Nat) (b : Bool) : QR (w.setCell ⟨g, j, none⟩ (.bool b)) g n (fun x => if x = j then b else f x) := by
  unfold QR
  rw [← rowA_set]
  exact blk_set h j _
theorem PS.upd {w w' : World} {v : Value} {l : List (Bool × UInt8)} {p g : Nat} (h : PS w v l p) (hu : Upd g w w') (hg : l.length = 0 ∨ p ≠ g) : PS w' v l p := by
  rcases h with h | ⟨cap, h1, h2⟩
  · exact Or.inl h
  · refine Or.inr ⟨cap, h1, fun j hj => ?_⟩
    have hp : p ≠ g := hg.resolve_left (by omega)
    have e : ∀ o, w'.cell? ⟨p, o, none⟩ = w.cell? ⟨p, o, none⟩ := fun o => by simp [World.cell?, hu.block p hp]
    rw [e, e]; exact h2 j hj

/-- While 'passed' goes on. -/
def pasK (l : List (Bool × UInt8)) (f : Nat → Bool) (k j : Nat) : Bool := if j ≤ k then pasF l f j else f j
theorem pasK_0 (l : List (Bool × UInt8)) (f : Nat → Bool) (j : Nat) : f j = pasK l f 0 j := by
  unfold pasK
  by_cases q : j ≤ 0
  · rw [if_pos q]
    have : j = 0 := by omega
    subst this
    rfl
  · rw [if_neg q]
theorem pasK_same (l : List (Bool × UInt8)) (f : Nat → Bool) (k : Nat) (h : (pasF l f k && anyAt l k) = false) (j : Nat) : pasK l f k j = pasK l f (k + 1) j := by
  unfold pasK
  by_cases q : j ≤ k
  · rw [if_pos q, if_pos (by omega)]
  · rw [if_neg q]
    by_cases q2 : j ≤ k + 1
    · rw [if_pos q2]
      have : j = k + 1 := by omega
      subst this
      show f (k + 1) = (f (k + 1) || (pasF l f k && anyAt l k))
      rw [h, Bool.or_false]
    · rw [if_neg q2]
theorem pasK_set (l : List (Bool × UInt8)) (f : Nat → Bool) (k : Nat) (h : (pasF l f k && anyAt l k) = true) (j : Nat) : (if j = k + 1 then true else pasK l f k j) = pasK l f (k + 1) j := by
  unfold pasK
  by_cases q2 : j = k + 1
  · subst q2
    rw [if_pos rfl, if_pos (Nat.le_refl _)]
    show true = (f (k + 1) || (pasF l f k && anyAt l k))
    rw [h, Bool.or_true]
  · rw [if_neg q2]
    by_cases q : j ≤ k
    · rw [if_pos q, if_pos (by omega)]
    · rw [if_neg q, if_neg (by omega)]
theorem pasK_end (l : List (Bool × UInt8)) (f : Nat → Bool) (j : Nat) (h : j < l.length + 1) : pasK l f l.length j = pasF l f j := by
  unfold pasK; rw [if_pos (by omega)]

set_option maxRecDepth 100000 in
set_option maxHeartbeats 3200000 in
theorem rpassed_any (l : List (Bool × UInt8)) (v : Value) (p g : Nat) (f : Nat → Bool) (w : World) (hl : l.length ≤ 1099511627776) (hP : PS w v l p) (hQ : QR w g (l.length + 1) f) (hpg : l.length = 0 ∨ p ≠ g) :
    Calls Tryz.prog 20 #[v, .slice (some ⟨g, 0, none⟩) (l.length + 1) (l.length + 1)] w fun e w' => e = .returned (.tuple #[]) ∧ QR w' g (l.length + 1) (pasF l f) ∧ Upd g w w' := by
  have LP : ∀ (v : Value) (hv : (v = .slice none 0 0 ∧ l = []) ∨ ∃ cap, v = .slice (some ⟨p, 0, none⟩) l.length cap), Hid (∀ j (h : j < l.length), w.cell? ⟨p, j * 2, none⟩ = some (.bool l[j].1)) →
      Calls Tryz.prog 20 #[v, .slice (some ⟨g, 0, none⟩) (l.length + 1) (l.length + 1)] w fun e w' => e = .returned (.tuple #[]) ∧ QR w' g (l.length + 1) (pasF l f) ∧ Upd g w w' := by
    intro v hv HC
    obtain ⟨oa, n, cap, rfl, hn, ho⟩ : ∃ oa n cap, v = .slice oa n cap ∧ n = l.length ∧ (l.length = 0 ∨ oa = some ⟨p, 0, none⟩) := by
      rcases hv with ⟨rfl, rfl⟩ | ⟨cap, rfl⟩
      · exact ⟨none, 0, 0, rfl, rfl, Or.inl rfl⟩
      · exact ⟨_, _, _, rfl, rfl, Or.inr rfl⟩
    subst hn
    have HQ := hide hQ
    clear hQ hP hv
    go_enter Tryz.func20, Tryz.ntmps20
    go_wp2
    go_loopw [4] (fun i wr => ∃ k : Nat, i = .int .i64 (k : Int) ∧ k ≤ l.length ∧ Hid (QR wr g (l.length + 1) (pasK l f k)) ∧ Hid (Upd g w wr)) (fun i _ => l.length - (intOf i).toNat)
    case atStart => exact ⟨0, rfl, Nat.zero_le _, (unhide HQ).congr (fun j _ => pasK_0 l f j), Upd.refl _ _⟩
    case round =>
      clear HQ
      obtain ⟨k, rfl, hk, HQ, HU⟩ := hrel
      by_cases hlt : k < l.length
      · have hlt' : (k : Int) < (l.length : Int) := by omega
        have hoa : oa = some ⟨p, 0, none⟩ := by
          rcases ho with q | q
          · omega
          · exact q
        subst hoa
        have e1 : wr.cell? ⟨p, k * 2, none⟩ = some (.bool l[k].1) := by
          have hp' : p ≠ g := hpg.resolve_left (by omega)
          have : wr.cell? ⟨p, k * 2, none⟩ = w.cell? ⟨p, k * 2, none⟩ := by simp [World.cell?, (unhide HU).block p hp']
          rw [this]; exact unhide HC k hlt
        have e2 : wr.cell? ⟨g, k, none⟩ = some (.bool (pasF l f k)) := by
          have := (unhide HQ).cell k (by omega)
          unfold pasK at this
          rwa [if_pos (Nat.le_refl _)] at this
        have e3 : ∃ x, wr.cell? ⟨g, k + 1, none⟩ = some x := ⟨_, (unhide HQ).cell (k + 1) (by omega)⟩
        have e4 := (unhide HQ).free (k + 1)
        have ea : anyAt l k = l[k].1 := by unfold anyAt; rw [List.getElem?_eq_getElem hlt]
        have HS := hide (pasK_same l f k)
        have HT := hide (pasK_set l f k)
        rw [ea] at HS HT
        clear ea
        obtain ⟨x, e3⟩ := e3
        generalize pasF l f k = b at *
        generalize l[k].1 = a at *
        cases b
        · have HQ2 := hide ((unhide HQ).congr (fun j _ => unhide HS rfl j))
          clear HS HT HQ e3 e4
          go_wp2
          exact ⟨⟨k + 1, by go_num, by omega, HQ2, HU⟩, by simp [intOf]; omega⟩
        · cases a
          · have HQ2 := hide ((unhide HQ).congr (fun j _ => unhide HS rfl j))
            clear HS HT HQ e3 e4
            go_wp2
            exact ⟨⟨k + 1, by go_num, by omega, HQ2, HU⟩, by simp [intOf]; omega⟩
          · have HQ2 := hide (((unhide HQ).set (k + 1) true).congr (fun j _ => unhide HT rfl j))
            have HU2 := hide ((unhide HU).trans (Upd.setCell g (k + 1) wr (.bool true)))
            clear HS HT HQ HU
            go_wp2
            exact ⟨⟨k + 1, by go_num, by omega, HQ2, HU2⟩, by simp [intOf]; omega⟩
      · have hlt' : ¬ (k : Int) < (l.length : Int) := by omega
        have hkl : k = l.length := by omega
        subst hkl
        have HQ2 := hide ((unhide HQ).congr (fun j hj => pasK_end l f j hj))
        clear HQ
        go_wp2
        refine bodyPost_end (results_none rfl _ _ _) rfl ?_
        exact ⟨rfl, unhide HQ2, unhide HU⟩
  rcases hP with ⟨rfl, h0⟩ | ⟨cap, rfl, hc⟩
  · exact LP _ (Or.inl ⟨rfl, h0⟩) (fun j h => by subst h0; exact absurd h (by simp))
  · exact LP _ (Or.inr ⟨cap, rfl⟩) (fun j h => (hc j h).1)
end Go.Proofs.YthpnclhfooileaaGreatDoor.ru
