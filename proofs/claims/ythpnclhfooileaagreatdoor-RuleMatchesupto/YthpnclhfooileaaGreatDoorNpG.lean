/- Several texts in one. -/
import Derived.Test.YthpnclhfooileaaGreatDoorRdG
import Derived.Lib.Strings
import Derived.Lib.Repeat
import Derived.Deep.CutRange
import Derived.Deep.DeepCutAuto
import Derived.Laws.BytesArg
/- What a numeral's parts are: their lengths, and that a power is digits. -/
namespace Go.Proofs.YthpnclhfooileaaGreatDoor.nu

theorem ext_size (s : ByteArray) (i j : Nat) : (s.extract i j).size ≤ s.size := by
  have : (s.extract i j).size = min j s.size - i := by simp
  omega

theorem ext_list (s : ByteArray) (i j : Nat) : (s.extract i j).data.toList = (s.data.toList.drop i).take (j - i) := by
  exact Lib.extract_data s i j

/-- The parts of a numeral. -/
structure Good (s : ByteArray) (x : Num) : Prop where
  wh : x.wh.size ≤ s.size
  fr : x.fr.size ≤ s.size
  pw : x.pw.size ≤ s.size
  dg : ∀ c ∈ x.pw.data.toList, dig c = true

theorem pw_list (s : ByteArray) (i : Nat) : (s.extract i (i + nd s i)).data.toList = (s.data.toList.drop i).takeWhile dig := by
  rw [ext_list, Nat.add_sub_cancel_left]
  exact (List.prefix_iff_eq_take.1 (List.takeWhile_prefix dig)).symm

theorem pwFirst_good (s : ByteArray) (ng : Bool) (i : Nat) (p : Bool × ByteArray) (h : pwFirst s ng i = some p) : p.2.size ≤ s.size ∧ ∀ c ∈ p.2.data.toList, dig c = true := by
  unfold pwFirst at h
  rcases Nat.lt_or_ge i s.size with hi | hi
  · rw [at_some s i hi] at h
    simp only at h
    by_cases hd : dig s[i] = true
    · rw [if_pos hd] at h
      unfold pwRest at h
      have e : i + 1 + nd s (i + 1) = i + nd s i := by rw [nd_yes s i hi hd]; omega
      rw [e] at h
      by_cases hz : i + nd s i = s.size
      · rw [if_pos hz] at h
        cases h
        refine ⟨ext_size _ _ _, fun c hc => ?_⟩
        rw [pw_list] at hc
        exact (List.all_takeWhile (p := dig) (l := s.data.toList.drop i) |> List.all_eq_true.1) c hc
      · rw [if_neg hz] at h; cases h
    · rw [if_neg hd] at h; cases h
  · have : at_ s i = none := by
      unfold at_; apply List.getElem?_eq_none; simpa using hi
    rw [this] at h; cases h

theorem power_good (s : ByteArray) (i : Nat) (p : Bool × ByteArray) (h : power s i = some p) : p.2.size ≤ s.size ∧ ∀ c ∈ p.2.data.toList, dig c = true := by
  unfold power at h
  cases hx : at_ s i with
  | none => rw [hx] at h; cases h
  | some c =>
    rw [hx] at h
    simp only at h
    split at h
    · exact pwFirst_good _ _ _ _ h
    · split at h
      · exact pwFirst_good _ _ _ _ h
      · exact pwFirst_good _ _ _ _ h

theorem measured_good (s : ByteArray) (k : Nat) (neg : Bool) (wh fr : ByteArray) (x : Num) (hw : wh.size ≤ s.size) (hf : fr.size ≤ s.size) (h : measured s k neg wh fr = some x) : Good s x := by
  unfold measured at h
  cases hx : at_ s k with
  | none => rw [hx] at h; cases h; exact ⟨hw, hf, by simp, fun c hc => by simp at hc⟩
  | some c =>
    rw [hx] at h
    simp only at h
    split at h
    · cases hp : power s (k + 1) with
      | none => rw [hp] at h; cases h
      | some p =>
        rw [hp] at h
        cases h
        have := power_good s _ _ hp
        exact ⟨hw, hf, this.1, this.2⟩
    · cases h

theorem point_good (s : ByteArray) (k : Nat) (neg : Bool) (wh : ByteArray) (x : Num) (hw : wh.size ≤ s.size) (h : point s k neg wh = some x) : Good s x := by
  unfold point at h
  cases hx : at_ s k with
  | none => rw [hx] at h; cases h
  | some c =>
    rw [hx] at h
    simp only at h
    split at h
    · exact measured_good s _ neg wh _ x hw (ext_size _ _ _) h
    · cases h

theorem counted_good (s : ByteArray) (i k : Nat) (neg : Bool) (x : Num) (h : counted s i k neg = some x) : Good s x := by
  unfold counted at h
  split at h
  · exact point_good s _ neg _ x (ext_size _ _ _) h
  · exact measured_good s _ neg _ _ x (ext_size _ _ _) (by simp) h

theorem first_good (s : ByteArray) (k : Nat) (neg : Bool) (x : Num) (h : first s k neg = some x) : Good s x := by
  unfold first at h
  cases hx : at_ s k with
  | none => rw [hx] at h; cases h
  | some c =>
    rw [hx] at h
    simp only at h
    split at h
    · exact counted_good s _ _ neg x h
    · split at h
      · exact counted_good s _ _ neg x h
      · cases h

theorem numeral_good (s : ByteArray) (x : Num) (h : numeral s = some x) : Good s x := by
  unfold numeral at h
  split at h
  · exact first_good s _ _ x h
  · exact first_good s _ _ x h
end Go.Proofs.YthpnclhfooileaaGreatDoor.nu

/- Parse's contract. -/
namespace Go.Proofs.YthpnclhfooileaaGreatDoor.rd
open Go.RowKit

/-- What Parse answers. -/
def parsed (s : ByteArray) (eN eX : Value) : Value × Value :=
  match nu.numeral s with
  | none => (dv zed, eN)
  | some x => bounded x.neg (x.wh ++ x.fr) (expo x) eX

theorem keepPa {b0 b1 b2 : Nat} {v0 v1 v2 v3 v4 v5 : Value} {W w1 : World} (hb : Below W.heap.size W w1)
    (h : W.cell? ⟨b0, 0, none⟩ = some v0 ∧ W.cell? ⟨b0, 1, none⟩ = some v1 ∧ W.cell? ⟨b0, 2, none⟩ = some v2 ∧ W.cell? ⟨b0, 3, none⟩ = some v3 ∧ W.cell? ⟨b0, 4, none⟩ = some v4 ∧ W.cell? ⟨b1, 0, none⟩ = some v5 ∧ b0 < W.heap.size ∧ b2 < W.heap.size ∧ b1 < W.heap.size) :
    w1.cell? ⟨b0, 0, none⟩ = some v0 ∧ w1.cell? ⟨b0, 1, none⟩ = some v1 ∧ w1.cell? ⟨b0, 2, none⟩ = some v2 ∧ w1.cell? ⟨b0, 3, none⟩ = some v3 ∧ w1.cell? ⟨b0, 4, none⟩ = some v4 ∧ w1.cell? ⟨b1, 0, none⟩ = some v5 ∧ b0 < w1.heap.size ∧ b2 < w1.heap.size ∧ b1 < w1.heap.size := by
  obtain ⟨c0, c1, c2, c3, c4, c5, z0, z1, z2⟩ := h
  exact ⟨keepC hb c0, keepC hb c1, keepC hb c2, keepC hb c3, keepC hb c4, keepC hb c5, Nat.lt_of_lt_of_le z0 hb.size, Nat.lt_of_lt_of_le z1 hb.size, Nat.lt_of_lt_of_le z2 hb.size⟩

/-- bounded, told in full: a number and an error. -/
theorem bounded_form (neg : Bool) (s : ByteArray) (ex : Int) (eX : Value) : ∃ d ev, bounded neg s ex eX = (dv d, ev) := by
  unfold bounded; split
  · exact ⟨_, _, rfl⟩
  · exact ⟨_, _, rfl⟩

end Go.Proofs.YthpnclhfooileaaGreatDoor.rd

/- sum's contract: two rows of digits of one width, added. -/
namespace Go.Proofs.YthpnclhfooileaaGreatDoor.rd
open Go.RowKit

/-- Two rows of digits, the greatest first, of one width: the sum's digits and what is left to carry. -/
def sumL : List UInt8 → List UInt8 → List UInt8 × Nat
  | a :: xs, b :: ys => ((48 + ((a.toNat - 48) + (b.toNat - 48) + (sumL xs ys).2) % 10).toUInt8 :: (sumL xs ys).1, ((a.toNat - 48) + (b.toNat - 48) + (sumL xs ys).2) / 10)
  | _, _ => ([], 0)
def sumD (x y : ByteArray) : ByteArray := ⟨((48 + (sumL x.data.toList y.data.toList).2).toUInt8 :: (sumL x.data.toList y.data.toList).1).toArray⟩

def AllDig (s : ByteArray) : Prop := ∀ c ∈ s.data.toList, nu.dig c = true
theorem AllDig.at {s : ByteArray} (h : AllDig s) (k : Nat) (hk : k < s.size) : 48 ≤ s[k].toNat ∧ s[k].toNat ≤ 57 := by
  have h' : k < s.data.toList.length := by simpa using hk
  have := h s[k] (List.getElem_mem h')
  simpa [nu.dig] using this

theorem drop_at (s : ByteArray) (k : Nat) (h : k < s.size) : s.data.toList.drop k = s[k] :: s.data.toList.drop (k + 1) := by
  have h' : k < s.data.toList.length := by simpa using h
  rw [List.drop_eq_getElem_cons h']; rfl
theorem drop_end (s : ByteArray) : s.data.toList.drop s.size = [] := List.drop_eq_nil_of_le (by simp)

theorem sumL_carry (x y : List UInt8) (hx : ∀ c ∈ x, nu.dig c = true) (hy : ∀ c ∈ y, nu.dig c = true) : (sumL x y).2 ≤ 1 := by
  induction x generalizing y with
  | nil => simp [sumL]
  | cons a xs ih =>
    cases y with
    | nil => simp [sumL]
    | cons b ys =>
      have h1 : 48 ≤ a.toNat ∧ a.toNat ≤ 57 := by simpa [nu.dig] using hx a (by simp)
      have h2 : 48 ≤ b.toNat ∧ b.toNat ≤ 57 := by simpa [nu.dig] using hy b (by simp)
      have h3 := ih ys (fun c hc => hx c (by simp [hc])) (fun c hc => hy c (by simp [hc]))
      simp only [sumL]
      omega
theorem sumL_len (x y : List UInt8) (h : x.length = y.length) : (sumL x y).1.length = x.length := by
  induction x generalizing y with
  | nil => simp [sumL]
  | cons a xs ih =>
    cases y with
    | nil => simp at h
    | cons b ys =>
      simp only [sumL, List.length_cons]
      rw [ih ys (by simpa using h)]

/-- A row of the answer while it is made. -/
def row (k : Nat) (l : List UInt8) : Array Value := (List.replicate k (Value.int .u8 0) ++ l.map vb).toArray
theorem row_size (k : Nat) (l : List UInt8) : (row k l).size = k + l.length := by simp [row]
theorem row_zero (k : Nat) (l : List UInt8) (j : Nat) (h : j < k) : (row k l)[j]? = some (.int .u8 0) := by
  simp only [row, List.getElem?_toArray]
  rw [List.getElem?_append_left (by simpa using h), List.getElem?_replicate, if_pos h]
theorem row_set (k : Nat) (l : List UInt8) (c : UInt8) (v : Value) (hv : v = vb c) : (row (k + 1) l).setIfInBounds k v = row k (c :: l) := by
  subst hv
  apply Array.ext'
  simp only [row, Array.toList_setIfInBounds, List.toList_toArray]
  rw [List.replicate_succ', List.append_assoc, List.set_append_right _ _ (by simp)]
  simp
theorem row_full (l : List UInt8) (j : Nat) (h : j < l.length) : (row 0 l)[j]? = some (.int .u8 (l[j].toNat : Int)) := by
  simp [row, vb, h]
theorem made_row (n : Nat) : madeCells #[.int .u8 0] n = row n [] := by
  apply Array.ext'
  rw [toList_madeCells_one]
  simp [row]

theorem row_back {w : World} {B cap : Nat} {l : List UInt8} (h : w.heap[B]? = some (.cells (row 0 l) 5 (0, 0))) :
    (convert 65 9 (.slice (some ⟨B, 0, none⟩) l.length cap)).run Tryz.prog w = .ok (.string ⟨l.toArray⟩) w := by
  refine run_convert_bytes_back w 65 9 5 ⟨B, 0, none⟩ cap l Tryz.underlying65 Tryz.underlying5 Tryz.underlying9 (fun j hj => ?_)
  have e : (⟨B, 0, none⟩ : Addr).add j = ⟨B, j, none⟩ := by unfold Addr.add; split <;> simp_all
  rw [e, blk_cell h, row_full l j hj]

theorem u8_of (n : Nat) (h : n < 256) : ((n.toUInt8).toNat : Int) = (n : Int) := by
  have : n.toUInt8.toNat = n := by simp [Nat.toUInt8, Nat.mod_eq_of_lt h]
  omega

end Go.Proofs.YthpnclhfooileaaGreatDoor.rd

/- top's and spread's contracts. -/
namespace Go.Proofs.YthpnclhfooileaaGreatDoor.rd
open Go.RowKit

theorem top_any (d : Dn) (w : World) (hs : d.dg.size ≤ 4611686018427387904) (h0 : -1000000 ≤ d.ex) (h1 : d.ex ≤ 1000000) :
    Calls Tryz.prog 81 #[dv d] w fun e w' => e = .returned (.int .i64 (d.dg.size + d.ex)) ∧ Below w.heap.size w w' := by
  obtain ⟨n, g, x⟩ := d
  simp only [dv] at hs h0 h1 ⊢
  go_enter Tryz.func81, Tryz.ntmps81
  go_wp2
  go_ret
  exact ⟨rfl, (Below.refl _ _).alloc (Nat.le_refl _) _⟩

/-- So many noughts. -/
def zeros (c : Nat) : ByteArray := ⟨(Lib.repeatL (⟨#[48]⟩ : ByteArray).data.toList c).toArray⟩
def spreadB (g : ByteArray) (ahead behind : Nat) : ByteArray := zeros ahead ++ g ++ zeros behind
theorem zeros_size (c : Nat) : (zeros c).size = c := by
  have e : (zeros c).size = (Lib.repeatL (⟨#[48]⟩ : ByteArray).data.toList c).length := by unfold zeros; exact List.size_toArray
  rw [e, Lib.repeatL_length]
  simp

theorem keepSp {b0 : Nat} {v0 : Value} {W w1 : World} (hb : Below W.heap.size W w1)
    (h : W.cell? ⟨b0, 1, none⟩ = some v0 ∧ b0 < W.heap.size) :
    w1.cell? ⟨b0, 1, none⟩ = some v0 ∧ b0 < w1.heap.size := by
  obtain ⟨c0, z0⟩ := h
  exact ⟨keepC hb c0, Nat.lt_of_lt_of_le z0 hb.size⟩

end Go.Proofs.YthpnclhfooileaaGreatDoor.rd

/- Add's contract where both numbers, in their one form, have one sign. -/
namespace Go.Proofs.YthpnclhfooileaaGreatDoor.rd
open Go.RowKit

/-- How many noughts a number gets behind it, and ahead of it. -/
def behindOf (p q : Dn) : Nat := (p.ex - min p.ex q.ex).toNat
def aheadOf (p q : Dn) : Nat := (max (p.dg.size + p.ex) (q.dg.size + q.ex) - min p.ex q.ex - behindOf p q - p.dg.size).toNat
/-- The answer where both have one sign. -/
def addSame (p q : Dn) (eX : Value) : Value × Value :=
  bounded p.neg (sumD (spreadB p.dg (aheadOf p q) (behindOf p q)) (spreadB q.dg (aheadOf q p) (behindOf q p))) (min p.ex q.ex) eX

theorem wrap_in (n : Int) (h0 : -9223372036854775808 ≤ n) (h1 : n ≤ 9223372036854775807) : IntKind.i64.wrap n = n := IntWalk.i64_in n ⟨h0, h1⟩

theorem dig_filter (l : List UInt8) : ∀ c ∈ l.filter nu.dig, nu.dig c = true := fun _ h => (List.mem_filter.1 h).2
theorem mem_dropWhile {l : List UInt8} {f : UInt8 → Bool} {c : UInt8} (h : c ∈ l.dropWhile f) : c ∈ l := (List.dropWhile_suffix f).subset h
/-- What a number in its one form is. -/
theorem oneForm_good (neg : Bool) (s : ByteArray) (ex : Int) (hd : AllDig s) : (oneForm neg s ex).1.dg.size ≤ s.size ∧ -9999 ≤ (oneForm neg s ex).1.ex ∧ (oneForm neg s ex).1.ex ≤ 9999 ∧ AllDig (oneForm neg s ex).1.dg := by
  have l1 := trimL_le s
  have l2 := trimR_le (trimL s)
  have hz : AllDig (zed).dg := fun c hc => by simp [zed] at hc
  have ht : AllDig (trimR (trimL s)) := by
    intro c hc
    have h1 : c ∈ Lib.trimRightB (trimL s).data.toList 48 := by simpa [trimR] using hc
    unfold Lib.trimRightB at h1
    have h2 := mem_dropWhile (List.mem_reverse.1 h1)
    have h3 : c ∈ Lib.trimLeftB s.data.toList 48 := by simpa [trimL] using (List.mem_reverse.1 h2)
    exact hd c (mem_dropWhile h3)
  unfold oneForm
  split
  · exact ⟨by simp [zed], by simp [zed], by simp [zed], hz⟩
  · split
    · exact ⟨by simp [zed], by simp [zed], by simp [zed], hz⟩
    · split
      · exact ⟨by simp [zed], by simp [zed], by simp [zed], hz⟩
      · refine ⟨?_, ?_, ?_, ht⟩
        · show (trimR (trimL s)).size ≤ s.size; omega
        · simp only; omega
        · simp only; omega
theorem digs_dig (s : ByteArray) : AllDig (digs s) := by
  intro c hc
  have : c ∈ s.data.toList.filter nu.dig := by simpa [digs] using hc
  exact dig_filter _ c this
theorem norm_good (d : Dn) : (norm d).dg.size ≤ d.dg.size ∧ -9999 ≤ (norm d).ex ∧ (norm d).ex ≤ 9999 ∧ AllDig (norm d).dg := by
  have h := oneForm_good d.neg (digs d.dg) d.ex (digs_dig d.dg)
  have := digs_le d.dg
  exact ⟨by have := h.1; unfold norm; omega, h.2.1, h.2.2.1, h.2.2.2⟩

theorem zeros_dig (c : Nat) : AllDig (zeros c) := by
  have key : ∀ c, ∀ b ∈ Lib.repeatL [48] c, nu.dig b = true := by
    intro c
    induction c with
    | zero => intro b hb; simp [Lib.repeatL] at hb
    | succ c ih =>
      intro b hb
      simp only [Lib.repeatL, List.cons_append, List.nil_append, List.mem_cons] at hb
      rcases hb with rfl | hb
      · decide
      · exact ih b hb
  intro b hb
  exact key c b (by simpa [zeros] using hb)
theorem cat_dig {x y : ByteArray} (hx : AllDig x) (hy : AllDig y) : AllDig (x ++ y) := by
  intro b hb
  have : b ∈ x.data.toList ++ y.data.toList := by simpa using hb
  rcases List.mem_append.1 this with h | h
  · exact hx b h
  · exact hy b h
theorem spread_dig {g : ByteArray} (a b : Nat) (h : AllDig g) : AllDig (spreadB g a b) := cat_dig (cat_dig (zeros_dig a) h) (zeros_dig b)
theorem spread_size (g : ByteArray) (a b : Nat) : (spreadB g a b).size = a + g.size + b := by
  unfold spreadB; simp [zeros_size]

theorem keepAd {b0 b1 : Nat} {v0 v1 v2 v3 v4 v5 : Value} {W w1 : World} (hb : Below W.heap.size W w1)
    (h : W.cell? ⟨b0, 0, none⟩ = some v0 ∧ W.cell? ⟨b0, 1, none⟩ = some v1 ∧ W.cell? ⟨b0, 2, none⟩ = some v2 ∧ W.cell? ⟨b1, 0, none⟩ = some v3 ∧ W.cell? ⟨b1, 1, none⟩ = some v4 ∧ W.cell? ⟨b1, 2, none⟩ = some v5) :
    w1.cell? ⟨b0, 0, none⟩ = some v0 ∧ w1.cell? ⟨b0, 1, none⟩ = some v1 ∧ w1.cell? ⟨b0, 2, none⟩ = some v2 ∧ w1.cell? ⟨b1, 0, none⟩ = some v3 ∧ w1.cell? ⟨b1, 1, none⟩ = some v4 ∧ w1.cell? ⟨b1, 2, none⟩ = some v5 := by
  obtain ⟨c0, c1, c2, c3, c4, c5⟩ := h
  exact ⟨keepC hb c0, keepC hb c1, keepC hb c2, keepC hb c3, keepC hb c4, keepC hb c5⟩
theorem keepAe {b0 b1 : Nat} {v0 v1 : Value} {W w1 : World} (hb : Below W.heap.size W w1)
    (h : W.cell? ⟨b0, 0, none⟩ = some v0 ∧ W.cell? ⟨b1, 0, none⟩ = some v1 ∧ b0 < W.heap.size ∧ b1 < W.heap.size) :
    w1.cell? ⟨b0, 0, none⟩ = some v0 ∧ w1.cell? ⟨b1, 0, none⟩ = some v1 ∧ b0 < w1.heap.size ∧ b1 < w1.heap.size := by
  obtain ⟨c0, c1, z0, z1⟩ := h
  exact ⟨keepC hb c0, keepC hb c1, Nat.lt_of_lt_of_le z0 hb.size, Nat.lt_of_lt_of_le z1 hb.size⟩

end Go.Proofs.YthpnclhfooileaaGreatDoor.rd

/- awake's contract: the two examples are answered as they must be. -/
namespace Go.Proofs.YthpnclhfooileaaGreatDoor.rd
open Go.RowKit

theorem parsed_awake (eN eX : Value) : parsed ⟨#[45, 49, 50, 46, 53, 48, 101, 49]⟩ eN eX = (dv ⟨true, ⟨#[49, 50, 53]⟩, 0⟩, .nilIface) := by kernel_rfl
theorem added_awake (eX : Value) : addSame (norm ⟨false, ⟨#[49, 48]⟩, -2⟩) (norm ⟨false, ⟨#[50]⟩, -1⟩) eX = (dv ⟨false, ⟨#[51]⟩, -1⟩, .nilIface) := by kernel_rfl

end Go.Proofs.YthpnclhfooileaaGreatDoor.rd

/- cut's contract. -/
namespace Go.Proofs.YthpnclhfooileaaGreatDoor.rd
open Go.RowKit

/-- Without noughts at the upper end (the list's end). -/
def cutN (l : List Int) : List Int := (l.reverse.dropWhile (· == 0)).reverse
theorem cutN_len (l : List Int) : (cutN l).length ≤ l.length := by
  unfold cutN
  rw [List.length_reverse]
  have := (List.dropWhile_suffix (l := l.reverse) (fun x : Int => x == 0)).length_le
  rw [List.length_reverse] at this
  exact this
theorem cutN_zero (l : List Int) (z : Int) (h : z = 0) : cutN (l ++ [z]) = cutN l := by
  unfold cutN; rw [List.reverse_append]; simp [h]
theorem cutN_other (l : List Int) (z : Int) (h : z ≠ 0) : cutN (l ++ [z]) = l ++ [z] := by
  unfold cutN; rw [List.reverse_append]; simp [h]
theorem take_getD (l : List Int) (k : Nat) (h : k < l.length) : l.take (k + 1) = l.take k ++ [l.getD k 0] := by
  rw [List.take_succ_eq_append_getElem h]; simp [h]
theorem cutN_take (l : List Int) : ∃ k, cutN l = l.take k := by
  unfold cutN
  have h := List.dropWhile_suffix (l := l.reverse) (fun x : Int => x == 0)
  have h2 := List.reverse_prefix.2 h
  rw [List.reverse_reverse] at h2
  exact ⟨_, List.prefix_iff_eq_take.1 h2⟩

end Go.Proofs.YthpnclhfooileaaGreatDoor.rd

/- The contract of the reference's digits. -/
namespace Go.Proofs.YthpnclhfooileaaGreatDoor.rd
open Go.RowKit

/-- A slice of ints, wherever it lies. -/
def Ints (w : World) (v : Value) (zs : List Int) : Prop :=
  (v = .slice none 0 0 ∧ zs = []) ∨ ∃ g cap, v = .slice (some ⟨g, 0, none⟩) zs.length cap ∧ zs.length ≤ cap ∧ cap ≤ 9223372036854775807 ∧ ∀ j, j < zs.length → w.cell? ⟨g, j, none⟩ = some (.int .i64 (zs.getD j 0))
theorem Ints.keep {w w' : World} {v : Value} {zs : List Int} (h : Ints w v zs) (hb : Below w.heap.size w w') : Ints w' v zs := by
  rcases h with h | ⟨g, cap, h1, h2, h3, h4⟩
  · exact .inl h
  · exact .inr ⟨g, cap, h1, h2, h3, fun j hj => keepC hb (h4 j hj)⟩

def iv (z : Int) : Value := .int .i64 z
theorem ints_of_own {w : World} {B : Nat} {v : Value} {zs : List Int} (h : w.ownsRow B 3 1 v zs.length (zs.map iv)) : Ints w v zs := by
  rcases h.2 with ⟨h1, h2⟩ | ⟨g, cap, cur, rfl, hb, hg, hnc, hcm, hcs, htake⟩
  · exact .inl ⟨h1, List.eq_nil_of_length_eq_zero h2⟩
  · refine .inr ⟨g, cap, rfl, hnc, hcm, fun j hj => ?_⟩
    have := h.cellAt j (by omega)
    rw [this]
    simp [hj, iv]

theorem own_ge {w : World} {B : Nat} {e : TypeId} {v : Value} {n : Nat} {xs : List Value} (h : w.ownsRow B e 1 v n xs) : ∀ k, v.ownBlock = some k → B ≤ k := by
  intro k hk
  rcases h.2 with ⟨rfl, _⟩ | ⟨g, cap, cur, rfl, hb, _⟩
  · simp [Value.ownBlock] at hk
  · simp [Value.ownBlock] at hk
    omega
theorem cutN_getD (l : List Int) (j : Nat) (h : j < (cutN l).length) : (cutN l).getD j 0 = l.getD j 0 := by
  obtain ⟨m, hm⟩ := cutN_take l
  rw [hm] at h ⊢
  have hj : j < m := by
    rw [List.length_take] at h
    omega
  simp [List.getD, hj]

/-- The digits of the bytes from place k on, the last one first. -/
def dl (s : ByteArray) (k : Nat) : List Int := ((s.data.toList.drop k).filter nu.dig).reverse.map (fun c : UInt8 => (c.toNat : Int) - 48)
theorem dl_end (s : ByteArray) : dl s s.size = [] := by unfold dl; rw [drop_end]; rfl
theorem dl_yes (s : ByteArray) (k : Nat) (h : k < s.size) (hd : nu.dig s[k] = true) : dl s k = dl s (k + 1) ++ [(s[k].toNat : Int) - 48] := by
  unfold dl; rw [drop_at s k h]; simp [hd]
theorem dl_no (s : ByteArray) (k : Nat) (h : k < s.size) (hd : nu.dig s[k] = false) : dl s k = dl s (k + 1) := by
  unfold dl; rw [drop_at s k h]; simp [hd]
theorem dl_len (s : ByteArray) (k : Nat) : (dl s k).length ≤ s.size - k := by
  unfold dl
  rw [List.length_map, List.length_reverse]
  have h1 := List.length_filter_le nu.dig (s.data.toList.drop k)
  have h2 : (s.data.toList.drop k).length = s.size - k := by rw [List.length_drop]; simp
  omega

theorem info3 : (Tryz.prog.info? 3).map (fun i => (i.zero, i.size, i.bytes)) = some (some (.int .i64 0), 1, 8) := by kernel_rfl

end Go.Proofs.YthpnclhfooileaaGreatDoor.rd

/- The contract of the reference's told. -/
namespace Go.Proofs.YthpnclhfooileaaGreatDoor.rd
open Go.RowKit

/-- How many noughts a list begins with. -/
def lowN : List Int → Nat
  | [] => 0
  | z :: r => if z = 0 then lowN r + 1 else 0
theorem lowN_eq (us : List Int) (k : Nat) (h1 : ∀ i, i < k → us.getD i 0 = 0) (h2 : us.getD k 0 ≠ 0) : lowN us = k := by
  induction us generalizing k with
  | nil => simp at h2
  | cons z r ih =>
    cases k with
    | zero =>
      have : z ≠ 0 := by simpa using h2
      simp [lowN, this]
    | succ j =>
      have hz : z = 0 := by simpa using h1 0 (by omega)
      have := ih j (fun i hi => by simpa using h1 (i + 1) (by omega)) (by simpa using h2)
      simp [lowN, hz, this]
theorem cutN_last (l : List Int) (h : cutN l ≠ []) : (cutN l).getD ((cutN l).length - 1) 0 ≠ 0 := by
  unfold cutN at h ⊢
  cases hx : l.reverse.dropWhile (· == 0) with
  | nil => rw [hx] at h; simp at h
  | cons z r =>
    have hz : ¬ (z == 0) = true := by
      have := List.head_dropWhile_not (fun x : Int => x == 0) (l := l.reverse) (by rw [hx]; simp)
      simp only [hx, List.head_cons] at this
      simpa using this
    simp
    simpa using hz

def toB (z : Int) : UInt8 := (48 + z).toNat.toUInt8
/-- The bytes that told gathers, from the upper end down to place k. -/
def tb (us : List Int) (k : Nat) : List UInt8 := ((us.drop k).reverse).map toB
def told (neg : Bool) (zs : List Int) (ex : Int) : Dn × Bool :=
  if cutN zs = [] then (zed, true)
  else if ex < -9999 - lowN (cutN zs) ∨ 9999 - lowN (cutN zs) < ex then (zed, false)
  else (⟨neg, ⟨(tb (cutN zs) (lowN (cutN zs))).toArray⟩, ex + lowN (cutN zs)⟩, true)

theorem conv_own {w : World} {B n : Nat} {v : Value} {l : List UInt8} (h : w.ownsRow B 5 1 v n (l.map vb)) (hn : l.length = n) :
    (convert 65 9 v).run Tryz.prog w = .ok (.string ⟨l.toArray⟩) w := by
  subst hn
  rcases h.2 with ⟨rfl, h0⟩ | ⟨g, cap, cur, rfl, hb, hg, hnc, hcm, hcs, htake⟩
  · obtain rfl := List.eq_nil_of_length_eq_zero h0
    exact run_convert_bytes_nil w 65 5 Tryz.underlying65 Tryz.underlying5 0 0 9 Tryz.underlying9
  · refine run_convert_bytes_back w 65 9 5 ⟨g, 0, none⟩ cap l Tryz.underlying65 Tryz.underlying5 Tryz.underlying9 (fun j hj => ?_)
    have := h.cellAt j (by omega)
    have e : (⟨g, 0, none⟩ : Addr).add j = ⟨g, j, none⟩ := by unfold Addr.add; split <;> simp_all
    rw [e, this]
    simp [hj, vb]

def Dig10 (zs : List Int) : Prop := ∀ z ∈ zs, 0 ≤ z ∧ z ≤ 9
theorem Dig10.at {zs : List Int} (h : Dig10 zs) (j : Nat) (hj : j < zs.length) : 0 ≤ zs.getD j 0 ∧ zs.getD j 0 ≤ 9 := by
  have : zs.getD j 0 = zs[j] := by simp [hj]
  rw [this]
  exact h _ (List.getElem_mem hj)

theorem tb_step (us : List Int) (j : Nat) (h : j < us.length) : tb us j = tb us (j + 1) ++ [toB (us.getD j 0)] := by
  unfold tb
  have e : us.drop j = us.getD j 0 :: us.drop (j + 1) := by rw [List.drop_eq_getElem_cons h]; simp [h]
  rw [e, List.reverse_cons, List.map_append]
  rfl
theorem tb_end (us : List Int) : tb us us.length = [] := by unfold tb; simp
theorem tb_len (us : List Int) (k : Nat) : (tb us k).length = us.length - k := by unfold tb; simp
theorem toB_nat (z : Int) (h0 : 0 ≤ z) (h1 : z ≤ 9) : ((toB z).toNat : Int) = 48 + z := by
  unfold toB
  rw [u8_of _ (by omega)]
  omega

end Go.Proofs.YthpnclhfooileaaGreatDoor.rd
