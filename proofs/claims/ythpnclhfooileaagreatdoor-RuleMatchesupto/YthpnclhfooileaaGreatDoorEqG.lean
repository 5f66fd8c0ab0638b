/- Several texts in one. -/
import Derived.Test.YthpnclhfooileaaGreatDoorNpG
import Derived.Lib.AppendIntMem
import Derived.Lib.ItoaNum
/- The reference's told of the digits is the one form: no program in it. -/
namespace Go.Proofs.YthpnclhfooileaaGreatDoor.rd
open Go.RowKit

def fz (c : UInt8) : Int := (c.toNat : Int) - 48
theorem fz_zero (c : UInt8) : (fz c == 0) = (c == 48) := by
  unfold fz
  by_cases h : c = 48
  · subst h; rfl
  · have : c.toNat ≠ 48 := fun e => h (UInt8.toNat_inj.1 (by simpa using e))
    have h1 : (c == 48) = false := by simpa using h
    rw [h1]
    simp
    omega
theorem dropWhile_fz (l : List UInt8) : (l.map fz).dropWhile (· == 0) = (l.dropWhile (· == 48)).map fz := by
  induction l with
  | nil => rfl
  | cons a r ih =>
    rw [List.map_cons, List.dropWhile_cons, List.dropWhile_cons, fz_zero]
    split
    · exact ih
    · rfl
theorem cutN_fz (l : List UInt8) : cutN (l.reverse.map fz) = ((l.dropWhile (· == 48)).map fz).reverse := by
  unfold cutN
  rw [← List.map_reverse, List.reverse_reverse, dropWhile_fz]
theorem dropWhile_idem (l : List UInt8) : (l.dropWhile (· == 48)).dropWhile (· == 48) = l.dropWhile (· == 48) := by
  induction l with
  | nil => rfl
  | cons a r ih =>
    rw [List.dropWhile_cons]
    split
    · exact ih
    · rename_i h
      rw [List.dropWhile_cons, if_neg h]
theorem cutN_idem (l : List UInt8) : cutN (((l.dropWhile (· == 48)).map fz).reverse) = ((l.dropWhile (· == 48)).map fz).reverse := by
  rw [← List.map_reverse, cutN_fz, dropWhile_idem, List.map_reverse]
theorem lowN_fz (l : List UInt8) : lowN (l.map fz) = (l.takeWhile (· == 48)).length := by
  induction l with
  | nil => rfl
  | cons a r ih =>
    rw [List.map_cons, List.takeWhile_cons]
    simp only [lowN]
    have h := fz_zero a
    by_cases ha : a = 48
    · subst ha
      have : fz 48 = 0 := rfl
      simp [this, ih]
    · have h1 : (a == 48) = false := by simpa using ha
      have h2 : ¬ fz a = 0 := by rw [h1] at h; simpa using h
      simp [h1, h2]
theorem drop_take (l : List UInt8) (p : UInt8 → Bool) : l.drop (l.takeWhile p).length = l.dropWhile p := by
  induction l with
  | nil => rfl
  | cons a r ih =>
    rw [List.takeWhile_cons, List.dropWhile_cons]
    split
    · simpa using ih
    · rfl
theorem len_take_drop (l : List UInt8) (p : UInt8 → Bool) : (l.takeWhile p).length + (l.dropWhile p).length = l.length := by
  rw [← List.length_append, List.takeWhile_append_dropWhile]
theorem toB_fz (c : UInt8) (h : nu.dig c = true) : toB (fz c) = c := by
  have hc : 48 ≤ c.toNat ∧ c.toNat ≤ 57 := by simpa [nu.dig] using h
  unfold toB fz
  have : (48 + ((c.toNat : Int) - 48)).toNat = c.toNat := by omega
  rw [this]
  simp [Nat.toUInt8]
theorem map_toB (l : List UInt8) (h : ∀ c ∈ l, nu.dig c = true) : (l.map fz).map toB = l := by
  rw [List.map_map]
  have e : l.map (toB ∘ fz) = l.map id := List.map_congr_left (fun c hc => toB_fz c (h c hc))
  rw [e, List.map_id]

/-- What told gathers, in the one form's words. -/
theorem told_eq (neg : Bool) (l : List UInt8) (ex : Int) (hd : ∀ c ∈ l, nu.dig c = true) :
    told neg (cutN (l.reverse.map fz)) ex = oneForm neg ⟨l.toArray⟩ ex := by
  have e1 : trimL ⟨l.toArray⟩ = ⟨(l.dropWhile (· == 48)).toArray⟩ := rfl
  have hdt : ∀ c ∈ l.dropWhile (· == 48), nu.dig c = true := fun c hc => hd c (mem_dropWhile hc)
  unfold told oneForm
  rw [cutN_fz, cutN_idem, e1]
  have hdw := dropWhile_idem l
  generalize l.dropWhile (· == 48) = t at *
  have e2 : trimR ⟨t.toArray⟩ = ⟨((t.reverse.dropWhile (· == 48)).reverse).toArray⟩ := rfl
  have s1 : (⟨t.toArray⟩ : ByteArray).size = t.length := List.size_toArray
  have s2 : (trimR ⟨t.toArray⟩).size = (t.reverse.dropWhile (· == 48)).length := by rw [e2]; exact List.size_toArray.trans (List.length_reverse)
  have hl := len_take_drop t.reverse (· == 48)
  have hlow : lowN ((t.map fz).reverse) = (t.reverse.takeWhile (· == 48)).length := by rw [← List.map_reverse, lowN_fz]
  have htb : (tb ((t.map fz).reverse) (t.reverse.takeWhile (· == 48)).length) = (t.reverse.dropWhile (· == 48)).reverse := by
    unfold tb
    rw [← List.map_reverse, ← List.map_drop, drop_take, ← List.map_reverse]
    exact map_toB _ (fun c hc => hdt c (List.mem_reverse.1 (mem_dropWhile (List.mem_reverse.1 hc))))
  rw [s1, s2, hlow, htb]
  rw [List.length_reverse] at hl
  cases t with
  | nil => simp
  | cons a r =>
    have ha : ¬ (a == 48) = true := by
      intro h
      rw [List.dropWhile_cons, if_pos h] at hdw
      have := (List.dropWhile_suffix (l := r) (fun x : UInt8 => x == 48)).length_le
      rw [hdw] at this
      simp at this
      omega
    have hne : (((a :: r).reverse).dropWhile (· == 48)).length ≠ 0 := by
      intro h
      have h0 := List.eq_nil_of_length_eq_zero h
      have h1 := List.takeWhile_append_dropWhile (p := fun x : UInt8 => x == 48) (l := (a :: r).reverse)
      rw [h0, List.append_nil] at h1
      have h2 := List.all_eq_true.1 (List.all_takeWhile (p := fun x : UInt8 => x == 48) (l := (a :: r).reverse)) a (by rw [h1]; simp)
      exact ha h2
    have hne2 : ¬ ((List.map fz (a :: r)).reverse = []) := by simp
    rw [if_neg hne2, if_neg hne]
    have hc1 : (((a :: r).length : Int) - (((a :: r).reverse.dropWhile (· == 48)).length : Int)) = (((a :: r).reverse.takeWhile (· == 48)).length : Int) := by omega
    rw [hc1]
    generalize ((a :: r).reverse.takeWhile (· == 48)).length = m
    by_cases h1 : 9999 < ex
    · rw [if_pos (.inr (by omega)), if_pos h1]
    · rw [if_neg h1]
      by_cases h2 : ex < -9999 - (m : Int) ∨ 9999 - (m : Int) < ex
      · rw [if_pos h2, if_pos (by omega)]
      · rw [if_neg h2, if_neg (by omega)]
        rfl

theorem dl_fz (s : ByteArray) : dl s 0 = (s.data.toList.filter nu.dig).reverse.map fz := by
  unfold dl; rw [List.drop_zero]; rfl
theorem norm_eq (neg : Bool) (s : ByteArray) (ex : Int) : told neg (cutN (dl s 0)) ex = oneForm neg (digs s) ex := by
  rw [dl_fz]
  exact told_eq neg _ ex (dig_filter _)
theorem dl_dig10 (s : ByteArray) : Dig10 (cutN (dl s 0)) := by
  intro z hz
  have h1 : z ∈ dl s 0 := by
    obtain ⟨k, hk⟩ := cutN_take (dl s 0)
    rw [hk] at hz
    exact List.mem_of_mem_take hz
  rw [dl_fz] at h1
  obtain ⟨c, hc, rfl⟩ := List.mem_map.1 h1
  have := dig_filter _ c (List.mem_reverse.1 hc)
  have h2 : 48 ≤ c.toNat ∧ c.toNat ≤ 57 := by simpa [nu.dig] using this
  unfold fz
  omega
theorem dl_short (s : ByteArray) : (cutN (dl s 0)).length ≤ s.size := by
  have h1 := cutN_len (dl s 0)
  have h2 := dl_len s 0
  omega
end Go.Proofs.YthpnclhfooileaaGreatDoor.rd

/- The contract of the reference's Norm. -/
namespace Go.Proofs.YthpnclhfooileaaGreatDoor.rd
open Go.RowKit

end Go.Proofs.YthpnclhfooileaaGreatDoor.rd

/- The contracts of Text and of the reference's Text: both tell a number the same way. -/
namespace Go.Proofs.YthpnclhfooileaaGreatDoor.rd
open Go.RowKit

def itoaB (n : Int) : ByteArray := ⟨(Lib.itoa n).toArray⟩
theorem dec_len (u : Nat) : (Lib.decDigits u).length ≤ u + 1 := by
  induction u using Nat.strongRecOn with
  | _ u ih =>
    rw [Lib.decDigits]
    split
    · simp
    · rw [List.length_append]
      have := ih (u / 10) (by omega)
      simp
      omega
theorem itoaB_len (n : Int) (h0 : -9999 ≤ n) (h1 : n ≤ 9999) : (itoaB n).size ≤ 20000 := by
  have e : (itoaB n).size = (Lib.itoa n).length := by unfold itoaB; exact List.size_toArray
  rw [e]
  unfold Lib.itoa
  split
  · have := dec_len n.natAbs
    simp
    omega
  · have := dec_len n.toNat
    omega

/-- How a number in its one form is told. -/
def textOf (r : Dn) : ByteArray :=
  if r.dg.size = 0 then ⟨#[48]⟩
  else if r.ex = 0 then (if r.neg then ⟨#[45]⟩ ++ r.dg else r.dg)
  else (if r.neg then ⟨#[45]⟩ ++ r.dg else r.dg) ++ (⟨#[101]⟩ ++ itoaB r.ex)

def Pow (w : World) : Prop := Lib.TabIs Tryz.prog w "internal/strconv.uint64pow10" .u64 Lib.pow10Tab
theorem Pow.keep {w w' : World} (h : Pow w) (hb : Below w.heap.size w w') : Pow w' := Lib.tabBelow_of_tabIs h w' hb

end Go.Proofs.YthpnclhfooileaaGreatDoor.rd

/- DecForms: it answers true, whatever the number, where the texts are of a length that memory holds. -/
namespace Go.Proofs.YthpnclhfooileaaGreatDoor.rd
open Go.RowKit

theorem keepDf {b0 b1 : Nat} {v0 v1 v2 v3 v4 v5 : Value} {W w1 : World} (hb : Below W.heap.size W w1)
    (h : W.cell? ⟨b0, 0, none⟩ = some v0 ∧ W.cell? ⟨b0, 1, none⟩ = some v1 ∧ W.cell? ⟨b0, 2, none⟩ = some v2 ∧ W.cell? ⟨b1, 0, none⟩ = some v3 ∧ W.cell? ⟨b1, 1, none⟩ = some v4 ∧ W.cell? ⟨b1, 2, none⟩ = some v5) :
    w1.cell? ⟨b0, 0, none⟩ = some v0 ∧ w1.cell? ⟨b0, 1, none⟩ = some v1 ∧ w1.cell? ⟨b0, 2, none⟩ = some v2 ∧ w1.cell? ⟨b1, 0, none⟩ = some v3 ∧ w1.cell? ⟨b1, 1, none⟩ = some v4 ∧ w1.cell? ⟨b1, 2, none⟩ = some v5 := by
  obtain ⟨c0, c1, c2, c3, c4, c5⟩ := h
  exact ⟨keepC hb c0, keepC hb c1, keepC hb c2, keepC hb c3, keepC hb c4, keepC hb c5⟩

end Go.Proofs.YthpnclhfooileaaGreatDoor.rd
