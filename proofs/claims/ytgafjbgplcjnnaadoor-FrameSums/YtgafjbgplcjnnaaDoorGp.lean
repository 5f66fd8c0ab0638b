/- Bits turned one by one; a store into bytes of the call's own. -/
import Derived.Test.YtgafjbgplcjnnaaDoorGn
namespace Go.Proofs.YtgafjbgplcjnnaaDoor.fr
open Go.RowKit Go.Joins

theorem bitsL_get : ∀ (l : List UInt8) (i : Nat), (bitsL l)[i]? = (l[i / 8]?).map (fun b => bitAt b (i % 8))
  | [], i => by simp [bitsL]
  | b :: l, i => by
    rw [bitsL_cons]
    by_cases h : i < 8
    · rw [List.getElem?_append_left (by rw [bits_length]; exact h), bits_at b i h, show i / 8 = 0 by omega, show i % 8 = i by omega]
      rfl
    · rw [List.getElem?_append_right (by rw [bits_length]; omega), bits_length, bitsL_get l (i - 8), show i / 8 = (i - 8) / 8 + 1 by omega, show i % 8 = (i - 8) % 8 by omega]
      rfl
/-- A bit's mark in its byte. -/
def bm (r : Nat) : UInt8 := ⟨0x80#8 >>> r⟩
theorem bm_at (r j : Nat) (hr : r < 8) (hj : j < 8) : bitAt (bm r) j = decide (j = r) := by
  have h : ∀ r j : Fin 8, bitAt (bm r.val) j.val = decide (j.val = r.val) := by decide
  exact h ⟨r, hr⟩ ⟨j, hj⟩
theorem bitAt_xor (a b : UInt8) (j : Nat) : bitAt (a ^^^ b) j = (bitAt a j ^^ bitAt b j) := by
  unfold bitAt; rw [UInt8.toBitVec_xor, BitVec.getLsbD_xor]
/-- One bit turned. -/
def flp (l : List UInt8) (k : Nat) : List UInt8 := l.set (k / 8) (l.getD (k / 8) 0 ^^^ bm (k % 8))
theorem flp_length (l : List UInt8) (k : Nat) : (flp l k).length = l.length := by simp [flp]
theorem flp_bits (l : List UInt8) (k : Nat) (hk : k / 8 < l.length) (i : Nat) : (bitsL (flp l k))[i]? = if i = k then ((bitsL l)[i]?).map not else (bitsL l)[i]? := by
  rw [bitsL_get, bitsL_get]
  unfold flp
  have hg : l.getD (k / 8) 0 = l[k / 8] := by rw [List.getD_eq_getElem?_getD, List.getElem?_eq_getElem hk]; rfl
  rw [List.getElem?_set, hg]
  by_cases h1 : k / 8 = i / 8
  · rw [if_pos h1, if_pos hk, ← h1, List.getElem?_eq_getElem hk]
    simp only [Option.map_some]
    rw [bitAt_xor, bm_at _ _ (by omega) (by omega)]
    by_cases h2 : i = k
    · rw [if_pos h2, h2]; simp
    · rw [if_neg h2]
      have : ¬ (i % 8 = k % 8) := by omega
      simp [this]
  · rw [if_neg h1, if_neg (by omega)]
theorem xorL_flp (f e : List UInt8) (k : Nat) (h : f.length = e.length) (hk : k / 8 < e.length) : xorL f (flp e k) = flp (xorL f e) k := by
  have hk2 : k / 8 < (xorL f e).length := by rw [xorL_length _ _ h]; omega
  apply List.ext_getElem?
  intro i
  unfold flp xorL
  rw [List.getElem?_zipWith, List.getElem?_set, List.getElem?_set]
  have g1 : e.getD (k / 8) 0 = e[k / 8] := by rw [List.getD_eq_getElem?_getD, List.getElem?_eq_getElem hk]; rfl
  have g2 : (List.zipWith (fun x1 x2 => x1 ^^^ x2) f e).getD (k / 8) 0 = f[k / 8]'(by omega) ^^^ e[k / 8] := by
    rw [List.getD_eq_getElem?_getD, List.getElem?_zipWith, List.getElem?_eq_getElem hk, List.getElem?_eq_getElem (by omega)]; rfl
  rw [g1, g2]
  by_cases h1 : k / 8 = i
  · subst h1
    rw [if_pos rfl, if_pos hk, if_pos rfl, if_pos (by rw [List.length_zipWith]; omega), List.getElem?_eq_getElem (by omega)]
    simp [UInt8.xor_assoc]
  · rw [if_neg h1, if_neg h1, List.getElem?_zipWith]

/-- What is turned so far: within the first i bits from start on; and the first of them. -/
def Trn (E : List UInt8) (start i : Nat) (first : Int) : Prop :=
  (∀ k : Nat, (bitsL E)[k]? = some true → start ≤ k ∧ k < start + i) ∧
  ((first = -1 ∧ ∀ k : Nat, (bitsL E)[k]? ≠ some true) ∨ ∃ f : Nat, first = (f : Int) ∧ (bitsL E)[f]? = some true ∧ ∀ k : Nat, k < f → (bitsL E)[k]? ≠ some true)
theorem Trn.none (n start : Nat) : Trn (List.replicate n 0) start 0 (-1) := by
  have h : ∀ k : Nat, (bitsL (List.replicate n 0))[k]? ≠ some true := fun k => by
    rw [bitsL_get, List.getElem?_replicate]
    split
    · simp only [Option.map_some]
      have : ∀ j, bitAt 0 j = false := fun j => by simp [bitAt]
      rw [this]; simp
    · simp
  exact ⟨fun k hk => absurd hk (h k), Or.inl ⟨rfl, h⟩⟩
theorem Trn.stay {E : List UInt8} {start i : Nat} {first : Int} (h : Trn E start i first) : Trn E start (i + 1) first :=
  ⟨fun k hk => by have := h.1 k hk; omega, h.2⟩
theorem Trn.turn {E : List UInt8} {start i : Nat} {first : Int} (h : Trn E start i first) (hk : start + i < 8 * E.length) :
    Trn (flp E (start + i)) start (i + 1) (if first < 0 then ((start + i : Nat) : Int) else first) := by
  have hb := flp_bits E (start + i) (by omega)
  have hold : (bitsL E)[start + i]? = some false := by
    have hl : start + i < (bitsL E).length := by rw [bitsL_length]; exact hk
    have := List.getElem?_eq_getElem hl
    cases hq : (bitsL E)[start + i] with
    | false => rw [this, hq]
    | true => rw [hq] at this; have := h.1 _ this; omega
  refine ⟨fun k hk2 => ?_, ?_⟩
  · rw [hb] at hk2
    split at hk2
    · omega
    · have := h.1 k hk2; omega
  · right
    rcases h.2 with ⟨h1, h2⟩ | ⟨f, h1, h2, h3⟩
    · refine ⟨start + i, by rw [if_pos (by omega)], by rw [hb, if_pos rfl, hold]; rfl, fun k hk2 => ?_⟩
      rw [hb, if_neg (by omega)]; exact h2 k
    · have hf := h.1 f h2
      refine ⟨f, by rw [if_neg (by omega)]; exact h1, by rw [hb, if_neg (by omega)]; exact h2, fun k hk2 => ?_⟩
      rw [hb, if_neg (by omega)]; exact h3 k hk2
theorem Trn.within {E : List UInt8} {start i : Nat} {first : Int} (h : Trn E start i first) (hi : i ≤ 32) : Within (bitsL E) := ⟨start, fun k hk => by have := h.1 k hk; omega⟩

theorem OB.set {w : World} {B g n c : Nat} {l : List UInt8} (h : OB w B (.slice (some ⟨g, 0, none⟩) n c) l) (j : Nat) (x : UInt8) :
    OB (w.setCell ⟨g, j, none⟩ (vb x)) B (.slice (some ⟨g, 0, none⟩) n c) (l.set j x) := by
  obtain ⟨hl, ⟨h0, _⟩ | ⟨g', cap, cur, hv, hb, hg, hc, hm, hs, ht⟩⟩ := h
  · cases h0
  · cases hv
    refine ⟨by simp, Or.inr ⟨g, c, cur.setIfInBounds j (vb x), by simp, hb, blk_set hg j _, by simpa using hc, hm, by simpa using hs, ?_⟩⟩
    rw [Array.toList_setIfInBounds, List.take_set, List.map_set]
    have : (l.set j x).length * 1 = l.length * 1 := by simp
    rw [this, ht]
theorem OB.frz {w : World} {B g n c : Nat} {l : List UInt8} (h : OB w B (.slice (some ⟨g, 0, none⟩) n c) l) (j : Nat) : w.frozen? ⟨g, j, none⟩ = false := by
  obtain ⟨hl, ⟨h0, _⟩ | ⟨g', cap, cur, hv, hb, hg, r⟩⟩ := h
  · cases h0
  · cases hv; exact blk_free hg j
theorem OB.get {w : World} {B : Nat} {v : Value} {l : List UInt8} (h : OB w B v l) (hl : 0 < l.length) : ∃ g c, v = .slice (some ⟨g, 0, none⟩) l.length c ∧ l.length ≤ c ∧ B ≤ g ∧ ∀ (j : Nat) (u : UInt8), l[j]? = some u → w.cell? ⟨g, j, none⟩ = some (.int .u8 (u.toNat : Int)) := by
  have hb := h.bs
  obtain ⟨hl', ⟨rfl, h0⟩ | ⟨g, cap, cur, rfl, hb', hg, hc, hm, hs, ht⟩⟩ := h
  · omega
  · refine ⟨g, cap, rfl, hc, hb', fun j u hu => ?_⟩
    obtain ⟨oa, c, e, _, _, _, q⟩ := hb
    cases e
    have := q _ rfl j u hu
    rw [add0] at this
    exact this

end Go.Proofs.YtgafjbgplcjnnaaDoor.fr
